/- Texts joined in build order: Reader ReaderQuo ReaderAdd ReaderNew. -/
import Derived.Test.YtkomeijlljcdgaaGreatR35
import Derived.Test.YtkomeijlljcdgaaGreatR12
import Derived.Test.YtkomeijlljcdgaaGreatR33
namespace Go.Proofs.YtkomeijlljcdgaaGreat
open Go.RowKit
structure Gone (pr : Nat) (ρ ρ' : Nat → Nat) (w w' : World) : Prop where
  os : w'.os = w.os
  tape : w'.tape = w.tape
  output : w'.output = w.output
  size : w.heap.size ≤ w'.heap.size
  quiet : ∀ b, b < w.heap.size → b ≠ pr → (ρ b = 0 ∨ ρ b = 5) → w'.heap[b]? = w.heap[b]?
  old : ∀ b, b < w.heap.size → (ρ b = 0 ∨ ρ b = 5) → ρ' b = ρ b
theorem Gone.trans {pr : Nat} {ρ ρ1 ρ2 : Nat → Nat} {a b c : World} (h : Gone pr ρ ρ1 a b) (k : Gone pr ρ1 ρ2 b c) : Gone pr ρ ρ2 a c :=
  ⟨k.os.trans h.os, k.tape.trans h.tape, k.output.trans h.output, Nat.le_trans h.size k.size, fun i hi hne h0 => (k.quiet i (Nat.lt_of_lt_of_le hi h.size) hne (by rw [h.old i hi h0]; exact h0)).trans (h.quiet i hi hne h0), fun i hi h0 => (k.old i (Nat.lt_of_lt_of_le hi h.size) (by rw [h.old i hi h0]; exact h0)).trans (h.old i hi h0)⟩
theorem Gone.of_below {pr : Nat} {ρ : Nat → Nat} {w w' : World} (h : Below w.heap.size w w') : Gone pr ρ ρ w w' := ⟨h.os, h.tape, h.output, h.size, fun b hb _ _ => h.block b hb, fun _ _ _ => rfl⟩
theorem Gone.refl (pr : Nat) (ρ : Nat → Nat) (w : World) : Gone pr ρ ρ w w := Gone.of_below (Below.refl _ _)
theorem Gone.of_turn {pr : Nat} {ρ ρ' : Nat → Nat} {w w' : World} (h : Turn ρ w w') (ho : ∀ b, b < w.heap.size → (ρ b = 0 ∨ ρ b = 5) → ρ' b = ρ b) : Gone pr ρ ρ' w w' := ⟨h.os, h.tape, h.output, h.size, fun b hb _ h0 => h.quiet b hb h0, ho⟩
theorem Gone.rest {pr : Nat} {ρ ρ' : Nat → Nat} {w w' : World} (h : Gone pr ρ ρ' w w') (o : Nat) (u : Value) : Gone pr ρ ρ' w (w'.setCell ⟨pr, o, none⟩ u) :=
  ⟨h.os, h.tape, h.output, by simpa [World.setCell] using h.size, fun b hb hne h0 => (Below.heap_setCell _ _ _ b hne).trans (h.quiet b hb hne h0), h.old⟩
theorem Gone.cell {pr : Nat} {ρ ρ' : Nat → Nat} {w w' : World} (h : Gone pr ρ ρ' w w') {b o : Nat} (hb : b < w.heap.size) (hne : b ≠ pr) (h0 : ρ b = 0 ∨ ρ b = 5) : w'.cell? ⟨b, o, none⟩ = w.cell? ⟨b, o, none⟩ := World.cell?_of_block (w := w) (a := ⟨b, o, none⟩) (h.quiet b hb hne h0)
theorem Gone.frozen {pr : Nat} {ρ ρ' : Nat → Nat} {w w' : World} (h : Gone pr ρ ρ' w w') {b o : Nat} (hb : b < w.heap.size) (hne : b ≠ pr) (h0 : ρ b = 0 ∨ ρ b = 5) : w'.frozen? ⟨b, o, none⟩ = w.frozen? ⟨b, o, none⟩ := World.frozen?_of_block (w := w) (a := ⟨b, o, none⟩) (h.quiet b hb hne h0)
structure Rd (ρ : Nat → Nat) (W : World) (pr pw g cap len : Nat) (m : Int) (M : List NodeD) (v : Value) (N : List NoteD) (l : BL) (doc : Int) : Prop where
  wk : Wk ρ W pw g cap len m M v N
  r0 : W.cell? ⟨pr, 0, none⟩ = some (ptrV pw)
  r1 : W.cell? ⟨pr, 1, none⟩ = some (.string (strB l))
  r2 : W.cell? ⟨pr, 2, none⟩ = some (.int .i64 doc)
  rf : ∀ o, W.frozen? ⟨pr, o, none⟩ = false
  rlt : pr < W.heap.size
  role : ρ pr = 5
  small : smallF M
  hdoc : In64 doc
section
variable {ρ : Nat → Nat} {W W2 : World} {pr pw g cap len : Nat} {m : Int} {M : List NodeD} {v : Value} {N : List NoteD} {l l2 : BL} {doc : Int}
theorem Rd.keep (h : Rd ρ W pr pw g cap len m M v N l doc) (hb : Below W.heap.size W W2) : Rd ρ W2 pr pw g cap len m M v N l doc :=
  ⟨h.wk.keep hb, (hb.cell (p := ⟨pr, 0, none⟩) h.rlt).trans h.r0, (hb.cell (p := ⟨pr, 1, none⟩) h.rlt).trans h.r1, (hb.cell (p := ⟨pr, 2, none⟩) h.rlt).trans h.r2, fun o => (hb.frozen (p := ⟨pr, o, none⟩) h.rlt).trans (h.rf o), Nat.lt_of_lt_of_le h.rlt hb.size, h.role, h.small, h.hdoc⟩
theorem Rd.rest (h : Rd ρ W pr pw g cap len m M v N l doc) (l2 : BL) : Rd ρ (W.setCell ⟨pr, 1, none⟩ (.string (strB l2))) pr pw g cap len m M v N l2 doc :=
  ⟨h.wk.otherR (.inr h.role) 1 _, (World.cell?_setCell_other _ _ _ _ (fun e => by injection e with _ e; omega)).trans h.r0, World.cell?_setCell_same _ _ _ h.r1, (World.cell?_setCell_other _ _ _ _ (fun e => by injection e with _ e; omega)).trans h.r2, fun o => by rw [World.frozen?_setCell]; exact h.rf o, by simpa [World.setCell] using h.rlt, h.role, h.small, h.hdoc⟩
def StepPost (ρ : Nat → Nat) (w : World) (pr pw g cap len : Nat) (m : Int) (M : List NodeD) (v : Value) (N : List NoteD) (l2 : BL) (doc : Int) (u : Value) (e : Ending) (w' : World) : Prop :=
  e = .returned u ∧ Rd ρ w' pr pw g cap len m M v N l2 doc ∧ Gone pr ρ ρ w w'
theorem skipM_some {l p l2 : BL} (h : skipM l p = some l2) : Lib.hasPrefix l p = true ∧ Lib.trimPrefix l p = l2 := by
  unfold skipM at h
  by_cases hp : p.isPrefixOf l = true
  · rw [if_pos hp] at h
    have : Lib.hasPrefix l p = true := hp
    refine ⟨this, ?_⟩
    unfold Lib.trimPrefix
    rw [if_pos this]
    exact Option.some.inj h
  · rw [if_neg hp] at h
    cases h
theorem skipM_none {l p : BL} (h : skipM l p = none) : Lib.hasPrefix l p = false ∧ Lib.trimPrefix l p = l := by
  unfold skipM at h
  by_cases hp : p.isPrefixOf l = true
  · rw [if_pos hp] at h
    cases h
  · have : Lib.hasPrefix l p = false := Bool.eq_false_iff.2 hp
    refine ⟨this, ?_⟩
    unfold Lib.trimPrefix
    rw [if_neg (by rw [this]; decide)]
set_option maxHeartbeats 1000000 in
set_option maxRecDepth 100000 in
theorem skip_core (w : World) (h : Rd ρ w pr pw g cap len m M v N l doc) (p : BL) :
    Calls Tryz.prog 120 #[ptrV pr, .string ⟨p.toArray⟩] w (StepPost ρ w pr pw g cap len m M v N (Lib.trimPrefix l p) doc (.bool (Lib.hasPrefix l p))) := by
  have CP : Hid (Calls Tryz.prog 131 #[.string (strB l), .string ⟨p.toArray⟩] w fun e w' => e = .returned (.tuple #[.string (strB (Lib.trimPrefix l p)), .bool (Lib.hasPrefix l p)]) ∧ w' = w) := Lib.hid (cutPrefix_any (strB l) ⟨p.toArray⟩ w)
  have HR := Lib.hid (h.rest (Lib.trimPrefix l p))
  have HF := Lib.hid ((Gone.refl pr ρ w).rest 1 (.string (strB (Lib.trimPrefix l p))))
  obtain ⟨S, hS⟩ : ∃ S, strB l = S := ⟨_, rfl⟩
  obtain ⟨T, hT⟩ : ∃ T, strB (Lib.trimPrefix l p) = T := ⟨_, rfl⟩
  obtain ⟨q, hq⟩ : ∃ q, Lib.hasPrefix l p = q := ⟨_, rfl⟩
  have r1 := h.r1
  rw [hS] at CP r1
  rw [hT, hq] at CP
  rw [hT] at HR HF
  rw [hq]
  have rf := h.rf 1
  clear h hS hT hq
  go_enter Tryz.func120, Tryz.ntmps120
  go_wp2_with (go_at_call 131; (with_reducible refine CP.out.mono ?_); rintro e w' ⟨rfl, rfl⟩)
  go_ret
  exact ⟨rfl, HR.out, HF.out⟩
theorem skip_hit (w : World) (h : Rd ρ w pr pw g cap len m M v N l doc) (p : BL) (hs : skipM l p = some l2) :
    Calls Tryz.prog 120 #[ptrV pr, .string ⟨p.toArray⟩] w (StepPost ρ w pr pw g cap len m M v N l2 doc (.bool true)) := by
  have := skip_core w h p
  rwa [(skipM_some hs).1, (skipM_some hs).2] at this
theorem skip_miss (w : World) (h : Rd ρ w pr pw g cap len m M v N l doc) (p : BL) (hs : skipM l p = none) :
    Calls Tryz.prog 120 #[ptrV pr, .string ⟨p.toArray⟩] w (StepPost ρ w pr pw g cap len m M v N l doc (.bool false)) := by
  have := skip_core w h p
  rwa [(skipM_none hs).1, (skipM_none hs).2] at this
theorem strB_upto (l : BL) (k : Nat) : (strB l).extract 0 k = strB (l.take k) := by
  apply ByteArray.ext
  simp [strB, ByteArray.data_extract]
theorem strB_from (l : BL) (k : Nat) : (strB l).extract k (strB l).size = strB (l.drop k) := by
  apply ByteArray.ext
  rw [strB_size]
  simp [strB, ByteArray.data_extract, List.take_of_length_le]
theorem indexAny_lt (cs : BL) : ∀ l : BL, Lib.indexAny l cs < (l.length : Int)
  | [] => by simp [Lib.indexAny]
  | b :: r => by
    have ih := indexAny_lt cs r
    have hl : ((b :: r).length : Int) = (r.length : Int) + 1 := by simp
    by_cases h1 : cs.contains b = true
    · rw [Lib.indexAny, if_pos h1, hl]; omega
    · by_cases h2 : (Lib.indexAny r cs == -1) = true
      · rw [Lib.indexAny, if_neg h1, if_pos h2, hl]; omega
      · rw [Lib.indexAny, if_neg h1, if_neg h2, hl]; omega
set_option maxHeartbeats 2000000 in
set_option maxRecDepth 100000 in
theorem word_any (w : World) (h : Rd ρ w pr pw g cap len m M v N l doc) {n : BL} (hw : wordM l = some (n, l2)) :
    Calls Tryz.prog 132 #[ptrV pr] w (StepPost ρ w pr pw g cap len m M v N l2 doc (.string (strB n))) := by
  unfold wordM at hw
  by_cases ho : okM l = true
  · rw [if_pos ho] at hw
    have hw := Option.some.inj hw
    injection hw with hn hl2
    subst hn hl2
    unfold okM at ho
    simp only [Bool.and_eq_true, decide_eq_true_eq, List.all_eq_true] at ho
    obtain ⟨hlen, hasc⟩ := ho
    obtain ⟨z, hz⟩ : ∃ z, Lib.indexAny l [33, 32, 61, 62] = z := ⟨_, rfl⟩
    obtain ⟨k, hk⟩ : ∃ k, endM l = k := ⟨_, rfl⟩
    have hzk : z.toNat = k := by rw [← hk, ← hz]; rfl
    have hkl : k ≤ l.length := by
      have := indexAny_lt [33, 32, 61, 62] l
      rw [hz] at this
      omega
    have CI : Hid (Calls Tryz.prog 142 #[.string (strB l), .string ⟨#[33, 32, 61, 62]⟩] w fun e w' => e = .returned (.int .i64 z) ∧ Below w.heap.size w w') := Lib.hid (by
      have := indexAny_any (strB l) (strB [33, 32, 61, 62]) w (by rw [strB_size]; omega) (by decide) (fun j b hb => hasc b (List.mem_of_getElem? hb)) (fun j b hb => by
        have hb : ([33, 32, 61, 62] : BL)[j]? = some b := hb
        have := List.mem_of_getElem? hb
        simp at this
        rcases this with rfl | rfl | rfl | rfl <;> decide)
      rw [strB_data, strB_data, hz] at this
      exact this)
    have HK : Hid (∀ W, Below w.heap.size w W → Rd ρ W pr pw g cap len m M v N l doc) := Lib.hid (fun W hb => h.keep hb)
    have HU : Hid ((strB l).extract 0 k = strB (l.take k)) := Lib.hid (strB_upto l k)
    have HD : Hid ((strB l).extract k l.length = strB (l.drop k)) := Lib.hid (by have := strB_from l k; rwa [strB_size] at this)
    obtain ⟨S, hS⟩ : ∃ S, strB l = S := ⟨_, rfl⟩
    have hsz : S.size = l.length := by rw [← hS, strB_size]
    have r1 := h.r1
    rw [hS] at CI r1 HU HD
    have HS := Lib.hid hS
    have HKE := Lib.hid hk
    have hk0 : ((k : Int)).toNat = k := rfl
    have hks : (k : Int) ≤ (S.size : Int) := by rw [hsz]; omega
    rw [hk]
    have hplt := h.rlt
    clear h hS hk hz hasc hlen
    have hmx : (max z 0).toNat = k := by omega
    have hm0 : 0 ≤ max z 0 ∧ max z 0 ≤ (S.size : Int) := by omega
    have HMX := Lib.hid hmx
    clear hmx hzk hkl hk0 hks
    obtain ⟨q, hq⟩ : ∃ q, max z 0 = q := ⟨_, rfl⟩
    have HQ := Lib.hid hq
    rw [hq] at hm0
    clear hq
    go_enter Tryz.func132, Tryz.ntmps132
    go_upto_region 2 with (go_at_call 142; (with_reducible refine CI.out.mono ?_); rintro e w1 ⟨rfl, hb⟩; have HB := Lib.hid hb; have r1 := (HK.out _ hb).r1; rw [HS.out] at r1; have rf := (HK.out _ hb).rf 1; clear hb)
    rw [HQ.out]
    obtain ⟨hm0, hm1⟩ := hm0
    go_wp2
    go_ret
    have e1 : q.toNat = k := by rw [← HQ.out]; exact HMX.out
    refine ⟨?_, ?_, ?_⟩
    · show Ending.returned (Value.string (S.extract 0 q.toNat)) = _
      rw [e1, HU.out]
    · rw [e1, HD.out]
      exact (HK.out _ HB.out).rest _
    · exact (Gone.of_below HB.out).rest 1 _
  · rw [if_neg ho] at hw
    cases hw
end
end Go.Proofs.YtkomeijlljcdgaaGreat
namespace Go.Proofs.YtkomeijlljcdgaaGreat
open Go.RowKit
theorem below_both {B : Nat} {a b : World} (h : Below B a b) (p : Addr) (u : Value) : Below B (a.setCell p u) (b.setCell p u) := by
  refine ⟨h.os, h.tape, h.output, by simpa [World.setCell] using h.size, fun k hk => ?_⟩
  simp only [World.setCell, Array.getElem?_modify, h.block k hk]
theorem builder_far {T e : TypeId} {B b : Nat} {bs : List Value} {w : World} (h : Lib.IsBuilder T e B b bs w) {q : Nat} (hq : q < B) (o : Nat) (u : Value) : Lib.IsBuilder T e B b bs (w.setCell ⟨q, o, none⟩ u) := by
  have key : ∀ p, Lib.BuilderAt T e B b p bs w → Lib.BuilderAt T e B b p bs (w.setCell ⟨q, o, none⟩ u) := fun p ⟨hB, v, hb, hown, hne⟩ =>
    ⟨hB, v, (Below.heap_setCell _ _ _ b (fun e => by have e : b = q := e; omega)).trans hb, own_same hown (fun k hk => Below.heap_setCell _ _ _ k (fun e => by have e : k = q := e; have := (hown.lt k hk).1; omega)), hne⟩
  exact h.imp (key _) (key _)
theorem qM_34 (acc r : BL) : qM acc (34 :: r) = some (acc, r) := by
  rw [qM.eq_def]
  dsimp only
  rw [if_pos rfl]
theorem qM_92 (acc r : BL) (c : UInt8) : qM acc (92 :: c :: r) = if c = 34 ∨ c = 92 then qM (acc ++ [c]) r else none := by
  rw [qM.eq_def]
  dsimp only
  rw [if_neg (by decide), if_pos rfl]
theorem qM_92nil (acc : BL) : qM acc [92] = none := by
  rw [qM.eq_def]
  dsimp only
  rw [if_neg (by decide), if_pos rfl]
theorem qM_other {acc r : BL} {b : UInt8} (h1 : b ≠ 34) (h2 : b ≠ 92) : qM acc (b :: r) = qM (acc ++ [b]) r := by
  rw [qM.eq_def]
  dsimp only
  rw [if_neg h1, if_neg h2]
theorem byteCells_add (l : BL) (x : UInt8) : Lib.byteCells l ++ [.int .u8 x.toNat] = Lib.byteCells (l ++ [x]) := by simp [Lib.byteCells]
theorem qM_cons {acc : BL} {l1 : BL} {i : Nat} {r : BL × BL} (h : qM acc (l1.drop i) = some r) : ∃ x, l1[i]? = some x ∧ l1.drop i = x :: l1.drop (i + 1) := by
  rcases Nat.lt_or_ge i l1.length with hi | hi
  · exact ⟨l1[i], List.getElem?_eq_getElem hi, List.drop_eq_getElem_cons hi⟩
  · rw [List.drop_eq_nil_of_le hi] at h
    cases h
section
variable {ρ : Nat → Nat} {pr pw g cap len : Nat} {m : Int} {M : List NodeD} {v : Value} {N : List NoteD} {l l2 : BL} {doc : Int}
set_option maxHeartbeats 4000000 in
set_option maxRecDepth 100000 in
theorem quoted_any (w : World) (h : Rd ρ w pr pw g cap len m M v N l doc) {s : BL} (hq : quoM l = some (s, l2)) :
    Calls Tryz.prog 124 #[ptrV pr] w (StepPost ρ w pr pw g cap len m M v N l2 doc (.tuple #[.string (strB s), .bool true])) := by
  unfold quoM at hq
  by_cases hl : l.length ≤ 100000
  case neg => rw [if_neg hl] at hq; cases hq
  rw [if_pos hl] at hq
  cases hs : skipM l [34] with
  | none => rw [hs] at hq; cases hq
  | some l1 =>
  rw [hs] at hq
  have hq : qM [] l1 = some (s, l2) := hq
  have hl1 : l1.length ≤ 100000 := by
    have := (skipM_some hs).2
    have h2 := Lib.trimPrefix_le l [34]
    rw [this] at h2
    omega
  have CS : Hid (Calls Tryz.prog 120 #[ptrV pr, .string ⟨#[34]⟩] w (StepPost ρ w pr pw g cap len m M v N l1 doc (.bool true))) := Lib.hid (skip_hit w h [34] hs)
  have HQ := Lib.hid hq
  have hplt := h.rlt
  clear h hq hs hl
  go_enter Tryz.func124, Tryz.ntmps124
  go_upto_region 3 with (go_at_call 120; (with_reducible refine CS.out.mono ?_); rintro e w1 ⟨rfl, hR, hG⟩; have HR := Lib.hid hR; have HG := Lib.hid hG; clear hR hG)
  go_upto_region 4 with fail
  have IB0 := Lib.hid (Lib.fresh_isBuilder bdT 5 w1)
  have hb0 : Below w1.heap.size w1 (w1.alloc (.cells #[.pointer none, .slice none 0 0] bdT)) := below_box w1 _
  have HB0 := Lib.hid hb0
  have hpl1 : pr < w1.heap.size := HR.out.rlt
  obtain ⟨S, hS⟩ : ∃ S, strB l1 = S := ⟨_, rfl⟩
  have hsz : S.size = l1.length := by rw [← hS, strB_size]
  have hszI : (S.size : Int) = (l1.length : Int) := by rw [hsz]
  have HSX : Hid (∀ (i : Nat) (hi : i < S.size) x, l1[i]? = some x → S[i]'hi = x) := Lib.hid (fun i hi x hx => by
    subst hS
    have h1 : l1[i]? = some ((strB l1)[i]'hi) := Lib.data_getElem? (strB l1) i hi
    rw [hx] at h1
    exact (Option.some.inj h1).symm)
  have HR1 : Hid (∀ W, Below w1.heap.size w1 W → W.cell? ⟨pr, 1, none⟩ = some (.string S)) := Lib.hid (fun W hb => by rw [← hS]; exact (HR.out.keep hb).r1)
  have HRF : Hid (∀ W, Below w1.heap.size w1 W → W.frozen? ⟨pr, 1, none⟩ = false) := Lib.hid (fun W hb => (HR.out.keep hb).rf 1)
  have HDR : Hid (∀ k, S.extract k l1.length = strB (l1.drop k)) := Lib.hid (fun k => by rw [← hS]; have := strB_from l1 k; rwa [strB_size] at this)
  clear hS hb0
  obtain ⟨w2, hw2⟩ : ∃ w2, w1.alloc (.cells #[.pointer none, .slice none 0 0] bdT) = w2 := ⟨_, rfl⟩
  obtain ⟨bb, hbb⟩ : ∃ bb, w1.heap.size = bb := ⟨_, rfl⟩
  rw [hw2] at IB0 HB0 ⊢
  rw [hbb] at IB0 HB0 HR1 HRF hpl1 ⊢
  have HBB := Lib.hid hbb
  clear hw2 hbb
  go_wp2
  go_loopw [5] (fun iv wr => ∃ (i : Nat) (acc : BL), iv = .int .i64 i ∧ acc.length ≤ i ∧ Hid (Lib.IsBuilder bdT 5 bb bb (Lib.byteCells acc) wr) ∧ Hid (Below bb w1 wr) ∧ Hid (qM acc (l1.drop i) = some (s, l2))) (fun iv _ => l1.length - (intOf iv).toNat)
  case atStart => exact ⟨0, [], rfl, Nat.le_refl _, IB0, HB0, HQ⟩
  case round =>
    obtain ⟨i, acc, rfl, hai, IB, HB, HQI⟩ := hrel
    obtain ⟨x, hx, hdr⟩ := qM_cons HQI.out
    have hil : i < l1.length := (List.getElem?_eq_some_iff.1 hx).1
    have hiS : i < S.size := by omega
    have hiz : (i : Int) < (S.size : Int) := by omega
    have hi64 : (i : Int) + 2 ≤ 9223372036854775807 := by omega
    have hxs := HSX.out i hiS x hx
    have r1 := HR1.out _ HB.out
    have rf := HRF.out _ HB.out
    have hBw : bb ≤ wr.heap.size := by have := HB.out.size; have := HBB.out; omega
    have HQJ := Lib.hid (show qM acc (x :: l1.drop (i + 1)) = some (s, l2) by rw [← hdr]; exact HQI.out)
    have HX := Lib.hid hx
    clear hx hdr
    by_cases h34 : x = 34
    · have e34 : ((x.toNat : Int) == 34) = true := by rw [h34]; rfl
      have hqe := HQJ.out
      rw [h34, qM_34] at hqe
      have hqe := Option.some.inj hqe
      injection hqe with hs2 hl2
      have HE := Lib.hid (show acc = s ∧ l1.drop (i + 1) = l2 from ⟨hs2, hl2⟩)
      have CB : Hid (∀ u, Calls Tryz.prog 137 #[.pointer (some ⟨bb, 0, none⟩)] (wr.setCell ⟨pr, 1, none⟩ u) fun e w' => e = .returned (.string (strB acc)) ∧ Below bb (wr.setCell ⟨pr, 1, none⟩ u) w') := Lib.hid (fun u => bString_any bb bb acc _ (builder_far IB.out hpl1 1 u) (by simpa [World.setCell] using hBw))
      clear hs2 hl2 h34 hqe
      go_wp2_with (go_at_call 137; (with_reducible refine (CB.out _).mono ?_); rintro e w3 ⟨rfl, hb⟩; have HB3 := Lib.hid hb; clear hb)
      go_ret2
      refine ⟨?_, ?_, ?_⟩
      · show Ending.returned (Value.tuple #[Value.string (strB acc), Value.bool true]) = _
        rw [HE.out.1]
      · have hb := HB3.out
        rw [HDR.out, HE.out.2] at hb
        have hb2 := (below_both HB.out ⟨pr, 1, none⟩ (.string (strB l2))).trans hb
        exact (HR.out.rest l2).keep (by rw [show (w1.setCell ⟨pr, 1, none⟩ (.string (strB l2))).heap.size = bb by simpa [World.setCell] using HBB.out]; exact hb2)
      · have hb := HB3.out
        rw [HDR.out, HE.out.2] at hb
        have hb2 := (below_both HB.out ⟨pr, 1, none⟩ (.string (strB l2))).trans hb
        exact (HG.out.rest 1 _).trans (Gone.of_below (by rw [show (w1.setCell ⟨pr, 1, none⟩ (.string (strB l2))).heap.size = bb by simpa [World.setCell] using HBB.out]; exact hb2))
    · have e34 : ((x.toNat : Int) == 34) = false := beq_eq_false_iff_ne.2 (fun e => h34 (by
        have e : x.toNat = 34 := by omega
        exact UInt8.toNat_inj.1 e))
      have hacl : acc.length + 1 ≤ 140737488355328 := by omega
      by_cases h92 : x = 92
      · have e92 : ((x.toNat : Int) == 92) = true := by rw [h92]; rfl
        obtain ⟨c, hc, hc2, HQ2⟩ : ∃ c, l1[i + 1]? = some c ∧ (c = 34 ∨ c = 92) ∧ Hid (qM (acc ++ [c]) (l1.drop (i + 2)) = some (s, l2)) := by
          have hq := HQJ.out
          rw [h92] at hq
          rcases Nat.lt_or_ge (i + 1) l1.length with hi | hi
          · rw [List.drop_eq_getElem_cons hi, qM_92] at hq
            by_cases hc : l1[i + 1] = 34 ∨ l1[i + 1] = 92
            · rw [if_pos hc] at hq
              exact ⟨l1[i + 1], List.getElem?_eq_getElem hi, hc, Lib.hid hq⟩
            · rw [if_neg hc] at hq
              cases hq
          · rw [List.drop_eq_nil_of_le hi, qM_92nil] at hq
            cases hq
        have hi1 : i + 1 < l1.length := (List.getElem?_eq_some_iff.1 hc).1
        have hiS1 : i + 1 < S.size := by omega
        have hcs := HSX.out (i + 1) hiS1 c hc
        have hne1 : ((i : Int) + 1 == (l1.length : Int)) = false := beq_eq_false_iff_ne.2 (by omega)
        have CB : Hid (Calls Tryz.prog 138 #[.pointer (some ⟨bb, 0, none⟩), .int .u8 (c.toNat : Int)] wr fun e w' => e = .returned .nilIface ∧ Lib.IsBuilder bdT 5 bb bb (Lib.byteCells (acc ++ [c])) w' ∧ Below bb wr w') := Lib.hid ((bWriteByte_any bb bb (Lib.byteCells acc) (c.toNat : Int) wr IB.out (by rw [Lib.byteCells_length]; exact hacl) hBw).mono (fun e w' ⟨h1, h2, h3⟩ => ⟨h1, .inr (by rwa [byteCells_add] at h2), h3⟩))
        have HRND : Hid (∀ w', Lib.IsBuilder bdT 5 bb bb (Lib.byteCells (acc ++ [c])) w' → Below bb wr w' → ∃ (i' : Nat) (acc' : BL), Value.int .i64 ((i : Int) + 1 + 1) = .int .i64 i' ∧ acc'.length ≤ i' ∧ Hid (Lib.IsBuilder bdT 5 bb bb (Lib.byteCells acc') w') ∧ Hid (Below bb w1 w') ∧ Hid (qM acc' (l1.drop i') = some (s, l2))) := Lib.hid (fun w' h1 h2 => ⟨i + 2, acc ++ [c], by congr 1, by simp; omega, Lib.hid h1, Lib.hid (HB.out.trans h2), HQ2⟩)
        clear h34 h92 hc hacl
        rcases hc2 with hc2 | hc2
        · have f34 : ((c.toNat : Int) != 34) = false := by rw [hc2]; rfl
          clear hc2
          go_wp2_with (go_at_call 138; (with_reducible refine CB.out.mono ?_); rintro e w3 ⟨rfl, hib, hb⟩; have HN := Lib.hid (HRND.out _ hib hb); clear hib hb)
          go_roundw
          case rel => exact HN.out
          case measure => simp [intOf]; omega
        · have f34 : ((c.toNat : Int) != 34) = true := by rw [hc2]; rfl
          have f92 : ((c.toNat : Int) != 92) = false := by rw [hc2]; rfl
          clear hc2
          go_wp2_with (go_at_call 138; (with_reducible refine CB.out.mono ?_); rintro e w3 ⟨rfl, hib, hb⟩; have HN := Lib.hid (HRND.out _ hib hb); clear hib hb)
          go_roundw
          case rel => exact HN.out
          case measure => simp [intOf]; omega
      · have e92 : ((x.toNat : Int) == 92) = false := beq_eq_false_iff_ne.2 (fun e => h92 (by
          have e : x.toNat = 92 := by omega
          exact UInt8.toNat_inj.1 e))
        have HQ2 := HQJ.out
        rw [qM_other h34 h92] at HQ2
        have HQ2 := Lib.hid HQ2
        have CB : Hid (Calls Tryz.prog 138 #[.pointer (some ⟨bb, 0, none⟩), .int .u8 (x.toNat : Int)] wr fun e w' => e = .returned .nilIface ∧ Lib.IsBuilder bdT 5 bb bb (Lib.byteCells (acc ++ [x])) w' ∧ Below bb wr w') := Lib.hid ((bWriteByte_any bb bb (Lib.byteCells acc) (x.toNat : Int) wr IB.out (by rw [Lib.byteCells_length]; exact hacl) hBw).mono (fun e w' ⟨h1, h2, h3⟩ => ⟨h1, .inr (by rwa [byteCells_add] at h2), h3⟩))
        have HRND : Hid (∀ w', Lib.IsBuilder bdT 5 bb bb (Lib.byteCells (acc ++ [x])) w' → Below bb wr w' → ∃ (i' : Nat) (acc' : BL), Value.int .i64 ((i : Int) + 1) = .int .i64 i' ∧ acc'.length ≤ i' ∧ Hid (Lib.IsBuilder bdT 5 bb bb (Lib.byteCells acc') w') ∧ Hid (Below bb w1 w') ∧ Hid (qM acc' (l1.drop i') = some (s, l2))) := Lib.hid (fun w' h1 h2 => ⟨i + 1, acc ++ [x], by congr 1, by simp; omega, Lib.hid h1, Lib.hid (HB.out.trans h2), HQ2⟩)
        clear h34 h92 hacl
        go_wp2_with (go_at_call 138; (with_reducible refine CB.out.mono ?_); rintro e w3 ⟨rfl, hib, hb⟩; have HN := Lib.hid (HRND.out _ hib hb); clear hib hb)
        go_roundw
        case rel => exact HN.out
        case measure => simp [intOf]; omega
end
end Go.Proofs.YtkomeijlljcdgaaGreat
namespace Go.Proofs.YtkomeijlljcdgaaGreat
open Go.RowKit
section
variable {ρ : Nat → Nat} {W : World} {pr pw g cap len : Nat} {m : Int} {M : List NodeD} {v : Value} {N : List NoteD} {l l2 : BL} {doc : Int}
theorem Rd.box (h : Rd ρ W pr pw g cap len m M v N l doc) (B : Obj) : Rd (upd ρ (some W.heap.size) 5) (W.alloc B) pr pw g cap len m M v N l doc ∧ Gone pr ρ (upd ρ (some W.heap.size) 5) W (W.alloc B) ∧ upd ρ (some W.heap.size) 5 W.heap.size = 5 := by
  have hb := below_box W B
  have hk := h.keep hb
  have hs : (W.alloc B).heap.size = W.heap.size + 1 := by simp
  have hp := h.rlt
  have hm := hk.wk.markR (b := W.heap.size) 5 (by omega) (h.wk.fresh _ (Nat.le_refl _)) (fun x hx b off he hp => by have := attr_block_lt (h.wk.aok x hx) he hp; omega)
  refine ⟨⟨hm, hk.r0, hk.r1, hk.r2, hk.rf, hk.rlt, ?_, hk.small, hk.hdoc⟩, ⟨hb.os, hb.tape, hb.output, hb.size, fun b hb2 _ _ => hb.block b hb2, fun b hb2 _ => ?_⟩, ?_⟩
  · unfold upd
    rw [if_neg (fun e => by injection e with e; omega)]
    exact h.role
  · unfold upd
    rw [if_neg (fun e => by injection e with e; omega)]
  · unfold upd
    rw [if_pos rfl]
theorem Rd.put (h : Rd ρ W pr pw g cap len m M v N l doc) {b : Nat} (h5 : ρ b = 5) (hne : b ≠ pr) (o : Nat) (u : Value) : Rd ρ (W.setCell ⟨b, o, none⟩ u) pr pw g cap len m M v N l doc :=
  ⟨h.wk.otherR (.inr h5) o u, (World.cell?_setCell_other _ _ _ _ (fun e => by injection e with e _; exact hne e)).trans h.r0, (World.cell?_setCell_other _ _ _ _ (fun e => by injection e with e _; exact hne e)).trans h.r1, (World.cell?_setCell_other _ _ _ _ (fun e => by injection e with e _; exact hne e)).trans h.r2, fun o => by rw [World.frozen?_setCell]; exact h.rf o, by simpa [World.setCell] using h.rlt, h.role, h.small, h.hdoc⟩
theorem Gone.put {ρ' : Nat → Nat} {w w' : World} (h : Gone pr ρ ρ' w w') {b : Nat} (hb : w.heap.size ≤ b) (o : Nat) (u : Value) : Gone pr ρ ρ' w (w'.setCell ⟨b, o, none⟩ u) :=
  ⟨h.os, h.tape, h.output, by simpa [World.setCell] using h.size, fun k hk hne h0 => (Below.heap_setCell _ _ _ k (fun e => by have e : k = b := e; omega)).trans (h.quiet k hk hne h0), h.old⟩
def BoxPost (ρ : Nat → Nat) (w : World) (pr pw g cap len : Nat) (m : Int) (M : List NodeD) (v : Value) (N : List NoteD) (l2 : BL) (doc : Int) (u : Value) (e : Ending) (w' : World) : Prop :=
  e = .returned u ∧ ∃ ρ', Rd ρ' w' pr pw g cap len m M v N l2 doc ∧ Gone pr ρ ρ' w w'
set_option maxHeartbeats 4000000 in
set_option maxRecDepth 100000 in
theorem attr_any (w : World) (h : Rd ρ w pr pw g cap len m M v N l doc) {a : ByteArray × ByteArray} (ha : attrM l = some (a, l2)) :
    Calls Tryz.prog 133 #[ptrV pr] w (BoxPost ρ w pr pw g cap len m M v N l2 doc (.tuple #[.agg #[.string a.1, .string a.2], .bool true])) := by
  unfold attrM at ha
  cases hw : wordM l with
  | none => rw [hw] at ha; cases ha
  | some nl =>
  obtain ⟨n, l3⟩ := nl
  rw [hw] at ha
  dsimp only at ha
  cases hs : skipM l3 [61] with
  | none => rw [hs] at ha; cases ha
  | some l4 =>
  rw [hs] at ha
  dsimp only at ha
  cases hq : quoM l4 with
  | none => rw [hq] at ha; cases ha
  | some sl =>
  obtain ⟨s, l5⟩ := sl
  rw [hq] at ha
  have ha := Option.some.inj ha
  injection ha with ha1 ha2
  subst ha1 ha2
  obtain ⟨hR0, hG0, h5⟩ := h.box (.cells #[.string ⟨#[]⟩, .string ⟨#[]⟩] 109)
  have hplt := h.rlt
  obtain ⟨b, hb⟩ : ∃ b, w.heap.size = b := ⟨_, rfl⟩
  have hc0 : (w.alloc (.cells #[.string ⟨#[]⟩, .string ⟨#[]⟩] 109)).cell? ⟨b, 0, none⟩ = some (.string ⟨#[]⟩) := by rw [← hb]; exact cell_of_row _ w.heap.size 0 _ 109 (0, 0) (heap_alloc_new w _)
  have hc1 : (w.alloc (.cells #[.string ⟨#[]⟩, .string ⟨#[]⟩] 109)).cell? ⟨b, 1, none⟩ = some (.string ⟨#[]⟩) := by rw [← hb]; exact cell_of_row _ w.heap.size 1 _ 109 (0, 0) (heap_alloc_new w _)
  have hf : ∀ o, (w.alloc (.cells #[.string ⟨#[]⟩, .string ⟨#[]⟩] 109)).frozen? ⟨b, o, none⟩ = false := fun o => by rw [← hb]; exact row_free (heap_alloc_new w _) o
  have hlt : b < (w.alloc (.cells #[.string ⟨#[]⟩, .string ⟨#[]⟩] 109)).heap.size := by rw [← hb]; simp
  rw [hb] at hR0 hG0 h5
  obtain ⟨ρ0, hρ⟩ : ∃ ρ0, upd ρ (some b) 5 = ρ0 := ⟨_, rfl⟩
  obtain ⟨w0, hw0⟩ : ∃ w0, w.alloc (.cells #[.string ⟨#[]⟩, .string ⟨#[]⟩] 109) = w0 := ⟨_, rfl⟩
  rw [hρ, hw0] at hR0 hG0
  rw [hρ] at h5
  rw [hw0] at hc0 hc1 hf hlt
  have hbp : b ≠ pr := by omega
  have HW0 := Lib.hid hw0
  have HB := Lib.hid hb
  have HR0 := Lib.hid hR0
  have HG0 := Lib.hid hG0
  have CW := Lib.hid (word_any w0 hR0 hw)
  have CS : Hid (∀ W, Rd ρ0 W pr pw g cap len m M v N l3 doc → Calls Tryz.prog 120 #[ptrV pr, .string ⟨#[61]⟩] W (StepPost ρ0 W pr pw g cap len m M v N l4 doc (.bool true))) := Lib.hid (fun W h => skip_hit W h [61] hs)
  have CQ : Hid (∀ W, Rd ρ0 W pr pw g cap len m M v N l4 doc → Calls Tryz.prog 124 #[ptrV pr] W (StepPost ρ0 W pr pw g cap len m M v N l5 doc (.tuple #[.string (strB s), .bool true]))) := Lib.hid (fun W h => quoted_any W h hq)
  have HC : Hid (∀ W, Gone pr ρ0 ρ0 w0 W → W.cell? ⟨b, 0, none⟩ = some (.string ⟨#[]⟩) ∧ W.cell? ⟨b, 1, none⟩ = some (.string ⟨#[]⟩) ∧ (∀ o, W.frozen? ⟨b, o, none⟩ = false)) := Lib.hid (fun W hg => ⟨(hg.cell hlt hbp (.inr h5)).trans hc0, (hg.cell hlt hbp (.inr h5)).trans hc1, fun o => (hg.frozen hlt hbp (.inr h5)).trans (hf o)⟩)
  have H5 := Lib.hid h5
  clear h hw hs hq hR0 hG0 h5 hc0 hc1 hf hlt hρ hw0 hb
  go_enter Tryz.func133, Tryz.ntmps133
  go_upto_region 1 with fail
  rw [HW0.out, HB.out]
  go_upto_region 5 with (first
    | (go_at_call 132; (with_reducible refine CW.out.mono ?_); rintro e w1 ⟨rfl, hR, hG⟩; have HR := Lib.hid hR; have HG := Lib.hid hG; clear hR hG)
    | (go_at_call 120; (with_reducible refine (CS.out _ HR.out).mono ?_); rintro e w2 ⟨rfl, hR, hG⟩; have HR2 := Lib.hid hR; have HG2 := Lib.hid (HG.out.trans hG); clear hR hG)
    | (go_at_call 124; (with_reducible refine (CQ.out _ HR2.out).mono ?_); rintro e w3 ⟨rfl, hR, hG⟩; have HR3 := Lib.hid hR; have HG3 := Lib.hid (HG2.out.trans hG); clear hR hG))
  obtain ⟨d0, d1, df⟩ := HC.out _ HG3.out
  have f0 := df 0
  have f1 := df 1
  clear df
  go_wp2
  have q1 : ((w3.setCell ⟨b, 0, none⟩ (.string (strB n))).setCell ⟨b, 1, none⟩ (.string (strB s))).cell? ⟨b, 1, none⟩ = some (.string (strB s)) := World.cell?_setCell_same _ _ _ ((World.cell?_setCell_other _ _ _ _ (fun e => by injection e with _ e; omega)).trans d1)
  have q0 : ((w3.setCell ⟨b, 0, none⟩ (.string (strB n))).setCell ⟨b, 1, none⟩ (.string (strB s))).cell? ⟨b, 0, none⟩ = some (.string (strB n)) := (World.cell?_setCell_other _ _ _ _ (fun e => by injection e with _ e; omega)).trans (World.cell?_setCell_same _ _ _ d0)
  have hbw : w.heap.size ≤ b := by rw [HB.out]; exact Nat.le_refl _
  refine bodyPost_ret (v := .tuple #[.agg #[.string (strB n), .string (strB s)], .bool true]) ?_ rfl ⟨rfl, ρ0, (HR3.out.put H5.out hbp 0 _).put H5.out hbp 1 _, ((HG0.out.trans HG3.out).put hbw 0 _).put hbw 1 _⟩
  simp [results, Tryz.results133, go_sem, q0, q1]
end
end Go.Proofs.YtkomeijlljcdgaaGreat
namespace Go.Proofs.YtkomeijlljcdgaaGreat
open Go.RowKit
section
variable {ρ : Nat → Nat} {W : World} {pr pw g cap len : Nat} {m : Int} {M : List NodeD} {v : Value} {N : List NoteD} {l l2 : BL} {doc : Int}
theorem nodeOk_withD {w : World} {x : NodeD} {d : Int} (h : NodeOk w x) (hd : In64 d) : NodeOk w (withD x d) := ⟨h.attrs, h.kids, h.name, h.is, h.data, h.kind, h.parent, h.host, h.under, hd⟩
theorem Rd.added {w w' : World} (h : Rd ρ w pr pw g cap len m M v N l doc) {x : NodeD} (hsx : smallX x) (hl : len < 1000) {c : Core} {e : Ending} (hc : c = aloneC x.core len) (hp : AddPost ρ w pw g len m M v N c e w') :
    e = .returned (.int .i64 (len : Int)) ∧ ∃ (ρ' : Nat → Nat) (g' cap' : Nat) (y : NodeD), Rd ρ' w' pr pw g' cap' (len + 1) m (M ++ [y]) v N l doc ∧ y.core = c ∧ Gone pr ρ ρ' w w' := by
  obtain ⟨rfl, g2, cap2, y, hy, hwk, htu, hg2, hold⟩ := hp
  have hg := h.wk.glt
  have hgr := h.wk.grole
  have two : ∀ b, b < w.heap.size → (ρ b = 0 ∨ ρ b = 5) → addR ρ g g2 b = ρ b := fun b hb h0 => by
    have hne : b ≠ g := fun e => by rw [e, hgr] at h0; omega
    exact addR_other (by rcases hg2 with e | e; exact fun e2 => hne (e2.trans e); omega) hne
  have hpr := two pr h.rlt (.inr h.role)
  have hq : ∀ o, w'.cell? ⟨pr, o, none⟩ = w.cell? ⟨pr, o, none⟩ := fun o => World.cell?_of_block (w := w) (a := ⟨pr, o, none⟩) (htu.quiet pr h.rlt (.inr h.role))
  have hqf : ∀ o, w'.frozen? ⟨pr, o, none⟩ = w.frozen? ⟨pr, o, none⟩ := fun o => World.frozen?_of_block (w := w) (a := ⟨pr, o, none⟩) (htu.quiet pr h.rlt (.inr h.role))
  refine ⟨rfl, _, g2, cap2, y, ⟨hwk, (hq 0).trans h.r0, (hq 1).trans h.r1, (hq 2).trans h.r2, fun o => (hqf o).trans (h.rf o), Nat.lt_of_lt_of_le h.rlt htu.size, hpr.trans h.role, ?_, h.hdoc⟩, hy, Gone.of_turn htu two⟩
  have hml := h.wk.hlen
  refine ⟨by rw [List.length_append, hml]; simp; omega, fun z hz => ?_⟩
  rcases List.mem_append.1 hz with hz | hz
  · exact h.small.2 z hz
  · rw [List.mem_singleton.1 hz]
    unfold smallN
    rw [hy, hc]
    exact ⟨Nat.zero_le _, hsx⟩
set_option maxHeartbeats 4000000 in
set_option maxRecDepth 100000 in
theorem radd_any (w : World) (h : Rd ρ w pr pw g cap len m M v N l doc) (x : NodeD) (hx : NodeOk w x) (hsx : smallX x) (hl : len < 1000) :
    Calls Tryz.prog 123 #[ptrV pr, nodVal x] w fun e w' => e = .returned (.int .i64 (len : Int)) ∧ ∃ (ρ' : Nat → Nat) (g' cap' : Nat) (y : NodeD), Rd ρ' w' pr pw g' cap' (len + 1) m (M ++ [y]) v N l doc ∧ y.core = aloneC (withD x doc).core len ∧ Gone pr ρ ρ' w w' := by
  have hxd := nodeOk_withD hx h.hdoc
  have hbb := below_box w (nodB (withD x doc))
  have HB : Hid (Below w.heap.size w (w.alloc (nodB (withD x doc)))) := Lib.hid hbb
  have CA : Hid (∀ W, Below w.heap.size w W → Calls Tryz.prog 136 #[ptrV pw, nodVal (withD x doc)] W (fun e w' => e = .returned (.int .i64 (len : Int)) ∧ ∃ (ρ' : Nat → Nat) (g' cap' : Nat) (y : NodeD), Rd ρ' w' pr pw g' cap' (len + 1) m (M ++ [y]) v N l doc ∧ y.core = aloneC (withD x doc).core len ∧ Gone pr ρ ρ' W w')) := Lib.hid (fun W hb =>
    (madd_any W (h.wk.keep hb) (by omega) (withD x doc) (hxd.below hb) hsx).mono (fun e w' hp => (h.keep hb).added (x := withD x doc) hsx hl rfl hp))
  obtain ⟨-, x0, x1, x2, x3, x4, x5, x6, x7, x8, x9, -⟩ := NBox.one (w := w) hxd
  obtain ⟨w0, hw0⟩ : ∃ w0, w.alloc (nodB (withD x doc)) = w0 := ⟨_, rfl⟩
  have hr2 := h.r2
  have hr0 := (h.keep hbb).r0
  rw [hw0] at HB x0 x1 x2 x3 x4 x5 x6 x7 x8 x9 hr0
  have HW := Lib.hid hw0
  have hxn : x.core.data.size ≤ 9223372036854775807 := hx.data
  have r2 : ∀ o, (w.alloc o).cell? ⟨pr, 2, none⟩ = some (.int .i64 doc) := fun o => (h.keep (below_box w o)).r2
  clear h hxd hbb hx hsx hw0
  go_enter Tryz.func123, Tryz.ntmps123
  go_upto_region 2 with fail
  show Code.wp _ _ _ _ (w.alloc (nodB (withD x doc)))
  rw [HW.out]
  dsimp only [withD] at x0 x1 x2 x3 x4 x5 x6 x7 x8 x9
  have CA : Hid (∀ W, Below w.heap.size w W → Calls Tryz.prog 136 #[ptrV pw, .agg #[.int .i64 x.core.kind, .string x.core.name, .string x.core.is, .string x.core.data, .slice x.aA x.aN x.aC, .int .i64 x.core.parent, .slice x.kA x.kN x.kC, .int .i64 x.core.host, .int .i64 x.core.under, .int .i64 doc]] W (fun e w' => e = .returned (.int .i64 (len : Int)) ∧ ∃ (ρ' : Nat → Nat) (g' cap' : Nat) (y : NodeD), Rd ρ' w' pr pw g' cap' (len + 1) m (M ++ [y]) v N l doc ∧ y.core = aloneC (withD x doc).core len ∧ Gone pr ρ ρ' W w')) := CA
  go_region_with (go_at_call 136; (with_reducible refine (CA.out _ HB.out.drew).mono ?_); rintro e w1 ⟨rfl, hp⟩; have HP := Lib.hid hp; clear hp)
  all_goals go_wp2
  all_goals
    go_ret
    obtain ⟨ρ', g', cap', y, h1, h2, h3⟩ := HP.out
    exact ⟨rfl, ρ', g', cap', y, h1, h2, (Gone.of_below HB.out.drew).trans h3⟩
end
end Go.Proofs.YtkomeijlljcdgaaGreat
