/- Texts joined in build order: Reader. -/
import Derived.Test.YtnjoimedilonnaaGreatC29
import Derived.Test.YtnjoimedilonnaaGreatC04
import Derived.Test.YtnjoimedilonnaaGreatC30
namespace Go.Proofs.YtnjoimedilonnaaGreat
open Go.RowKit
structure Gone (pr : Nat) (ρ ρ' : Nat → Nat) (w w' : World) : Prop where
  os : w'.os = w.os
  tape : w'.tape = w.tape
  output : w'.output = w.output
  size : w.heap.size ≤ w'.heap.size
  quiet : ∀ b, b < w.heap.size → b ≠ pr → (ρ b = 0 ∨ ρ b = 5) → w'.heap[b]? = w.heap[b]?
  old : ∀ b, b < w.heap.size → (ρ b = 0 ∨ ρ b = 5) → ρ' b = ρ b
theorem Gone.trans {pr : Nat} {ρ ρ1 ρ2 : Nat → Nat} {a b c : World} (h : Gone pr ρ ρ1 a b) (k : Gone pr ρ1 ρ2 b c) : Gone pr ρ ρ2 a c :=
  ⟨k.os.trans h.os, k.tape.trans h.tape, k.output.trans h.output, Nat.le_trans h.size k.size, fun i hi hne h0 => (k.quiet i (Nat.lt_of_lt_of_le hi h.size) hne (by rw [h.old i hi h0]; exact h0)).trans (h.quiet i hi hne h0), fun i hi h0 => (k.old i (Nat.lt_of_lt_of_le hi h.size) (by rw [h.old i hi h0]; exact h0)).trans (h.old i hi h0)⟩
theorem Gone.of_below {pr : Nat} {ρ : Nat → Nat} {w w' : World} (h : Below w.heap.size w w') : Gone pr ρ ρ w w' := ⟨h.os, h.tape, h.output, h.size, fun b hb _ _ => h.block b hb, fun _ _ _ => rfl⟩
theorem Gone.refl (pr : Nat) (ρ : Nat → Nat) (w : World) : Gone pr ρ ρ w w := Gone.of_below (Below.refl _ _)
theorem Gone.of_turn {pr : Nat} {ρ ρ' : Nat → Nat} {w w' : World} (h : Turn ρ w w') (ho : ∀ b, b < w.heap.size → (ρ b = 0 ∨ ρ b = 5) → ρ' b = ρ b) : Gone pr ρ ρ' w w' := ⟨h.os, h.tape, h.output, h.size, fun b hb _ h0 => h.quiet b hb h0, ho⟩
theorem Gone.rest {pr : Nat} {ρ ρ' : Nat → Nat} {w w' : World} (h : Gone pr ρ ρ' w w') (o : Nat) (u : Value) : Gone pr ρ ρ' w (w'.setCell ⟨pr, o, none⟩ u) :=
  ⟨h.os, h.tape, h.output, by simpa [World.setCell] using h.size, fun b hb hne h0 => (Below.heap_setCell _ _ _ b hne).trans (h.quiet b hb hne h0), h.old⟩
theorem Gone.cell {pr : Nat} {ρ ρ' : Nat → Nat} {w w' : World} (h : Gone pr ρ ρ' w w') {b o : Nat} (hb : b < w.heap.size) (hne : b ≠ pr) (h0 : ρ b = 0 ∨ ρ b = 5) : w'.cell? ⟨b, o, none⟩ = w.cell? ⟨b, o, none⟩ := World.cell?_of_block (w := w) (a := ⟨b, o, none⟩) (h.quiet b hb hne h0)
theorem Gone.frozen {pr : Nat} {ρ ρ' : Nat → Nat} {w w' : World} (h : Gone pr ρ ρ' w w') {b o : Nat} (hb : b < w.heap.size) (hne : b ≠ pr) (h0 : ρ b = 0 ∨ ρ b = 5) : w'.frozen? ⟨b, o, none⟩ = w.frozen? ⟨b, o, none⟩ := World.frozen?_of_block (w := w) (a := ⟨b, o, none⟩) (h.quiet b hb hne h0)
structure Rd (ρ : Nat → Nat) (W : World) (pr pw g cap len : Nat) (m : Int) (M : List NodeD) (v : Value) (N : List NoteD) (l : BL) (doc : Int) : Prop where
  wk : Wk ρ W pw g cap len m M v N
  r0 : W.cell? ⟨pr, 0, none⟩ = some (ptrV pw)
  r1 : W.cell? ⟨pr, 1, none⟩ = some (.string (strB l))
  r2 : W.cell? ⟨pr, 2, none⟩ = some (.int .i64 doc)
  rf : ∀ o, W.frozen? ⟨pr, o, none⟩ = false
  rlt : pr < W.heap.size
  role : ρ pr = 5
  small : smallF M
  hdoc : In64 doc
section
variable {ρ : Nat → Nat} {W W2 : World} {pr pw g cap len : Nat} {m : Int} {M : List NodeD} {v : Value} {N : List NoteD} {l l2 : BL} {doc : Int}
theorem Rd.keep (h : Rd ρ W pr pw g cap len m M v N l doc) (hb : Below W.heap.size W W2) : Rd ρ W2 pr pw g cap len m M v N l doc :=
  ⟨h.wk.keep hb, (hb.cell (p := ⟨pr, 0, none⟩) h.rlt).trans h.r0, (hb.cell (p := ⟨pr, 1, none⟩) h.rlt).trans h.r1, (hb.cell (p := ⟨pr, 2, none⟩) h.rlt).trans h.r2, fun o => (hb.frozen (p := ⟨pr, o, none⟩) h.rlt).trans (h.rf o), Nat.lt_of_lt_of_le h.rlt hb.size, h.role, h.small, h.hdoc⟩
theorem Rd.rest (h : Rd ρ W pr pw g cap len m M v N l doc) (l2 : BL) : Rd ρ (W.setCell ⟨pr, 1, none⟩ (.string (strB l2))) pr pw g cap len m M v N l2 doc :=
  ⟨h.wk.otherR (.inr h.role) 1 _, (World.cell?_setCell_other _ _ _ _ (fun e => by injection e with _ e; omega)).trans h.r0, World.cell?_setCell_same _ _ _ h.r1, (World.cell?_setCell_other _ _ _ _ (fun e => by injection e with _ e; omega)).trans h.r2, fun o => by rw [World.frozen?_setCell]; exact h.rf o, by simpa [World.setCell] using h.rlt, h.role, h.small, h.hdoc⟩
def StepPost (ρ : Nat → Nat) (w : World) (pr pw g cap len : Nat) (m : Int) (M : List NodeD) (v : Value) (N : List NoteD) (l2 : BL) (doc : Int) (u : Value) (e : Ending) (w' : World) : Prop :=
  e = .returned u ∧ Rd ρ w' pr pw g cap len m M v N l2 doc ∧ Gone pr ρ ρ w w'
theorem skipM_some {l p l2 : BL} (h : skipM l p = some l2) : Lib.hasPrefix l p = true ∧ Lib.trimPrefix l p = l2 := by
  unfold skipM at h
  by_cases hp : p.isPrefixOf l = true
  · rw [if_pos hp] at h
    have : Lib.hasPrefix l p = true := hp
    refine ⟨this, ?_⟩
    unfold Lib.trimPrefix
    rw [if_pos this]
    exact Option.some.inj h
  · rw [if_neg hp] at h
    cases h
theorem skipM_none {l p : BL} (h : skipM l p = none) : Lib.hasPrefix l p = false ∧ Lib.trimPrefix l p = l := by
  unfold skipM at h
  by_cases hp : p.isPrefixOf l = true
  · rw [if_pos hp] at h
    cases h
  · have : Lib.hasPrefix l p = false := Bool.eq_false_iff.2 hp
    refine ⟨this, ?_⟩
    unfold Lib.trimPrefix
    rw [if_neg (by rw [this]; decide)]
set_option maxHeartbeats 1000000 in
set_option maxRecDepth 100000 in
theorem skip_core (w : World) (h : Rd ρ w pr pw g cap len m M v N l doc) (p : BL) :
    Calls Tryz.prog 63 #[ptrV pr, .string ⟨p.toArray⟩] w (StepPost ρ w pr pw g cap len m M v N (Lib.trimPrefix l p) doc (.bool (Lib.hasPrefix l p))) := by
  have CP : Hid (Calls Tryz.prog 77 #[.string (strB l), .string ⟨p.toArray⟩] w fun e w' => e = .returned (.tuple #[.string (strB (Lib.trimPrefix l p)), .bool (Lib.hasPrefix l p)]) ∧ w' = w) := Lib.hid (cutPrefix_any (strB l) ⟨p.toArray⟩ w)
  have HR := Lib.hid (h.rest (Lib.trimPrefix l p))
  have HF := Lib.hid ((Gone.refl pr ρ w).rest 1 (.string (strB (Lib.trimPrefix l p))))
  obtain ⟨S, hS⟩ : ∃ S, strB l = S := ⟨_, rfl⟩
  obtain ⟨T, hT⟩ : ∃ T, strB (Lib.trimPrefix l p) = T := ⟨_, rfl⟩
  obtain ⟨q, hq⟩ : ∃ q, Lib.hasPrefix l p = q := ⟨_, rfl⟩
  have r1 := h.r1
  rw [hS] at CP r1
  rw [hT, hq] at CP
  rw [hT] at HR HF
  rw [hq]
  have rf := h.rf 1
  clear h hS hT hq
  go_enter Tryz.func63, Tryz.ntmps63
  go_wp2_with (go_at_call 77; (with_reducible refine CP.out.mono ?_); rintro e w' ⟨rfl, rfl⟩)
  go_ret
  exact ⟨rfl, HR.out, HF.out⟩
theorem skip_hit (w : World) (h : Rd ρ w pr pw g cap len m M v N l doc) (p : BL) (hs : skipM l p = some l2) :
    Calls Tryz.prog 63 #[ptrV pr, .string ⟨p.toArray⟩] w (StepPost ρ w pr pw g cap len m M v N l2 doc (.bool true)) := by
  have := skip_core w h p
  rwa [(skipM_some hs).1, (skipM_some hs).2] at this
theorem skip_miss (w : World) (h : Rd ρ w pr pw g cap len m M v N l doc) (p : BL) (hs : skipM l p = none) :
    Calls Tryz.prog 63 #[ptrV pr, .string ⟨p.toArray⟩] w (StepPost ρ w pr pw g cap len m M v N l doc (.bool false)) := by
  have := skip_core w h p
  rwa [(skipM_none hs).1, (skipM_none hs).2] at this
theorem strB_upto (l : BL) (k : Nat) : (strB l).extract 0 k = strB (l.take k) := by
  apply ByteArray.ext
  simp [strB, ByteArray.data_extract]
theorem strB_from (l : BL) (k : Nat) : (strB l).extract k (strB l).size = strB (l.drop k) := by
  apply ByteArray.ext
  rw [strB_size]
  simp [strB, ByteArray.data_extract, List.take_of_length_le]
theorem indexAny_lt (cs : BL) : ∀ l : BL, Lib.indexAny l cs < (l.length : Int)
  | [] => by simp [Lib.indexAny]
  | b :: r => by
    have ih := indexAny_lt cs r
    have hl : ((b :: r).length : Int) = (r.length : Int) + 1 := by simp
    by_cases h1 : cs.contains b = true
    · rw [Lib.indexAny, if_pos h1, hl]; omega
    · by_cases h2 : (Lib.indexAny r cs == -1) = true
      · rw [Lib.indexAny, if_neg h1, if_pos h2, hl]; omega
      · rw [Lib.indexAny, if_neg h1, if_neg h2, hl]; omega
set_option maxHeartbeats 2000000 in
set_option maxRecDepth 100000 in
theorem word_any (w : World) (h : Rd ρ w pr pw g cap len m M v N l doc) {n : BL} (hw : wordM l = some (n, l2)) :
    Calls Tryz.prog 78 #[ptrV pr] w (StepPost ρ w pr pw g cap len m M v N l2 doc (.string (strB n))) := by
  unfold wordM at hw
  by_cases ho : okM l = true
  · rw [if_pos ho] at hw
    have hw := Option.some.inj hw
    injection hw with hn hl2
    subst hn hl2
    unfold okM at ho
    simp only [Bool.and_eq_true, decide_eq_true_eq, List.all_eq_true] at ho
    obtain ⟨hlen, hasc⟩ := ho
    obtain ⟨z, hz⟩ : ∃ z, Lib.indexAny l [33, 32, 61, 62] = z := ⟨_, rfl⟩
    obtain ⟨k, hk⟩ : ∃ k, endM l = k := ⟨_, rfl⟩
    have hzk : z.toNat = k := by rw [← hk, ← hz]; rfl
    have hkl : k ≤ l.length := by
      have := indexAny_lt [33, 32, 61, 62] l
      rw [hz] at this
      omega
    have CI : Hid (Calls Tryz.prog 90 #[.string (strB l), .string ⟨#[33, 32, 61, 62]⟩] w fun e w' => e = .returned (.int .i64 z) ∧ Below w.heap.size w w') := Lib.hid (by
      have := indexAny_any (strB l) (strB [33, 32, 61, 62]) w (by rw [strB_size]; omega) (by decide) (fun j b hb => hasc b (List.mem_of_getElem? hb)) (fun j b hb => by
        have hb : ([33, 32, 61, 62] : BL)[j]? = some b := hb
        have := List.mem_of_getElem? hb
        simp at this
        rcases this with rfl | rfl | rfl | rfl <;> decide)
      rw [strB_data, strB_data, hz] at this
      exact this)
    have HK : Hid (∀ W, Below w.heap.size w W → Rd ρ W pr pw g cap len m M v N l doc) := Lib.hid (fun W hb => h.keep hb)
    have HU : Hid ((strB l).extract 0 k = strB (l.take k)) := Lib.hid (strB_upto l k)
    have HD : Hid ((strB l).extract k l.length = strB (l.drop k)) := Lib.hid (by have := strB_from l k; rwa [strB_size] at this)
    obtain ⟨S, hS⟩ : ∃ S, strB l = S := ⟨_, rfl⟩
    have hsz : S.size = l.length := by rw [← hS, strB_size]
    have r1 := h.r1
    rw [hS] at CI r1 HU HD
    have HS := Lib.hid hS
    have HKE := Lib.hid hk
    have hk0 : ((k : Int)).toNat = k := rfl
    have hks : (k : Int) ≤ (S.size : Int) := by rw [hsz]; omega
    rw [hk]
    have hplt := h.rlt
    clear h hS hk hz hasc hlen
    have hmx : (max z 0).toNat = k := by omega
    have hm0 : 0 ≤ max z 0 ∧ max z 0 ≤ (S.size : Int) := by omega
    have HMX := Lib.hid hmx
    clear hmx hzk hkl hk0 hks
    obtain ⟨q, hq⟩ : ∃ q, max z 0 = q := ⟨_, rfl⟩
    have HQ := Lib.hid hq
    rw [hq] at hm0
    clear hq
    go_enter Tryz.func78, Tryz.ntmps78
    go_upto_region 2 with (go_at_call 90; (with_reducible refine CI.out.mono ?_); rintro e w1 ⟨rfl, hb⟩; have HB := Lib.hid hb; have r1 := (HK.out _ hb).r1; rw [HS.out] at r1; have rf := (HK.out _ hb).rf 1; clear hb)
    rw [HQ.out]
    obtain ⟨hm0, hm1⟩ := hm0
    go_wp2
    go_ret
    have e1 : q.toNat = k := by rw [← HQ.out]; exact HMX.out
    refine ⟨?_, ?_, ?_⟩
    · show Ending.returned (Value.string (S.extract 0 q.toNat)) = _
      rw [e1, HU.out]
    · rw [e1, HD.out]
      exact (HK.out _ HB.out).rest _
    · exact (Gone.of_below HB.out).rest 1 _
  · rw [if_neg ho] at hw
    cases hw
end
end Go.Proofs.YtnjoimedilonnaaGreat
