/- Texts joined in build order: ReaderQuo. -/
import Derived.Test.YtnjoimedilonnaaGreatC31
namespace Go.Proofs.YtnjoimedilonnaaGreat
open Go.RowKit
theorem below_both {B : Nat} {a b : World} (h : Below B a b) (p : Addr) (u : Value) : Below B (a.setCell p u) (b.setCell p u) := by
  refine ⟨h.os, h.tape, h.output, by simpa [World.setCell] using h.size, fun k hk => ?_⟩
  simp only [World.setCell, Array.getElem?_modify, h.block k hk]
theorem builder_far {T e : TypeId} {B b : Nat} {bs : List Value} {w : World} (h : Lib.IsBuilder T e B b bs w) {q : Nat} (hq : q < B) (o : Nat) (u : Value) : Lib.IsBuilder T e B b bs (w.setCell ⟨q, o, none⟩ u) := by
  have key : ∀ p, Lib.BuilderAt T e B b p bs w → Lib.BuilderAt T e B b p bs (w.setCell ⟨q, o, none⟩ u) := fun p ⟨hB, v, hb, hown, hne⟩ =>
    ⟨hB, v, (Below.heap_setCell _ _ _ b (fun e => by have e : b = q := e; omega)).trans hb, own_same hown (fun k hk => Below.heap_setCell _ _ _ k (fun e => by have e : k = q := e; have := (hown.lt k hk).1; omega)), hne⟩
  exact h.imp (key _) (key _)
theorem qM_34 (acc r : BL) : qM acc (34 :: r) = some (acc, r) := by
  rw [qM.eq_def]
  dsimp only
  rw [if_pos rfl]
theorem qM_92 (acc r : BL) (c : UInt8) : qM acc (92 :: c :: r) = if c = 34 ∨ c = 92 then qM (acc ++ [c]) r else none := by
  rw [qM.eq_def]
  dsimp only
  rw [if_neg (by decide), if_pos rfl]
theorem qM_92nil (acc : BL) : qM acc [92] = none := by
  rw [qM.eq_def]
  dsimp only
  rw [if_neg (by decide), if_pos rfl]
theorem qM_other {acc r : BL} {b : UInt8} (h1 : b ≠ 34) (h2 : b ≠ 92) : qM acc (b :: r) = qM (acc ++ [b]) r := by
  rw [qM.eq_def]
  dsimp only
  rw [if_neg h1, if_neg h2]
theorem byteCells_add (l : BL) (x : UInt8) : Lib.byteCells l ++ [.int .u8 x.toNat] = Lib.byteCells (l ++ [x]) := by simp [Lib.byteCells]
theorem qM_cons {acc : BL} {l1 : BL} {i : Nat} {r : BL × BL} (h : qM acc (l1.drop i) = some r) : ∃ x, l1[i]? = some x ∧ l1.drop i = x :: l1.drop (i + 1) := by
  rcases Nat.lt_or_ge i l1.length with hi | hi
  · exact ⟨l1[i], List.getElem?_eq_getElem hi, List.drop_eq_getElem_cons hi⟩
  · rw [List.drop_eq_nil_of_le hi] at h
    cases h
section
variable {ρ : Nat → Nat} {pr pw g cap len : Nat} {m : Int} {M : List NodeD} {v : Value} {N : List NoteD} {l l2 : BL} {doc : Int}
set_option maxHeartbeats 4000000 in
set_option maxRecDepth 100000 in
theorem quoted_any (w : World) (h : Rd ρ w pr pw g cap len m M v N l doc) {s : BL} (hq : quoM l = some (s, l2)) :
    Calls Tryz.prog 67 #[ptrV pr] w (StepPost ρ w pr pw g cap len m M v N l2 doc (.tuple #[.string (strB s), .bool true])) := by
  unfold quoM at hq
  by_cases hl : l.length ≤ 100000
  case neg => rw [if_neg hl] at hq; cases hq
  rw [if_pos hl] at hq
  cases hs : skipM l [34] with
  | none => rw [hs] at hq; cases hq
  | some l1 =>
  rw [hs] at hq
  have hq : qM [] l1 = some (s, l2) := hq
  have hl1 : l1.length ≤ 100000 := by
    have := (skipM_some hs).2
    have h2 := Lib.trimPrefix_le l [34]
    rw [this] at h2
    omega
  have CS : Hid (Calls Tryz.prog 63 #[ptrV pr, .string ⟨#[34]⟩] w (StepPost ρ w pr pw g cap len m M v N l1 doc (.bool true))) := Lib.hid (skip_hit w h [34] hs)
  have HQ := Lib.hid hq
  have hplt := h.rlt
  clear h hq hs hl
  go_enter Tryz.func67, Tryz.ntmps67
  go_upto_region 3 with (go_at_call 63; (with_reducible refine CS.out.mono ?_); rintro e w1 ⟨rfl, hR, hG⟩; have HR := Lib.hid hR; have HG := Lib.hid hG; clear hR hG)
  go_upto_region 4 with fail
  have IB0 := Lib.hid (Lib.fresh_isBuilder bdT 5 w1)
  have hb0 : Below w1.heap.size w1 (w1.alloc (.cells #[.pointer none, .slice none 0 0] bdT)) := below_box w1 _
  have HB0 := Lib.hid hb0
  have hpl1 : pr < w1.heap.size := HR.out.rlt
  obtain ⟨S, hS⟩ : ∃ S, strB l1 = S := ⟨_, rfl⟩
  have hsz : S.size = l1.length := by rw [← hS, strB_size]
  have hszI : (S.size : Int) = (l1.length : Int) := by rw [hsz]
  have HSX : Hid (∀ (i : Nat) (hi : i < S.size) x, l1[i]? = some x → S[i]'hi = x) := Lib.hid (fun i hi x hx => by
    subst hS
    have h1 : l1[i]? = some ((strB l1)[i]'hi) := Lib.data_getElem? (strB l1) i hi
    rw [hx] at h1
    exact (Option.some.inj h1).symm)
  have HR1 : Hid (∀ W, Below w1.heap.size w1 W → W.cell? ⟨pr, 1, none⟩ = some (.string S)) := Lib.hid (fun W hb => by rw [← hS]; exact (HR.out.keep hb).r1)
  have HRF : Hid (∀ W, Below w1.heap.size w1 W → W.frozen? ⟨pr, 1, none⟩ = false) := Lib.hid (fun W hb => (HR.out.keep hb).rf 1)
  have HDR : Hid (∀ k, S.extract k l1.length = strB (l1.drop k)) := Lib.hid (fun k => by rw [← hS]; have := strB_from l1 k; rwa [strB_size] at this)
  clear hS hb0
  obtain ⟨w2, hw2⟩ : ∃ w2, w1.alloc (.cells #[.pointer none, .slice none 0 0] bdT) = w2 := ⟨_, rfl⟩
  obtain ⟨bb, hbb⟩ : ∃ bb, w1.heap.size = bb := ⟨_, rfl⟩
  rw [hw2] at IB0 HB0 ⊢
  rw [hbb] at IB0 HB0 HR1 HRF hpl1 ⊢
  have HBB := Lib.hid hbb
  clear hw2 hbb
  go_wp2
  go_loopw [5] (fun iv wr => ∃ (i : Nat) (acc : BL), iv = .int .i64 i ∧ acc.length ≤ i ∧ Hid (Lib.IsBuilder bdT 5 bb bb (Lib.byteCells acc) wr) ∧ Hid (Below bb w1 wr) ∧ Hid (qM acc (l1.drop i) = some (s, l2))) (fun iv _ => l1.length - (intOf iv).toNat)
  case atStart => exact ⟨0, [], rfl, Nat.le_refl _, IB0, HB0, HQ⟩
  case round =>
    obtain ⟨i, acc, rfl, hai, IB, HB, HQI⟩ := hrel
    obtain ⟨x, hx, hdr⟩ := qM_cons HQI.out
    have hil : i < l1.length := (List.getElem?_eq_some_iff.1 hx).1
    have hiS : i < S.size := by omega
    have hiz : (i : Int) < (S.size : Int) := by omega
    have hi64 : (i : Int) + 2 ≤ 9223372036854775807 := by omega
    have hxs := HSX.out i hiS x hx
    have r1 := HR1.out _ HB.out
    have rf := HRF.out _ HB.out
    have hBw : bb ≤ wr.heap.size := by have := HB.out.size; have := HBB.out; omega
    have HQJ := Lib.hid (show qM acc (x :: l1.drop (i + 1)) = some (s, l2) by rw [← hdr]; exact HQI.out)
    have HX := Lib.hid hx
    clear hx hdr
    by_cases h34 : x = 34
    · have e34 : ((x.toNat : Int) == 34) = true := by rw [h34]; rfl
      have hqe := HQJ.out
      rw [h34, qM_34] at hqe
      have hqe := Option.some.inj hqe
      injection hqe with hs2 hl2
      have HE := Lib.hid (show acc = s ∧ l1.drop (i + 1) = l2 from ⟨hs2, hl2⟩)
      have CB : Hid (∀ u, Calls Tryz.prog 83 #[.pointer (some ⟨bb, 0, none⟩)] (wr.setCell ⟨pr, 1, none⟩ u) fun e w' => e = .returned (.string (strB acc)) ∧ Below bb (wr.setCell ⟨pr, 1, none⟩ u) w') := Lib.hid (fun u => bString_any bb bb acc _ (builder_far IB.out hpl1 1 u) (by simpa [World.setCell] using hBw))
      clear hs2 hl2 h34 hqe
      go_wp2_with (go_at_call 83; (with_reducible refine (CB.out _).mono ?_); rintro e w3 ⟨rfl, hb⟩; have HB3 := Lib.hid hb; clear hb)
      go_ret2
      refine ⟨?_, ?_, ?_⟩
      · show Ending.returned (Value.tuple #[Value.string (strB acc), Value.bool true]) = _
        rw [HE.out.1]
      · have hb := HB3.out
        rw [HDR.out, HE.out.2] at hb
        have hb2 := (below_both HB.out ⟨pr, 1, none⟩ (.string (strB l2))).trans hb
        exact (HR.out.rest l2).keep (by rw [show (w1.setCell ⟨pr, 1, none⟩ (.string (strB l2))).heap.size = bb by simpa [World.setCell] using HBB.out]; exact hb2)
      · have hb := HB3.out
        rw [HDR.out, HE.out.2] at hb
        have hb2 := (below_both HB.out ⟨pr, 1, none⟩ (.string (strB l2))).trans hb
        exact (HG.out.rest 1 _).trans (Gone.of_below (by rw [show (w1.setCell ⟨pr, 1, none⟩ (.string (strB l2))).heap.size = bb by simpa [World.setCell] using HBB.out]; exact hb2))
    · have e34 : ((x.toNat : Int) == 34) = false := beq_eq_false_iff_ne.2 (fun e => h34 (by
        have e : x.toNat = 34 := by omega
        exact UInt8.toNat_inj.1 e))
      have hacl : acc.length + 1 ≤ 140737488355328 := by omega
      by_cases h92 : x = 92
      · have e92 : ((x.toNat : Int) == 92) = true := by rw [h92]; rfl
        obtain ⟨c, hc, hc2, HQ2⟩ : ∃ c, l1[i + 1]? = some c ∧ (c = 34 ∨ c = 92) ∧ Hid (qM (acc ++ [c]) (l1.drop (i + 2)) = some (s, l2)) := by
          have hq := HQJ.out
          rw [h92] at hq
          rcases Nat.lt_or_ge (i + 1) l1.length with hi | hi
          · rw [List.drop_eq_getElem_cons hi, qM_92] at hq
            by_cases hc : l1[i + 1] = 34 ∨ l1[i + 1] = 92
            · rw [if_pos hc] at hq
              exact ⟨l1[i + 1], List.getElem?_eq_getElem hi, hc, Lib.hid hq⟩
            · rw [if_neg hc] at hq
              cases hq
          · rw [List.drop_eq_nil_of_le hi, qM_92nil] at hq
            cases hq
        have hi1 : i + 1 < l1.length := (List.getElem?_eq_some_iff.1 hc).1
        have hiS1 : i + 1 < S.size := by omega
        have hcs := HSX.out (i + 1) hiS1 c hc
        have hne1 : ((i : Int) + 1 == (l1.length : Int)) = false := beq_eq_false_iff_ne.2 (by omega)
        have CB : Hid (Calls Tryz.prog 84 #[.pointer (some ⟨bb, 0, none⟩), .int .u8 (c.toNat : Int)] wr fun e w' => e = .returned .nilIface ∧ Lib.IsBuilder bdT 5 bb bb (Lib.byteCells (acc ++ [c])) w' ∧ Below bb wr w') := Lib.hid ((bWriteByte_any bb bb (Lib.byteCells acc) (c.toNat : Int) wr IB.out (by rw [Lib.byteCells_length]; exact hacl) hBw).mono (fun e w' ⟨h1, h2, h3⟩ => ⟨h1, .inr (by rwa [byteCells_add] at h2), h3⟩))
        have HRND : Hid (∀ w', Lib.IsBuilder bdT 5 bb bb (Lib.byteCells (acc ++ [c])) w' → Below bb wr w' → ∃ (i' : Nat) (acc' : BL), Value.int .i64 ((i : Int) + 1 + 1) = .int .i64 i' ∧ acc'.length ≤ i' ∧ Hid (Lib.IsBuilder bdT 5 bb bb (Lib.byteCells acc') w') ∧ Hid (Below bb w1 w') ∧ Hid (qM acc' (l1.drop i') = some (s, l2))) := Lib.hid (fun w' h1 h2 => ⟨i + 2, acc ++ [c], by congr 1, by simp; omega, Lib.hid h1, Lib.hid (HB.out.trans h2), HQ2⟩)
        clear h34 h92 hc hacl
        rcases hc2 with hc2 | hc2
        · have f34 : ((c.toNat : Int) != 34) = false := by rw [hc2]; rfl
          clear hc2
          go_wp2_with (go_at_call 84; (with_reducible refine CB.out.mono ?_); rintro e w3 ⟨rfl, hib, hb⟩; have HN := Lib.hid (HRND.out _ hib hb); clear hib hb)
          go_roundw
          case rel => exact HN.out
          case measure => simp [intOf]; omega
        · have f34 : ((c.toNat : Int) != 34) = true := by rw [hc2]; rfl
          have f92 : ((c.toNat : Int) != 92) = false := by rw [hc2]; rfl
          clear hc2
          go_wp2_with (go_at_call 84; (with_reducible refine CB.out.mono ?_); rintro e w3 ⟨rfl, hib, hb⟩; have HN := Lib.hid (HRND.out _ hib hb); clear hib hb)
          go_roundw
          case rel => exact HN.out
          case measure => simp [intOf]; omega
      · have e92 : ((x.toNat : Int) == 92) = false := beq_eq_false_iff_ne.2 (fun e => h92 (by
          have e : x.toNat = 92 := by omega
          exact UInt8.toNat_inj.1 e))
        have HQ2 := HQJ.out
        rw [qM_other h34 h92] at HQ2
        have HQ2 := Lib.hid HQ2
        have CB : Hid (Calls Tryz.prog 84 #[.pointer (some ⟨bb, 0, none⟩), .int .u8 (x.toNat : Int)] wr fun e w' => e = .returned .nilIface ∧ Lib.IsBuilder bdT 5 bb bb (Lib.byteCells (acc ++ [x])) w' ∧ Below bb wr w') := Lib.hid ((bWriteByte_any bb bb (Lib.byteCells acc) (x.toNat : Int) wr IB.out (by rw [Lib.byteCells_length]; exact hacl) hBw).mono (fun e w' ⟨h1, h2, h3⟩ => ⟨h1, .inr (by rwa [byteCells_add] at h2), h3⟩))
        have HRND : Hid (∀ w', Lib.IsBuilder bdT 5 bb bb (Lib.byteCells (acc ++ [x])) w' → Below bb wr w' → ∃ (i' : Nat) (acc' : BL), Value.int .i64 ((i : Int) + 1) = .int .i64 i' ∧ acc'.length ≤ i' ∧ Hid (Lib.IsBuilder bdT 5 bb bb (Lib.byteCells acc') w') ∧ Hid (Below bb w1 w') ∧ Hid (qM acc' (l1.drop i') = some (s, l2))) := Lib.hid (fun w' h1 h2 => ⟨i + 1, acc ++ [x], by congr 1, by simp; omega, Lib.hid h1, Lib.hid (HB.out.trans h2), HQ2⟩)
        clear h34 h92 hacl
        go_wp2_with (go_at_call 84; (with_reducible refine CB.out.mono ?_); rintro e w3 ⟨rfl, hib, hb⟩; have HN := Lib.hid (HRND.out _ hib hb); clear hib hb)
        go_roundw
        case rel => exact HN.out
        case measure => simp [intOf]; omega
end
end Go.Proofs.YtnjoimedilonnaaGreat
