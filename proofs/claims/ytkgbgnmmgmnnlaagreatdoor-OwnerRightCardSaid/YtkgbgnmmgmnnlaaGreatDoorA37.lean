/- Texts joined in build order: MoveChange. -/
import Derived.Test.YtkgbgnmmgmnnlaaGreatDoorA35
import Derived.Test.YtkgbgnmmgmnnlaaGreatDoorA15
namespace Go.Proofs.YtkgbgnmmgmnnlaaGreatDoor
open Go.RowKit
theorem step_wp2 {P : Program} {ops : Array Oper} {o : Oper} {a : Act} {w : World} {K : Act → World → Prop} {Q : Exit → Act → World → Prop} {E : Prop} (hg : o.guard = none) (h : Oper.wp P o a w K Q) : if Region.wanted o (yielded ops a.tmps) = true then Oper.wp P o a w K Q else E := by
  have hw : Region.wanted o (yielded ops a.tmps) = true := by simp [Region.wanted, hg]
  rw [if_pos hw]
  exact h
def chgN (n : Int) (s : List UInt8) (old new : AL) : NoteD := ⟨4, n, 0, 0, ofL (smallL s), hasA old s, hasA new s, valA old s, valA new s⟩
theorem val_small {W : World} {a : Option Addr} {n c : Nat} {l : AL} (h : AttrRow W a n c l) (s : List UInt8) : (valA l s).size ≤ maxLen := by
  unfold valA
  split
  · next hh =>
    unfold hasA at hh
    rw [Bool.and_eq_true, decide_eq_true_eq] at hh
    rw [List.getElem?_eq_getElem hh.2]
    exact (h.small _ (List.getElem_mem hh.2)).2
  · rw [size_ofL]
    exact Nat.zero_le _
section
variable {ρ : Nat → Nat} {pw g cap len : Nat} {m : Int} {M : List NodeD} {v : Value} {N : List NoteD}
set_option maxHeartbeats 8000000 in
set_option maxRecDepth 100000 in
theorem mchange_any (w : World) (h : Wk ρ w pw g cap len m M v N) (n : Nat) (hn : n < len) (hl1k : len ≤ 1000) (x : NodeD) (hx : M[n]? = some x) (s : ByteArray) (hs : s.size ≤ maxLen) (al : Option Addr) (ln lc : Nat) (l : AL) (hl : AttrRow w al ln lc l) (har : ∀ b off, al = some ⟨b, off, none⟩ → 0 < ln → ρ b = 0 ∧ g < b) (hN : N.length ≤ 100000000) :
    Calls Tryz.prog 53 #[workV pw, .int .i64 n, .string s, .slice al ln lc] w (WkPost ρ w pw g cap len m fun M' N' => M' = M.set n (withA x al ln lc l) ∧ N' = N ++ [chgN n s.toList x.core.attrs l]) := by
  have hm := List.mem_of_getElem? hx
  have CG1 : Hid (∀ W, Below w.heap.size w W → Calls Tryz.prog 20 #[.slice x.aA x.aN x.aC, .string s] W fun e w' => e = .returned (.tuple #[.string (valA x.core.attrs s.toList), .bool (hasA x.core.attrs s.toList)]) ∧ Below W.heap.size W w') := Lib.hid (fun W hb => attrget_any _ _ _ _ s W ((h.aok x hm).below hb) hs)
  have CG2 : Hid (∀ W, Below w.heap.size w W → Calls Tryz.prog 20 #[.slice al ln lc, .string s] W fun e w' => e = .returned (.tuple #[.string (valA l s.toList), .bool (hasA l s.toList)]) ∧ Below W.heap.size W w') := Lib.hid (fun W hb => attrget_any _ _ _ _ s W (hl.below hb) hs)
  have CSM : Hid (∀ W, Calls Tryz.prog 84 #[.string s] W fun e w' => e = .returned (.string (ofL (smallL s.toList))) ∧ Below W.heap.size W w') := Lib.hid (fun W => small_any s W hs)
  obtain ⟨xq, hxq⟩ : ∃ xq, chgN n s.toList x.core.attrs l = xq := ⟨_, rfl⟩
  have OKQ : Hid (NoteOk xq) := Lib.hid (by
    rw [← hxq]
    refine ⟨⟨by show (-9223372036854775808 : Int) ≤ 4; decide, by show (4 : Int) ≤ _; decide⟩, in64_nat (by omega), mv0, mv0, ?_, val_small (h.aok x hm) _, val_small hl _⟩
    show (ofL (smallL s.toList)).size ≤ maxLen
    rw [size_ofL, smallL_length, tl_len]
    exact hs)
  have HV1 : Hid (valA x.core.attrs s.toList = xq.old) := Lib.hid (by rw [← hxq]; rfl)
  have HV2 : Hid (hasA x.core.attrs s.toList = xq.had) := Lib.hid (by rw [← hxq]; rfl)
  have HV3 : Hid (valA l s.toList = xq.new) := Lib.hid (by rw [← hxq]; rfl)
  have HV4 : Hid (hasA l s.toList = xq.has) := Lib.hid (by rw [← hxq]; rfl)
  have HV5 : Hid (ofL (smallL s.toList) = xq.name) := Lib.hid (by rw [← hxq]; rfl)
  have HVE : Hid (xq = ⟨4, (n : Int), 0, 0, xq.name, xq.had, xq.has, xq.old, xq.new⟩) := Lib.hid (by rw [← hxq]; rfl)
  rw [HV1.out, HV2.out] at CG1
  rw [HV3.out, HV4.out] at CG2
  rw [HV5.out] at CSM
  have HW := Lib.hid h
  have HX := Lib.hid hx
  have HLR := Lib.hid hl
  have HAR := Lib.hid har
  have HN := Lib.hid hN
  obtain ⟨w0, hw0, W0, HBX, HBZ⟩ : ∃ w0, w.alloc (wkB pw) = w0 ∧ Hid (Wk ρ w0 pw g cap len m M v N) ∧ Hid (Below w.heap.size w w0) ∧ Hid (w0.cell? ⟨w.heap.size, 0, none⟩ = some (ptrV pw) ∧ w.heap.size < w0.heap.size) := ⟨_, rfl, Lib.hid (h.keep (below_box _ _)), Lib.hid (below_box _ _), Lib.hid ⟨cell_box, by simp⟩⟩
  have HW0 := Lib.hid hw0
  have HRB : Hid (ρ w.heap.size = 0) := Lib.hid (h.fresh _ (Nat.le_refl _))
  have ZW : Hid (∀ W, Turn ρ w0 W → W.cell? ⟨w.heap.size, 0, none⟩ = some (ptrV pw)) := Lib.hid (fun W T => (T.cell HBZ.out.2 HRB.out).trans HBZ.out.1)
  have p0 := W0.out.c0
  have x4 := (W0.out.at_ hx).c4
  have zw := HBZ.out.1
  have hl64 : (len : Int) ≤ 9223372036854775807 := by omega
  obtain ⟨i0, hi0, hq0, hq1, hq2⟩ := info_parts note_info
  have hno : xq.old.size ≤ 9223372036854775807 := by have := OKQ.out.old; unfold maxLen at this; omega
  rw [hxq]
  clear h hx hl har hxq hm hw0 HV1 HV2 HV3 HV4 HV5
  go_enter Tryz.func53, Tryz.ntmps53
  go_upto_region 1 with fail
  rw [HW0.out]
  have HB0 := Lib.hid (Below.refl w0.heap.size w0)
  go_upto_region 3 with (go_at_call 20; (first | (with_reducible refine (CG1.out _ (HBX.out.trans (HB0.out.mono HBX.out.size))).mono ?_) | (with_reducible refine (CG2.out _ (HBX.out.trans (HB0.out.mono HBX.out.size))).mono ?_)); rintro e w1 ⟨rfl, hb⟩; have HB0 := Lib.hid (HB0.out.trans (hb.mono HB0.out.size)); clear hb)
  have W1 := Lib.hid (W0.out.keep HB0.out)
  have HBW := Lib.hid (HBX.out.trans (HB0.out.mono HBX.out.size))
  have zw := ZW.out _ (Turn.of_below HB0.out)
  have p0 := W1.out.c0
  have x4 := (W1.out.at_ HX.out).c4
  have f4 := W1.out.gfree (n * 10 + 4)
  go_upto_region 4 with fail
  have WB := Lib.hid (W1.out.setA HX.out (HLR.out.below HBW.out) (fun b off e hp => ⟨(HAR.out b off e hp).1, g, by rw [W1.out.grole]; decide, (HAR.out b off e hp).2⟩))
  have TB : Hid (Turn ρ w0 (w1.setCell ⟨g, n * 10 + 4, none⟩ (.slice al ln lc))) := Lib.hid ((Turn.of_below HB0.out).setCell (.inr (by rw [W1.out.grole]; decide)) _ _)
  obtain ⟨wb, hwb⟩ : ∃ wb, w1.setCell ⟨g, n * 10 + 4, none⟩ (.slice al ln lc) = wb := ⟨_, rfl⟩
  rw [hwb] at WB TB ⊢
  have OKR : Hid (NoteOk ⟨4, (n : Int), 0, 0, xq.name, xq.had, xq.has, xq.old, xq.new⟩) := Lib.hid (by rw [← HVE.out]; exact OKQ.out)
  clear hwb p0 x4 f4 zw
  have p2 := WB.out.c2
  have zw := ZW.out _ TB.out
  have ALB : Hid (∀ o : Obj, Below wb.heap.size wb (wb.alloc o).drew) := Lib.hid (fun o => ((Below.refl _ _).alloc (Nat.le_refl _) o).drew)
  go_region_law (first
    | (refine step_wp2 rfl ?_; (go_simp; go_at_call 84; (refine (CSM.out _).mono ?_); rintro e w5 ⟨rfl, hb⟩; have HB5 := Lib.hid ((Below.refl wb.heap.size wb).drew.trans hb); have W5 := Lib.hid (WB.out.keep HB5.out); have p2 := W5.out.c2; have zw := ZW.out _ (TB.out.keep HB5.out); have AL : Hid (∀ o : Obj, Below w5.heap.size w5 (w5.alloc o)) := (Lib.hid (fun o => (Below.refl _ _).alloc (Nat.le_refl _) o)); have p2a := fun o => (W5.out.keep (AL.out o)).c2; have zwa := fun o => ZW.out _ ((TB.out.keep HB5.out).keep (AL.out o)); clear hb))
    | (refine step_append_rows rfl (.tmp 49) (.tmp 58) 43 rfl 49 i0 _ 9 88 Tryz.underlying43 hi0 hq0 hq1 hq2 rfl (by decide) 0 v N.length N [⟨4, (n : Int), 0, 0, xq.name, xq.had, xq.has, xq.old, xq.new⟩] rfl (own_below W5.out.nown (AL.out _)) _ 1 1 rfl (note_one w5 ⟨4, (n : Int), 0, 0, xq.name, xq.had, xq.has, xq.old, xq.new⟩) (fun x _ => encO_one x) (by have := HN.out; unfold maxLen; omega) (by have := HN.out; omega) (Nat.zero_le _) (fun h => by cases h) ?_; intro v6 w6 hown6 hg6 hat6; obtain ⟨g6, cap6, rfl⟩ := own_some hown6 (Nat.succ_pos _); have WA := Lib.hid (W5.out.keep (AL.out (noteB ⟨4, (n : Int), 0, 0, xq.name, xq.had, xq.has, xq.old, xq.new⟩))); have HO6 := Lib.hid hown6; have HG6 := Lib.hid hg6; have HT6 := Lib.hid hat6; have c2 := (World.cell?_of_block (a := ⟨pw, 2, none⟩) (hg6.block pw WA.out.plt (fun e => by have h1 := WA.out.nrole pw e.symm; have h2 := WA.out.prole; omega))).trans WA.out.c2; have f2 := (World.frozen?_of_block (a := ⟨pw, 2, none⟩) (hg6.block pw WA.out.plt (fun e => by have h1 := WA.out.nrole pw e.symm; have h2 := WA.out.prole; omega))).trans (WA.out.pfree 2); have zw6 := ZW.out _ (((TB.out.keep HB5.out).keep (AL.out (noteB ⟨4, (n : Int), 0, 0, xq.name, xq.had, xq.has, xq.old, xq.new⟩))).grown hg6 (fun b e => .inr (by rw [WA.out.nrole b e]; decide))); clear hown6 hg6 hat6))
  all_goals go_wp2
  all_goals
    have hb : ∀ b, Value.ownBlock (.slice (some ⟨g6, 0, none⟩) (N.length + 1) cap6) = some b → v.ownBlock = some b ∨ (w5.alloc (noteB ⟨4, (n : Int), 0, 0, xq.name, xq.had, xq.has, xq.old, xq.new⟩)).heap.size ≤ b := fun b e => by
      rcases HT6.out with h1 | h1
      · exact .inl (h1.symm.trans e)
      · have h2 : some (w5.alloc (noteB ⟨4, (n : Int), 0, 0, xq.name, xq.had, xq.has, xq.old, xq.new⟩)).heap.size = some b := h1.symm.trans e
        injection h2 with h2
        exact .inr (by omega)
    have W9 := WA.out.note OKR.out HG6.out HO6.out hb
    have hs5 : wb.heap.size ≤ (w5.alloc (noteB ⟨4, (n : Int), 0, 0, xq.name, xq.had, xq.has, xq.old, xq.new⟩)).heap.size := Nat.le_trans HB5.out.size (AL.out _).size
    have hsw : w.heap.size ≤ wb.heap.size := Nat.le_trans HBX.out.size TB.out.size
    refine bodyPost_ret (v := .tuple #[]) (by simp [results, Tryz.results53]) rfl ⟨rfl, _, _, _, _, W9, ?_, upd_old (fun b e => (hb b e).imp (WA.out.nrole b) (fun h => Nat.le_trans (Nat.le_trans hsw hs5) h)), rfl, by rw [HVE.out]⟩
    exact (chain_turn (ρk := ρ) (Turn.of_below (ρ := ρ) HBX.out) (fun _ _ => rfl) ((((TB.out.keep HB5.out).keep (AL.out _)).grown HG6.out (fun b e => .inr (by rw [WA.out.nrole b e]; decide))).setCell (.inr (by rw [WA.out.prole]; decide)) _ _) (fun _ _ => rfl)).1
end
end Go.Proofs.YtkgbgnmmgmnnlaaGreatDoor
