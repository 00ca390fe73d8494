/- Texts joined in build order: MoveChange MoveSet. -/
import Derived.Test.YtclledmgiliggaaGreatDoorP33
import Derived.Test.YtclledmgiliggaaGreatDoorP20
namespace Go.Proofs.YtclledmgiliggaaGreatDoor
open Go.RowKit
theorem step_wp2 {P : Program} {ops : Array Oper} {o : Oper} {a : Act} {w : World} {K : Act → World → Prop} {Q : Exit → Act → World → Prop} {E : Prop} (hg : o.guard = none) (h : Oper.wp P o a w K Q) : if Region.wanted o (yielded ops a.tmps) = true then Oper.wp P o a w K Q else E := by
  have hw : Region.wanted o (yielded ops a.tmps) = true := by simp [Region.wanted, hg]
  rw [if_pos hw]
  exact h
def chgN (n : Int) (s : List UInt8) (old new : AL) : NoteD := ⟨4, n, 0, 0, ofL (smallL s), hasA old s, hasA new s, valA old s, valA new s⟩
theorem val_small {W : World} {a : Option Addr} {n c : Nat} {l : AL} (h : AttrRow W a n c l) (s : List UInt8) : (valA l s).size ≤ maxLen := by
  unfold valA
  split
  · next hh =>
    unfold hasA at hh
    rw [Bool.and_eq_true, decide_eq_true_eq] at hh
    rw [List.getElem?_eq_getElem hh.2]
    exact (h.small _ (List.getElem_mem hh.2)).2
  · rw [size_ofL]
    exact Nat.zero_le _
section
variable {ρ : Nat → Nat} {pw g cap len : Nat} {m : Int} {M : List NodeD} {v : Value} {N : List NoteD}
set_option maxHeartbeats 8000000 in
set_option maxRecDepth 100000 in
theorem mchange_any (w : World) (h : Wk ρ w pw g cap len m M v N) (n : Nat) (hn : n < len) (hl1k : len ≤ 1000) (x : NodeD) (hx : M[n]? = some x) (s : ByteArray) (hs : s.size ≤ maxLen) (al : Option Addr) (ln lc : Nat) (l : AL) (hl : AttrRow w al ln lc l) (har : ∀ b off, al = some ⟨b, off, none⟩ → 0 < ln → ρ b = 0 ∧ g < b) (hN : N.length ≤ 100000000) :
    Calls Tryz.prog 66 #[workV pw, .int .i64 n, .string s, .slice al ln lc] w (WkPost ρ w pw g cap len m fun M' N' => M' = M.set n (withA x al ln lc l) ∧ N' = N ++ [chgN n s.toList x.core.attrs l]) := by
  have hm := List.mem_of_getElem? hx
  have CG1 : Hid (∀ W, Below w.heap.size w W → Calls Tryz.prog 120 #[.slice x.aA x.aN x.aC, .string s] W fun e w' => e = .returned (.tuple #[.string (valA x.core.attrs s.toList), .bool (hasA x.core.attrs s.toList)]) ∧ Below W.heap.size W w') := Lib.hid (fun W hb => attrget_any _ _ _ _ s W ((h.aok x hm).below hb) hs)
  have CG2 : Hid (∀ W, Below w.heap.size w W → Calls Tryz.prog 120 #[.slice al ln lc, .string s] W fun e w' => e = .returned (.tuple #[.string (valA l s.toList), .bool (hasA l s.toList)]) ∧ Below W.heap.size W w') := Lib.hid (fun W hb => attrget_any _ _ _ _ s W (hl.below hb) hs)
  have CSM : Hid (∀ W, Calls Tryz.prog 121 #[.string s] W fun e w' => e = .returned (.string (ofL (smallL s.toList))) ∧ Below W.heap.size W w') := Lib.hid (fun W => small_any s W hs)
  obtain ⟨xq, hxq⟩ : ∃ xq, chgN n s.toList x.core.attrs l = xq := ⟨_, rfl⟩
  have OKQ : Hid (NoteOk xq) := Lib.hid (by
    rw [← hxq]
    refine ⟨⟨by show (-9223372036854775808 : Int) ≤ 4; decide, by show (4 : Int) ≤ _; decide⟩, in64_nat (by omega), mv0, mv0, ?_, val_small (h.aok x hm) _, val_small hl _⟩
    show (ofL (smallL s.toList)).size ≤ maxLen
    rw [size_ofL, smallL_length, tl_len]
    exact hs)
  have HV1 : Hid (valA x.core.attrs s.toList = xq.old) := Lib.hid (by rw [← hxq]; rfl)
  have HV2 : Hid (hasA x.core.attrs s.toList = xq.had) := Lib.hid (by rw [← hxq]; rfl)
  have HV3 : Hid (valA l s.toList = xq.new) := Lib.hid (by rw [← hxq]; rfl)
  have HV4 : Hid (hasA l s.toList = xq.has) := Lib.hid (by rw [← hxq]; rfl)
  have HV5 : Hid (ofL (smallL s.toList) = xq.name) := Lib.hid (by rw [← hxq]; rfl)
  have HVE : Hid (xq = ⟨4, (n : Int), 0, 0, xq.name, xq.had, xq.has, xq.old, xq.new⟩) := Lib.hid (by rw [← hxq]; rfl)
  rw [HV1.out, HV2.out] at CG1
  rw [HV3.out, HV4.out] at CG2
  rw [HV5.out] at CSM
  have HW := Lib.hid h
  have HX := Lib.hid hx
  have HLR := Lib.hid hl
  have HAR := Lib.hid har
  have HN := Lib.hid hN
  obtain ⟨w0, hw0, W0, HBX, HBZ⟩ : ∃ w0, w.alloc (wkB pw) = w0 ∧ Hid (Wk ρ w0 pw g cap len m M v N) ∧ Hid (Below w.heap.size w w0) ∧ Hid (w0.cell? ⟨w.heap.size, 0, none⟩ = some (ptrV pw) ∧ w.heap.size < w0.heap.size) := ⟨_, rfl, Lib.hid (h.keep (below_box _ _)), Lib.hid (below_box _ _), Lib.hid ⟨cell_box, by simp⟩⟩
  have HW0 := Lib.hid hw0
  have HRB : Hid (ρ w.heap.size = 0) := Lib.hid (h.fresh _ (Nat.le_refl _))
  have ZW : Hid (∀ W, Turn ρ w0 W → W.cell? ⟨w.heap.size, 0, none⟩ = some (ptrV pw)) := Lib.hid (fun W T => (T.cell HBZ.out.2 HRB.out).trans HBZ.out.1)
  have p0 := W0.out.c0
  have x4 := (W0.out.at_ hx).c4
  have zw := HBZ.out.1
  have hl64 : (len : Int) ≤ 9223372036854775807 := by omega
  obtain ⟨i0, hi0, hq0, hq1, hq2⟩ := info_parts note_info
  have hno : xq.old.size ≤ 9223372036854775807 := by have := OKQ.out.old; unfold maxLen at this; omega
  rw [hxq]
  clear h hx hl har hxq hm hw0 HV1 HV2 HV3 HV4 HV5
  go_enter Tryz.func66, Tryz.ntmps66
  go_upto_region 1 with fail
  rw [HW0.out]
  have HB0 := Lib.hid (Below.refl w0.heap.size w0)
  go_upto_region 3 with (go_at_call 120; (first | (with_reducible refine (CG1.out _ (HBX.out.trans (HB0.out.mono HBX.out.size))).mono ?_) | (with_reducible refine (CG2.out _ (HBX.out.trans (HB0.out.mono HBX.out.size))).mono ?_)); rintro e w1 ⟨rfl, hb⟩; have HB0 := Lib.hid (HB0.out.trans (hb.mono HB0.out.size)); clear hb)
  have W1 := Lib.hid (W0.out.keep HB0.out)
  have HBW := Lib.hid (HBX.out.trans (HB0.out.mono HBX.out.size))
  have zw := ZW.out _ (Turn.of_below HB0.out)
  have p0 := W1.out.c0
  have x4 := (W1.out.at_ HX.out).c4
  have f4 := W1.out.gfree (n * 10 + 4)
  go_upto_region 4 with fail
  have WB := Lib.hid (W1.out.setA HX.out (HLR.out.below HBW.out) HAR.out)
  have TB : Hid (Turn ρ w0 (w1.setCell ⟨g, n * 10 + 4, none⟩ (.slice al ln lc))) := Lib.hid ((Turn.of_below HB0.out).setCell (.inr (by rw [W1.out.grole]; decide)) _ _)
  obtain ⟨wb, hwb⟩ : ∃ wb, w1.setCell ⟨g, n * 10 + 4, none⟩ (.slice al ln lc) = wb := ⟨_, rfl⟩
  rw [hwb] at WB TB ⊢
  have OKR : Hid (NoteOk ⟨4, (n : Int), 0, 0, xq.name, xq.had, xq.has, xq.old, xq.new⟩) := Lib.hid (by rw [← HVE.out]; exact OKQ.out)
  clear hwb p0 x4 f4 zw
  have p2 := WB.out.c2
  have zw := ZW.out _ TB.out
  have ALB : Hid (∀ o : Obj, Below wb.heap.size wb (wb.alloc o).drew) := Lib.hid (fun o => ((Below.refl _ _).alloc (Nat.le_refl _) o).drew)
  go_region_law (first
    | (refine step_wp2 rfl ?_; (go_simp; go_at_call 121; (refine (CSM.out _).mono ?_); rintro e w5 ⟨rfl, hb⟩; have HB5 := Lib.hid ((Below.refl wb.heap.size wb).drew.trans hb); have W5 := Lib.hid (WB.out.keep HB5.out); have p2 := W5.out.c2; have zw := ZW.out _ (TB.out.keep HB5.out); have AL : Hid (∀ o : Obj, Below w5.heap.size w5 (w5.alloc o)) := (Lib.hid (fun o => (Below.refl _ _).alloc (Nat.le_refl _) o)); have p2a := fun o => (W5.out.keep (AL.out o)).c2; have zwa := fun o => ZW.out _ ((TB.out.keep HB5.out).keep (AL.out o)); clear hb))
    | (refine step_append_rows rfl (.tmp 49) (.tmp 58) 27 rfl 53 i0 _ 9 88 Tryz.underlying27 hi0 hq0 hq1 hq2 rfl (by decide) 0 v N.length N [⟨4, (n : Int), 0, 0, xq.name, xq.had, xq.has, xq.old, xq.new⟩] rfl (own_below W5.out.nown (AL.out _)) _ 1 1 rfl (note_one w5 ⟨4, (n : Int), 0, 0, xq.name, xq.had, xq.has, xq.old, xq.new⟩) (fun x _ => encO_one x) (by have := HN.out; unfold maxLen; omega) (by have := HN.out; omega) (Nat.zero_le _) (fun h => by cases h) ?_; intro v6 w6 hown6 hg6 hat6; obtain ⟨g6, cap6, rfl⟩ := own_some hown6 (Nat.succ_pos _); have WA := Lib.hid (W5.out.keep (AL.out (noteB ⟨4, (n : Int), 0, 0, xq.name, xq.had, xq.has, xq.old, xq.new⟩))); have HO6 := Lib.hid hown6; have HG6 := Lib.hid hg6; have HT6 := Lib.hid hat6; have c2 := (World.cell?_of_block (a := ⟨pw, 2, none⟩) (hg6.block pw WA.out.plt (fun e => by have h1 := WA.out.nrole pw e.symm; have h2 := WA.out.prole; omega))).trans WA.out.c2; have f2 := (World.frozen?_of_block (a := ⟨pw, 2, none⟩) (hg6.block pw WA.out.plt (fun e => by have h1 := WA.out.nrole pw e.symm; have h2 := WA.out.prole; omega))).trans (WA.out.pfree 2); have zw6 := ZW.out _ (((TB.out.keep HB5.out).keep (AL.out (noteB ⟨4, (n : Int), 0, 0, xq.name, xq.had, xq.has, xq.old, xq.new⟩))).grown hg6 (fun b e => .inr (by rw [WA.out.nrole b e]; decide))); clear hown6 hg6 hat6))
  all_goals go_wp2
  all_goals
    have hb : ∀ b, Value.ownBlock (.slice (some ⟨g6, 0, none⟩) (N.length + 1) cap6) = some b → v.ownBlock = some b ∨ (w5.alloc (noteB ⟨4, (n : Int), 0, 0, xq.name, xq.had, xq.has, xq.old, xq.new⟩)).heap.size ≤ b := fun b e => by
      rcases HT6.out with h1 | h1
      · exact .inl (h1.symm.trans e)
      · have h2 : some (w5.alloc (noteB ⟨4, (n : Int), 0, 0, xq.name, xq.had, xq.has, xq.old, xq.new⟩)).heap.size = some b := h1.symm.trans e
        injection h2 with h2
        exact .inr (by omega)
    have W9 := WA.out.note OKR.out HG6.out HO6.out hb
    have hs5 : wb.heap.size ≤ (w5.alloc (noteB ⟨4, (n : Int), 0, 0, xq.name, xq.had, xq.has, xq.old, xq.new⟩)).heap.size := Nat.le_trans HB5.out.size (AL.out _).size
    have hsw : w.heap.size ≤ wb.heap.size := Nat.le_trans HBX.out.size TB.out.size
    refine bodyPost_ret (v := .tuple #[]) (by simp [results, Tryz.results66]) rfl ⟨rfl, _, _, _, _, W9, ?_, upd_old (fun b e => (hb b e).imp (WA.out.nrole b) (fun h => Nat.le_trans (Nat.le_trans hsw hs5) h)), rfl, by rw [HVE.out]⟩
    exact (chain_turn (ρk := ρ) (Turn.of_below (ρ := ρ) HBX.out) (fun _ _ => rfl) ((((TB.out.keep HB5.out).keep (AL.out _)).grown HG6.out (fun b e => .inr (by rw [WA.out.nrole b e]; decide))).setCell (.inr (by rw [WA.out.prole]; decide)) _ _) (fun _ _ => rfl)).1
end
end Go.Proofs.YtclledmgiliggaaGreatDoor
namespace Go.Proofs.YtclledmgiliggaaGreatDoor
open Go.RowKit
def elemE (m : Int) (F : List Core) (n : Int) : Int := if thereF m F n then (if kindK F n = 1 then 0 else 5) else 1
set_option maxHeartbeats 8000000 in
set_option maxRecDepth 100000 in
theorem melem_any (a : Option Addr) (len cap : Nat) (m : Int) (L : List NodeD) (n : Int) (w : World) (h : NodeRow w a len cap L) (hm : In64 m) (hn : In64 n) (hs : smallF L) :
    Calls Tryz.prog 64 #[forV a len cap m, .int .i64 n] w fun e w' => e = .returned (.int .i64 (elemE m (coreL L) n)) ∧ Below w.heap.size w w' := by
  have HCL : Hid ((coreL L).length = len) := Lib.hid (by rw [coreL_len, h.hlen])
  have hlen := h.len64
  have BX := Lib.hid (Box.start (m := m) h)
  obtain ⟨q, hq⟩ : ∃ q, thereF m (coreL L) n = q := ⟨_, rfl⟩
  have CM : Hid (∀ W, NodeRow W a len cap L → Calls Tryz.prog 51 #[forV a len cap m, .int .i64 n] W fun e w' => e = .returned (.bool q) ∧ Below W.heap.size W w') := Lib.hid (fun W h1 => by
    rw [← hq]
    exact mknows_any a len cap m L n W h1 hm hn hs)
  have z0 := BX.out.c0
  have z1 := BX.out.c1
  have HH := Lib.hid h
  clear h hm hn hs
  cases q with
  | false =>
    have HR : Hid (elemE m (coreL L) n = 1) := Lib.hid (by unfold elemE; rw [hq]; rfl)
    clear hq
    go_enter Tryz.func64, Tryz.ntmps64
    go_wp2_with (go_at_call 51; (with_reducible refine (CM.out _ BX.out.row).mono ?_); rintro e w1 ⟨rfl, hb⟩; have BX := Lib.hid (BX.out.keep hb); have z0 := BX.out.c0; have z1 := BX.out.c1; clear hb)
    go_ret
    exact ⟨ret_int HR.out.symm, BX.out.below⟩
  | true =>
    have HQ := Lib.hid hq
    obtain ⟨hr, k, rfl, hk⟩ := there_nat hq
    rw [HCL.out] at hk
    obtain ⟨b, off, x, hab, hb, hx, hat, -⟩ := HH.out.get hk
    subst hab
    have C0 := Lib.hid (stays hat.c0 hb)
    have HK : Hid (elemE m (coreL L) k = if x.core.kind = 1 then 0 else 5) := Lib.hid (by unfold elemE; rw [HQ.out, if_pos rfl, kindK_at (coreL_get hx)])
    clear hat hx hb hq hr
    by_cases h1 : x.core.kind = 1
    · have e1 : (x.core.kind != 1) = false := by rw [h1]; rfl
      have HR : Hid (elemE m (coreL L) k = 0) := Lib.hid (by rw [HK.out, if_pos h1])
      clear h1
      go_enter Tryz.func64, Tryz.ntmps64
      go_wp2_with (go_at_call 51; (with_reducible refine (CM.out _ BX.out.row).mono ?_); rintro e w1 ⟨rfl, hb⟩; have BX := Lib.hid (BX.out.keep hb); have z0 := BX.out.c0; have z1 := BX.out.c1; have c0 := C0.out _ BX.out.below; clear hb)
      go_ret
      exact ⟨ret_int HR.out.symm, BX.out.below⟩
    · have e1 : (x.core.kind != 1) = true := bne_iff_ne.2 h1
      have HR : Hid (elemE m (coreL L) k = 5) := Lib.hid (by rw [HK.out, if_neg h1])
      clear h1
      go_enter Tryz.func64, Tryz.ntmps64
      go_wp2_with (go_at_call 51; (with_reducible refine (CM.out _ BX.out.row).mono ?_); rintro e w1 ⟨rfl, hb⟩; have BX := Lib.hid (BX.out.keep hb); have z0 := BX.out.c0; have z1 := BX.out.c1; have c0 := C0.out _ BX.out.below; clear hb)
      go_ret
      exact ⟨ret_int HR.out.symm, BX.out.below⟩
def attrsK (F : List Core) (n : Int) : AL := match getC F n with | some x => x.attrs | none => []
theorem attrsK_at {F : List Core} {n : Nat} {x : Core} (hx : F[n]? = some x) : attrsK F (n : Int) = x.attrs := by unfold attrsK; rw [getC_nat, hx]
def withAC (c : Core) (l : AL) : Core := ⟨c.kind, c.name, c.is, c.data, l, c.parent, c.kids, c.host, c.under, c.doc⟩
def chgF (F : List Core) (n : Nat) (l : AL) : List Core := match F[n]? with | some c => F.set n (withAC c l) | none => F
theorem core_setA {M : List NodeD} {n : Nat} {x : NodeD} (hx : M[n]? = some x) (a : Option Addr) (ln lc : Nat) (l : AL) : coreL (M.set n (withA x a ln lc l)) = chgF (coreL M) n l := by
  unfold chgF
  rw [coreL_get hx, core_set]
  rfl
theorem small_setA {M : List NodeD} {n : Nat} {x : NodeD} (hs : smallF M) (hx : M[n]? = some x) (a : Option Addr) (ln lc : Nat) (l : AL) (hl : l.length ≤ 1000) : smallF (M.set n (withA x a ln lc l)) := by
  refine ⟨by rw [List.length_set]; exact hs.1, fun z hz => ?_⟩
  have h1 := hs.2 x (List.mem_of_getElem? hx)
  rcases List.mem_or_eq_of_mem_set hz with hz | rfl
  · exact hs.2 z hz
  · exact ⟨h1.1, hl, h1.2.2⟩
def chgZ (F : List Core) (n : Int) (s : List UInt8) (l : AL) : List Core × List NoteD × Int := (chgF F n.toNat l, [chgN n s (attrsK F n) l], 0)
def setZ (m : Int) (F : List Core) (n : Int) (s : List UInt8) (v : ByteArray) : List Core × List NoteD × Int :=
  if elemE m F n = 0 then (if setE (attrsK F n) s v = 0 then chgZ F n s (setA (attrsK F n) s v) else (F, [], setE (attrsK F n) s v)) else (F, [], elemE m F n)
theorem elemE_ok {m : Int} {F : List Core} {n : Int} (h : elemE m F n = 0) : thereF m F n = true ∧ kindK F n = 1 := by
  unfold elemE at h
  split at h
  · next h1 =>
    split at h
    · next h2 => exact ⟨h1, h2⟩
    · cases h
  · cases h
theorem setA_len {L : AL} {s : List UInt8} {v : ByteArray} (h : L.length ≤ 1000) : (setA L s v).length ≤ 1000 := by
  unfold setA
  split
  · next h1 =>
    unfold setE at h1
    split at h1
    · next h2 =>
      have := ((rightA_iff L).1 h2).1
      unfold setL
      split
      · rw [List.length_set]; exact h
      · rw [List.length_append]
        show L.length + 1 ≤ 1000
        omega
    · cases h1
  · exact h
theorem remA_len {L : AL} {s : List UInt8} (h : L.length ≤ 1000) : (remA L s).length ≤ 1000 := by
  unfold remA
  split
  · exact Nat.le_trans (List.length_filter_le _ _) h
  · exact h
structure ElemIn (w : World) (a : Option Addr) (len cap : Nat) (L : List NodeD) (k : Nat) (b off : Nat) (x : NodeD) : Prop where
  ha : a = some ⟨b, off, none⟩
  hb : b < w.heap.size
  hx : L[k]? = some x
  c4 : w.cell? ⟨b, off + k * 10 + 4, none⟩ = some (.slice x.aA x.aN x.aC)
  row : AttrRow w x.aA x.aN x.aC x.core.attrs
  short : x.core.attrs.length ≤ 1000
  is : x.core.attrs = attrsK (coreL L) k
theorem elem_in {w : World} {a : Option Addr} {len cap : Nat} {m : Int} {L : List NodeD} {n : Int} (h : NodeRow w a len cap L) (hs : smallF L) (he : elemE m (coreL L) n = 0) : ∃ k : Nat, n = k ∧ k < len ∧ ∃ b off x, ElemIn w a len cap L k b off x := by
  obtain ⟨k, rfl, hk⟩ := (there_nat (elemE_ok he).1).2
  rw [coreL_len, h.hlen] at hk
  obtain ⟨b, off, x, hab, hb, hx, hat, -⟩ := h.get hk
  have hm := List.mem_of_getElem? hx
  exact ⟨k, rfl, hk, b, off, x, hab, hb, hx, hat.c4, (h.ok x hm).attrs, (hs.2 x hm).2.1, (attrsK_at (coreL_get hx)).symm⟩
theorem chg_done {L M : List NodeD} {k : Nat} {y : NodeD} {s : List UInt8} {l : AL} {al : Option Addr} {ln lc : Nat} (hc : coreL M = coreL L) (hy : M[k]? = some y) :
    coreL (M.set k (withA y al ln lc l)) = (chgZ (coreL L) k s l).1 ∧ [] ++ [chgN k s y.core.attrs l] = (chgZ (coreL L) k s l).2.1 := by
  unfold chgZ
  refine ⟨?_, ?_⟩
  · show _ = chgF (coreL L) ((k : Int)).toNat l
    rw [core_setA hy, hc, Int.toNat_natCast]
  · have h1 := attrsK_at (coreL_get hy)
    rw [hc] at h1
    show [chgN (k : Int) s y.core.attrs l] = [chgN (k : Int) s (attrsK (coreL L) k) l]
    rw [h1]
end Go.Proofs.YtclledmgiliggaaGreatDoor
