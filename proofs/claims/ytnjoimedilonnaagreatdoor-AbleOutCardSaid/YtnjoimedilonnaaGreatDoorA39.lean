/- Texts joined in build order: MoveChange MoveSet MoveSetFn. -/
import Derived.Test.YtnjoimedilonnaaGreatDoorA38
import Derived.Test.YtnjoimedilonnaaGreatDoorA21
import Derived.Test.YtnjoimedilonnaaGreatDoorA16
namespace Go.Proofs.YtnjoimedilonnaaGreatDoor
open Go.RowKit
theorem step_wp2 {P : Program} {ops : Array Oper} {o : Oper} {a : Act} {w : World} {K : Act → World → Prop} {Q : Exit → Act → World → Prop} {E : Prop} (hg : o.guard = none) (h : Oper.wp P o a w K Q) : if Region.wanted o (yielded ops a.tmps) = true then Oper.wp P o a w K Q else E := by
  have hw : Region.wanted o (yielded ops a.tmps) = true := by simp [Region.wanted, hg]
  rw [if_pos hw]
  exact h
def chgN (n : Int) (s : List UInt8) (old new : AL) : NoteD := ⟨4, n, 0, 0, ofL (smallL s), hasA old s, hasA new s, valA old s, valA new s⟩
theorem val_small {W : World} {a : Option Addr} {n c : Nat} {l : AL} (h : AttrRow W a n c l) (s : List UInt8) : (valA l s).size ≤ maxLen := by
  unfold valA
  split
  · next hh =>
    unfold hasA at hh
    rw [Bool.and_eq_true, decide_eq_true_eq] at hh
    rw [List.getElem?_eq_getElem hh.2]
    exact (h.small _ (List.getElem_mem hh.2)).2
  · rw [size_ofL]
    exact Nat.zero_le _
section
variable {ρ : Nat → Nat} {pw g cap len : Nat} {m : Int} {M : List NodeD} {v : Value} {N : List NoteD}
set_option maxHeartbeats 8000000 in
set_option maxRecDepth 100000 in
theorem mchange_any (w : World) (h : Wk ρ w pw g cap len m M v N) (n : Nat) (hn : n < len) (hl1k : len ≤ 1000) (x : NodeD) (hx : M[n]? = some x) (s : ByteArray) (hs : s.size ≤ maxLen) (al : Option Addr) (ln lc : Nat) (l : AL) (hl : AttrRow w al ln lc l) (har : ∀ b off, al = some ⟨b, off, none⟩ → 0 < ln → ρ b = 0 ∧ g < b) (hN : N.length ≤ 100000000) :
    Calls Tryz.prog 29 #[workV pw, .int .i64 n, .string s, .slice al ln lc] w (WkPost ρ w pw g cap len m fun M' N' => M' = M.set n (withA x al ln lc l) ∧ N' = N ++ [chgN n s.toList x.core.attrs l]) := by
  have hm := List.mem_of_getElem? hx
  have CG1 : Hid (∀ W, Below w.heap.size w W → Calls Tryz.prog 13 #[.slice x.aA x.aN x.aC, .string s] W fun e w' => e = .returned (.tuple #[.string (valA x.core.attrs s.toList), .bool (hasA x.core.attrs s.toList)]) ∧ Below W.heap.size W w') := Lib.hid (fun W hb => attrget_any _ _ _ _ s W ((h.aok x hm).below hb) hs)
  have CG2 : Hid (∀ W, Below w.heap.size w W → Calls Tryz.prog 13 #[.slice al ln lc, .string s] W fun e w' => e = .returned (.tuple #[.string (valA l s.toList), .bool (hasA l s.toList)]) ∧ Below W.heap.size W w') := Lib.hid (fun W hb => attrget_any _ _ _ _ s W (hl.below hb) hs)
  have CSM : Hid (∀ W, Calls Tryz.prog 53 #[.string s] W fun e w' => e = .returned (.string (ofL (smallL s.toList))) ∧ Below W.heap.size W w') := Lib.hid (fun W => small_any s W hs)
  obtain ⟨xq, hxq⟩ : ∃ xq, chgN n s.toList x.core.attrs l = xq := ⟨_, rfl⟩
  have OKQ : Hid (NoteOk xq) := Lib.hid (by
    rw [← hxq]
    refine ⟨⟨by show (-9223372036854775808 : Int) ≤ 4; decide, by show (4 : Int) ≤ _; decide⟩, in64_nat (by omega), mv0, mv0, ?_, val_small (h.aok x hm) _, val_small hl _⟩
    show (ofL (smallL s.toList)).size ≤ maxLen
    rw [size_ofL, smallL_length, tl_len]
    exact hs)
  have HV1 : Hid (valA x.core.attrs s.toList = xq.old) := Lib.hid (by rw [← hxq]; rfl)
  have HV2 : Hid (hasA x.core.attrs s.toList = xq.had) := Lib.hid (by rw [← hxq]; rfl)
  have HV3 : Hid (valA l s.toList = xq.new) := Lib.hid (by rw [← hxq]; rfl)
  have HV4 : Hid (hasA l s.toList = xq.has) := Lib.hid (by rw [← hxq]; rfl)
  have HV5 : Hid (ofL (smallL s.toList) = xq.name) := Lib.hid (by rw [← hxq]; rfl)
  have HVE : Hid (xq = ⟨4, (n : Int), 0, 0, xq.name, xq.had, xq.has, xq.old, xq.new⟩) := Lib.hid (by rw [← hxq]; rfl)
  rw [HV1.out, HV2.out] at CG1
  rw [HV3.out, HV4.out] at CG2
  rw [HV5.out] at CSM
  have HW := Lib.hid h
  have HX := Lib.hid hx
  have HLR := Lib.hid hl
  have HAR := Lib.hid har
  have HN := Lib.hid hN
  obtain ⟨w0, hw0, W0, HBX, HBZ⟩ : ∃ w0, w.alloc (wkB pw) = w0 ∧ Hid (Wk ρ w0 pw g cap len m M v N) ∧ Hid (Below w.heap.size w w0) ∧ Hid (w0.cell? ⟨w.heap.size, 0, none⟩ = some (ptrV pw) ∧ w.heap.size < w0.heap.size) := ⟨_, rfl, Lib.hid (h.keep (below_box _ _)), Lib.hid (below_box _ _), Lib.hid ⟨cell_box, by simp⟩⟩
  have HW0 := Lib.hid hw0
  have HRB : Hid (ρ w.heap.size = 0) := Lib.hid (h.fresh _ (Nat.le_refl _))
  have ZW : Hid (∀ W, Turn ρ w0 W → W.cell? ⟨w.heap.size, 0, none⟩ = some (ptrV pw)) := Lib.hid (fun W T => (T.cell HBZ.out.2 HRB.out).trans HBZ.out.1)
  have p0 := W0.out.c0
  have x4 := (W0.out.at_ hx).c4
  have zw := HBZ.out.1
  have hl64 : (len : Int) ≤ 9223372036854775807 := by omega
  obtain ⟨i0, hi0, hq0, hq1, hq2⟩ := info_parts note_info
  have hno : xq.old.size ≤ 9223372036854775807 := by have := OKQ.out.old; unfold maxLen at this; omega
  rw [hxq]
  clear h hx hl har hxq hm hw0 HV1 HV2 HV3 HV4 HV5
  go_enter Tryz.func29, Tryz.ntmps29
  go_upto_region 1 with fail
  rw [HW0.out]
  have HB0 := Lib.hid (Below.refl w0.heap.size w0)
  go_upto_region 3 with (go_at_call 13; (first | (with_reducible refine (CG1.out _ (HBX.out.trans (HB0.out.mono HBX.out.size))).mono ?_) | (with_reducible refine (CG2.out _ (HBX.out.trans (HB0.out.mono HBX.out.size))).mono ?_)); rintro e w1 ⟨rfl, hb⟩; have HB0 := Lib.hid (HB0.out.trans (hb.mono HB0.out.size)); clear hb)
  have W1 := Lib.hid (W0.out.keep HB0.out)
  have HBW := Lib.hid (HBX.out.trans (HB0.out.mono HBX.out.size))
  have zw := ZW.out _ (Turn.of_below HB0.out)
  have p0 := W1.out.c0
  have x4 := (W1.out.at_ HX.out).c4
  have f4 := W1.out.gfree (n * 10 + 4)
  go_upto_region 4 with fail
  have WB := Lib.hid (W1.out.setA HX.out (HLR.out.below HBW.out) (fun b off e hp => ⟨(HAR.out b off e hp).1, g, by rw [W1.out.grole]; decide, (HAR.out b off e hp).2⟩))
  have TB : Hid (Turn ρ w0 (w1.setCell ⟨g, n * 10 + 4, none⟩ (.slice al ln lc))) := Lib.hid ((Turn.of_below HB0.out).setCell (.inr (by rw [W1.out.grole]; decide)) _ _)
  obtain ⟨wb, hwb⟩ : ∃ wb, w1.setCell ⟨g, n * 10 + 4, none⟩ (.slice al ln lc) = wb := ⟨_, rfl⟩
  rw [hwb] at WB TB ⊢
  have OKR : Hid (NoteOk ⟨4, (n : Int), 0, 0, xq.name, xq.had, xq.has, xq.old, xq.new⟩) := Lib.hid (by rw [← HVE.out]; exact OKQ.out)
  clear hwb p0 x4 f4 zw
  have p2 := WB.out.c2
  have zw := ZW.out _ TB.out
  have ALB : Hid (∀ o : Obj, Below wb.heap.size wb (wb.alloc o).drew) := Lib.hid (fun o => ((Below.refl _ _).alloc (Nat.le_refl _) o).drew)
  go_region_law (first
    | (refine step_wp2 rfl ?_; (go_simp; go_at_call 53; (refine (CSM.out _).mono ?_); rintro e w5 ⟨rfl, hb⟩; have HB5 := Lib.hid ((Below.refl wb.heap.size wb).drew.trans hb); have W5 := Lib.hid (WB.out.keep HB5.out); have p2 := W5.out.c2; have zw := ZW.out _ (TB.out.keep HB5.out); have AL : Hid (∀ o : Obj, Below w5.heap.size w5 (w5.alloc o)) := (Lib.hid (fun o => (Below.refl _ _).alloc (Nat.le_refl _) o)); have p2a := fun o => (W5.out.keep (AL.out o)).c2; have zwa := fun o => ZW.out _ ((TB.out.keep HB5.out).keep (AL.out o)); clear hb))
    | (refine step_append_rows rfl (.tmp 49) (.tmp 58) 27 rfl 96 i0 _ 9 88 Tryz.underlying27 hi0 hq0 hq1 hq2 rfl (by decide) 0 v N.length N [⟨4, (n : Int), 0, 0, xq.name, xq.had, xq.has, xq.old, xq.new⟩] rfl (own_below W5.out.nown (AL.out _)) _ 1 1 rfl (note_one w5 ⟨4, (n : Int), 0, 0, xq.name, xq.had, xq.has, xq.old, xq.new⟩) (fun x _ => encO_one x) (by have := HN.out; unfold maxLen; omega) (by have := HN.out; omega) (Nat.zero_le _) (fun h => by cases h) ?_; intro v6 w6 hown6 hg6 hat6; obtain ⟨g6, cap6, rfl⟩ := own_some hown6 (Nat.succ_pos _); have WA := Lib.hid (W5.out.keep (AL.out (noteB ⟨4, (n : Int), 0, 0, xq.name, xq.had, xq.has, xq.old, xq.new⟩))); have HO6 := Lib.hid hown6; have HG6 := Lib.hid hg6; have HT6 := Lib.hid hat6; have c2 := (World.cell?_of_block (a := ⟨pw, 2, none⟩) (hg6.block pw WA.out.plt (fun e => by have h1 := WA.out.nrole pw e.symm; have h2 := WA.out.prole; omega))).trans WA.out.c2; have f2 := (World.frozen?_of_block (a := ⟨pw, 2, none⟩) (hg6.block pw WA.out.plt (fun e => by have h1 := WA.out.nrole pw e.symm; have h2 := WA.out.prole; omega))).trans (WA.out.pfree 2); have zw6 := ZW.out _ (((TB.out.keep HB5.out).keep (AL.out (noteB ⟨4, (n : Int), 0, 0, xq.name, xq.had, xq.has, xq.old, xq.new⟩))).grown hg6 (fun b e => .inr (by rw [WA.out.nrole b e]; decide))); clear hown6 hg6 hat6))
  all_goals go_wp2
  all_goals
    have hb : ∀ b, Value.ownBlock (.slice (some ⟨g6, 0, none⟩) (N.length + 1) cap6) = some b → v.ownBlock = some b ∨ (w5.alloc (noteB ⟨4, (n : Int), 0, 0, xq.name, xq.had, xq.has, xq.old, xq.new⟩)).heap.size ≤ b := fun b e => by
      rcases HT6.out with h1 | h1
      · exact .inl (h1.symm.trans e)
      · have h2 : some (w5.alloc (noteB ⟨4, (n : Int), 0, 0, xq.name, xq.had, xq.has, xq.old, xq.new⟩)).heap.size = some b := h1.symm.trans e
        injection h2 with h2
        exact .inr (by omega)
    have W9 := WA.out.note OKR.out HG6.out HO6.out hb
    have hs5 : wb.heap.size ≤ (w5.alloc (noteB ⟨4, (n : Int), 0, 0, xq.name, xq.had, xq.has, xq.old, xq.new⟩)).heap.size := Nat.le_trans HB5.out.size (AL.out _).size
    have hsw : w.heap.size ≤ wb.heap.size := Nat.le_trans HBX.out.size TB.out.size
    refine bodyPost_ret (v := .tuple #[]) (by simp [results, Tryz.results29]) rfl ⟨rfl, _, _, _, _, W9, ?_, upd_old (fun b e => (hb b e).imp (WA.out.nrole b) (fun h => Nat.le_trans (Nat.le_trans hsw hs5) h)), rfl, by rw [HVE.out]⟩
    exact (chain_turn (ρk := ρ) (Turn.of_below (ρ := ρ) HBX.out) (fun _ _ => rfl) ((((TB.out.keep HB5.out).keep (AL.out _)).grown HG6.out (fun b e => .inr (by rw [WA.out.nrole b e]; decide))).setCell (.inr (by rw [WA.out.prole]; decide)) _ _) (fun _ _ => rfl)).1
end
end Go.Proofs.YtnjoimedilonnaaGreatDoor
namespace Go.Proofs.YtnjoimedilonnaaGreatDoor
open Go.RowKit
def elemE (m : Int) (F : List Core) (n : Int) : Int := if thereF m F n then (if kindK F n = 1 then 0 else 5) else 1
set_option maxHeartbeats 8000000 in
set_option maxRecDepth 100000 in
theorem melem_any (a : Option Addr) (len cap : Nat) (m : Int) (L : List NodeD) (n : Int) (w : World) (h : NodeRow w a len cap L) (hm : In64 m) (hn : In64 n) (hs : smallF L) :
    Calls Tryz.prog 25 #[forV a len cap m, .int .i64 n] w fun e w' => e = .returned (.int .i64 (elemE m (coreL L) n)) ∧ Below w.heap.size w w' := by
  have HCL : Hid ((coreL L).length = len) := Lib.hid (by rw [coreL_len, h.hlen])
  have hlen := h.len64
  have BX := Lib.hid (Box.start (m := m) h)
  obtain ⟨q, hq⟩ : ∃ q, thereF m (coreL L) n = q := ⟨_, rfl⟩
  have CM : Hid (∀ W, NodeRow W a len cap L → Calls Tryz.prog 34 #[forV a len cap m, .int .i64 n] W fun e w' => e = .returned (.bool q) ∧ Below W.heap.size W w') := Lib.hid (fun W h1 => by
    rw [← hq]
    exact mknows_any a len cap m L n W h1 hm hn hs)
  have z0 := BX.out.c0
  have z1 := BX.out.c1
  have HH := Lib.hid h
  clear h hm hn hs
  cases q with
  | false =>
    have HR : Hid (elemE m (coreL L) n = 1) := Lib.hid (by unfold elemE; rw [hq]; rfl)
    clear hq
    go_enter Tryz.func25, Tryz.ntmps25
    go_wp2_with (go_at_call 34; (with_reducible refine (CM.out _ BX.out.row).mono ?_); rintro e w1 ⟨rfl, hb⟩; have BX := Lib.hid (BX.out.keep hb); have z0 := BX.out.c0; have z1 := BX.out.c1; clear hb)
    go_ret
    exact ⟨ret_int HR.out.symm, BX.out.below⟩
  | true =>
    have HQ := Lib.hid hq
    obtain ⟨hr, k, rfl, hk⟩ := there_nat hq
    rw [HCL.out] at hk
    obtain ⟨b, off, x, hab, hb, hx, hat, -⟩ := HH.out.get hk
    subst hab
    have C0 := Lib.hid (stays hat.c0 hb)
    have HK : Hid (elemE m (coreL L) k = if x.core.kind = 1 then 0 else 5) := Lib.hid (by unfold elemE; rw [HQ.out, if_pos rfl, kindK_at (coreL_get hx)])
    clear hat hx hb hq hr
    by_cases h1 : x.core.kind = 1
    · have e1 : (x.core.kind != 1) = false := by rw [h1]; rfl
      have HR : Hid (elemE m (coreL L) k = 0) := Lib.hid (by rw [HK.out, if_pos h1])
      clear h1
      go_enter Tryz.func25, Tryz.ntmps25
      go_wp2_with (go_at_call 34; (with_reducible refine (CM.out _ BX.out.row).mono ?_); rintro e w1 ⟨rfl, hb⟩; have BX := Lib.hid (BX.out.keep hb); have z0 := BX.out.c0; have z1 := BX.out.c1; have c0 := C0.out _ BX.out.below; clear hb)
      go_ret
      exact ⟨ret_int HR.out.symm, BX.out.below⟩
    · have e1 : (x.core.kind != 1) = true := bne_iff_ne.2 h1
      have HR : Hid (elemE m (coreL L) k = 5) := Lib.hid (by rw [HK.out, if_neg h1])
      clear h1
      go_enter Tryz.func25, Tryz.ntmps25
      go_wp2_with (go_at_call 34; (with_reducible refine (CM.out _ BX.out.row).mono ?_); rintro e w1 ⟨rfl, hb⟩; have BX := Lib.hid (BX.out.keep hb); have z0 := BX.out.c0; have z1 := BX.out.c1; have c0 := C0.out _ BX.out.below; clear hb)
      go_ret
      exact ⟨ret_int HR.out.symm, BX.out.below⟩
def attrsK (F : List Core) (n : Int) : AL := match getC F n with | some x => x.attrs | none => []
theorem attrsK_at {F : List Core} {n : Nat} {x : Core} (hx : F[n]? = some x) : attrsK F (n : Int) = x.attrs := by unfold attrsK; rw [getC_nat, hx]
def withAC (c : Core) (l : AL) : Core := ⟨c.kind, c.name, c.is, c.data, l, c.parent, c.kids, c.host, c.under, c.doc⟩
def chgF (F : List Core) (n : Nat) (l : AL) : List Core := match F[n]? with | some c => F.set n (withAC c l) | none => F
theorem core_setA {M : List NodeD} {n : Nat} {x : NodeD} (hx : M[n]? = some x) (a : Option Addr) (ln lc : Nat) (l : AL) : coreL (M.set n (withA x a ln lc l)) = chgF (coreL M) n l := by
  unfold chgF
  rw [coreL_get hx, core_set]
  rfl
theorem small_setA {M : List NodeD} {n : Nat} {x : NodeD} (hs : smallF M) (hx : M[n]? = some x) (a : Option Addr) (ln lc : Nat) (l : AL) (hl : l.length ≤ 1000) : smallF (M.set n (withA x a ln lc l)) := by
  refine ⟨by rw [List.length_set]; exact hs.1, fun z hz => ?_⟩
  have h1 := hs.2 x (List.mem_of_getElem? hx)
  rcases List.mem_or_eq_of_mem_set hz with hz | rfl
  · exact hs.2 z hz
  · exact ⟨h1.1, hl, h1.2.2⟩
def chgZ (F : List Core) (n : Int) (s : List UInt8) (l : AL) : List Core × List NoteD × Int := (chgF F n.toNat l, [chgN n s (attrsK F n) l], 0)
def setZ (m : Int) (F : List Core) (n : Int) (s : List UInt8) (v : ByteArray) : List Core × List NoteD × Int :=
  if elemE m F n = 0 then (if setE (attrsK F n) s v = 0 then chgZ F n s (setA (attrsK F n) s v) else (F, [], setE (attrsK F n) s v)) else (F, [], elemE m F n)
theorem elemE_ok {m : Int} {F : List Core} {n : Int} (h : elemE m F n = 0) : thereF m F n = true ∧ kindK F n = 1 := by
  unfold elemE at h
  split at h
  · next h1 =>
    split at h
    · next h2 => exact ⟨h1, h2⟩
    · cases h
  · cases h
theorem setA_len {L : AL} {s : List UInt8} {v : ByteArray} (h : L.length ≤ 1000) : (setA L s v).length ≤ 1000 := by
  unfold setA
  split
  · next h1 =>
    unfold setE at h1
    split at h1
    · next h2 =>
      have := ((rightA_iff L).1 h2).1
      unfold setL
      split
      · rw [List.length_set]; exact h
      · rw [List.length_append]
        show L.length + 1 ≤ 1000
        omega
    · cases h1
  · exact h
theorem remA_len {L : AL} {s : List UInt8} (h : L.length ≤ 1000) : (remA L s).length ≤ 1000 := by
  unfold remA
  split
  · exact Nat.le_trans (List.length_filter_le _ _) h
  · exact h
structure ElemIn (w : World) (a : Option Addr) (len cap : Nat) (L : List NodeD) (k : Nat) (b off : Nat) (x : NodeD) : Prop where
  ha : a = some ⟨b, off, none⟩
  hb : b < w.heap.size
  hx : L[k]? = some x
  c4 : w.cell? ⟨b, off + k * 10 + 4, none⟩ = some (.slice x.aA x.aN x.aC)
  row : AttrRow w x.aA x.aN x.aC x.core.attrs
  short : x.core.attrs.length ≤ 1000
  is : x.core.attrs = attrsK (coreL L) k
theorem elem_in {w : World} {a : Option Addr} {len cap : Nat} {m : Int} {L : List NodeD} {n : Int} (h : NodeRow w a len cap L) (hs : smallF L) (he : elemE m (coreL L) n = 0) : ∃ k : Nat, n = k ∧ k < len ∧ ∃ b off x, ElemIn w a len cap L k b off x := by
  obtain ⟨k, rfl, hk⟩ := (there_nat (elemE_ok he).1).2
  rw [coreL_len, h.hlen] at hk
  obtain ⟨b, off, x, hab, hb, hx, hat, -⟩ := h.get hk
  have hm := List.mem_of_getElem? hx
  exact ⟨k, rfl, hk, b, off, x, hab, hb, hx, hat.c4, (h.ok x hm).attrs, (hs.2 x hm).2.1, (attrsK_at (coreL_get hx)).symm⟩
theorem chg_done {L M : List NodeD} {k : Nat} {y : NodeD} {s : List UInt8} {l : AL} {al : Option Addr} {ln lc : Nat} (hc : coreL M = coreL L) (hy : M[k]? = some y) :
    coreL (M.set k (withA y al ln lc l)) = (chgZ (coreL L) k s l).1 ∧ [] ++ [chgN k s y.core.attrs l] = (chgZ (coreL L) k s l).2.1 := by
  unfold chgZ
  refine ⟨?_, ?_⟩
  · show _ = chgF (coreL L) ((k : Int)).toNat l
    rw [core_setA hy, hc, Int.toNat_natCast]
  · have h1 := attrsK_at (coreL_get hy)
    rw [hc] at h1
    show [chgN (k : Int) s y.core.attrs l] = [chgN (k : Int) s (attrsK (coreL L) k) l]
    rw [h1]
end Go.Proofs.YtnjoimedilonnaaGreatDoor
namespace Go.Proofs.YtnjoimedilonnaaGreatDoor
open Go.RowKit
set_option maxHeartbeats 8000000 in
set_option maxRecDepth 100000 in
theorem mset_any (a : Option Addr) (len cap : Nat) (m : Int) (L : List NodeD) (n : Int) (s v : ByteArray) (w : World) (h : NodeRow w a len cap L) (hm : In64 m) (hn : In64 n) (hsz : s.size ≤ maxLen) (hvz : v.size ≤ maxLen) (hs : smallF L) (hg : ErrVar w) :
    Calls Tryz.prog 9 #[forV a len cap m, .int .i64 n, .string s, .string v] w (MvPost w m (setZ m (coreL L) n s.toList v)) := by
  have HCL : Hid ((coreL L).length = len) := Lib.hid (by rw [coreL_len, h.hlen])
  have hlen := h.len64
  have HS := Lib.hid hs
  have HSZ := Lib.hid hsz
  have HVZ := Lib.hid hvz
  have CB : Hid (∀ W, NodeRow W a len cap L → Calls Tryz.prog 24 #[forV a len cap m] W fun e w' => ∃ pw a2 cap2 M, e = .returned (workV pw) ∧ Begun W w' pw a2 len cap2 m M (coreL L)) := Lib.hid (fun W h1 => mbegin_any a len cap m L W h1 hs)
  obtain ⟨E, hE⟩ : ∃ E, elemE m (coreL L) n = E := ⟨_, rfl⟩
  have CM : Hid (∀ W, NodeRow W a len cap L → Calls Tryz.prog 25 #[forV a len cap m, .int .i64 n] W fun e w' => e = .returned (.int .i64 E) ∧ Below W.heap.size W w') := Lib.hid (fun W h1 => by
    rw [← hE]
    exact melem_any a len cap m L n W h1 hm hn hs)
  obtain ⟨w0, hw0, TW, HB0⟩ : ∃ w0, (w.alloc (forB a len cap m)).alloc zeroFB = w0 ∧ Hid (Two w w0 a len cap m L) ∧ Hid (Below w.heap.size w w0) := ⟨_, rfl, Lib.hid (Two.start h), Lib.hid ((below_box _ _).trans ((below_box _ _).mono (by simp)))⟩
  have HG := Lib.hid (hg.keep HB0.out)
  have HW0 := Lib.hid hw0
  have z0 := TW.out.bx.c0
  have z1 := TW.out.bx.c1
  have HH := Lib.hid h
  clear h hm hn hg hw0 hsz hvz
  by_cases h0 : E = 0
  · subst h0
    obtain ⟨k, rfl, hk, b, off, x, EI⟩ := elem_in HH.out hs hE
    have HK := Lib.hid hk
    have H1K : Hid (len ≤ 1000) := Lib.hid (by rw [← HH.out.hlen]; exact hs.1)
    have C4 := Lib.hid (stays EI.c4 EI.hb)
    have HEI := Lib.hid EI
    have hab := EI.ha
    subst hab
    have HAK := Lib.hid EI.is
    have HE := Lib.hid hE
    clear EI hE hs
    obtain ⟨lA, hlA⟩ : ∃ lA, setA x.core.attrs s.toList v = lA := ⟨_, rfl⟩
    have HLN : Hid (lA.length ≤ 1000) := Lib.hid (by rw [← hlA]; exact setA_len HEI.out.short)
    obtain ⟨E, hz⟩ : ∃ E, setE x.core.attrs s.toList v = E := ⟨_, rfl⟩
    have CA : Hid (∀ W, Below w.heap.size w W → Calls Tryz.prog 28 #[.slice x.aA x.aN x.aC, .string s, .string v] W (SetNew W lA E)) := Lib.hid (fun W hb => by
      rw [← hlA, ← hz]
      exact attrset_any _ _ _ _ s v W (HEI.out.row.below hb) HSZ.out HVZ.out HEI.out.short)
    by_cases h0 : E = 0
    · subst h0
      have HQ : Hid (setZ m (coreL L) k s.toList v = chgZ (coreL L) k s.toList lA) := Lib.hid (by
        unfold setZ
        rw [if_pos HE.out, ← HAK.out, if_pos hz, hlA])
      clear hz hlA
      go_enter Tryz.func9, Tryz.ntmps9
      go_upto_region 1 with fail
      rw [HW0.out]
      go_upto_region 2 with (go_at_call 24; (with_reducible refine (CB.out _ TW.out.bx.row).mono ?_); rintro e w1 ⟨pw, a2, cap2, M, rfl, hB⟩; have BG := Lib.hid hB; have TW1 := Lib.hid (TW.out.keep hB.below); have z0 := TW1.out.bx.c0; have z1 := TW1.out.bx.c1; clear hB)
      (
        have HD0 := Lib.hid BG.out.held
        have HBW := Lib.hid (held_below w1 pw)
        obtain ⟨wh, hwh⟩ : ∃ wh, w1.alloc (wkB pw) = wh := ⟨_, rfl⟩
        rw [hwh] at HD0 HBW ⊢
        have TW1 := Lib.hid (TW1.out.keep HBW.out)
        clear BG z0 z1 hwh
        have BG := HD0
        clear HD0
        have z0 := TW1.out.bx.c0
        have z1 := TW1.out.bx.c1
        have zw := BG.out.wc)
      go_wp2_with (first
        | (go_at_call 25; (with_reducible refine (CM.out _ TW1.out.bx.row).mono ?_); rintro e w2 ⟨rfl, hb⟩; have BG := Lib.hid (BG.out.keep hb); have TW1 := Lib.hid (TW1.out.keep hb); have z0 := TW1.out.bx.c0; have z1 := TW1.out.bx.c1; have c4 := C4.out _ (HB0.out.trans (BG.out.below.mono HB0.out.size)); clear hb)
        | (go_at_call 28; obtain ⟨g, ρ, rfl, hwk, hρ, hwb⟩ := BG.out.wk (by omega); have HBC := Lib.hid BG.out.core; obtain ⟨y, hy⟩ : ∃ y, M[k]? = some y := ⟨_, List.getElem?_eq_getElem (by rw [hwk.hlen]; exact HK.out)⟩; have HY := Lib.hid hy; (with_reducible refine (CA.out _ (HB0.out.trans (BG.out.below.mono HB0.out.size))).mono ?_); rintro e w3 ⟨al, ln, lc, rfl, halr, hb, haln⟩; have ALR := Lib.hid halr; have ARF : Hid (∀ b off, al = some ⟨b, off, none⟩ → 0 < ln → ρ b = 0 ∧ g < b) := (Lib.hid (fun b off e _ => ⟨hwk.fresh b (haln b off e), Nat.lt_of_lt_of_le hwk.glt (haln b off e)⟩)); have HRO := Lib.hid hρ; have HWB := Lib.hid hwb; have W2 := Lib.hid (hwk.keep hb); have BG := Lib.hid (BG.out.keep hb); have zw := BG.out.wc; have TW1 := Lib.hid (TW1.out.keep hb); have z0 := TW1.out.bx.c0; have z1 := TW1.out.bx.c1; clear hb hwk hρ hwb halr haln hy)
        | (go_at_call 29; (refine (mchange_any _ W2.out k HK.out H1K.out y HY.out s HSZ.out al ln lc _ ALR.out ARF.out (by simp)).mono ?_); rintro e w4 ⟨rfl, ρ3, M3, v3, N3, hW3, hT3, hA3, hM3, hN3⟩; obtain ⟨va, vc, rfl, hNR⟩ := hW3.notes; have W3 := Lib.hid hW3; have EM3 := Lib.hid hM3; have EN3 := Lib.hid hN3; have HB3 := Lib.hid (BG.out.below.trans (hT3.below BG.out.below.size HRO.out)); have A3 : Hid (∀ k, k < w0.heap.size → ρ3 k = 0) := (Lib.hid (fun k hk => (hA3 k (Nat.lt_of_lt_of_le hk BG.out.below.size)).trans (HRO.out k hk))); have zw := (hT3.cell BG.out.wlt HWB.out).trans BG.out.wc; clear hW3 hT3 hA3 hM3 hN3 hNR)
        | (go_at_call 26; (refine (mended_any W3.out).mono ?_); rintro e w4 ⟨rfl, hb⟩; have HB4 := Lib.hid (HB3.out.trans (hb.mono HB3.out.size)); have HB34 := Lib.hid hb; have TW4 := Lib.hid (TW.out.keep HB4.out); have d0 := TW4.out.rb.c0; have d1 := TW4.out.rb.c1; have f0 := TW4.out.rb.f0; have f1 := TW4.out.rb.f1; clear hb))
      (
        obtain ⟨q0, q1⟩ := stored2 TW4.out.rb (.slice (some ⟨g, 0, none⟩) len cap2) (.int .i64 m)
        obtain ⟨ρ5, W5⟩ := (W3.out.keep HB34.out).stored (b := w.heap.size + 1) (B := w0.heap.size) TW.out.rb.lt HB4.out.size A3.out 0 1 (.slice (some ⟨g, 0, none⟩) len cap2) (.int .i64 m)
        obtain ⟨va', vc', hv', NR5⟩ := W5.notes
        injection hv' with e2 e3 e4
        subst e2 e4
        have HB5 := ((HB0.out.trans (HB4.out.mono HB0.out.size)).setCell (p := ⟨w.heap.size + 1, 0, none⟩) (by show w.heap.size ≤ w.heap.size + 1; omega) (.slice (some ⟨g, 0, none⟩) len cap2)).setCell (p := ⟨w.heap.size + 1, 1, none⟩) (by show w.heap.size ≤ w.heap.size + 1; omega) (.int .i64 m)
        have hcd := chg_done (s := s.toList) (l := lA) (al := al) (ln := ln) (lc := lc) HBC.out HY.out
        refine bodyPost_ret (v := .tuple #[forV (some ⟨g, 0, none⟩) len cap2 m, .slice va N3.length vc, .int .i64 0]) ?_ rfl ⟨some ⟨g, 0, none⟩, len, cap2, M3, va, N3.length, vc, by rw [HQ.out]; rfl, W5.row, by rw [HQ.out, EM3.out]; exact hcd.1, by rw [EM3.out]; exact small_setA (small_core HBC.out HS.out) HY.out _ _ _ _ HLN.out, by rw [HQ.out, ← hcd.2, ← EN3.out]; exact NR5, HB5, (W3.out.news A3.out).mono HB0.out.size⟩)
      simp [results, Tryz.results9, go_sem, q0, q1]
    · have HQ : Hid (setZ m (coreL L) k s.toList v = (coreL L, [], E)) := Lib.hid (by
        unfold setZ
        rw [if_pos HE.out, ← HAK.out, hz, if_neg h0])
      have e1 : (E != 0) = true := bne_iff_ne.2 h0
      clear hz hlA h0
      go_enter Tryz.func9, Tryz.ntmps9
      go_upto_region 1 with fail
      rw [HW0.out]
      go_upto_region 2 with (go_at_call 24; (with_reducible refine (CB.out _ TW.out.bx.row).mono ?_); rintro e w1 ⟨pw, a2, cap2, M, rfl, hB⟩; have BG := Lib.hid hB; have TW1 := Lib.hid (TW.out.keep hB.below); have z0 := TW1.out.bx.c0; have z1 := TW1.out.bx.c1; clear hB)
      (
        have HD0 := Lib.hid BG.out.held
        have HBW := Lib.hid (held_below w1 pw)
        obtain ⟨wh, hwh⟩ : ∃ wh, w1.alloc (wkB pw) = wh := ⟨_, rfl⟩
        rw [hwh] at HD0 HBW ⊢
        have TW1 := Lib.hid (TW1.out.keep HBW.out)
        clear BG z0 z1 hwh
        have BG := HD0
        clear HD0
        have z0 := TW1.out.bx.c0
        have z1 := TW1.out.bx.c1
        have zw := BG.out.wc)
      go_upto_region 7 with (first
        | (go_at_call 25; (with_reducible refine (CM.out _ TW1.out.bx.row).mono ?_); rintro e w2 ⟨rfl, hb⟩; have BG := Lib.hid (BG.out.keep hb); have TW1 := Lib.hid (TW1.out.keep hb); have z0 := TW1.out.bx.c0; have z1 := TW1.out.bx.c1; have c4 := C4.out _ (HB0.out.trans (BG.out.below.mono HB0.out.size)); clear hb)
        | (go_at_call 28; (with_reducible refine (CA.out _ (HB0.out.trans (BG.out.below.mono HB0.out.size))).mono ?_); rintro e w3 ⟨al, ln, lc, rfl, -, hb, -⟩; have BG := Lib.hid (BG.out.keep hb); have zw := BG.out.wc; have TW1 := Lib.hid (TW1.out.keep hb); have z0 := TW1.out.bx.c0; have z1 := TW1.out.bx.c1; clear hb))
      (
        have BD := Lib.hid (BG.out.keep ((Below.refl _ _).drew))
        have zw := BG.out.wc
        go_region_with (first | (go_at_call 27; (refine (mrefuse_any _ _ _).mono ?_); rintro e w' ⟨rfl, rfl⟩) | (go_at_call 26; (refine (mrefused_any BD.out (HG.out.keep BD.out.below) _ _).mono ?_); rintro e w4 ⟨rfl, hb⟩; have BG4 := Lib.hid (BD.out.keep hb); have TW4 := Lib.hid (TW.out.keep BG4.out.below); have d0 := TW4.out.rb.c0; have d1 := TW4.out.rb.c1; have f0 := TW4.out.rb.f0; have f1 := TW4.out.rb.f1; clear hb))
        all_goals go_wp2)
      all_goals (
                  obtain ⟨q0, q1⟩ := stored2 TW4.out.rb (.slice a2 len cap2) (.int .i64 m)
                  have hlt0 := TW.out.rb.lt
                  have R5 := (BG4.out.row.far (q := w.heap.size + 1) (fun b off e => by have := BG4.out.rlo b off e; omega) (fun x hx => (BG4.out.new x hx).away hlt0) 0 (.slice a2 len cap2)).far (q := w.heap.size + 1) (fun b off e => by have := BG4.out.rlo b off e; omega) (fun x hx => (BG4.out.new x hx).away hlt0) 1 (.int .i64 m)
                  have HB5 := ((HB0.out.trans (BG4.out.below.mono HB0.out.size)).setCell (p := ⟨w.heap.size + 1, 0, none⟩) (by show w.heap.size ≤ w.heap.size + 1; omega) (.slice a2 len cap2)).setCell (p := ⟨w.heap.size + 1, 1, none⟩) (by show w.heap.size ≤ w.heap.size + 1; omega) (.int .i64 m)
                  refine bodyPost_ret (v := .tuple #[forV a2 len cap2 m, .slice none 0 0, .int .i64 E]) ?_ rfl ⟨a2, len, cap2, M, none, 0, 0, by rw [HQ.out], R5, by rw [HQ.out, BG4.out.core], small_core BG4.out.core HS.out, by rw [HQ.out]; exact NoteRow.nil _, HB5, fun k hk => ⟨fun b off e e2 => (by have := BG4.out.rlo b off e; have := HB0.out.size; omega), fun x hx => (BG4.out.new x hx).away (Nat.lt_of_lt_of_le hk HB0.out.size), fun b off e => (by cases e)⟩⟩)
      all_goals simp [results, Tryz.results9, go_sem, q0, q1]
  · have HQ : Hid (setZ m (coreL L) n s.toList v = (coreL L, [], E)) := Lib.hid (by
      unfold setZ
      rw [hE, if_neg h0])
    have e1 : (E != 0) = true := bne_iff_ne.2 h0
    clear hE h0 hs
    go_enter Tryz.func9, Tryz.ntmps9
    go_upto_region 1 with fail
    rw [HW0.out]
    go_upto_region 2 with (go_at_call 24; (with_reducible refine (CB.out _ TW.out.bx.row).mono ?_); rintro e w1 ⟨pw, a2, cap2, M, rfl, hB⟩; have BG := Lib.hid hB; have TW1 := Lib.hid (TW.out.keep hB.below); have z0 := TW1.out.bx.c0; have z1 := TW1.out.bx.c1; clear hB)
    (
      have HD0 := Lib.hid BG.out.held
      have HBW := Lib.hid (held_below w1 pw)
      obtain ⟨wh, hwh⟩ : ∃ wh, w1.alloc (wkB pw) = wh := ⟨_, rfl⟩
      rw [hwh] at HD0 HBW ⊢
      have TW1 := Lib.hid (TW1.out.keep HBW.out)
      clear BG z0 z1 hwh
      have BG := HD0
      clear HD0
      have z0 := TW1.out.bx.c0
      have z1 := TW1.out.bx.c1
      have zw := BG.out.wc)
    go_upto_region 4 with (first
      | (go_at_call 25; (with_reducible refine (CM.out _ TW1.out.bx.row).mono ?_); rintro e w2 ⟨rfl, hb⟩; have BG := Lib.hid (BG.out.keep hb); have TW1 := Lib.hid (TW1.out.keep hb); have z0 := TW1.out.bx.c0; have z1 := TW1.out.bx.c1; clear hb))
    (
      have BD := Lib.hid (BG.out.keep ((Below.refl _ _).drew))
      have zw := BG.out.wc
      go_region_with (first | (go_at_call 27; (refine (mrefuse_any _ _ _).mono ?_); rintro e w' ⟨rfl, rfl⟩) | (go_at_call 26; (refine (mrefused_any BD.out (HG.out.keep BD.out.below) _ _).mono ?_); rintro e w4 ⟨rfl, hb⟩; have BG4 := Lib.hid (BD.out.keep hb); have TW4 := Lib.hid (TW.out.keep BG4.out.below); have d0 := TW4.out.rb.c0; have d1 := TW4.out.rb.c1; have f0 := TW4.out.rb.f0; have f1 := TW4.out.rb.f1; clear hb))
      all_goals go_wp2)
    all_goals (
                obtain ⟨q0, q1⟩ := stored2 TW4.out.rb (.slice a2 len cap2) (.int .i64 m)
                have hlt0 := TW.out.rb.lt
                have R5 := (BG4.out.row.far (q := w.heap.size + 1) (fun b off e => by have := BG4.out.rlo b off e; omega) (fun x hx => (BG4.out.new x hx).away hlt0) 0 (.slice a2 len cap2)).far (q := w.heap.size + 1) (fun b off e => by have := BG4.out.rlo b off e; omega) (fun x hx => (BG4.out.new x hx).away hlt0) 1 (.int .i64 m)
                have HB5 := ((HB0.out.trans (BG4.out.below.mono HB0.out.size)).setCell (p := ⟨w.heap.size + 1, 0, none⟩) (by show w.heap.size ≤ w.heap.size + 1; omega) (.slice a2 len cap2)).setCell (p := ⟨w.heap.size + 1, 1, none⟩) (by show w.heap.size ≤ w.heap.size + 1; omega) (.int .i64 m)
                refine bodyPost_ret (v := .tuple #[forV a2 len cap2 m, .slice none 0 0, .int .i64 E]) ?_ rfl ⟨a2, len, cap2, M, none, 0, 0, by rw [HQ.out], R5, by rw [HQ.out, BG4.out.core], small_core BG4.out.core HS.out, by rw [HQ.out]; exact NoteRow.nil _, HB5, fun k hk => ⟨fun b off e e2 => (by have := BG4.out.rlo b off e; have := HB0.out.size; omega), fun x hx => (BG4.out.new x hx).away (Nat.lt_of_lt_of_le hk HB0.out.size), fun b off e => (by cases e)⟩⟩)
    all_goals simp [results, Tryz.results9, go_sem, q0, q1]
end Go.Proofs.YtnjoimedilonnaaGreatDoor
