/- Texts joined in build order: MoveOut MoveOver MoveStand MovePutMath MoveParts MovePut. -/
import Derived.Test.YtbgcpgpkhfbijaaGreatDoorK11
import Derived.Deep.RegionWith
import Derived.Test.YtbgcpgpkhfbijaaGreatDoorK09
import Derived.Test.YtbgcpgpkhfbijaaGreatDoorK10
import Derived.Test.YtbgcpgpkhfbijaaGreatDoorK01
/- Package move: goOut. -/
namespace Go.Proofs.YtbgcpgpkhfbijaaGreatDoor
open Go.RowKit
section
variable {ρ : Nat → Nat} {pw g cap len : Nat} {m : Int} {M : List NodeD} {v : Value} {N : List NoteD}
theorem erase_filter {l : List Int} {z : Int} {i : Nat} (hn : l.Nodup) (hi : l[i]? = some z) : l.eraseIdx i = l.filter (fun y => y != z) := by
  obtain ⟨hl, he⟩ := List.getElem?_eq_some_iff.1 hi
  have h1 : l.idxOf z = i := by rw [← he]; exact hn.idxOf_getElem i hl
  rw [← hn.erase_eq_filter, List.erase_eq_eraseIdx_of_idxOf h1]
theorem core_set2 {M : List NodeD} {n p : Nat} {x y : NodeD} {a : Option Addr} {l c : Nat} {ks : List Int} {q : Int} (hx : M[n]? = some x) (hy : M[p]? = some y) (hnp : n ≠ p) :
    Edit (coreL M) (coreL ((M.set p (withK y a l c ks)).set n (withP x q))) (fun j c => if j = n then q else c.parent) (fun j c => if j = p then ks else c.kids) (fun _ c => c.doc) := by
  refine ⟨by unfold coreL; simp, fun j z hz => ?_⟩
  obtain ⟨u, hu, rfl⟩ : ∃ u, M[j]? = some u ∧ u.core = z := by
    unfold coreL at hz
    rw [List.getElem?_map] at hz
    cases hm : M[j]? with
    | none => rw [hm] at hz; cases hz
    | some u => rw [hm] at hz; exact ⟨u, rfl, Option.some.inj hz⟩
  have hjl := (List.getElem?_eq_some_iff.1 hu).1
  unfold coreL
  rw [List.getElem?_map]
  by_cases e : j = n
  · subst e
    obtain rfl : x = u := Option.some.inj (hx.symm.trans hu)
    rw [List.getElem?_set_self (by rw [List.length_set]; exact hjl), if_pos rfl, if_neg hnp]
    rfl
  · rw [List.getElem?_set_ne (fun e2 => e e2.symm), if_neg e]
    by_cases e2 : j = p
    · subst e2
      obtain rfl : y = u := Option.some.inj (hy.symm.trans hu)
      rw [List.getElem?_set_self hjl, if_pos rfl]
      rfl
    · rw [List.getElem?_set_ne (fun e3 => e2 e3.symm), if_neg e2, hu]
      rfl
theorem mv0 : In64 0 := ⟨by decide, by decide⟩
theorem emp_le : (⟨#[]⟩ : ByteArray).size ≤ maxLen := by decide
theorem noteOk_note (k : Int) (hk : In64 k) : NoteOk (note k) := ⟨hk, mv0, mv0, mv0, emp_le, emp_le, emp_le⟩
theorem in64_nat {n : Nat} (h : n ≤ 1000) : In64 (n : Int) := ⟨by omega, by omega⟩
theorem out_par (h : rightF m (coreL M) = true) {n : Nat} {x : NodeD} (hx : M[n]? = some x) (hp : x.core.parent ≠ -1) : ∃ (p : Nat) (y : NodeD) (i : Nat), x.core.parent = p ∧ M[p]? = some y ∧ n ≠ p ∧ findZ y.core.kids n = i ∧ y.core.kids[i]? = some (n : Int) ∧ y.core.kids.Nodup := by
  obtain ⟨p, h1, h2, ho⟩ := mvOut_out h (coreL_get hx) hp
  rw [coreL_len] at h2
  have hy : M[p]? = some M[p] := List.getElem?_eq_getElem h2
  obtain ⟨hnp, _⟩ := out_made h hx hy h1 (a := none) (l := 0) (c := 0)
  have N := right_node h (coreL_get hx)
  rcases N.par with e | ⟨_, d, h3, _, h5⟩
  · exact absurd e hp
  · rw [h1, getC_nat, coreL_get hy] at h3
    rw [← Option.some.inj h3] at h5
    obtain ⟨i, hi1, hi2⟩ := find_at h5
    exact ⟨p, M[p], i, h1, hy, hnp, hi1, hi2, (right_node h (coreL_get hy)).once⟩
set_option maxHeartbeats 8000000 in
set_option maxRecDepth 100000 in
theorem mgoOut_any (w : World) (h : Wk ρ w pw g cap len m M v N) (hr : rightF m (coreL M) = true) (hs : smallF M) (n : Nat) (hn : n < len) (hp : parentK (coreL M) n ≠ -1) (hN : N.length ≤ 90000000) :
    Calls Tryz.prog 64 #[ptrV pw, .int .i64 n] w (WkPost ρ w pw g cap len m fun M' N' => (coreL M', N') = outS (coreL M, N) n ∧ smallF M' ∧ rightF m (coreL M') = true) := by
  have HL : Hid ((coreL M).length = len) := Lib.hid (by rw [coreL_len, h.hlen])
  have hl1k : len ≤ 1000 := by rw [← h.hlen]; exact hs.1
  obtain ⟨x, hx⟩ : ∃ x, M[n]? = some x := ⟨_, List.getElem?_eq_getElem (by rw [h.hlen]; exact hn)⟩
  rw [parentK_at (coreL_get hx)] at hp
  obtain ⟨p, y, i, hpp, hy, hnp, hfi, hi, hnd⟩ := out_par hr hx hp
  have hpl : p < len := by rw [← h.hlen]; exact (List.getElem?_eq_some_iff.1 hy).1
  have hkl : y.core.kids.length = y.kN := (h.kidsRow hy).hlen
  have hik : i < y.kN := by rw [← hkl]; exact (List.getElem?_eq_some_iff.1 hi).1
  have hk400 : y.kN ≤ 400 := by rw [← hkl]; exact right_kids hr (coreL_get hy)
  obtain ⟨gk, ck, hgk⟩ := own_some (h.kown p y hy) (by omega)
  have CC : Hid (Calls Tryz.prog 118 #[ptrV pw, .int .i64 n] w fun e w' => e = .returned (.bool (connF (coreL M) n)) ∧ Below w.heap.size w w') := Lib.hid (mconn_any w h hr n hn)
  have CX : Hid (∀ W, Below w.heap.size w W → Calls Tryz.prog 119 #[.slice y.kA y.kN y.kC, .int .i64 n] W fun e w' => e = .returned (.int .i64 i) ∧ W = w') := Lib.hid (fun W hb => by
    rw [← hfi]
    exact index_any _ _ _ _ _ W ((h.kidsRow hy).below hb))
  have CD : Hid (∀ W, Below w.heap.size w W → Calls Tryz.prog 120 #[.slice y.kA y.kN y.kC, .int .i64 i, .int .i64 ((i : Int) + 1)] W fun e w' => e = .returned (.slice (some ⟨gk, 0, none⟩) (y.kN - 1) ck) ∧ w'.ownsRow 0 3 1 (.slice (some ⟨gk, 0, none⟩) (y.kN - 1) ck) (y.kN - 1) ((y.core.kids.eraseIdx i).flatMap encZ) ∧ W.grownBy w' (some gk)) := Lib.hid (fun W hb => by
    have ho := (h.keep hb).kown p y hy
    rw [hgk] at ho ⊢
    exact deleteI_any W 0 gk y.kN ck y.core.kids i ho hik)
  -- what comes of it
  obtain ⟨ks, hks⟩ : ∃ ks, y.core.kids.eraseIdx i = ks := ⟨_, rfl⟩
  have HKS : Hid (ks = y.core.kids.filter (fun z => z != (n : Int))) := Lib.hid (by rw [← hks]; exact erase_filter hnd hi)
  rw [hks] at CD
  have HED := Lib.hid (core_set2 (a := some ⟨gk, 0, none⟩) (l := y.kN - 1) (c := ck) (ks := ks) (q := -1) hx hy hnp)
  obtain ⟨M2, hM2⟩ : ∃ M2, (M.set p (withK y (some ⟨gk, 0, none⟩) (y.kN - 1) ck ks)).set n (withP x (-1)) = M2 := ⟨_, rfl⟩
  rw [hM2] at HED
  have HEQ : Hid (coreL M2 = mvOut (coreL M) n) := Lib.hid (by
    refine (HED.out.cong (fun j c hc => ⟨rfl, ?_, rfl⟩)).eq
    rw [parentK_at (coreL_get hx), hpp]
    by_cases e : j = p
    · subst e
      rw [coreL_get hy] at hc
      rw [if_pos rfl, if_pos rfl, ← Option.some.inj hc, HKS.out]
    · rw [if_neg e, if_neg (by omega)])
  have HRR : Hid (rightF m (coreL M2) = true) := Lib.hid (by
    obtain ⟨p', _, _, ho⟩ := mvOut_out hr (coreL_get hx) hp
    rw [HEQ.out]
    exact ho.rightG)
  have HSM : Hid (smallF M2) := Lib.hid (small_edit hs HED.out HRR.out)
  have HINK : Hid (∀ z ∈ ks, In64 z) := Lib.hid (fun z hz => by
    rw [HKS.out] at hz
    exact (h.fld y (List.mem_of_getElem? hy)).kids z (List.mem_filter.1 hz).1)
  have HOS : Hid (outS (coreL M, N) n = (coreL M2, if connF (coreL M) n then N ++ tellN (coreL M) n (note 2) else N)) := Lib.hid (by
    unfold outS
    rw [if_neg (by rw [parentK_at (coreL_get hx)]; exact hp), HEQ.out])
  have HXN : Hid (M.set p (withK y (some ⟨gk, 0, none⟩) (y.kN - 1) ck ks) = M.set p (withK y (some ⟨gk, 0, none⟩) (y.kN - 1) ck ks) ∧ (M.set p (withK y (some ⟨gk, 0, none⟩) (y.kN - 1) ck ks))[n]? = some x) := Lib.hid ⟨rfl, by rw [List.getElem?_set_ne (fun e => hnp e.symm)]; exact hx⟩
  have HM2 := Lib.hid hM2
  have HTN : Hid (tellN (coreL M2) n (note 2) = tellN (coreL M) n (note 2)) := Lib.hid (by rw [HEQ.out]; exact tellN_out hr (coreL_get hx) hp _)
  obtain ⟨b, hb⟩ : ∃ b, connF (coreL M) n = b := ⟨_, rfl⟩
  rw [hb] at CC HOS
  have HW := Lib.hid h
  have HX := Lib.hid hx
  have HY := Lib.hid hy
  have HGK : Hid (Value.ownBlock (.slice y.kA y.kN y.kC) = some gk) := Lib.hid (by rw [hgk]; rfl)
  have HN := Lib.hid hN
  have HPP := Lib.hid hpp
  have hl64 : (len : Int) ≤ 9223372036854775807 := by omega
  clear h hr hs hx hp hpp hy hfi hi hnd hkl hgk hks hM2 hb
  go_enter Tryz.func64, Tryz.ntmps64
  go_upto_region 1 with (go_at_call 118; (with_reducible refine CC.out.mono ?_); rintro e w1 ⟨rfl, hb⟩; have HB1 := Lib.hid hb; clear hb)
  have W1 := Lib.hid (HW.out.keep HB1.out)
  have p0 := W1.out.c0
  go_upto_region 2 with fail
  have E0 := Ext.cell W1.out.c0 W1.out.plt
  have x5 := (W1.out.at_ HX.out).c5
  rw [HPP.out] at x5
  have E5 := Ext.cell x5 W1.out.glt
  refine wp_region_ext (by kernel_rfl) (by kernel_rfl) ?_
  repeat (go_big_quiet_step (fail))
  refine wpQuiet_nil ?_
  intro w3 hw'
  obtain ⟨⟨w4, hb4⟩, hw''⟩ := hw'
  dsimp only at hw''
  subst hw''
  have HB2 := Lib.hid (HB1.out.trans (hb4.mono HB1.out.size))
  clear E0 E5 x5 p0 hb4
  have W2 := Lib.hid (HW.out.keep HB2.out)
  have y6 := (W2.out.at_ HY.out).c6
  have KN := Lib.hid (show In64 (i : Int) from in64_nat (by omega))
  have hi64 : (i : Int) + 1 ≤ 9223372036854775807 := by omega
  go_upto_if 48 with (first
    | (go_at_call 119; (with_reducible refine (CX.out _ HB2.out).mono ?_); rintro e w5 ⟨rfl, rfl⟩)
    | (go_at_call 120; (with_reducible refine (CD.out _ HB2.out).mono ?_); rintro e w6 ⟨rfl, hown, hgr⟩; have HO6 := Lib.hid hown; have HG6 := Lib.hid hgr; have MID := Lib.hid (W2.out.mid (row := some gk) hgr (fun b e => by injection e with e; rw [← e, W2.out.krole p y gk HY.out HGK.out]; omega)); have f6 := MID.out.gfree (p * 10 + 6); have f5 := MID.out.gfree (n * 10 + 5); have c6 := MID.out.cells p y 6 _ HY.out rfl; have c5 := MID.out.cells n x 5 _ HX.out rfl; have hne : n * 10 + 5 ≠ p * 10 + 6 := (by omega); clear hown hgr y6))
  have W7 := W2.out.setK HY.out (by rw [HGK.out]; exact HG6.out) HO6.out (fun b e => .inl (by rw [HGK.out]; exact e)) HINK.out
  have W8 := W7.setP HXN.out.2 inM1
  rw [HM2.out] at W8
  have hgk0 : ρ gk = p + 5 := W2.out.krole p y gk HY.out HGK.out
  have T8 : Turn ρ w ((w6.setCell ⟨g, p * 10 + 6, none⟩ (.slice (some ⟨gk, 0, none⟩) (y.kN - 1) ck)).setCell ⟨g, n * 10 + 5, none⟩ (.int .i64 (-1))) := (((Turn.of_below HB2.out).grown HG6.out (fun k e => by injection e with e; right; rw [← e, hgk0]; omega)).setCell (.inr (by rw [W2.out.grole]; decide)) _ _).setCell (.inr (by rw [W2.out.grole]; decide)) _ _
  have A8 : ∀ k, upd ρ (some gk) (p + 5) k = ρ k := fun k => by
    unfold upd
    by_cases e : some gk = some k
    · rw [if_pos e]
      injection e with e
      rw [← e, hgk0]
    · rw [if_neg e]
  have W8 := Lib.hid W8
  have T8 := Lib.hid T8
  have A8 := Lib.hid A8
  clear W7 c6 c5 f6 f5 hne hgk0
  obtain ⟨w8, hw8⟩ : ∃ w8, (w6.setCell ⟨g, p * 10 + 6, none⟩ (.slice (some ⟨gk, 0, none⟩) (y.kN - 1) ck)).setCell ⟨g, n * 10 + 5, none⟩ (.int .i64 (-1)) = w8 := ⟨_, rfl⟩
  rw [hw8] at W8 T8 ⊢
  clear hw8
  cases b with
  | false =>
    go_wp2
    refine bodyPost_ret (v := .tuple #[]) (by simp [results, Tryz.results64]) rfl ⟨rfl, _, M2, v, N, W8.out, T8.out, fun k _ => A8.out k, by rw [HOS.out]; rfl, HSM.out, HRR.out⟩
  | true =>
    have CT := Lib.hid (mtell_any w8 W8.out HRR.out HSM.out n hn (note 2) (noteOk_note 2 ⟨by decide, by decide⟩) (by have := HN.out; omega))
    go_wp2_with (go_at_call 121; (with_reducible refine CT.out.mono ?_); rintro e w9 ⟨rfl, ρ9, M9, v9, N9, W9, T9, A9, rfl, rfl⟩)
    refine bodyPost_ret (v := .tuple #[]) (by simp [results, Tryz.results64]) rfl ⟨rfl, ρ9, M9, v9, _, W9, T8.out.trans (fun k _ => A8.out k) T9, fun k hk => ?_, by rw [HOS.out, HTN.out]; rfl, HSM.out, HRR.out⟩
    exact (A9 k (Nat.lt_of_lt_of_le hk T8.out.size)).trans (A8.out k)
end
end Go.Proofs.YtbgcpgpkhfbijaaGreatDoor
/- Package move: takeOver. -/
namespace Go.Proofs.YtbgcpgpkhfbijaaGreatDoor
open Go.RowKit
section
variable {m : Int} {F : List Core}
theorem mv3 : In64 3 := ⟨by decide, by decide⟩
theorem edit_refl (F : List Core) : Edit F F (fun _ c => c.parent) (fun _ c => c.kids) (fun _ c => c.doc) := ⟨rfl, fun _ _ h => h⟩
/-- What goes out: the forest is right, and all is as it was but parents and children. -/
theorem outS_facts {S : St} (h : rightF m S.1 = true) {n : Nat} (hn : n < S.1.length) : rightF m (outS S n).1 = true ∧ (∃ P K, Edit S.1 (outS S n).1 P K (fun _ c => c.doc)) ∧ parentK (outS S n).1 n = -1 := by
  have hx : S.1[n]? = some S.1[n] := List.getElem?_eq_getElem hn
  unfold outS
  by_cases hp : parentK S.1 n = -1
  · rw [if_pos hp]
    exact ⟨h, ⟨_, _, edit_refl _⟩, hp⟩
  · rw [if_neg hp]
    rw [parentK_at hx] at hp
    obtain ⟨p, hpp, hpl, ho⟩ := mvOut_out h hx hp
    refine ⟨ho.rightG, ⟨_, _, ho.ed⟩, ?_⟩
    show parentK (mvOut S.1 n) n = -1
    rw [parentK_at (ho.ed.at_ n _ hx)]
    exact if_pos rfl
theorem kind_eq {F G : List Core} {P : Nat → Core → Int} {K : Nat → Core → List Int} {D : Nat → Core → Int} (h : Edit F G P K D) (z : Int) : kindK G z = kindK F z := h.kindK z
theorem top_none (h : rightF m F = true) {n : Nat} (hn : n < F.length) (hp : parentK F n = -1) (hk : kindK F n = 1 ∨ kindK F n = 2) : parS F n = none := by
  have hx : F[n]? = some F[n] := List.getElem?_eq_getElem hn
  rw [parentK_at hx] at hp
  rw [kindK_at hx] at hk
  refine parS_none ?_
  rw [nextUp_at hx]
  show (if F[n].parent = -1 then F[n].host else F[n].parent) = -1
  rw [if_pos hp]
  exact (right_node h hx).free (by omega)
theorem taken_doc (h : rightF m F = true) {n : Nat} (hn : n < F.length) (hp : parentK F n = -1) (hk : kindK F n = 1 ∨ kindK F n = 2) {d : Int} (hd : ∃ c, getC F d = some c ∧ c.kind = 0) : Taken m F (mvDoc F n d) n d :=
  ⟨h, hn, top_none h hn hp hk, by omega, hd, edF_edit _ _ _ _⟩
theorem docIs_edit {F G : List Core} {P : Nat → Core → Int} {K : Nat → Core → List Int} {D : Nat → Core → Int} (h : Edit F G P K D) {d : Int} (hd : ∃ c, getC F d = some c ∧ c.kind = 0) : ∃ c, getC G d = some c ∧ c.kind = 0 := by
  obtain ⟨c, h1, h2⟩ := hd
  exact ⟨_, h.getC h1, h2⟩
end
section
variable {ρ : Nat → Nat} {pw g cap len : Nat} {m : Int} {M : List NodeD} {v : Value} {N : List NoteD}
theorem core_setD {M M2 : List NodeD} {P : Nat → Core → Int} {K : Nat → Core → List Int} {D : Nat → Core → Int} {k : Nat} {x : NodeD} {d : Int} (h : Edit (coreL M) (coreL M2) P K D) (hx : M2[k]? = some x) :
    Edit (coreL M) (coreL (M2.set k (withD x d))) P K (fun j c => if j = k then d else D j c) := by
  refine ⟨by unfold coreL; rw [List.length_map, List.length_set]; have := h.len; unfold coreL at this; rwa [List.length_map] at this, fun j c hc => ?_⟩
  have h1 := h.at_ j c hc
  unfold coreL at h1 ⊢
  rw [List.getElem?_map] at h1 ⊢
  by_cases e : j = k
  · subst e
    rw [hx] at h1
    rw [List.getElem?_set_self (List.getElem?_eq_some_iff.1 hx).1, if_pos rfl]
    have h1 : x.core = edC c (P j c) (K j c) (D j c) := Option.some.inj h1
    show some (withD x d).core = _
    have e2 : (withD x d).core = edC x.core x.core.parent x.core.kids d := rfl
    rw [e2, h1]
    rfl
  · rw [List.getElem?_set_ne (fun e2 => e e2.symm), if_neg e]
    exact h1
set_option maxHeartbeats 8000000 in
set_option maxRecDepth 100000 in
theorem mover_any (w : World) (h : Wk ρ w pw g cap len m M v N) (hr : rightF m (coreL M) = true) (hs : smallF M) (n : Nat) (hn : n < len) (hkd : kindK (coreL M) n = 1 ∨ kindK (coreL M) n = 2) (d : Int) (hd64 : In64 d) (hd : ∃ c, getC (coreL M) d = some c ∧ c.kind = 0) (hN : N.length ≤ 80000000) :
    Calls Tryz.prog 101 #[ptrV pw, .int .i64 n, .int .i64 d] w (WkPost ρ w pw g cap len m fun M' N' => (coreL M', N') = overS (coreL M, N) n d ∧ smallF M' ∧ rightF m (coreL M') = true) := by
  have HL : Hid ((coreL M).length = len) := Lib.hid (by rw [coreL_len, h.hlen])
  have hl1k : len ≤ 1000 := by rw [← h.hlen]; exact hs.1
  obtain ⟨x, hx⟩ : ∃ x, M[n]? = some x := ⟨_, List.getElem?_eq_getElem (by rw [h.hlen]; exact hn)⟩
  have OF := Lib.hid (outS_facts (S := (coreL M, N)) hr (show n < (coreL M).length by rw [HL.out]; exact hn))
  have HW := Lib.hid h
  have HX := Lib.hid hx
  have HR := Lib.hid hr
  have HS := Lib.hid hs
  have HN := Lib.hid hN
  have HKD := Lib.hid hkd
  have HD := Lib.hid hd
  have HD64 := Lib.hid hd64
  have HPK : Hid (parentK (coreL M) n = x.core.parent) := Lib.hid (parentK_at (coreL_get hx))
  have hl64 : (len : Int) ≤ 9223372036854775807 := by omega
  have p0 := h.c0
  have x5 := (h.at_ hx).c5
  clear h hr hs hx hkd hd hd64
  go_enter Tryz.func101, Tryz.ntmps101
  go_upto_if 18 with fail
  go_cut [] (fun wx => True ∧ ∃ ρ1 M1 v1 N1, Hid (Wk ρ1 wx pw g cap len m M1 v1 N1) ∧ Hid (Turn ρ w wx) ∧ Hid (∀ k, k < w.heap.size → ρ1 k = ρ k) ∧ Hid ((coreL M1, N1) = outS (coreL M, N) n) ∧ Hid (smallF M1) ∧ Hid (rightF m (coreL M1) = true))
  case first =>
    by_cases hp : x.core.parent = -1
    · have e1 : (x.core.parent != -1) = false := by rw [hp]; rfl
      have HO : Hid (outS (coreL M, N) n = (coreL M, N)) := Lib.hid (by unfold outS; rw [if_pos (by rw [HPK.out]; exact hp)])
      clear hp
      go_wp2
      go_meet
      exact ⟨trivial, ρ, M, v, N, HW, Lib.hid (Turn.refl _ _), Lib.hid (fun _ _ => rfl), Lib.hid HO.out.symm, HS, HR⟩
    · have e1 : (x.core.parent != -1) = true := bne_iff_ne.2 hp
      have CO := Lib.hid (mgoOut_any w HW.out HR.out HS.out n hn (by rw [HPK.out]; exact hp) (by have := HN.out; omega))
      clear hp
      go_wp2_with (go_at_call 64; (with_reducible refine CO.out.mono ?_); rintro e w9 ⟨rfl, ρ9, M9, v9, N9, W9, T9, A9, E9, S9, R9⟩)
      go_meet
      exact ⟨trivial, ρ9, M9, v9, N9, Lib.hid W9, Lib.hid T9, Lib.hid A9, Lib.hid E9, Lib.hid S9, Lib.hid R9⟩
  case rest =>
    obtain ⟨-, ρ1, M1, v1, N1, W1, T1, A1, E1, S1, R1⟩ := hcut
    have HL1 : Hid ((coreL M1).length = len) := Lib.hid (by rw [coreL_len, W1.out.hlen])
    obtain ⟨x1, hx1⟩ : ∃ x1, M1[n]? = some x1 := ⟨_, List.getElem?_eq_getElem (by rw [W1.out.hlen]; exact hn)⟩
    have EA : Hid ((outS (coreL M, N) n).1 = coreL M1) := Lib.hid (by rw [← E1.out])
    have EB : Hid ((outS (coreL M, N) n).2 = N1) := Lib.hid (by rw [← E1.out])
    have OV : Hid (overS (coreL M, N) n d = if x1.core.doc = d then (coreL M1, N1) else (mvDoc (coreL M1) n d, N1 ++ tellN (coreL M1) n ⟨3, 0, x1.core.doc, d, ⟨#[]⟩, false, false, ⟨#[]⟩, ⟨#[]⟩⟩)) := Lib.hid (by
      unfold overS
      simp only [docK_at (coreL_get hx1), ← E1.out])
    have ED1 : Hid (∃ P K, Edit (coreL M) (coreL M1) P K (fun _ c => c.doc)) := Lib.hid (by rw [← EA.out]; exact OF.out.2.1)
    have HP1 : Hid (parentK (coreL M1) n = -1) := Lib.hid (by rw [← EA.out]; exact OF.out.2.2)
    have HK1 : Hid (kindK (coreL M1) n = 1 ∨ kindK (coreL M1) n = 2) := Lib.hid (by obtain ⟨P, K, e⟩ := ED1.out; rw [e.kindK]; exact HKD.out)
    have HD1 : Hid (∃ c, getC (coreL M1) d = some c ∧ c.kind = 0) := Lib.hid (by obtain ⟨P, K, e⟩ := ED1.out; exact docIs_edit e HD.out)
    have TK : Hid (Taken m (coreL M1) (mvDoc (coreL M1) n d) n d) := Lib.hid (taken_doc R1.out (by rw [HL1.out]; exact hn) HP1.out HK1.out HD1.out)
    have HN1 : Hid (N1.length ≤ 80001000) := Lib.hid (by
      rw [← EB.out]
      unfold outS
      split
      · have := HN.out
        show N.length ≤ _
        omega
      · show (if _ then N ++ tellN (coreL M) n (note 2) else N).length ≤ _
        have := HN.out
        split
        · rw [List.length_append]
          have := tellN_len HR.out (show n < (coreL M).length by rw [HL.out]; exact hn) (note 2)
          omega
        · omega)
    have HX1 := Lib.hid hx1
    have F1 := Lib.hid (W1.out.fld x1 (List.mem_of_getElem? hx1))
    have p0 := W1.out.c0
    have x9 := (W1.out.at_ hx1).c9
    clear hx1 E1 EA EB ED1 HW HX HR HS HKD HD OF HPK
    by_cases he : x1.core.doc = d
    · have e1 : (x1.core.doc == d) = true := beq_iff_eq.2 he
      have OV2 : Hid (overS (coreL M, N) n d = (coreL M1, N1)) := Lib.hid (by rw [OV.out, if_pos he])
      clear he
      go_wp2
      refine bodyPost_ret (v := .tuple #[]) (by simp [results, Tryz.results101]) rfl ⟨rfl, ρ1, M1, v1, N1, W1.out, T1.out, A1.out, OV2.out.symm, S1.out, R1.out⟩
    · have e1 : (x1.core.doc == d) = false := beq_eq_false_iff_ne.2 he
      have OV2 : Hid (overS (coreL M, N) n d = (mvDoc (coreL M1) n d, N1 ++ tellN (coreL M1) n ⟨3, 0, x1.core.doc, d, ⟨#[]⟩, false, false, ⟨#[]⟩, ⟨#[]⟩⟩)) := Lib.hid (by rw [OV.out, if_neg he])
      clear he OV
      have CF : Hid (∀ W, NodeRow W (some ⟨g, 0, none⟩) len cap M1 → Calls Tryz.prog 112 #[.slice (some ⟨g, 0, none⟩) len cap, .int .i64 n] W (OrdNew W (allI (coreL M1) n))) := Lib.hid (fun W h1 => wfull_any _ _ _ m _ n W h1 S1.out R1.out hn)
      have HA : Hid (∀ z ∈ allI (coreL M1) n, ∃ t : Nat, z = t ∧ t < len) := Lib.hid (fun z hz => by
        obtain ⟨t, h1, h2⟩ := all_in R1.out (by rw [HL1.out]; exact hn) z hz
        exact ⟨t, h1, by rw [← HL1.out]; exact h2⟩)
      have HAL : Hid ((allI (coreL M1) n).length ≤ 1000) := Lib.hid (Nat.le_trans (allI_len R1.out (by rw [HL1.out]; exact hn)) (by rw [HL1.out]; exact hl1k))
      go_wp2_with (go_at_call 112; (with_reducible refine (CF.out _ W1.out.row).mono ?_); rintro e w2 ⟨ra, rl, rc, rfl, hrl, hb, hrn⟩; have LR := Lib.hid hrl; have LN := Lib.hid hrn; have W2 := Lib.hid (W1.out.keep hb); have HB2 := Lib.hid hb; clear hb hrl hrn p0 x9)
      have hrl := LR.out.hlen
      have HRL := Lib.hid hrl
      have hrl1k : rl ≤ 1000 := by rw [← hrl]; exact HAL.out
      have LR0 : Hid (∀ b off, ra = some ⟨b, off, none⟩ → 0 < rl → ρ1 b = 0) := Lib.hid (fun b off he hp => W1.out.fresh b (LN.out b off he))
      clear hrl
      go_loopw [42] (fun i wr => ∃ (k : Nat) (Mk : List NodeD), k ≤ rl ∧ i = .int .i64 k ∧ Hid (Wk ρ1 wr pw g cap len m Mk v1 N1) ∧ Hid (Turn ρ1 w2 wr) ∧ Hid (Edit (coreL M1) (coreL Mk) (fun _ c => c.parent) (fun _ c => c.kids) (fun j c => if (j : Int) ∈ (allI (coreL M1) n).take k then d else c.doc))) (fun i _ => rl - (intOf i).toNat)
      case atStart => exact ⟨0, M1, Nat.zero_le _, rfl, W2, Lib.hid (Turn.refl _ _), Lib.hid ((edit_refl _).cong (fun j c _ => ⟨rfl, rfl, by simp⟩))⟩
      case round =>
        obtain ⟨k, Mk, hk, rfl, WK, TK2, EK⟩ := hrel
        by_cases hlt : k < rl
        · obtain ⟨bp, op, z, hpa, hbp, hz, hcz, hin⟩ := (TK2.out.introw LR.out LR0.out).get hlt
          obtain ⟨q, rfl, hql⟩ := HA.out z (List.mem_of_getElem? hz)
          obtain ⟨y, hy⟩ : ∃ y, Mk[q]? = some y := ⟨_, List.getElem?_eq_getElem (by rw [WK.out.hlen]; exact hql)⟩
          have EK2 := Lib.hid ((core_setD (d := d) EK.out hy).cong (P' := fun _ c => c.parent) (K' := fun _ c => c.kids) (D' := fun j c => if (j : Int) ∈ (allI (coreL M1) n).take (k + 1) then d else c.doc) (fun j c _ => ⟨rfl, rfl, by
            rw [List.take_add_one, hz]
            simp only [Option.toList_some, List.mem_append, List.mem_singleton, Int.ofNat_inj]
            by_cases e : j = q
            · rw [if_pos e, if_pos (.inr e)]
            · rw [if_neg e]
              by_cases e2 : (j : Int) ∈ (allI (coreL M1) n).take k
              · rw [if_pos e2, if_pos (.inl e2)]
              · rw [if_neg e2, if_neg (fun e3 => e3.elim e2 e)]⟩))
          have WK2 := Lib.hid (WK.out.setD hy HD64.out)
          have TK3 : Hid (Turn ρ1 w2 (wr.setCell ⟨g, q * 10 + 9, none⟩ (.int .i64 d))) := Lib.hid (TK2.out.setCell (.inr (by rw [WK.out.grole]; decide)) _ _)
          have p0 := WK.out.c0
          have y9 := (WK.out.at_ hy).c9
          have f9 := WK.out.gfree (q * 10 + 9)
          subst hpa
          have hk64 : (k : Int) + 1 ≤ 9223372036854775807 := by omega
          clear hz hin hy WK TK2 EK
          go_wp2
          go_roundw
          case rel => exact ⟨k + 1, _, by omega, by go_num, WK2, TK3, EK2⟩
          case measure => simp [intOf]; omega
        · have hkk : k = rl := by omega
          subst hkk
          have HTK : Hid ((allI (coreL M1) n).take k = allI (coreL M1) n) := Lib.hid (List.take_of_length_le (by rw [HRL.out]; exact Nat.le_refl _))
          have EQ : Hid (coreL Mk = mvDoc (coreL M1) n d) := Lib.hid (by
            have := EK.out.eq
            rw [HTK.out] at this
            exact this)
          have RK : Hid (rightF m (coreL Mk) = true) := Lib.hid (by rw [EQ.out]; exact TK.out.rightG)
          have SK : Hid (smallF Mk) := Lib.hid (small_edit S1.out EK.out RK.out)
          have HTL : Hid (tellN (coreL Mk) n ⟨3, 0, x1.core.doc, d, ⟨#[]⟩, false, false, ⟨#[]⟩, ⟨#[]⟩⟩ = tellN (coreL M1) n ⟨3, 0, x1.core.doc, d, ⟨#[]⟩, false, false, ⟨#[]⟩, ⟨#[]⟩⟩) := Lib.hid (by rw [EQ.out]; exact tellN_doc R1.out (by rw [HL1.out]; exact hn) d _)
          have CT := Lib.hid (mtell_any wr WK.out RK.out SK.out n hn ⟨3, 0, x1.core.doc, d, ⟨#[]⟩, false, false, ⟨#[]⟩, ⟨#[]⟩⟩ ⟨mv3, mv0, F1.out.doc, HD64.out, emp_le, emp_le, emp_le⟩ (by have := HN1.out; omega))
          go_wp2_with (go_at_call 121; (with_reducible refine CT.out.mono ?_); rintro e w9 ⟨rfl, ρ9, M9, v9, N9, W9, T9, A9, rfl, rfl⟩)
          have TA : Turn ρ w wr := T1.out.trans (fun k hk => A1.out k hk) ((Turn.of_below HB2.out).trans (fun _ _ => rfl) TK2.out)
          refine bodyPost_ret (v := .tuple #[]) (by simp [results, Tryz.results101]) rfl ⟨rfl, ρ9, M9, v9, _, W9, TA.trans (fun k hk => A1.out k hk) T9, fun k hk => ?_, by rw [OV2.out, HTL.out, EQ.out], SK.out, RK.out⟩
          exact (A9 k (Nat.lt_of_lt_of_le hk TA.size)).trans (A1.out k hk)
end
end Go.Proofs.YtbgcpgpkhfbijaaGreatDoor
/- Package move: stand. -/
namespace Go.Proofs.YtbgcpgpkhfbijaaGreatDoor
open Go.RowKit
section
variable {ρ : Nat → Nat} {pw g cap len : Nat} {m : Int} {M : List NodeD} {v : Value} {N : List NoteD}
/-- Where a child is put. -/
def insAt (l : List Int) (b : Int) : Nat := if b = -1 then l.length else findN l b
theorem insAt_le (l : List Int) (b : Int) (hb : b = -1 ∨ b ∈ l) : insAt l b ≤ l.length := by
  unfold insAt
  by_cases e : b = -1
  · rw [if_pos e]; exact Nat.le_refl _
  · rw [if_neg e]; exact Nat.le_of_lt (findN_mem (hb.resolve_left e))
theorem insB_eq (l : List Int) (b n : Int) : l.take (insAt l b) ++ n :: l.drop (insAt l b) = insB l b n := by
  unfold insAt insB
  by_cases e : b = -1
  · rw [if_pos e, if_pos e, List.take_of_length_le (Nat.le_refl _), List.drop_eq_nil_of_le (Nat.le_refl _)]
  · rw [if_neg e, if_neg e]
set_option maxHeartbeats 8000000 in
set_option maxRecDepth 100000 in
theorem mstand_any (w : World) (h : Wk ρ w pw g cap len m M v N) (hs : smallF M) (n p : Nat) (hn : n < len) (hpl : p < len) (hnp : n ≠ p) (b : Int) (hb : b = -1 ∨ b ∈ kidsK (coreL M) p) :
    Calls Tryz.prog 147 #[ptrV pw, .int .i64 n, .int .i64 p, .int .i64 b] w (WkPost ρ w pw g cap len m fun M' N' => coreL M' = mvIn (coreL M) n p b ∧ N' = N) := by
  have hl1k : len ≤ 1000 := by rw [← h.hlen]; exact hs.1
  obtain ⟨x, hx⟩ : ∃ x, M[n]? = some x := ⟨_, List.getElem?_eq_getElem (by rw [h.hlen]; exact hn)⟩
  obtain ⟨y, hy⟩ : ∃ y, M[p]? = some y := ⟨_, List.getElem?_eq_getElem (by rw [h.hlen]; exact hpl)⟩
  have hkk : kidsK (coreL M) p = y.core.kids := by unfold kidsK; rw [getC_nat, coreL_get hy]
  rw [hkk] at hb
  have hkl : y.core.kids.length = y.kN := (h.kidsRow hy).hlen
  have hk1k : y.kN ≤ 1000 := by rw [← hkl]; exact (hs.2 y (List.mem_of_getElem? hy)).1
  obtain ⟨i, hi⟩ : ∃ i, insAt y.core.kids b = i := ⟨_, rfl⟩
  have hil : i ≤ y.kN := by rw [← hkl, ← hi]; exact insAt_le _ _ hb
  have hnn : In64 (n : Int) := in64_nat (by omega)
  have hpp : In64 (p : Int) := in64_nat (by omega)
  have CX : Hid (b ≠ -1 → Calls Tryz.prog 119 #[.slice y.kA y.kN y.kC, .int .i64 b] w fun e w' => e = .returned (.int .i64 i) ∧ w = w') := Lib.hid (fun hne => by
    have h1 := findZ_mem (hb.resolve_left hne)
    have h2 : insAt y.core.kids b = findN y.core.kids b := by unfold insAt; rw [if_neg hne]
    have h3 : findZ y.core.kids b = (i : Int) := by rw [h1, ← h2, hi]
    rw [← h3]
    exact index_any _ _ _ _ _ w (h.kidsRow hy))
  have hIL : b = -1 → i = y.kN := fun e => by rw [← hi, ← hkl]; unfold insAt; rw [if_pos e]
  obtain ⟨WI, hWI, WK2, HBI, HCELL⟩ : ∃ WI, (w.alloc (.cells #[.int .i64 (n : Int)] 3)).drew = WI ∧ Hid (Wk ρ WI pw g cap len m M v N) ∧ Hid (Below w.heap.size w WI) ∧ Hid (WI.heap[w.heap.size]? = some (.cells #[.int .i64 (n : Int)] 3 (0, 0))) := by
    have hb2 : Below w.heap.size w (w.alloc (.cells #[.int .i64 (n : Int)] 3)).drew := ((Below.refl _ _).alloc (Nat.le_refl _) _).drew
    exact ⟨_, rfl, Lib.hid (h.keep hb2), Lib.hid hb2, Lib.hid (heap_alloc_new w _)⟩
  have CI : Hid (Calls Tryz.prog 166 #[.slice y.kA y.kN y.kC, .int .i64 i, .slice (some ⟨w.heap.size, 0, none⟩) 1 1] WI (InsPost 0 (.slice y.kA y.kN y.kC) y.kN (insB y.core.kids b n) WI)) := Lib.hid (by
    rw [← insB_eq, hi]
    exact insertI_any WI 0 y.kN i _ y.core.kids n w.heap.size (Nat.zero_le _) (WK2.out.kown p y hy) hil (by omega) HCELL.out (fun e => by
      have := own_block_lt (h.kown p y hy) e
      omega))
  have HKR : Hid (∀ b', Value.ownBlock (.slice y.kA y.kN y.kC) = some b' → ρ b' = p + 5) := Lib.hid (fun b' e => h.krole p y b' hy e)
  have HINK : Hid (∀ z ∈ insB y.core.kids b n, In64 z) := Lib.hid (fun z hz => by
    have hk := (h.fld y (List.mem_of_getElem? hy)).kids
    rw [← insB_eq] at hz
    rcases List.mem_append.1 hz with hz | hz
    · exact hk z (List.mem_of_mem_take hz)
    · rcases List.mem_cons.1 hz with rfl | hz
      · exact hnn
      · exact hk z (List.mem_of_mem_drop hz))
  have HW := Lib.hid h
  have HX := Lib.hid hx
  have HY := Lib.hid hy
  have HP64 := Lib.hid hpp
  have HWI := Lib.hid hWI
  have p0 := h.c0
  have y6 := (h.at_ hy).c6
  have p0a := fun o => (h.keep (below_box w o)).c0
  have y6a := fun o => ((h.keep (below_box w o)).at_ hy).c6
  have hl64 : (len : Int) ≤ 9223372036854775807 := by omega
  have hkn64 : (y.kN : Int) ≤ 9223372036854775807 := by omega
  clear h hs hx hy hkk hkl hi hb hnn hpp hWI
  go_enter Tryz.func147, Tryz.ntmps147
  go_upto_if 23 with fail
  go_cut [9] (fun c wx => wx = w ∧ c = .int .i64 i)
  case first =>
    by_cases he : b = -1
    · have e1 : (b != -1) = false := by rw [he]; rfl
      have e2 := hIL he
      clear he
      go_wp2
      go_meet
      exact ⟨rfl, by rw [e2]⟩
    · have e1 : (b != -1) = true := bne_iff_ne.2 he
      have CX := CX.out he
      clear he
      go_wp2_with (go_at_call 119; (with_reducible refine CX.mono ?_); rintro e w3 ⟨rfl, rfl⟩)
      go_meet
      exact ⟨rfl, rfl⟩
  case rest =>
    obtain ⟨rfl, rfl⟩ := hcut
    go_upto_region 4 with fail
    go_region_with (go_at_call 166; rw [HWI.out]; (refine CI.out.mono ?_); rintro e w6 ⟨v6, rfl, ho6, hg6, hb6⟩; obtain ⟨g6, cap6, rfl⟩ := own_some ho6 (Nat.succ_pos _); have MID := WK2.out.mid hg6 (fun b' e => by rw [HKR.out b' e]; omega); have p0 := MID.c0; have f6 := MID.gfree (p * 10 + 6); have f5 := MID.gfree (n * 10 + 5); have c6 := MID.cells p y 6 _ HY.out rfl; have c5 := MID.cells n x 5 _ HX.out rfl; have hne : n * 10 + 5 ≠ p * 10 + 6 := (by omega); have HO6 := Lib.hid ho6; have HG6 := Lib.hid hg6; have HB6 := Lib.hid hb6; clear ho6 hg6 hb6 MID)
    all_goals go_wp2
    all_goals
      have W7 := WK2.out.setK HY.out HG6.out HO6.out HB6.out HINK.out
      have hxn : (M.set p (withK y (some ⟨g6, 0, none⟩) (y.kN + 1) cap6 (insB y.core.kids b n)))[n]? = some x := by rw [List.getElem?_set_ne (fun e => hnp e.symm)]; exact HX.out
      have W8 := W7.setP hxn HP64.out
      have hsz := HBI.out.size
      have T8 := (((Turn.of_below (ρ := ρ) HBI.out).grown HG6.out (fun k e => .inr (by rw [HKR.out k e]; omega))).setCell (b := g) (.inr (by rw [WK2.out.grole]; decide)) (p * 10 + 6) (.slice (some ⟨g6, 0, none⟩) (y.kN + 1) cap6)).setCell (b := g) (.inr (by rw [WK2.out.grole]; decide)) (n * 10 + 5) (.int .i64 (p : Int))
      refine bodyPost_ret (v := .tuple #[]) (by simp [results, Tryz.results147]) rfl ⟨rfl, _, _, v, N, W8, T8, upd_old (fun k e => (HB6.out k e).imp (HKR.out k) (fun h => Nat.le_trans hsz h)), ?_, rfl⟩
      refine ((core_set2 HX.out HY.out hnp).cong (fun j c hc => ⟨rfl, ?_, rfl⟩)).eq
      by_cases e : j = p
      · subst e
        rw [coreL_get HY.out] at hc
        rw [if_pos rfl, if_pos rfl, ← Option.some.inj hc]
      · rw [if_neg e, if_neg e]
end
end Go.Proofs.YtbgcpgpkhfbijaaGreatDoor
/- Package move, as mathematics: while parts are put, all stays as it must. No program. -/
namespace Go.Proofs.YtbgcpgpkhfbijaaGreatDoor
open Go.RowKit
/-- What holds while parts are put: l are those that are still to be put. -/
structure PutInv (m : Int) (F : List Core) (p : Nat) (l : List Int) (b : Int) : Prop where
  right : rightF m F = true
  lt : p < F.length
  kp : kindK F p ≠ 2
  once : l.Nodup
  ls : ∀ z ∈ l, ∃ q : Nat, z = q ∧ q < F.length ∧ (kindK F q = 1 ∨ kindK F q = 2)
  over : ∀ q : Nat, (q : Int) ∈ l → ¬ holdsT (parS F) q p
  root : kindK F p = 0 → (kidsK F p).length + l.length ≤ 1 ∧ ∀ k ∈ l, kindK F k = 1
  before : b = -1 ∨ (b ∈ kidsK F p ∧ b ∉ l)
section
variable {m : Int} {F G : List Core} {p : Nat} {l r : List Int} {b : Int}
theorem PutOk.inv {n : Nat} {c : Int} {cp : Core} (h : PutOk m F n p c l cp) : PutInv m F p l (beforeZ m F n p c) := by
  refine ⟨h.right, (List.getElem?_eq_some_iff.1 h.hp).1, by rw [kindK_at h.hp]; exact h.kp, h.once, fun z hz => ?_, h.over, fun e => ?_, ?_⟩
  · obtain ⟨q, c1, h1, h2, h3⟩ := h.ls z hz
    exact ⟨q, h1, (List.getElem?_eq_some_iff.1 h2).1, by rw [kindK_at h2]; exact h3⟩
  · rw [kidsK_get h.hp]
    exact h.root (by rw [kindK_at h.hp] at e; exact e)
  · rcases h.before with e | e
    · exact .inl e
    · rw [List.mem_filter] at e
      rw [kidsK_get h.hp]
      exact .inr ⟨e.1, by simpa using e.2⟩
theorem kidsK_edit {P : Nat → Core → Int} {K : Nat → Core → List Int} {D : Nat → Core → Int} (h : Edit F G P K D) {c : Core} (hc : F[p]? = some c) : kidsK G p = K p c := kidsK_get (h.at_ p c hc)
/-- A part goes out. -/
theorem PutInv.out (h : PutInv m F p l b) {q : Nat} (hq : (q : Int) ∈ l) (hp : parentK F q ≠ -1) : PutInv m (mvOut F q) p l b := by
  obtain ⟨q', e, hql, _⟩ := h.ls _ hq
  obtain rfl : q = q' := by omega
  have hx : F[q]? = some F[q] := List.getElem?_eq_getElem hql
  rw [parentK_at hx] at hp
  obtain ⟨a, ha1, ha2, ho⟩ := mvOut_out h.right hx hp
  obtain ⟨cp, hc⟩ : ∃ cp, F[p]? = some cp := ⟨_, List.getElem?_eq_getElem h.lt⟩
  have hk : kidsK (mvOut F q) p = if p = a then cp.kids.filter (fun z => z != (q : Int)) else cp.kids := kidsK_edit ho.ed hc
  have hk0 : kidsK F p = cp.kids := kidsK_get hc
  refine ⟨ho.rightG, by rw [ho.ed.len]; exact h.lt, by rw [ho.ed.kindK]; exact h.kp, h.once, fun z hz => ?_, fun t ht hh => ?_, fun e => ?_, ?_⟩
  · obtain ⟨t, h1, h2, h3⟩ := h.ls z hz
    exact ⟨t, h1, by rw [ho.ed.len]; exact h2, by rw [ho.ed.kindK]; exact h3⟩
  · obtain ⟨t', e, htl, _⟩ := h.ls _ ht
    obtain rfl : t = t' := by omega
    exact h.over t ht ((ho.over htl h.lt).1 hh).1
  · rw [ho.ed.kindK] at e
    obtain ⟨h1, h2⟩ := h.root e
    refine ⟨?_, fun k hk => by rw [ho.ed.kindK]; exact h2 k hk⟩
    rw [hk]
    rw [hk0] at h1
    split
    · exact Nat.le_trans (Nat.add_le_add_right (List.length_filter_le _ _) _) h1
    · exact h1
  · rcases h.before with e | ⟨h1, h2⟩
    · exact .inl e
    · refine .inr ⟨?_, h2⟩
      rw [hk]
      rw [hk0] at h1
      split
      · rw [List.mem_filter]
        exact ⟨h1, bne_iff_ne.2 (fun e => h2 (by rw [e]; exact hq))⟩
      · exact h1
theorem PutInv.outs {S : St} (h : PutInv m S.1 p l b) {q : Nat} (hq : (q : Int) ∈ l) : PutInv m (outS S q).1 p l b := by
  unfold outS
  split
  · exact h
  · next hp => exact h.out hq hp
theorem parS_same {F G : List Core} (h : ∀ j : Nat, nextUp G (j : Int) = nextUp F j) : parS G = parS F := by
  funext j
  unfold parS
  rw [h j]
/-- A part is taken over. -/
theorem PutInv.doc (h : PutInv m F p l b) {q : Nat} (hq : (q : Int) ∈ l) (hp : parentK F q = -1) {d : Int} (hd : ∃ c, getC F d = some c ∧ c.kind = 0) : PutInv m (mvDoc F q d) p l b := by
  obtain ⟨q', e, hql, hqk⟩ := h.ls _ hq
  obtain rfl : q = q' := by omega
  have T := taken_doc h.right hql hp hqk hd
  obtain ⟨cp, hc⟩ : ∃ cp, F[p]? = some cp := ⟨_, List.getElem?_eq_getElem h.lt⟩
  have hk : kidsK (mvDoc F q d) p = kidsK F p := by rw [kidsK_edit T.ed hc, kidsK_get hc]
  have hpar := parS_same T.next
  exact ⟨T.rightG, by rw [T.ed.len]; exact h.lt, by rw [T.ed.kindK]; exact h.kp, h.once, fun z hz => by
    obtain ⟨t, h1, h2, h3⟩ := h.ls z hz
    exact ⟨t, h1, by rw [T.ed.len]; exact h2, by rw [T.ed.kindK]; exact h3⟩, fun t ht hh => h.over t ht (by rw [hpar] at hh; exact hh), fun e => by
    rw [T.ed.kindK] at e
    rw [hk]
    obtain ⟨h1, h2⟩ := h.root e
    exact ⟨h1, fun k hk => by rw [T.ed.kindK]; exact h2 k hk⟩, by rw [hk]; exact h.before⟩
theorem doc_is (h : rightF m F = true) {p : Nat} (hp : p < F.length) : ∃ c, getC F (docK F p) = some c ∧ c.kind = 0 := by
  obtain ⟨cp, hc⟩ : ∃ cp, F[p]? = some cp := ⟨_, List.getElem?_eq_getElem hp⟩
  rw [docK_at hc]
  exact (right_node h hc).doc
/-- What taking over comes to. -/
structure Overs (m : Int) (S : St) (q p : Nat) (l : List Int) (b d : Int) (T : St) : Prop where
  inv : PutInv m T.1 p l b
  len : T.1.length = S.1.length
  par : parentK T.1 q = -1
  docq : docK T.1 q = d
  docp : docK T.1 p = docK S.1 p
theorem PutInv.overs {S : St} (h : PutInv m S.1 p l b) {q : Nat} (hq : (q : Int) ∈ l) {d : Int} (hd : ∃ c, getC S.1 d = some c ∧ c.kind = 0) : Overs m S q p l b d (overS S q d) := by
  obtain ⟨q', e, hql, hqk⟩ := h.ls _ hq
  obtain rfl : q = q' := by omega
  obtain ⟨hr1, ⟨P, K, hed⟩, hp1⟩ := outS_facts (S := S) h.right hql
  have h1 := h.outs hq
  obtain ⟨xp, hx⟩ : ∃ xp, S.1[p]? = some xp := ⟨_, List.getElem?_eq_getElem h.lt⟩
  have hxq : S.1[q]? = some S.1[q] := List.getElem?_eq_getElem hql
  have hdp : docK (outS S q).1 p = docK S.1 p := by rw [docK_at (hed.at_ p _ hx), docK_at hx]; rfl
  unfold overS
  dsimp only
  split
  · next e => exact ⟨h1, hed.len, hp1, e, hdp⟩
  · next e =>
    have hql1 : q < (outS S q).1.length := by rw [hed.len]; exact hql
    have hpl1 : p < (outS S q).1.length := by rw [hed.len]; exact h.lt
    have hed2 : Edit (outS S q).1 (mvDoc (outS S q).1 q d) (fun _ c => c.parent) (fun _ c => c.kids) (fun j c => if (j : Int) ∈ allI (outS S q).1 q then d else c.doc) := edF_edit (outS S q).1 (fun _ c => c.parent) (fun _ c => c.kids) (fun j c => if (j : Int) ∈ allI (outS S q).1 q then d else c.doc)
    obtain ⟨xp1, hx1⟩ : ∃ xp, (outS S q).1[p]? = some xp := ⟨_, List.getElem?_eq_getElem hpl1⟩
    have hxq1 : (outS S q).1[q]? = some (outS S q).1[q] := List.getElem?_eq_getElem hql1
    refine ⟨h1.doc hq hp1 (docIs_edit hed hd), hed2.len.trans hed.len, ?_, ?_, ?_⟩
    · show parentK (mvDoc (outS S q).1 q d) q = -1
      rw [parentK_at (hed2.at_ q _ hxq1)]
      rw [parentK_at hxq1] at hp1
      exact hp1
    · show docK (mvDoc (outS S q).1 q d) q = d
      rw [docK_at (hed2.at_ q _ hxq1)]
      exact if_pos ((mem_all h1.right hql1 hql1).2 (holds_refl q))
    · show docK (mvDoc (outS S q).1 q d) p = docK S.1 p
      rw [docK_at (hed2.at_ p _ hx1), ← hdp, docK_at hx1]
      exact if_neg (fun hh => h1.over q hq ((mem_all h1.right hql1 hpl1).1 hh))
/-- A part is put. -/
theorem PutInv.put {q : Nat} (h : PutInv m F p ((q : Int) :: r) b) (hp : parentK F q = -1) (hd : docK F q = docK F p) : PutInv m (mvIn F q p b) p r b := by
  have hq : (q : Int) ∈ (q : Int) :: r := List.mem_cons_self
  obtain ⟨q', e, hql, hqk⟩ := h.ls _ hq
  obtain rfl : q = q' := by omega
  have hx : F[q]? = some F[q] := List.getElem?_eq_getElem hql
  obtain ⟨cp, hc⟩ : ∃ cp, F[p]? = some cp := ⟨_, List.getElem?_eq_getElem h.lt⟩
  have hov := h.over q hq
  have hqp : q ≠ p := fun e => hov (by rw [e]; exact holds_refl p)
  have hk0 : kidsK F p = cp.kids := kidsK_get hc
  have notin : ∀ (j : Nat) (c : Core), F[j]? = some c → (q : Int) ∉ c.kids := fun j c hj hm => by
    obtain ⟨c', h1, _, h3, _⟩ := (right_node h.right hj).kids _ hm
    rw [getC_nat, hx] at h1
    rw [parentK_at hx] at hp
    rw [← Option.some.inj h1, hp] at h3
    omega
  have hb : b = -1 ∨ b ∈ cp.kids := by
    rcases h.before with e | ⟨h1, _⟩
    · exact .inl e
    · rw [hk0] at h1
      exact .inr h1
  have hfil : ∀ (j : Nat) (c : Core), F[j]? = some c → c.kids.filter (fun z => !([(q : Int)] : List Int).contains z) = c.kids := fun j c hj => List.filter_eq_self.2 (fun z hz => by
    have : z ≠ (q : Int) := fun e => notin j c hj (by rw [← e]; exact hz)
    simpa using this)
  have hedi := edF_edit F (fun j c => if j = q then (p : Int) else c.parent) (fun j c => if j = p then insB c.kids b q else c.kids) (fun _ c => c.doc)
  have hIn : PutIn m F (mvIn F q p b) [(q : Int)] p cp (cp.kids.take (insAt cp.kids b)) (cp.kids.drop (insAt cp.kids b)) (fun j => decide ((j : Int) ∈ allI F q)) := by
    refine ⟨h.right, hc, by rw [← kindK_at hc]; exact h.kp, by simp, fun z hz => ?_, fun t ht => ?_, ?_, fun e => ?_, fun j hj => ?_, hedi.cong (fun j c hj => ⟨?_, ?_, ?_⟩)⟩
    · rw [List.mem_singleton] at hz
      exact ⟨q, F[q], hz, hx, by rw [← kindK_at hx]; exact hqk⟩
    · have : t = q := Int.ofNat_inj.1 (by simpa using ht)
      rw [this]
      exact hov
    · rw [List.take_append_drop]
      exact (hfil p _ hc).symm
    · have h1 := h.root (by rw [kindK_at hc]; exact e)
      rw [hk0, List.length_cons] at h1
      have hnil : cp.kids = [] := List.eq_nil_of_length_eq_zero (by omega)
      rw [hnil]
      simp only [List.take_nil, List.drop_nil, List.nil_append, List.append_nil, List.length_singleton]
      exact ⟨Nat.le_refl _, fun k hk => by rw [List.mem_singleton] at hk; rw [hk]; exact h1.2 _ hq⟩
    · rw [decide_eq_true_iff, mem_all h.right hql hj]
      constructor
      · exact fun hh => ⟨q, by simp, hh⟩
      · rintro ⟨t, ht, hh⟩
        have : t = q := Int.ofNat_inj.1 (by simpa using ht)
        rw [← this]
        exact hh
    · by_cases e : j = q
      · subst e; simp
      · rw [if_neg e, if_neg (by simpa using (fun h2 => e (by omega) : (j : Int) ≠ (q : Int)))]
    · by_cases e : j = p
      · subst e
        rw [hc] at hj
        rw [if_pos rfl, if_pos rfl, ← Option.some.inj hj, ← insB_eq]
        simp
      · rw [if_neg e, if_neg e, hfil j c hj]
    · by_cases e : (j : Int) ∈ allI F q
      · have hjl := (List.getElem?_eq_some_iff.1 hj).1
        have h1 := doc_all h.right hql e hjl
        rw [hd, docK_at hj, docK_at hc] at h1
        simp only [decide_eq_true e, if_true]
        exact h1
      · simp only [decide_eq_false e, Bool.false_eq_true, if_false]
  have hed : Edit F (mvIn F q p b) (fun j c => if j = q then (p : Int) else c.parent) (fun j c => if j = p then insB c.kids b q else c.kids) (fun _ c => c.doc) := hedi
  have hkG : kidsK (mvIn F q p b) p = insB cp.kids b q := by rw [kidsK_edit hed hc]; exact if_pos rfl
  have hup : ∀ (k c a : Nat), c < F.length → ¬ holdsT (parS F) q c → upN (parS (mvIn F q p b)) k c = some a → upN (parS F) k c = some a := by
    intro k
    induction k with
    | zero => exact fun c a _ _ hu => hu
    | succ k ih =>
      intro c a hcl hn hu
      unfold upN at hu ⊢
      have hcq : c ≠ q := fun e => hn (by rw [e]; exact holds_refl q)
      have hpc : parS (mvIn F q p b) c = parS F c := by
        unfold parS
        have h1 := hIn.next hcl
        rw [if_neg (by simpa using (fun h2 => hcq (by omega) : (c : Int) ≠ (q : Int)))] at h1
        rw [h1]
      rw [hpc] at hu
      cases hq2 : parS F c with
      | none => rw [hq2] at hu; cases hu
      | some t =>
        rw [hq2] at hu
        exact ih t a (parS_next h.right hcl hq2).2 (fun hh => hn (holds_trans hh (holds_par hq2))) hu
  refine ⟨hIn.rightG, by rw [hed.len]; exact h.lt, by rw [hed.kindK]; exact h.kp, (List.nodup_cons.1 h.once).2, fun z hz => ?_, fun t ht hh => ?_, fun e => ?_, ?_⟩
  · obtain ⟨t, h1, h2, h3⟩ := h.ls z (List.mem_cons_of_mem _ hz)
    exact ⟨t, h1, by rw [hed.len]; exact h2, by rw [hed.kindK]; exact h3⟩
  · obtain ⟨k, hk⟩ := hh
    exact h.over t (List.mem_cons_of_mem _ ht) ⟨k, hup k p t h.lt hov hk⟩
  · rw [hed.kindK] at e
    obtain ⟨h1, h2⟩ := h.root e
    refine ⟨?_, fun k hk => by rw [hed.kindK]; exact h2 k (List.mem_cons_of_mem _ hk)⟩
    rw [hkG, ← insB_eq]
    rw [hk0, List.length_cons] at h1
    simp only [List.length_append, List.length_cons, List.length_take, List.length_drop]
    omega
  · rcases h.before with e | ⟨h1, h2⟩
    · exact .inl e
    · refine .inr ⟨?_, fun hh => h2 (List.mem_cons_of_mem _ hh)⟩
      rw [hkG, ← insB_eq]
      rw [hk0, ← List.take_append_drop (insAt cp.kids b) cp.kids] at h1
      rcases List.mem_append.1 h1 with h1 | h1
      · exact List.mem_append.2 (.inl h1)
      · exact List.mem_append.2 (.inr (List.mem_cons_of_mem _ h1))
theorem PutInv.ins {S : St} {q : Nat} (h : PutInv m S.1 p ((q : Int) :: r) b) : PutInv m (inS p b S q).1 p r b := by
  have hO := h.overs List.mem_cons_self (doc_is h.right h.lt)
  exact hO.inv.put hO.par (hO.docq.trans hO.docp.symm)
end
end Go.Proofs.YtbgcpgpkhfbijaaGreatDoor
/- Package valid's Parts: what it hands back lies in new memory. -/
namespace Go.Proofs.YtbgcpgpkhfbijaaGreatDoor
open Go.RowKit
set_option maxHeartbeats 4000000 in
set_option maxRecDepth 100000 in
theorem vpartsNew_any (a : Option Addr) (len cap : Nat) (m : Int) (L : List NodeD) (n : Int) (w : World) (h : NodeRow w a len cap L) (hn : In64 n) (hs : smallF L) :
    Calls Tryz.prog 34 #[forV a len cap m, .int .i64 n] w (OrdNew w (partsZ (coreL L) n)) := by
  have HCL : Hid ((coreL L).length = len) := Lib.hid (by rw [coreL_len, h.hlen])
  have hlen := h.len64
  have BX := Lib.hid (Box.start (m := m) h)
  have HF : Hid (∀ W b, NodeRow W a len cap L → inF (coreL L) n = b → Calls Tryz.prog 91 #[forV a len cap m, .int .i64 n] W fun e w' => e = .returned (.bool b) ∧ Below W.heap.size W w') := Lib.hid (fun W b h1 h3 => by
    rw [← h3]
    exact vhas_any a len cap m L n W h1 hn)
  have HS := Lib.hid hs
  have HN := Lib.hid hn
  have HH := Lib.hid h
  clear h hs hn
  cases q : inF (coreL L) n with
  | false =>
    have HQ := Lib.hid q
    have HP : Hid (partsZ (coreL L) n = []) := Lib.hid (by
      unfold partsZ getC
      unfold inF at q
      by_cases h0 : 0 ≤ n
      · rw [decide_eq_true h0, Bool.true_and, decide_eq_false_iff_not] at q
        rw [if_pos h0, List.getElem?_eq_none (by omega)]
      · rw [if_neg h0])
    clear q
    have z0 := BX.out.c0
    have z1 := BX.out.c1
    go_enter Tryz.func34, Tryz.ntmps34
    go_wp2_with (go_at_call 91; (refine (HF.out _ _ BX.out.row HQ.out).mono ?_); rintro e w1 ⟨rfl, hb⟩; have BX := Lib.hid (BX.out.keep hb); have z0 := BX.out.c0; have z1 := BX.out.c1; clear hb)
    go_ret
    exact ⟨none, 0, 0, rfl, by rw [HP.out]; exact ⟨SRow.nil, by simp, fun _ => rfl⟩, BX.out.below, fun b off h => by cases h⟩
  | true =>
    have HQ := Lib.hid q
    obtain ⟨k, rfl, hk⟩ := inF_nat q
    rw [HCL.out] at hk
    clear q
    obtain ⟨b, off, x, rfl, hb, hx, hat, hok⟩ := HH.out.get hk
    have hxc := coreL_get hx
    have C0 := Lib.hid (stays hat.c0 hb)
    have C6 := Lib.hid (stays hat.c6 hb)
    have NK := Lib.hid hok
    by_cases h3 : x.core.kind = 3
    · have HP : Hid (partsZ (coreL L) k = x.core.kids) := Lib.hid (by unfold partsZ; rw [getC_nat, hxc]; dsimp only; rw [if_pos h3])
      have hk3 : (x.core.kind == 3) = true := beq_iff_eq.2 h3
      have HKL : Hid (x.core.kids.length ≤ 1000) := Lib.hid (HS.out.2 x (List.mem_of_getElem? hx)).1
      have IN : Hid (∀ z ∈ x.core.kids, In64 z) := Lib.hid NK.out.kids.inb
      have CC : Hid (∀ W, Below w.heap.size w W → Calls Tryz.prog 92 #[.slice x.kA x.kN x.kC] W (OwnPostI W x.core.kids)) := Lib.hid (fun W hb => cloneI_any x.kA x.kN x.kC x.core.kids W (NK.out.kids.below hb) (by have h1 := HKL.out; have h2 := NK.out.kids.hlen; omega))
      clear hat hok hx hxc hb h3
      have z0 := BX.out.c0
      have z1 := BX.out.c1
      go_enter Tryz.func34, Tryz.ntmps34
      go_wp2_with (first
        | (go_at_call 91; ((with_reducible refine (HF.out _ _ BX.out.row HQ.out).mono ?_); rintro e w1 ⟨rfl, hb⟩; have BX := Lib.hid (BX.out.keep hb); have z0 := BX.out.c0; have z1 := BX.out.c1; clear hb; have c0 := C0.out _ BX.out.below; have c6 := C6.out _ BX.out.below))
        | (go_at_call 92; ((with_reducible refine (CC.out _ BX.out.below).mono ?_)); intro e w2 hp; obtain ⟨a2, cap2, rfl, hr2, hlo2, hb2⟩ := OwnPostI.row hp IN.out; have HSZ := Lib.hid BX.out.below.size; have HLO := Lib.hid hlo2; clear hlo2; have BX := Lib.hid (BX.out.keep hb2); have HR2 := Lib.hid hr2; clear hp hr2 hb2))
      go_ret
      exact ⟨a2, _, cap2, rfl, by rw [HP.out]; exact HR2.out, BX.out.below, fun b off h => Nat.le_trans HSZ.out (HLO.out b off h)⟩
    · have HP : Hid (partsZ (coreL L) k = [(k : Int)]) := Lib.hid (by unfold partsZ; rw [getC_nat, hxc]; dsimp only; rw [if_neg h3])
      have hk3 : (x.core.kind == 3) = false := beq_eq_false_iff_ne.2 h3
      clear hat hok hx hxc hb h3
      have z0 := BX.out.c0
      have z1 := BX.out.c1
      go_enter Tryz.func34, Tryz.ntmps34
      go_wp2_with (go_at_call 91; ((with_reducible refine (HF.out _ _ BX.out.row HQ.out).mono ?_); rintro e w1 ⟨rfl, hb⟩; have BX := Lib.hid (BX.out.keep hb); have z0 := BX.out.c0; have z1 := BX.out.c1; clear hb; have c0 := C0.out _ BX.out.below; have c6 := C6.out _ BX.out.below))
      go_ret
      exact ⟨_, 1, 1, rfl, by rw [HP.out]; exact lit_one _ _ _ HN.out, BX.out.below.trans ((below_box _ _).mono BX.out.below.size), fun b off h => by injection h with h; injection h with h1; have := BX.out.below.size; omega⟩
end Go.Proofs.YtbgcpgpkhfbijaaGreatDoor
/- Packages change and move: Put, put. -/
namespace Go.Proofs.YtbgcpgpkhfbijaaGreatDoor
open Go.RowKit
abbrev wkB (b : Nat) : Obj := .cells #[.pointer (some ⟨b, 0, none⟩)] 91
abbrev wkZ : Obj := .cells #[.pointer none] 91
theorem cell_box {W : World} {v : Value} {t : TypeId} : (W.alloc (.cells #[v] t)).cell? ⟨W.heap.size, 0, none⟩ = some v := by
  have := cell_of_row (W.alloc (.cells #[v] t)) W.heap.size 0 #[v] t (0, 0) (heap_alloc_new W _)
  rw [this]
  rfl
section
variable {m : Int}
theorem outS_len {S : St} (h : rightF m S.1 = true) {n : Nat} (hn : n < S.1.length) : (outS S n).2.length ≤ S.2.length + 400 := by
  unfold outS
  split
  · omega
  · have := tellN_len h hn (note 2)
    show (if connF S.1 n then S.2 ++ tellN S.1 n (note 2) else S.2).length ≤ _
    split
    · rw [List.length_append]; omega
    · omega
theorem overS_len {S : St} (h : rightF m S.1 = true) {n : Nat} (hn : n < S.1.length) (d : Int) : (overS S n d).2.length ≤ S.2.length + 800 := by
  have h1 := outS_len h hn
  obtain ⟨hr, ⟨P, K, hed⟩, _⟩ := outS_facts h hn
  unfold overS
  dsimp only
  split
  · omega
  · rw [List.length_append]
    have := tellN_len hr (n := n) (by rw [hed.len]; exact hn) ⟨3, 0, docK (outS S n).1 n, d, ⟨#[]⟩, false, false, ⟨#[]⟩, ⟨#[]⟩⟩
    omega
theorem parentK_out {F : List Core} {q z : Nat} (hz : z < F.length) (hne : z ≠ q) : parentK (mvOut F q) z = parentK F z := by
  have hc : F[z]? = some F[z] := List.getElem?_eq_getElem hz
  have hed : Edit F (mvOut F q) (fun j c => if j = q then -1 else c.parent) (fun j c => if (j : Int) = parentK F q then c.kids.filter (fun z => z != (q : Int)) else c.kids) (fun _ c => c.doc) := edF_edit _ _ _ _
  rw [parentK_at (hed.at_ z _ hc), parentK_at hc]
  exact if_neg hne
end
section
variable {ρ : Nat → Nat} {pw g cap len : Nat} {m : Int} {M : List NodeD} {v : Value} {N : List NoteD}
/-- A piece of work behind another one. -/
theorem chain_turn {ρ ρk ρ' : Nat → Nat} {w wr w' : World} (T : Turn ρ w wr) (A : ∀ k, k < w.heap.size → ρk k = ρ k) (T' : Turn ρk wr w') (A' : ∀ k, k < wr.heap.size → ρ' k = ρk k) : Turn ρ w w' ∧ ∀ k, k < w.heap.size → ρ' k = ρ k :=
  ⟨T.trans A T', fun k hk => (A' k (Nat.lt_of_lt_of_le hk T.size)).trans (A k hk)⟩
set_option maxHeartbeats 16000000 in
set_option maxRecDepth 100000 in
theorem mpart_any (w : World) (h : Wk ρ w pw g cap len m M v N) (hs : smallF M) (q p : Nat) (bz : Int) (r : List Int) (PI : PutInv m (coreL M) p ((q : Int) :: r) bz) (hN : N.length ≤ 80000000) :
    Calls Tryz.prog 103 #[ptrV pw, .int .i64 q, .int .i64 p, .int .i64 bz] w (WkPost ρ w pw g cap len m fun M' N' => (coreL M', N') = inS p bz (coreL M, N) q ∧ smallF M') := by
  have hmem : (q : Int) ∈ (q : Int) :: r := List.mem_cons_self
  have HL : (coreL M).length = len := by rw [coreL_len, h.hlen]
  obtain ⟨q', hqq, hql0, hkq⟩ := PI.ls _ hmem
  obtain rfl : q = q' := by omega
  have hql : q < len := by rw [← HL]; exact hql0
  have hpl : p < len := by rw [← HL]; exact PI.lt
  have hl1k : len ≤ 1000 := by rw [← h.hlen]; exact hs.1
  obtain ⟨y, hy⟩ : ∃ y, M[p]? = some y := ⟨_, List.getElem?_eq_getElem (by rw [h.hlen]; exact hpl)⟩
  have hdy : docK (coreL M) p = y.core.doc := docK_at (coreL_get hy)
  have hdoc := doc_is PI.right PI.lt
  rw [hdy] at hdoc
  have OV := Lib.hid (PI.overs (S := (coreL M, N)) hmem hdoc)
  have hqp : q ≠ p := fun e => PI.over q hmem (by rw [e]; exact holds_refl p)
  have CO := Lib.hid (mover_any w h PI.right hs q hql hkq y.core.doc (h.fld y (List.mem_of_getElem? hy)).doc hdoc (by omega))
  have PK2 : Hid (rightF m (inS p bz (coreL M, N) q).1 = true) := Lib.hid (PutInv.ins (S := (coreL M, N)) PI).right
  have LK2 : Hid ((overS (coreL M, N) q y.core.doc).2.length ≤ N.length + 800) := Lib.hid (overS_len (S := (coreL M, N)) PI.right hql0 _)
  have HIN : Hid (inS p bz (coreL M, N) q = (mvIn (overS (coreL M, N) q y.core.doc).1 q p bz, if connF (mvIn (overS (coreL M, N) q y.core.doc).1 q p bz) q then (overS (coreL M, N) q y.core.doc).2 ++ tellN (mvIn (overS (coreL M, N) q y.core.doc).1 q p bz) q (note 1) else (overS (coreL M, N) q y.core.doc).2)) := Lib.hid (by
    unfold inS
    simp only [hdy])
  have p0 := h.c0
  have y9 := (h.at_ hy).c9
  have hl64 : (len : Int) ≤ 9223372036854775807 := by omega
  have HN := Lib.hid hN
  clear PI hy hdy hdoc hqq hkq hmem h hs hN hql0 HL
  go_enter Tryz.func103, Tryz.ntmps103
  go_upto_if 27 with (first
    | (go_at_call 101; (with_reducible refine CO.out.mono ?_); rintro e w3 ⟨rfl, ρ3, M3, v3, N3, W3, T3, A3, E3, S3, R3⟩; have W3 := Lib.hid W3; have T3 := Lib.hid T3; have A3 := Lib.hid A3; have E3 := Lib.hid E3; have S3 := Lib.hid S3)
    | (go_at_call 147; (refine (mstand_any w3 W3.out S3.out q p hql hpl hqp bz (by have h1 := OV.out.inv.before; rw [← E3.out] at h1; exact h1.imp id And.left)).mono ?_); rintro e w4 ⟨rfl, ρ4, M4, v4, N4, W4, T4, A4, E4, rfl⟩; have W4 := Lib.hid W4; have T4 := Lib.hid T4; have A4 := Lib.hid A4; have HM4 : Hid (coreL M4 = mvIn (overS (coreL M, N) q y.core.doc).1 q p bz) := (Lib.hid (by rw [E4, ← E3.out])); have R4 : Hid (rightF m (coreL M4) = true) := (Lib.hid (by have h1 := PK2.out; rw [HIN.out] at h1; rw [HM4.out]; exact h1)); have S4 : Hid (smallF M4) := (Lib.hid (small_edit S3.out (by rw [E4]; exact edF_edit _ _ _ _) R4.out)); clear E4)
    | (go_at_call 118; (refine (mconn_any w4 W4.out R4.out q hql).mono ?_); rintro e w5 ⟨rfl, hb5⟩; have W5 := Lib.hid (W4.out.keep hb5); have HB5 := Lib.hid hb5; clear hb5))
  have HN4 : Hid (N4 = (overS (coreL M, N) q y.core.doc).2) := Lib.hid (congrArg Prod.snd E3.out)
  have hN4 : N4.length ≤ 80000800 := by have := LK2.out; rw [← HN4.out] at this; have := HN.out; omega
  obtain ⟨T6, A6⟩ := chain_turn T3.out A3.out T4.out A4.out
  have T7 := T6.keep HB5.out
  have T7 := Lib.hid T7
  have A6 := Lib.hid A6
  obtain ⟨cb, hcb⟩ : ∃ cb, connF (coreL M4) q = cb := ⟨_, rfl⟩
  rw [hcb]
  have HCB := Lib.hid hcb
  have HRES : Hid (inS p bz (coreL M, N) q = (coreL M4, if cb then N4 ++ tellN (coreL M4) q (note 1) else N4)) := Lib.hid (by
    rw [HIN.out, ← HM4.out, ← HN4.out, HCB.out])
  clear hcb T6
  cases cb with
  | false =>
    go_wp2
    refine bodyPost_ret (v := .tuple #[]) (by simp [results, Tryz.results103]) rfl ⟨rfl, ρ4, M4, v4, N4, W5.out, T7.out, A6.out, by rw [HRES.out]; rfl, S4.out⟩
  | true =>
    have CT := Lib.hid (mtell_any w5 W5.out R4.out S4.out q hql (note 1) (noteOk_note 1 ⟨by decide, by decide⟩) (by omega))
    go_wp2_with (go_at_call 121; (with_reducible refine CT.out.mono ?_); rintro e w9 ⟨rfl, ρ9, M9, v9, N9, W9, T9, A9, rfl, rfl⟩)
    obtain ⟨T10, A10⟩ := chain_turn T7.out A6.out T9 A9
    refine bodyPost_ret (v := .tuple #[]) (by simp [results, Tryz.results103]) rfl ⟨rfl, ρ9, M9, v9, _, W9, T10, A10, by rw [HRES.out]; rfl, S4.out⟩
theorem inS_len {S : St} {p q : Nat} {r : List Int} {b : Int} (h : PutInv m S.1 p ((q : Int) :: r) b) : (inS p b S q).2.length ≤ S.2.length + 1200 := by
  obtain ⟨q', e, hq, hk⟩ := h.ls _ List.mem_cons_self
  obtain rfl : q = q' := by omega
  have h1 := overS_len (S := S) h.right hq (docK S.1 p)
  have hG := h.ins.right
  have hl : (overS S q (docK S.1 p)).1.length = S.1.length := (h.overs List.mem_cons_self (doc_is h.right h.lt)).len
  unfold inS at hG ⊢
  dsimp only at hG ⊢
  split
  · rw [List.length_append]
    have := tellN_len hG (n := q) (by show q < (mvIn (overS S q (docK S.1 p)).1 q p b).length; rw [show (mvIn (overS S q (docK S.1 p)).1 q p b).length = (overS S q (docK S.1 p)).1.length from (edF_edit _ _ _ _).len, hl]; exact hq) (note 1)
    omega
  · omega
set_option maxHeartbeats 16000000 in
set_option maxRecDepth 100000 in
theorem mput_any (w : World) (h : Wk ρ w pw g cap len m M v N) (hm : In64 m) (hs : smallF M) (n p : Nat) (c : Int) (hc64 : In64 c) (hn : n < len) (hpl : p < len) (hmay : mayZ m (coreL M) n p c = 0) (hN : N.length ≤ 70000000) :
    Calls Tryz.prog 62 #[workV pw, .int .i64 n, .int .i64 p, .int .i64 c] w (WkPost ρ w pw g cap len m fun M' N' => (coreL M', N') = putS (coreL M, N) n p (beforeZ m (coreL M) n p c) ∧ smallF M' ∧ rightF m (coreL M') = true) := by
  have HL : Hid ((coreL M).length = len) := Lib.hid (by rw [coreL_len, h.hlen])
  have hl1k : len ≤ 1000 := by rw [← h.hlen]; exact hs.1
  obtain ⟨cp, hcp⟩ : ∃ cp, (coreL M)[p]? = some cp := ⟨_, List.getElem?_eq_getElem (by rw [HL.out]; exact hpl)⟩
  have PO := PutOk.of hmay hcp
  have hr := PO.right
  have PI := PO.inv
  obtain ⟨x, hx⟩ : ∃ x, M[n]? = some x := ⟨_, List.getElem?_eq_getElem (by rw [h.hlen]; exact hn)⟩
  obtain ⟨l, hl⟩ : ∃ l, partsZ (coreL M) n = l := ⟨_, rfl⟩
  obtain ⟨bz, hbz⟩ : ∃ bz, beforeZ m (coreL M) n p c = bz := ⟨_, rfl⟩
  rw [hbz, hl] at PI
  have CB : Hid (∀ W, NodeRow W (some ⟨g, 0, none⟩) len cap M → Calls Tryz.prog 35 #[forV (some ⟨g, 0, none⟩) len cap m, .int .i64 n, .int .i64 p, .int .i64 c] W fun e w' => e = .returned (.int .i64 bz) ∧ Below W.heap.size W w') := Lib.hid (fun W h1 => by
    rw [← hbz]
    exact vbefore_any _ len cap m M n p c W h1 hm (in64_nat (by omega)) (in64_nat (by omega)) hc64 hs)
  have CP : Hid (∀ W, NodeRow W (some ⟨g, 0, none⟩) len cap M → Calls Tryz.prog 34 #[forV (some ⟨g, 0, none⟩) len cap m, .int .i64 n] W (OrdNew W l)) := Lib.hid (fun W h1 => by
    rw [← hl]
    exact vpartsNew_any _ len cap m M n W h1 (in64_nat (by omega)) hs)
  have HX0 : Hid (kindK (coreL M) n = x.core.kind) := Lib.hid (kindK_at (coreL_get hx))
  have HPUT : Hid (putS (coreL M, N) n p bz = (l.map Int.toNat).foldl (inS p bz) (if x.core.kind = 3 then (l.map Int.toNat).foldl outS (coreL M, N) else (coreL M, N))) := Lib.hid (by
    unfold putS
    simp only [hl, HX0.out])
  have HLP : Hid (x.core.kind = 3 → ∀ z ∈ l, parentK (coreL M) z = n) := Lib.hid (fun e z hz => by
    rw [← hl, parts_at (coreL_get hx), if_pos e] at hz
    obtain ⟨c1, h1, _, h3, _⟩ := (right_node hr (coreL_get hx)).kids z hz
    unfold parentK
    rw [h1]
    exact h3)
  have PIV := Lib.hid PI
  have HS := Lib.hid hs
  have HW := Lib.hid h
  have HX := Lib.hid hx
  have HN := Lib.hid hN
  have hl64 : (len : Int) ≤ 9223372036854775807 := by omega
  obtain ⟨w0, hw0, W0, HBX, HBZ⟩ : ∃ w0, w.alloc (wkB pw) = w0 ∧ Hid (Wk ρ w0 pw g cap len m M v N) ∧ Hid (Below w.heap.size w w0) ∧ Hid (w0.cell? ⟨w.heap.size, 0, none⟩ = some (ptrV pw) ∧ w.heap.size < w0.heap.size) := ⟨_, rfl, Lib.hid (h.keep (below_box _ _)), Lib.hid (below_box _ _), Lib.hid ⟨cell_box, by simp⟩⟩
  have HW0 := Lib.hid hw0
  have HRB : Hid (ρ w.heap.size = 0) := Lib.hid (h.fresh _ (Nat.le_refl _))
  have p0 := W0.out.c0
  have p1 := W0.out.c1
  have zw := HBZ.out.1
  rw [hbz]
  have HLL : Hid (l.length ≤ 1000) := Lib.hid (by
    rw [← hl, parts_at (coreL_get hx)]
    split
    · exact Nat.le_trans (right_kids hr (coreL_get hx)) (by decide)
    · simp)
  clear PO PI hr hcp hbz hl h hs hx hmay hm hc64 hw0
  go_enter Tryz.func62, Tryz.ntmps62
  go_upto_region 1 with fail
  rw [HW0.out]
  go_cut [8, 9] (fun q r wx => ∃ (pa : Option Addr) (pl pc : Nat), q = .int .i64 bz ∧ r = .slice pa pl pc ∧ Hid (Below w0.heap.size w0 wx) ∧ Hid (IntRow wx pa pl pc l) ∧ Hid (∀ b off, pa = some ⟨b, off, none⟩ → w0.heap.size ≤ b))
  case first =>
    have KEEP : Hid (∀ W, Below w0.heap.size w0 W → NodeRow W (some ⟨g, 0, none⟩) len cap M ∧ W.cell? ⟨pw, 0, none⟩ = some (.slice (some ⟨g, 0, none⟩) len cap) ∧ W.cell? ⟨pw, 1, none⟩ = some (.int .i64 m) ∧ W.cell? ⟨w.heap.size, 0, none⟩ = some (ptrV pw)) := Lib.hid (fun W hb => by
      have := W0.out.keep hb
      exact ⟨this.row, this.c0, this.c1, (hb.cell (p := ⟨w.heap.size, 0, none⟩) HBZ.out.2).trans HBZ.out.1⟩)
    have B0 := Lib.hid ((Below.refl w0.heap.size w0).drew)
    go_region_with (first
      | (go_at_call 35; (refine (CB.out _ (KEEP.out _ B0.out).1).mono ?_); rintro e w1 ⟨rfl, hb⟩; have B0 := Lib.hid (B0.out.trans (hb.mono B0.out.size)); have p0 := (KEEP.out _ B0.out).2.1; have p1 := (KEEP.out _ B0.out).2.2.1; have zw := (KEEP.out _ B0.out).2.2.2; (try (have IR := Lib.hid (IR.out.below hb))); clear hb)
      | (go_at_call 34; (refine (CP.out _ (KEEP.out _ B0.out).1).mono ?_); rintro e w1 ⟨pa, pl, pc, rfl, hrl, hb, hrn⟩; have IN0 : Hid (∀ b off, pa = some ⟨b, off, none⟩ → w0.heap.size ≤ b) := Lib.hid (fun b off e => Nat.le_trans B0.out.size (hrn b off e)); have B0 := Lib.hid (B0.out.trans (hb.mono B0.out.size)); have p0 := (KEEP.out _ B0.out).2.1; have p1 := (KEEP.out _ B0.out).2.2.1; have zw := (KEEP.out _ B0.out).2.2.2; have IR := Lib.hid hrl; clear hb hrl hrn))
    all_goals go_wp2
    all_goals
      go_meet
      exact ⟨_, _, _, rfl, rfl, B0, IR, IN0⟩
  case rest =>
    obtain ⟨pa, pl, pc, rfl, rfl, HB1, IR, INW⟩ := hcut
    obtain ⟨wd, rfl⟩ : ∃ wd, wd = wc := ⟨_, rfl⟩
    have W1 := Lib.hid (W0.out.keep HB1.out)
    have IR0 : Hid (∀ b off, pa = some ⟨b, off, none⟩ → 0 < pl → ρ b = 0) := Lib.hid (fun b off e _ => W0.out.fresh b (INW.out b off e))
    have hwd : w.heap.size < wd.heap.size := Nat.lt_of_lt_of_le HBZ.out.2 HB1.out.size
    have ZWD : Hid (wd.cell? ⟨w.heap.size, 0, none⟩ = some (ptrV pw)) := Lib.hid ((HB1.out.cell (p := ⟨w.heap.size, 0, none⟩) HBZ.out.2).trans HBZ.out.1)
    have zw := ZWD.out
    have hpll : l.length = pl := IR.out.hlen
    have HPLL := Lib.hid hpll
    have hpl1k : pl ≤ 1000 := by rw [← hpll]; exact HLL.out
    clear p0 p1 hpll CB CP
    have p0 := W1.out.c0
    have x0 := (W1.out.at_ HX.out).c0
    have HQ : Hid (∀ (k : Nat) (z : Int), l[k]? = some z → ∃ q : Nat, z = q ∧ q < len) := Lib.hid (fun k z hz => by
      obtain ⟨q, h1, h2, _⟩ := PIV.out.ls z (List.mem_of_getElem? hz)
      exact ⟨q, h1, by rw [← HL.out]; exact h2⟩)
    go_upto_if 40 with fail
    go_cut [] (fun wx => True ∧ ∃ ρ1 M1 v1 N1, Hid (Wk ρ1 wx pw g cap len m M1 v1 N1) ∧ Hid (Turn ρ wd wx) ∧ Hid (∀ k, k < wd.heap.size → ρ1 k = ρ k) ∧ Hid ((coreL M1, N1) = if x.core.kind = 3 then (l.map Int.toNat).foldl outS (coreL M, N) else (coreL M, N)) ∧ Hid (smallF M1) ∧ Hid (PutInv m (coreL M1) p l bz) ∧ Hid (N1.length ≤ 72000000))
    case first =>
      by_cases hk3 : x.core.kind = 3
      · have e1 : (x.core.kind == 3) = true := beq_iff_eq.2 hk3
        have HP0 : Hid (∀ z ∈ l, parentK (coreL M) z ≠ -1) := Lib.hid (fun z hz => by rw [HLP.out hk3 z hz]; omega)
        have HK3 := Lib.hid hk3
        clear hk3
        rw [e1]
        go_wp2
        go_loopw [43] (fun i wr => ∃ (k : Nat) (ρk : Nat → Nat) (Mk : List NodeD) (vk : Value) (Nk : List NoteD), k ≤ pl ∧ i = .int .i64 k ∧ Hid (Wk ρk wr pw g cap len m Mk vk Nk) ∧ Hid (Turn ρ wd wr) ∧ Hid (∀ k, k < wd.heap.size → ρk k = ρ k) ∧ Hid ((coreL Mk, Nk) = ((l.take k).map Int.toNat).foldl outS (coreL M, N)) ∧ Hid (smallF Mk) ∧ Hid (PutInv m (coreL Mk) p l bz) ∧ Hid (∀ z ∈ l.drop k, parentK (coreL Mk) z ≠ -1) ∧ Nk.length ≤ N.length + 400 * k) (fun i _ => pl - (intOf i).toNat)
        case atStart => exact ⟨0, ρ, M, v, N, Nat.zero_le _, rfl, W1, Lib.hid (Turn.refl _ _), Lib.hid (fun _ _ => rfl), Lib.hid rfl, HS, PIV, Lib.hid HP0.out, Nat.le_refl _⟩
        case round =>
          clear p0 x0 zw
          obtain ⟨k, ρk, Mk, vk, Nk, hk, rfl, WK, TK, AK, EK, SK, PK, QK, hNk⟩ := hrel
          have zw := (TK.out.cell hwd HRB.out).trans ZWD.out
          by_cases hlt : k < pl
          · obtain ⟨bp, op, z, hpa, hbp, hz, hcz, hin⟩ := (TK.out.introw IR.out IR0.out).get hlt
            obtain ⟨q, rfl, hql⟩ := HQ.out k z hz
            have hmem := List.mem_of_getElem? hz
            have hdrop : (q : Int) ∈ l.drop k := by
              refine List.mem_of_getElem? (i := 0) ?_
              rw [List.getElem?_drop, Nat.add_zero]
              exact hz
            have CO := Lib.hid (mgoOut_any wr WK.out PK.out.right SK.out q hql (QK.out _ hdrop) (by have := HN.out; omega))
            have EK2 : Hid (((l.take (k + 1)).map Int.toNat).foldl outS (coreL M, N) = outS (coreL Mk, Nk) q) := Lib.hid (by
              rw [List.take_add_one, hz, List.map_append, List.foldl_append, ← EK.out]
              rfl)
            have PK2 : Hid (PutInv m (outS (coreL Mk, Nk) q).1 p l bz) := Lib.hid (PK.out.outs (S := (coreL Mk, Nk)) hmem)
            have HLK : Hid ((coreL Mk).length = len) := Lib.hid (by rw [coreL_len, WK.out.hlen])
            have LK2 : Hid ((outS (coreL Mk, Nk) q).2.length ≤ Nk.length + 400) := Lib.hid (outS_len (S := (coreL Mk, Nk)) PK.out.right (show q < (coreL Mk).length by rw [HLK.out]; exact hql))
            have QK2 : Hid (∀ z ∈ l.drop (k + 1), parentK (outS (coreL Mk, Nk) q).1 z ≠ -1) := Lib.hid (fun z hz2 => by
              obtain ⟨i, hi⟩ := List.getElem?_of_mem hz2
              rw [List.getElem?_drop] at hi
              obtain ⟨t, rfl, htl⟩ := HQ.out _ z hi
              have hne : t ≠ q := fun e => by
                subst e
                have := (List.getElem?_inj (List.getElem?_eq_some_iff.1 hz).1 PIV.out.once).1 (hz.trans hi.symm)
                omega
              have hd2 : (t : Int) ∈ l.drop k := List.mem_of_getElem? (i := 1 + i) (by rw [List.getElem?_drop, ← Nat.add_assoc]; exact hi)
              have h3 := QK.out _ hd2
              unfold outS
              rw [if_neg (QK.out _ hdrop)]
              show parentK (mvOut (coreL Mk) q) t ≠ -1
              rw [parentK_out (by rw [HLK.out]; exact htl) hne]
              exact h3)
            subst hpa
            have hk64 : (k : Int) + 1 ≤ 9223372036854775807 := by omega
            clear hz hin hmem hdrop
            go_wp2_with (go_at_call 64; (with_reducible refine CO.out.mono ?_); rintro e w9 ⟨rfl, ρ9, M9, v9, N9, W9, T9, A9, E9, S9, R9⟩)
            obtain ⟨TT, AA⟩ := chain_turn TK.out AK.out T9 A9
            have HE9 : Hid (coreL M9 = (outS (coreL Mk, Nk) q).1 ∧ N9 = (outS (coreL Mk, Nk) q).2) := Lib.hid ⟨congrArg Prod.fst E9, congrArg Prod.snd E9⟩
            have hN9 : N9.length ≤ N.length + 400 * (k + 1) := by have := LK2.out; rw [← HE9.out.2] at this; omega
            have E9 := Lib.hid E9
            have W9 := Lib.hid W9
            have TT := Lib.hid TT
            have AA := Lib.hid AA
            have S9 := Lib.hid S9
            clear T9 A9 R9
            go_roundw
            case rel =>
              exact ⟨k + 1, ρ9, M9, v9, N9, by omega, by go_num, W9, TT, AA, Lib.hid (by rw [EK2.out]; exact E9.out), S9, Lib.hid (by rw [HE9.out.1]; exact PK2.out), Lib.hid (by rw [HE9.out.1]; exact QK2.out), hN9⟩
            case measure => simp [intOf]; omega
          · have hkk : k = pl := by omega
            subst hkk
            have HTA : Hid (l.take k = l) := Lib.hid (List.take_of_length_le (by rw [HPLL.out]; exact Nat.le_refl _))
            go_wp2
            go_meet
            exact ⟨trivial, ρk, Mk, vk, Nk, WK, TK, AK, Lib.hid (by rw [if_pos HK3.out, EK.out, HTA.out]), SK, PK, Lib.hid (by have := HN.out; omega)⟩
      · have e1 : (x.core.kind == 3) = false := beq_eq_false_iff_ne.2 hk3
        have HK3 := Lib.hid hk3
        clear hk3
        go_wp2
        go_meet
        exact ⟨trivial, ρ, M, v, N, W1, Lib.hid (Turn.refl _ _), Lib.hid (fun _ _ => rfl), Lib.hid (by rw [if_neg HK3.out]), HS, PIV, Lib.hid (by have := HN.out; omega)⟩
    case rest =>
      obtain ⟨-, ρ1, M1, v1, N1, W2, T2, A2, E2, S2, PI2, HN2⟩ := hcut
      rw [← E2.out] at HPUT
      have IR1 : Hid (∀ b off, pa = some ⟨b, off, none⟩ → 0 < pl → ρ1 b = 0) := Lib.hid (fun b off e hp => by
        rw [A2.out b (by
          rcases IR.out.row.cells with e0 | ⟨b2, off2, ha2, hlt, _⟩
          · omega
          · rw [e] at ha2
            injection ha2 with ha2
            injection ha2 with e1
            omega)]
        exact IR0.out b off e hp)
      clear E2 HLP HX0 p0 x0 zw
      go_wp2
      go_loopw [54] (fun i wr => ∃ (k : Nat) (ρk : Nat → Nat) (Mk : List NodeD) (vk : Value) (Nk : List NoteD), k ≤ pl ∧ i = .int .i64 k ∧ Hid (Wk ρk wr pw g cap len m Mk vk Nk) ∧ Hid (Turn ρ wd wr) ∧ Hid (∀ k, k < wd.heap.size → ρk k = ρ k) ∧ Hid ((coreL Mk, Nk) = ((l.take k).map Int.toNat).foldl (inS p bz) (coreL M1, N1)) ∧ Hid (smallF Mk) ∧ Hid (PutInv m (coreL Mk) p (l.drop k) bz) ∧ Nk.length ≤ 72000000 + 1200 * k) (fun i _ => pl - (intOf i).toNat)
      case atStart => exact ⟨0, ρ1, M1, v1, N1, Nat.zero_le _, rfl, W2, T2, A2, Lib.hid rfl, S2, PI2, HN2.out⟩
      case round =>
        clear W2 T2 A2 S2 PI2 HN2
        obtain ⟨k, ρk, Mk, vk, Nk, hk, rfl, WK, TK, AK, EK, SK, PK, hNk⟩ := hrel
        have zw := (TK.out.cell hwd HRB.out).trans ZWD.out
        by_cases hlt : k < pl
        · obtain ⟨bp, op, z, hpa, hbp, hz, hcz, hin⟩ := (TK.out.introw IR.out IR0.out).get hlt
          obtain ⟨q, rfl, hql⟩ := HQ.out k z hz
          have hdr : l.drop k = (q : Int) :: l.drop (k + 1) := by
            obtain ⟨h1, h2⟩ := List.getElem?_eq_some_iff.1 hz
            rw [List.drop_eq_getElem_cons h1, h2]
          have PKq : PutInv m (coreL Mk) p ((q : Int) :: l.drop (k + 1)) bz := by rw [← hdr]; exact PK.out
          have CO := Lib.hid (mpart_any wr WK.out SK.out q p bz (l.drop (k + 1)) PKq (by omega))
          have EK2 : Hid (((l.take (k + 1)).map Int.toNat).foldl (inS p bz) (coreL M1, N1) = inS p bz (coreL Mk, Nk) q) := Lib.hid (by
            rw [List.take_add_one, hz, List.map_append, List.foldl_append, ← EK.out]
            rfl)
          have PK2 : Hid (PutInv m (inS p bz (coreL Mk, Nk) q).1 p (l.drop (k + 1)) bz) := Lib.hid (PutInv.ins (S := (coreL Mk, Nk)) PKq)
          have LK2 : Hid ((inS p bz (coreL Mk, Nk) q).2.length ≤ Nk.length + 1200) := Lib.hid (inS_len (S := (coreL Mk, Nk)) PKq)
          subst hpa
          have hk64 : (k : Int) + 1 ≤ 9223372036854775807 := by omega
          clear hz hin hdr PKq
          go_wp2_with (go_at_call 103; (with_reducible refine CO.out.mono ?_); rintro e w9 ⟨rfl, ρ9, M9, v9, N9, W9, T9, A9, E9, S9⟩)
          obtain ⟨TT, AA⟩ := chain_turn TK.out AK.out T9 A9
          have HE9 : Hid (coreL M9 = (inS p bz (coreL Mk, Nk) q).1 ∧ N9 = (inS p bz (coreL Mk, Nk) q).2) := Lib.hid ⟨congrArg Prod.fst E9, congrArg Prod.snd E9⟩
          have hN9 : N9.length ≤ 72000000 + 1200 * (k + 1) := by have := LK2.out; rw [← HE9.out.2] at this; omega
          have E9 := Lib.hid E9
          have W9 := Lib.hid W9
          have TT := Lib.hid TT
          have AA := Lib.hid AA
          have S9 := Lib.hid S9
          clear T9 A9
          go_roundw
          case rel => exact ⟨k + 1, ρ9, M9, v9, N9, by omega, by go_num, W9, TT, AA, Lib.hid (by rw [EK2.out]; exact E9.out), S9, Lib.hid (by rw [HE9.out.1]; exact PK2.out), hN9⟩
          case measure => simp [intOf]; omega
        · have hkk : k = pl := by omega
          subst hkk
          have HTA : Hid (l.take k = l) := Lib.hid (List.take_of_length_le (by rw [HPLL.out]; exact Nat.le_refl _))
          obtain ⟨TT, AA⟩ := chain_turn (Turn.of_below (ρ := ρ) (HBX.out.trans (HB1.out.mono HBX.out.size))) (fun _ _ => rfl) TK.out AK.out
          have TT := Lib.hid TT
          have AA := Lib.hid AA
          go_wp2
          refine bodyPost_ret (v := .tuple #[]) (by simp [results, Tryz.results62]) rfl ⟨rfl, ρk, Mk, vk, Nk, WK.out, TT.out, AA.out, by rw [HPUT.out, EK.out, HTA.out], SK.out, PK.out.right⟩
end
end Go.Proofs.YtbgcpgpkhfbijaaGreatDoor
