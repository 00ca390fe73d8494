/- Texts joined in build order: MoveOut. -/
import Derived.Test.YtnjoimedilonnaaGreatDoorA26
import Derived.Test.YtnjoimedilonnaaGreatDoorA24
import Derived.Test.YtnjoimedilonnaaGreatDoorA28
namespace Go.Proofs.YtnjoimedilonnaaGreatDoor
open Go.RowKit
section
variable {ρ : Nat → Nat} {pw g cap len : Nat} {m : Int} {M : List NodeD} {v : Value} {N : List NoteD}
theorem erase_filter {l : List Int} {z : Int} {i : Nat} (hn : l.Nodup) (hi : l[i]? = some z) : l.eraseIdx i = l.filter (fun y => y != z) := by
  obtain ⟨hl, he⟩ := List.getElem?_eq_some_iff.1 hi
  have h1 : l.idxOf z = i := by rw [← he]; exact hn.idxOf_getElem i hl
  rw [← hn.erase_eq_filter, List.erase_eq_eraseIdx_of_idxOf h1]
theorem core_set2 {M : List NodeD} {n p : Nat} {x y : NodeD} {a : Option Addr} {l c : Nat} {ks : List Int} {q : Int} (hx : M[n]? = some x) (hy : M[p]? = some y) (hnp : n ≠ p) :
    Edit (coreL M) (coreL ((M.set p (withK y a l c ks)).set n (withP x q))) (fun j c => if j = n then q else c.parent) (fun j c => if j = p then ks else c.kids) (fun _ c => c.doc) := by
  refine ⟨by unfold coreL; simp, fun j z hz => ?_⟩
  obtain ⟨u, hu, rfl⟩ : ∃ u, M[j]? = some u ∧ u.core = z := by
    unfold coreL at hz
    rw [List.getElem?_map] at hz
    cases hm : M[j]? with
    | none => rw [hm] at hz; cases hz
    | some u => rw [hm] at hz; exact ⟨u, rfl, Option.some.inj hz⟩
  have hjl := (List.getElem?_eq_some_iff.1 hu).1
  unfold coreL
  rw [List.getElem?_map]
  by_cases e : j = n
  · subst e
    obtain rfl : x = u := Option.some.inj (hx.symm.trans hu)
    rw [List.getElem?_set_self (by rw [List.length_set]; exact hjl), if_pos rfl, if_neg hnp]
    rfl
  · rw [List.getElem?_set_ne (fun e2 => e e2.symm), if_neg e]
    by_cases e2 : j = p
    · subst e2
      obtain rfl : y = u := Option.some.inj (hy.symm.trans hu)
      rw [List.getElem?_set_self hjl, if_pos rfl]
      rfl
    · rw [List.getElem?_set_ne (fun e3 => e2 e3.symm), if_neg e2, hu]
      rfl
theorem mv0 : In64 0 := ⟨by decide, by decide⟩
theorem emp_le : (⟨#[]⟩ : ByteArray).size ≤ maxLen := by decide
theorem noteOk_note (k : Int) (hk : In64 k) : NoteOk (note k) := ⟨hk, mv0, mv0, mv0, emp_le, emp_le, emp_le⟩
theorem in64_nat {n : Nat} (h : n ≤ 1000) : In64 (n : Int) := ⟨by omega, by omega⟩
theorem out_par (h : rightF m (coreL M) = true) {n : Nat} {x : NodeD} (hx : M[n]? = some x) (hp : x.core.parent ≠ -1) : ∃ (p : Nat) (y : NodeD) (i : Nat), x.core.parent = p ∧ M[p]? = some y ∧ n ≠ p ∧ findZ y.core.kids n = i ∧ y.core.kids[i]? = some (n : Int) ∧ y.core.kids.Nodup := by
  obtain ⟨p, h1, h2, ho⟩ := mvOut_out h (coreL_get hx) hp
  rw [coreL_len] at h2
  have hy : M[p]? = some M[p] := List.getElem?_eq_getElem h2
  obtain ⟨hnp, _⟩ := out_made h hx hy h1 (a := none) (l := 0) (c := 0)
  have N := right_node h (coreL_get hx)
  rcases N.par with e | ⟨_, d, h3, _, h5⟩
  · exact absurd e hp
  · rw [h1, getC_nat, coreL_get hy] at h3
    rw [← Option.some.inj h3] at h5
    obtain ⟨i, hi1, hi2⟩ := find_at h5
    exact ⟨p, M[p], i, h1, hy, hnp, hi1, hi2, (right_node h (coreL_get hy)).once⟩
set_option maxHeartbeats 8000000 in
set_option maxRecDepth 100000 in
theorem mgoOut_any (w : World) (h : Wk ρ w pw g cap len m M v N) (hr : rightF m (coreL M) = true) (hs : smallF M) (n : Nat) (hn : n < len) (hp : parentK (coreL M) n ≠ -1) (hN : N.length ≤ 90000000) :
    Calls Tryz.prog 35 #[ptrV pw, .int .i64 n] w (WkPost ρ w pw g cap len m fun M' N' => (coreL M', N') = outS (coreL M, N) n ∧ smallF M' ∧ rightF m (coreL M') = true) := by
  have HL : Hid ((coreL M).length = len) := Lib.hid (by rw [coreL_len, h.hlen])
  have hl1k : len ≤ 1000 := by rw [← h.hlen]; exact hs.1
  obtain ⟨x, hx⟩ : ∃ x, M[n]? = some x := ⟨_, List.getElem?_eq_getElem (by rw [h.hlen]; exact hn)⟩
  rw [parentK_at (coreL_get hx)] at hp
  obtain ⟨p, y, i, hpp, hy, hnp, hfi, hi, hnd⟩ := out_par hr hx hp
  have hpl : p < len := by rw [← h.hlen]; exact (List.getElem?_eq_some_iff.1 hy).1
  have hkl : y.core.kids.length = y.kN := (h.kidsRow hy).hlen
  have hik : i < y.kN := by rw [← hkl]; exact (List.getElem?_eq_some_iff.1 hi).1
  have hk400 : y.kN ≤ 400 := by rw [← hkl]; exact right_kids hr (coreL_get hy)
  obtain ⟨gk, ck, hgk⟩ := own_some (h.kown p y hy) (by omega)
  have CC : Hid (Calls Tryz.prog 57 #[ptrV pw, .int .i64 n] w fun e w' => e = .returned (.bool (connF (coreL M) n)) ∧ Below w.heap.size w w') := Lib.hid (mconn_any w h hr n hn)
  have CX : Hid (∀ W, Below w.heap.size w W → Calls Tryz.prog 54 #[.slice y.kA y.kN y.kC, .int .i64 n] W fun e w' => e = .returned (.int .i64 i) ∧ W = w') := Lib.hid (fun W hb => by
    rw [← hfi]
    exact index_any _ _ _ _ _ W ((h.kidsRow hy).below hb))
  have CD : Hid (∀ W, Below w.heap.size w W → Calls Tryz.prog 58 #[.slice y.kA y.kN y.kC, .int .i64 i, .int .i64 ((i : Int) + 1)] W fun e w' => e = .returned (.slice (some ⟨gk, 0, none⟩) (y.kN - 1) ck) ∧ w'.ownsRow 0 3 1 (.slice (some ⟨gk, 0, none⟩) (y.kN - 1) ck) (y.kN - 1) ((y.core.kids.eraseIdx i).flatMap encZ) ∧ W.grownBy w' (some gk)) := Lib.hid (fun W hb => by
    have ho := (h.keep hb).kown p y hy
    rw [hgk] at ho ⊢
    exact deleteI_any W 0 gk y.kN ck y.core.kids i ho hik)
  -- what comes of it
  obtain ⟨ks, hks⟩ : ∃ ks, y.core.kids.eraseIdx i = ks := ⟨_, rfl⟩
  have HKS : Hid (ks = y.core.kids.filter (fun z => z != (n : Int))) := Lib.hid (by rw [← hks]; exact erase_filter hnd hi)
  rw [hks] at CD
  have HED := Lib.hid (core_set2 (a := some ⟨gk, 0, none⟩) (l := y.kN - 1) (c := ck) (ks := ks) (q := -1) hx hy hnp)
  obtain ⟨M2, hM2⟩ : ∃ M2, (M.set p (withK y (some ⟨gk, 0, none⟩) (y.kN - 1) ck ks)).set n (withP x (-1)) = M2 := ⟨_, rfl⟩
  rw [hM2] at HED
  have HEQ : Hid (coreL M2 = mvOut (coreL M) n) := Lib.hid (by
    refine (HED.out.cong (fun j c hc => ⟨rfl, ?_, rfl⟩)).eq
    rw [parentK_at (coreL_get hx), hpp]
    by_cases e : j = p
    · subst e
      rw [coreL_get hy] at hc
      rw [if_pos rfl, if_pos rfl, ← Option.some.inj hc, HKS.out]
    · rw [if_neg e, if_neg (by omega)])
  have HRR : Hid (rightF m (coreL M2) = true) := Lib.hid (by
    obtain ⟨p', _, _, ho⟩ := mvOut_out hr (coreL_get hx) hp
    rw [HEQ.out]
    exact ho.rightG)
  have HSM : Hid (smallF M2) := Lib.hid (small_edit hs HED.out HRR.out)
  have HINK : Hid (∀ z ∈ ks, In64 z) := Lib.hid (fun z hz => by
    rw [HKS.out] at hz
    exact (h.fld y (List.mem_of_getElem? hy)).kids z (List.mem_filter.1 hz).1)
  have HOS : Hid (outS (coreL M, N) n = (coreL M2, if connF (coreL M) n then N ++ tellN (coreL M) n (note 2) else N)) := Lib.hid (by
    unfold outS
    rw [if_neg (by rw [parentK_at (coreL_get hx)]; exact hp), HEQ.out])
  have HXN : Hid (M.set p (withK y (some ⟨gk, 0, none⟩) (y.kN - 1) ck ks) = M.set p (withK y (some ⟨gk, 0, none⟩) (y.kN - 1) ck ks) ∧ (M.set p (withK y (some ⟨gk, 0, none⟩) (y.kN - 1) ck ks))[n]? = some x) := Lib.hid ⟨rfl, by rw [List.getElem?_set_ne (fun e => hnp e.symm)]; exact hx⟩
  have HM2 := Lib.hid hM2
  have HTN : Hid (tellN (coreL M2) n (note 2) = tellN (coreL M) n (note 2)) := Lib.hid (by rw [HEQ.out]; exact tellN_out hr (coreL_get hx) hp _)
  obtain ⟨b, hb⟩ : ∃ b, connF (coreL M) n = b := ⟨_, rfl⟩
  rw [hb] at CC HOS
  have HW := Lib.hid h
  have HX := Lib.hid hx
  have HY := Lib.hid hy
  have HGK : Hid (Value.ownBlock (.slice y.kA y.kN y.kC) = some gk) := Lib.hid (by rw [hgk]; rfl)
  have HN := Lib.hid hN
  have HPP := Lib.hid hpp
  have hl64 : (len : Int) ≤ 9223372036854775807 := by omega
  clear h hr hs hx hp hpp hy hfi hi hnd hkl hgk hks hM2 hb
  go_enter Tryz.func35, Tryz.ntmps35
  go_upto_region 1 with (go_at_call 57; (with_reducible refine CC.out.mono ?_); rintro e w1 ⟨rfl, hb⟩; have HB1 := Lib.hid hb; clear hb)
  have W1 := Lib.hid (HW.out.keep HB1.out)
  have p0 := W1.out.c0
  go_upto_region 2 with fail
  have E0 := Ext.cell W1.out.c0 W1.out.plt
  have x5 := (W1.out.at_ HX.out).c5
  rw [HPP.out] at x5
  have E5 := Ext.cell x5 W1.out.glt
  refine wp_region_ext (by kernel_rfl) (by kernel_rfl) ?_
  repeat (go_big_quiet_step (fail))
  refine wpQuiet_nil ?_
  intro w3 hw'
  obtain ⟨⟨w4, hb4⟩, hw''⟩ := hw'
  dsimp only at hw''
  subst hw''
  have HB2 := Lib.hid (HB1.out.trans (hb4.mono HB1.out.size))
  clear E0 E5 x5 p0 hb4
  have W2 := Lib.hid (HW.out.keep HB2.out)
  have y6 := (W2.out.at_ HY.out).c6
  have KN := Lib.hid (show In64 (i : Int) from in64_nat (by omega))
  have hi64 : (i : Int) + 1 ≤ 9223372036854775807 := by omega
  go_upto_if 48 with (first
    | (go_at_call 54; (with_reducible refine (CX.out _ HB2.out).mono ?_); rintro e w5 ⟨rfl, rfl⟩)
    | (go_at_call 58; (with_reducible refine (CD.out _ HB2.out).mono ?_); rintro e w6 ⟨rfl, hown, hgr⟩; have HO6 := Lib.hid hown; have HG6 := Lib.hid hgr; have MID := Lib.hid (W2.out.mid (row := some gk) hgr (fun b e => by injection e with e; rw [← e, W2.out.krole p y gk HY.out HGK.out]; omega)); have f6 := MID.out.gfree (p * 10 + 6); have f5 := MID.out.gfree (n * 10 + 5); have c6 := MID.out.cells p y 6 _ HY.out rfl; have c5 := MID.out.cells n x 5 _ HX.out rfl; have hne : n * 10 + 5 ≠ p * 10 + 6 := (by omega); clear hown hgr y6))
  have W7 := W2.out.setK HY.out (by rw [HGK.out]; exact HG6.out) HO6.out (fun b e => .inl (by rw [HGK.out]; exact e)) HINK.out
  have W8 := W7.setP HXN.out.2 inM1
  rw [HM2.out] at W8
  have hgk0 : ρ gk = p + 6 := W2.out.krole p y gk HY.out HGK.out
  have T8 : Turn ρ w ((w6.setCell ⟨g, p * 10 + 6, none⟩ (.slice (some ⟨gk, 0, none⟩) (y.kN - 1) ck)).setCell ⟨g, n * 10 + 5, none⟩ (.int .i64 (-1))) := (((Turn.of_below HB2.out).grown HG6.out (fun k e => by injection e with e; right; rw [← e, hgk0]; omega)).setCell (.inr (by rw [W2.out.grole]; decide)) _ _).setCell (.inr (by rw [W2.out.grole]; decide)) _ _
  have A8 : ∀ k, upd ρ (some gk) (p + 6) k = ρ k := fun k => by
    unfold upd
    by_cases e : some gk = some k
    · rw [if_pos e]
      injection e with e
      rw [← e, hgk0]
    · rw [if_neg e]
  have W8 := Lib.hid W8
  have T8 := Lib.hid T8
  have A8 := Lib.hid A8
  clear W7 c6 c5 f6 f5 hne hgk0
  obtain ⟨w8, hw8⟩ : ∃ w8, (w6.setCell ⟨g, p * 10 + 6, none⟩ (.slice (some ⟨gk, 0, none⟩) (y.kN - 1) ck)).setCell ⟨g, n * 10 + 5, none⟩ (.int .i64 (-1)) = w8 := ⟨_, rfl⟩
  rw [hw8] at W8 T8 ⊢
  clear hw8
  cases b with
  | false =>
    go_wp2
    refine bodyPost_ret (v := .tuple #[]) (by simp [results, Tryz.results35]) rfl ⟨rfl, _, M2, v, N, W8.out, T8.out, fun k _ => A8.out k, by rw [HOS.out]; rfl, HSM.out, HRR.out⟩
  | true =>
    have CT := Lib.hid (mtell_any w8 W8.out HRR.out HSM.out n hn (note 2) (noteOk_note 2 ⟨by decide, by decide⟩) (by have := HN.out; omega))
    go_wp2_with (go_at_call 59; (with_reducible refine CT.out.mono ?_); rintro e w9 ⟨rfl, ρ9, M9, v9, N9, W9, T9, A9, rfl, rfl⟩)
    refine bodyPost_ret (v := .tuple #[]) (by simp [results, Tryz.results35]) rfl ⟨rfl, ρ9, M9, v9, _, W9, T8.out.trans (fun k _ => A8.out k) T9, fun k hk => ?_, by rw [HOS.out, HTN.out]; rfl, HSM.out, HRR.out⟩
    exact (A9 k (Nat.lt_of_lt_of_le hk T8.out.size)).trans (A8.out k)
end
end Go.Proofs.YtnjoimedilonnaaGreatDoor
