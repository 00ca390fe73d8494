/- Texts joined in build order: ValidOut ValidSwapMath ValidSwap. -/
import Derived.Test.YtllfkiifkkcinaaP09
import Derived.Test.YtllfkiifkkcinaaP20
import Derived.Test.YtllfkiifkkcinaaP12
/- instarlaw05's out: a node goes from its parent, in a row that may be written. -/
namespace Go.Proofs.Ytllfkiifkkcinaa
open Go.RowKit
/-- What is left of a list: all but n, of the first ones. -/
def restZ (l : List Int) (n : Int) (k : Nat) : List Int := (l.take k).filter (fun z => z != n)
theorem restZ_step {l : List Int} {n z : Int} {k : Nat} (h : l[k]? = some z) : restZ l n (k + 1) = restZ l n k ++ if z != n then [z] else [] := by
  obtain ⟨hl, hg⟩ := List.getElem?_eq_some_iff.1 h
  unfold restZ
  rw [List.take_succ_eq_append_getElem hl, hg, List.filter_append]
  congr 1
  rw [List.filter_cons]
  rfl
theorem restZ_len (l : List Int) (n : Int) (k : Nat) : (restZ l n k).length ≤ l.length := Nat.le_trans (List.length_filter_le _ _) (List.length_take_le' _ _)
theorem restZ_mem {l : List Int} {n z : Int} {k : Nat} (h : z ∈ restZ l n k) : z ∈ l := List.mem_of_mem_take (List.mem_filter.1 h).1
/-- What comes of out. -/
def OutOf (m : Int) (F G : List Core) (n : Nat) : Prop := ∃ x, F[n]? = some x ∧ ((x.parent = -1 ∧ G = F) ∨ ∃ p, Out m F G n p x)
theorem out_made {m : Int} {M : List NodeD} {n p : Nat} {x y : NodeD} (hr : rightF m (coreL M) = true) (hx : M[n]? = some x) (hy : M[p]? = some y) (hp : x.core.parent = (p : Int)) {a : Option Addr} {l c : Nat} : n ≠ p ∧ Out m (coreL M) (coreL ((M.set p (withK y a l c (y.core.kids.filter (fun z => z != (n : Int))))).set n (withP x (-1)))) n p x.core := by
  have hxc := coreL_get hx
  have hyc := coreL_get hy
  have hnp : n ≠ p := fun e => by
    subst e
    have hpar : parS (coreL M) n = some n := parS_some ((next_par hxc (by omega)).trans hp)
    have := (treeS hr).rank_up n n (List.getElem?_eq_some_iff.1 hxc).1 hpar
    omega
  refine ⟨hnp, hr, hxc, hp, ⟨by unfold coreL; simp, fun j z hz => ?_⟩⟩
  obtain ⟨q, hq, rfl⟩ : ∃ q, M[j]? = some q ∧ q.core = z := by
    unfold coreL at hz
    rw [List.getElem?_map] at hz
    cases hm : M[j]? with
    | none => rw [hm] at hz; cases hz
    | some q => rw [hm] at hz; exact ⟨q, rfl, Option.some.inj hz⟩
  have hjl := (List.getElem?_eq_some_iff.1 hq).1
  unfold coreL
  rw [List.getElem?_map]
  by_cases e : j = n
  · subst e
    obtain rfl : x = q := Option.some.inj (hx.symm.trans hq)
    rw [List.getElem?_set_self (by rw [List.length_set]; exact hjl), if_pos rfl, if_neg hnp]
    rfl
  · rw [List.getElem?_set_ne (fun e2 => e e2.symm), if_neg e]
    by_cases e2 : j = p
    · subst e2
      obtain rfl : y = q := Option.some.inj (hy.symm.trans hq)
      rw [List.getElem?_set_self hjl, if_pos rfl]
      rfl
    · rw [List.getElem?_set_ne (fun e3 => e2 e3.symm), if_neg e2, hq]
      rfl
theorem out_small {M : List NodeD} {n p : Nat} {x y : NodeD} (hs : smallF M) (hx : M[n]? = some x) (hy : M[p]? = some y) {a : Option Addr} {l c : Nat} : smallF ((M.set p (withK y a l c (y.core.kids.filter (fun z => z != (n : Int))))).set n (withP x (-1))) := by
  refine ⟨by simpa using hs.1, fun z hz => ?_⟩
  have h1 := hs.2 x (List.mem_of_getElem? hx)
  have h2 := hs.2 y (List.mem_of_getElem? hy)
  rcases List.mem_or_eq_of_mem_set hz with hz | rfl
  · rcases List.mem_or_eq_of_mem_set hz with hz | rfl
    · exact hs.2 z hz
    · exact ⟨Nat.le_trans (List.length_filter_le _ _) h2.1, h2.2⟩
  · exact h1
set_option maxHeartbeats 8000000 in
set_option maxRecDepth 100000 in
theorem vout_any (g len cap : Nat) (m : Int) (M : List NodeD) (n : Nat) (w : World) (h : WRow w g len cap M) (hr : rightF m (coreL M) = true) (hn : n < len) (hs : smallF M) :
    Calls Try.prog 55 #[forV (some ⟨g, 0, none⟩) len cap m, .int .i64 n] w fun e w' => e = .returned (forV (some ⟨g, 0, none⟩) len cap m) ∧ w.grownBy w' (some g) ∧ ∃ M', WRow w' g len cap M' ∧ OutOf m (coreL M) (coreL M') n ∧ smallF M' := by
  have HLM : Hid (M.length = len) := Lib.hid h.row.hlen
  have hlen := h.row.len64
  have BX := Lib.hid (Box.start (m := m) h.row)
  obtain ⟨x, hx⟩ : ∃ x, M[n]? = some x := ⟨_, List.getElem?_eq_getElem (by rw [HLM.out]; exact hn)⟩
  have X5 := Lib.hid (stays (h.at_ hx).1.c5 h.lt)
  have HW := Lib.hid h
  have HS := Lib.hid hs
  have HRR := Lib.hid hr
  have HX := Lib.hid hx
  have hgl := h.lt
  have z0 := BX.out.c0
  have z1 := BX.out.c1
  have x5 := X5.out _ BX.out.below
  by_cases hp : x.core.parent = -1
  · have HO : Hid (OutOf m (coreL M) (coreL M) n) := Lib.hid ⟨x.core, coreL_get hx, .inl ⟨hp, rfl⟩⟩
    rw [hp] at x5
    clear h hr hs hx hp
    go_enter Try.func55, Try.ntmps55
    have DB := Lib.hid (Box2.newAt (W := w.alloc (forB (some ⟨g, 0, none⟩) len cap m)) (g := w.heap.size + 1) (u := .slice (some ⟨g, 0, none⟩) len cap) (v := .int .i64 m) (t := 24) (by simp))
    go_wp2
    have hb2 : Below w.heap.size w ((w.alloc (forB (some ⟨g, 0, none⟩) len cap m)).alloc (forB (some ⟨g, 0, none⟩) len cap m)) := (below_box _ _).alloc (by simp) _
    refine bodyPost_ret (v := forV (some ⟨g, 0, none⟩) len cap m) ?_ rfl ⟨rfl, grown_below hb2, M, HW.out.keep hb2, HO.out, HS.out⟩
    have d0 := DB.out.c0
    have d1 := DB.out.c1
    simp [results, Try.results55, go_sem, d0, d1]
  · obtain ⟨p, hpp, hpl, -⟩ := right_par hr (coreL_get hx) hp
    rw [coreL_len, HLM.out] at hpl
    obtain ⟨y, hy⟩ : ∃ y, M[p]? = some y := ⟨_, List.getElem?_eq_getElem (by rw [HLM.out]; exact hpl)⟩
    have Y6 := Lib.hid (stays (h.at_ hy).1.c6 h.lt)
    have y6 := Y6.out _ BX.out.below
    rw [hpp] at x5
    have HY := Lib.hid hy
    have HPP := Lib.hid hpp
    have hpn : ((p : Int) == -1) = false := beq_eq_false_iff_ne.2 (by omega)
    clear h hr hs hx hp hy hpp
    go_enter Try.func55, Try.ntmps55
    obtain ⟨w1, hw1, hb1⟩ : ∃ w1, (w.alloc (forB (some ⟨g, 0, none⟩) len cap m)).alloc (.cells #[.slice none 0 0, .int .i64 0] 24) = w1 ∧ Below w.heap.size w w1 := ⟨_, rfl, ((below_box _ _).alloc (by simp) _)⟩
    have DB : Hid (Box2 w1 (w.heap.size + 1) (.slice none 0 0) (.int .i64 0)) := Lib.hid (by rw [← hw1]; exact Box2.newAt (by simp))
    have BX := Lib.hid (show Box w w1 w.heap.size (some ⟨g, 0, none⟩) len cap m M (coreL M) by rw [← hw1]; exact BX.out.keep (below_box _ _))
    have HW1 := Lib.hid hw1
    clear hw1 hb1
    have KR := Lib.hid ((HW.out.at_ HY.out).2.kids)
    have hk64 := KR.out.len64
    have HKL : Hid (y.core.kids.length ≤ 1000) := Lib.hid (HS.out.2 y (List.mem_of_getElem? HY.out)).1
    have hk1k : y.kN ≤ 1000 := by rw [← KR.out.hlen]; exact HKL.out
    have hsz : w.heap.size < w1.heap.size := BX.out.lt
    have OW0 : Hid (w1.ownsRow w1.heap.size 3 1 (.slice none 0 0) (restZ y.core.kids n 0).length ((restZ y.core.kids n 0).flatMap encZ)) := Lib.hid (World.ownsRow_nil _ _ _ _)
    obtain ⟨i0, hi0, hq0, hq1, hq2⟩ := info_parts int_info
    go_wp2
    rw [HW1.out]
    go_loopw [6, 7] (fun v i wr => ∃ k : Nat, k ≤ y.kN ∧ i = .int .i64 k ∧ Hid (Below w1.heap.size w1 wr) ∧ Hid (wr.ownsRow w1.heap.size 3 1 v (restZ y.core.kids n k).length ((restZ y.core.kids n k).flatMap encZ))) (fun _ i _ => y.kN - (intOf i).toNat)
    case atStart => exact ⟨0, Nat.zero_le _, rfl, Lib.hid (Below.refl _ _), OW0⟩
    case round =>
      clear OW0 z0 z1 x5 y6
      obtain ⟨k, hk, rfl, HBW, OW⟩ := hrel
      have BX2 := Lib.hid (BX.out.keep HBW.out)
      have z0 := BX2.out.c0
      have z1 := BX2.out.c1
      have y6 := Y6.out _ BX2.out.below
      by_cases hlt : k < y.kN
      · obtain ⟨bk, ok, z, hka, hbk, hz, hcz, hin⟩ := KR.out.get hlt
        have cz := stays hcz hbk _ BX2.out.below
        have HST := Lib.hid (restZ_step (n := (n : Int)) hz)
        have hsl : (restZ y.core.kids n k).length ≤ 1000 := Nat.le_trans (restZ_len _ _ _) HKL.out
        obtain ⟨n1, hn1⟩ : ∃ n1, (restZ y.core.kids n k).length = n1 := ⟨_, rfl⟩
        have HN1 := Lib.hid hn1
        rw [hn1] at OW hsl
        rw [hka] at y6
        obtain ⟨hz1, hz2⟩ := hin
        clear hz hn1 hcz
        by_cases he : z = (n : Int)
        · have e1 : (z != (n : Int)) = false := by rw [he]; simp
          have HS2 : Hid (restZ y.core.kids n (k + 1) = restZ y.core.kids n k) := Lib.hid (by rw [HST.out, e1]; simp)
          clear he
          go_wp2
          go_roundw
          case rel => exact ⟨k + 1, by omega, by go_num, HBW, Lib.hid (by rw [HS2.out, HN1.out]; exact OW.out)⟩
          case measure => simp [intOf]; omega
        · have e1 : (z != (n : Int)) = true := bne_iff_ne.2 he
          have HS2 : Hid (restZ y.core.kids n (k + 1) = restZ y.core.kids n k ++ [z]) := Lib.hid (by rw [HST.out, e1]; rfl)
          clear he
          go_wp2_with (at_builtin
                       refine wpList_append_rows rfl (.tmp 39) (.tmp 49) 26 rfl 3 i0 _ 1 8 Try.underlying26 hi0 hq0 hq1 hq2 rfl (by decide) w1.heap.size _ n1 (restZ y.core.kids n k) [z] rfl (OW.out.alloc _) _ 1 1 rfl (own_one _ _ _ _ rfl rfl) (fun x _ => encZ_one x) (by unfold maxLen; omega) (by omega) (by have := HBW.out.size; simp; omega) (fun h => by cases h) ?_
                       intro v3 w3 hown3 hg3 hat3
                       have HB3 := Lib.hid (below_own HBW.out OW.out hg3)
                       have HO3 := Lib.hid hown3
                       clear hown3 hg3 hat3)
          go_roundw
          case rel => exact ⟨k + 1, by omega, by go_num, HB3, Lib.hid (by
            have h1 := HO3.out
            rw [← HS2.out] at h1
            rwa [show n1 + 1 = (restZ y.core.kids n (k + 1)).length by rw [HS2.out, List.length_append, HN1.out]; rfl] at h1)⟩
          case measure => simp [intOf]; omega
      · have hkk : k = y.kN := by omega
        subst hkk
        have HIN : Hid (∀ z ∈ restZ y.core.kids n y.kN, In64 z) := Lib.hid (fun z hz => KR.out.inb z (restZ_mem hz))
        have HRZ : Hid (restZ y.core.kids n y.kN = y.core.kids.filter (fun z => z != (n : Int))) := Lib.hid (by unfold restZ; rw [List.take_of_length_le (by rw [KR.out.hlen]; exact Nat.le_refl _)])
        obtain ⟨a9, cap9, rfl, hr9, hlo9⟩ := IntRow.of_own_new (M := restZ y.core.kids n y.kN) (n := (restZ y.core.kids n y.kN).length) rfl OW.out HIN.out
        obtain ⟨N9, hN9⟩ : ∃ N9, (restZ y.core.kids n y.kN).length = N9 := ⟨_, rfl⟩
        rw [hN9] at hr9 ⊢
        have W2 := Lib.hid (HW.out.keep BX2.out.below)
        have W3 := Lib.hid (W2.out.setK HY.out hr9 (fun b off hb _ => by have := hlo9 b off hb; omega))
        obtain ⟨hnp, hO⟩ := out_made HRR.out HX.out HY.out HPP.out (a := a9) (l := N9) (c := cap9)
        have HO := Lib.hid hO
        have hxs : (M.set p (withK y a9 N9 cap9 (restZ y.core.kids n y.kN)))[n]? = some x := by rw [List.getElem?_set_ne (fun e => hnp e.symm)]; exact HX.out
        have hxs2 := Lib.hid hxs
        have W4 := Lib.hid (W3.out.setP hxs inM1)
        have DB2 := Lib.hid (DB.out.keep HBW.out)
        have HLO := Lib.hid hlo9
        clear hr9 hlo9 OW hO hxs hN9
        have far : ∀ (V : World) (o o' b : Nat) (u : Value), g < b → (V.setCell ⟨g, o, none⟩ u).cell? ⟨b, o', none⟩ = V.cell? ⟨b, o', none⟩ := fun V o o' b u hb => World.cell?_setCell_other _ _ _ _ (fun e => by injection e with e _; omega)
        have far2 : ∀ (V : World) (o o' b : Nat) (u : Value), g < b → (V.setCell ⟨g, o, none⟩ u).frozen? ⟨b, o', none⟩ = V.frozen? ⟨b, o', none⟩ := fun V o o' b u hb => World.frozen?_setCell _ _ _ _
        have f6 := W2.out.free (p * 10 + 6)
        have f5 := W3.out.free (n * 10 + 5)
        have x5 := (W3.out.at_ hxs2.out).1.c5
        have z0b : ∀ o u, (wr.setCell ⟨g, o, none⟩ u).cell? ⟨w.heap.size, 0, none⟩ = some (.slice (some ⟨g, 0, none⟩) len cap) := fun o u => (far _ _ _ _ _ hgl).trans z0
        have z1b : ∀ o u, (wr.setCell ⟨g, o, none⟩ u).cell? ⟨w.heap.size, 1, none⟩ = some (.int .i64 m) := fun o u => (far _ _ _ _ _ hgl).trans z1
        have z0c : ∀ o u o' u', ((wr.setCell ⟨g, o, none⟩ u).setCell ⟨g, o', none⟩ u').cell? ⟨w.heap.size, 0, none⟩ = some (.slice (some ⟨g, 0, none⟩) len cap) := fun o u o' u' => (far _ _ _ _ _ hgl).trans (z0b o u)
        have z1c : ∀ o u o' u', ((wr.setCell ⟨g, o, none⟩ u).setCell ⟨g, o', none⟩ u').cell? ⟨w.heap.size, 1, none⟩ = some (.int .i64 m) := fun o u o' u' => (far _ _ _ _ _ hgl).trans (z1b o u)
        have d0c : ∀ o u o' u', ((wr.setCell ⟨g, o, none⟩ u).setCell ⟨g, o', none⟩ u').cell? ⟨w.heap.size + 1, 0, none⟩ = some (.slice none 0 0) := fun o u o' u' => (far _ _ _ _ _ (by omega)).trans ((far _ _ _ _ _ (by omega)).trans DB2.out.c0)
        have d1c : ∀ o u o' u', ((wr.setCell ⟨g, o, none⟩ u).setCell ⟨g, o', none⟩ u').cell? ⟨w.heap.size + 1, 1, none⟩ = some (.int .i64 0) := fun o u o' u' => (far _ _ _ _ _ (by omega)).trans ((far _ _ _ _ _ (by omega)).trans DB2.out.c1)
        have e0c : ∀ o u o' u', ((wr.setCell ⟨g, o, none⟩ u).setCell ⟨g, o', none⟩ u').frozen? ⟨w.heap.size + 1, 0, none⟩ = false := fun o u o' u' => (far2 _ _ _ _ _ (by omega)).trans ((far2 _ _ _ _ _ (by omega)).trans DB2.out.f0)
        have e1c : ∀ o u o' u', ((wr.setCell ⟨g, o, none⟩ u).setCell ⟨g, o', none⟩ u').frozen? ⟨w.heap.size + 1, 1, none⟩ = false := fun o u o' u' => (far2 _ _ _ _ _ (by omega)).trans ((far2 _ _ _ _ _ (by omega)).trans DB2.out.f1)
        clear far far2
        have hnl2 : ((n * 10 + 5 : Nat)) ≠ p * 10 + 6 := by omega
        go_wp2
        have hd := DB.out.lt
        have haw : ∀ z ∈ (M.set p (withK y a9 N9 cap9 (restZ y.core.kids n y.kN))).set n (withP x (-1)), NodeAway (w.heap.size + 1) z := fun z hz => by
          have old : ∀ q ∈ M, NodeAway (w.heap.size + 1) q := fun q hq => (HW.out.row.ok q hq).away (by omega)
          rcases List.mem_or_eq_of_mem_set hz with hz | rfl
          · rcases List.mem_or_eq_of_mem_set hz with hz | rfl
            · exact old z hz
            · exact ⟨(old y (List.mem_of_getElem? HY.out)).1, fun b off hb _ => by have := HLO.out b off hb; omega⟩
          · exact old x (List.mem_of_getElem? HX.out)
        have W6 := (W4.out.other (b := w.heap.size + 1) (by omega) haw 0 (.slice (some ⟨g, 0, none⟩) len cap)).other (b := w.heap.size + 1) (by omega) haw 1 (.int .i64 m)
        rw [HRZ.out] at W6
        refine bodyPost_ret (v := forV (some ⟨g, 0, none⟩) len cap m) ?_ rfl ⟨rfl, grown_far (grown_far (grown_set (grown_set (grown_below BX2.out.below) _ _) _ _) (by omega) _ _) (by omega) _ _, _, W6, ⟨x.core, coreL_get HX.out, .inr ⟨p, HO.out⟩⟩, out_small HS.out HX.out HY.out⟩
        have r1 : ∀ (V : World) (u v : Value), V.cell? ⟨w.heap.size + 1, 0, none⟩ = some u → ((V.setCell ⟨w.heap.size + 1, 0, none⟩ v).setCell ⟨w.heap.size + 1, 1, none⟩ (.int .i64 m)).cell? ⟨w.heap.size + 1, 0, none⟩ = some v := fun V u v h => (World.cell?_setCell_other _ _ _ _ (fun e => by injection e with _ e; omega)).trans (World.cell?_setCell_same _ _ _ h)
        have r2 : ∀ (V : World) (u v : Value), V.cell? ⟨w.heap.size + 1, 1, none⟩ = some u → ((V.setCell ⟨w.heap.size + 1, 0, none⟩ v).setCell ⟨w.heap.size + 1, 1, none⟩ (.int .i64 m)).cell? ⟨w.heap.size + 1, 1, none⟩ = some (.int .i64 m) := fun V u v h => World.cell?_setCell_same _ _ _ ((World.cell?_setCell_other _ _ _ _ (fun e => by injection e with _ e; omega)).trans h)
        have q1 := r1 _ _ (.slice (some ⟨g, 0, none⟩) len cap) (d0c (p * 10 + 6) (.slice a9 N9 cap9) (n * 10 + 5) (.int .i64 (-1)))
        have q2 := r2 _ _ (.slice (some ⟨g, 0, none⟩) len cap) (d1c (p * 10 + 6) (.slice a9 N9 cap9) (n * 10 + 5) (.int .i64 (-1)))
        simp [results, Try.results55, go_sem, q1, q2]
end Go.Proofs.Ytllfkiifkkcinaa
/- What ValidSwap asks, over data. Plain mathematics, no program. -/
namespace Go.Proofs.Ytllfkiifkkcinaa
open Go.RowKit
theorem inF_of' {F : List Core} {k : Nat} (h : k < F.length) : inF F (k : Int) = true := by unfold inF; rw [decide_eq_true (by omega), decide_eq_true (by omega)]; rfl
theorem vknows_of' {m : Int} {F : List Core} (h : rightF m F = true) {n p : Nat} (hn : n < F.length) (hp : p < F.length) {c : Int} (hc : c = -1 ∨ inF F c = true) : vknowsB m F n p c = true := by
  unfold vknowsB
  rw [inF_of' hn, inF_of' hp, h]
  rcases hc with rfl | hc
  · rfl
  · rw [hc]; simp
theorem refuse_zero {m : Int} {F : List Core} {n p g : Int} : refuseE m F n p true g = 0 ↔ kindK F p ≠ 2 ∧ overZ m F n p = false ∧ kindK F n ≠ 0 ∧ kindK F n ≠ 4 ∧ (kindK F p = 0 → docTakesB F n p g = true) := by
  unfold refuseE
  constructor
  · intro h
    split at h
    · cases h
    rename_i h1
    rw [if_neg (by simp)] at h
    split at h
    · cases h
    rename_i h3
    split at h
    · cases h
    rename_i h4
    refine ⟨fun e => h1 (.inl e), ?_, fun e => h3 (.inl e), fun e => h3 (.inr e), fun e => ?_⟩
    · cases hq : overZ m F n p with
      | false => rfl
      | true => exact absurd (.inr hq) h1
    · cases hq : docTakesB F n p g with
      | true => rfl
      | false => exact absurd ⟨e, hq⟩ h4
  · rintro ⟨h1, h2, h3, h4, h5⟩
    rw [if_neg (by rw [h2]; simp [h1]), if_neg (by simp), if_neg (by simp [h3, h4])]
    by_cases e : kindK F p = 0
    · rw [if_neg (by rw [h5 e]; simp)]
    · rw [if_neg (by simp [e])]
theorem swap_is {m : Int} {F : List Core} (h : rightF m F = true) {X Y C : Nat} (hX : X < F.length) (hY : Y < F.length) (hC : C < F.length) (hp : parentK F C = (Y : Int)) : swapZ m F X Y C = refuseE m F X Y true C := by
  unfold swapZ
  rw [vknows_of' h hX hY (.inr (inF_of' hC)), if_pos rfl, hp, show ((C : Int) != -1) = true from bne_iff_ne.2 (by omega)]
  simp
theorem may_is {m : Int} {F : List Core} (h : rightF m F = true) {X Y C : Nat} (hX : X < F.length) (hY : Y < F.length) (hC : C < F.length) (hp : parentK F C = (Y : Int)) : mayZ m F X Y C = refuseE m F X Y true (-1) := by
  unfold mayZ
  rw [vknows_of' h hX hY (.inr (inF_of' hC)), if_pos rfl, hp]
  simp
theorem may_none {m : Int} {F : List Core} (h : rightF m F = true) {X Y : Nat} (hX : X < F.length) (hY : Y < F.length) : mayZ m F X Y (-1) = refuseE m F X Y true (-1) := by
  unfold mayZ
  rw [vknows_of' h hX hY (.inl rfl), if_pos rfl]
  rfl
theorem swap_none {m : Int} {F : List Core} {X Y : Int} : swapZ m F X Y (-1) ≠ 0 := by
  unfold swapZ
  split
  · unfold refuseE
    split
    · decide
    · rw [if_pos (by simp)]; decide
  · decide
theorem countNe_all {l : List Int} (h : ∀ z ∈ l, 0 ≤ z) : countNe l (-1) = l.length := by
  unfold countNe
  exact List.countP_eq_length.2 (fun z hz => bne_iff_ne.2 (by have := h z hz; omega))
theorem kids_nat {m : Int} {F : List Core} (h : rightF m F = true) {Y : Nat} {y : Core} (hy : F[Y]? = some y) : ∀ z ∈ y.kids, 0 ≤ z := fun z hz => by
  obtain ⟨c, h1, _⟩ := (right_node h hy).kids z hz
  exact (getC_some h1).1
theorem kidsK_get {F : List Core} {Y : Nat} {y : Core} (hy : F[Y]? = some y) : kidsK F (Y : Int) = y.kids := by unfold kidsK; rw [getC_nat, hy]
theorem kindK_at {F : List Core} {Y : Nat} {y : Core} (hy : F[Y]? = some y) : kindK F (Y : Int) = y.kind := by unfold kindK; rw [getC_nat, hy]
theorem parentK_at {F : List Core} {Y : Nat} {y : Core} (hy : F[Y]? = some y) : parentK F (Y : Int) = y.parent := by unfold parentK; rw [getC_nat, hy]
theorem parts_at {F : List Core} {Y : Nat} {y : Core} (hy : F[Y]? = some y) : partsZ F (Y : Int) = if y.kind = 3 then y.kids else [(Y : Int)] := by unfold partsZ; rw [getC_nat, hy]
theorem over_self {m : Int} {F : List Core} (h : rightF m F = true) {X : Nat} (hX : X < F.length) : overZ m F X X = true := (overZ_iff h hX hX).2 (holds_refl X)
/-- Who may be put may be put in the place of whomever. -/
theorem may_swap {m : Int} {F : List Core} (hr : rightF m F = true) {X Y C : Nat} (hX : X < F.length) (hY : Y < F.length) (hC : C < F.length) (hpC : parentK F C = (Y : Int)) (h : mayZ m F X Y C = 0) : swapZ m F X Y C = 0 := by
  obtain ⟨y, hy⟩ : ∃ y, F[Y]? = some y := ⟨_, List.getElem?_eq_getElem hY⟩
  rw [may_is hr hX hY hC hpC, refuse_zero] at h
  rw [swap_is hr hX hY hC hpC, refuse_zero]
  obtain ⟨h1, h2, h3, h4, h5⟩ := h
  refine ⟨h1, h2, h3, h4, fun e => ?_⟩
  have h6 := h5 e
  unfold docTakesB at h6 ⊢
  rw [Bool.and_eq_true, decide_eq_true_eq] at h6 ⊢
  refine ⟨h6.1, ?_⟩
  rw [kidsK_get hy] at h6 ⊢
  rw [countNe_all (kids_nat hr hy)] at h6
  have := countNe_le y.kids C
  omega
/-- What is asked of two nodes, and a child of one. -/
structure SwapFacts (m : Int) (F G : List Core) (X Y C : Nat) : Prop where
  same : X = C → overZ m F X Y = false → swapZ m F X Y C = 0
  gone : X ≠ C → overZ m F X Y = false → (swapZ m F X Y C = 0 ↔ mayZ m G X Y (-1) = 0)
theorem swap_facts {m : Int} {F G : List Core} {X Y C : Nat} {c : Core} (hX : X < F.length) (hY : Y < F.length) (ho : Out m F G C Y c) : SwapFacts m F G X Y C := by
  have hr := ho.right
  have hC := ho.lt
  have hpC : parentK F C = (Y : Int) := by rw [parentK_at ho.hx]; exact ho.hp
  obtain ⟨y, hy⟩ : ∃ y, F[Y]? = some y := ⟨_, List.getElem?_eq_getElem hY⟩
  obtain ⟨x, hx⟩ : ∃ x, F[X]? = some x := ⟨_, List.getElem?_eq_getElem hX⟩
  refine ⟨fun hXC hov => ?_, fun hXC hov => ?_⟩
  · subst hXC
    rw [swap_is hr hX hY hC hpC, refuse_zero]
    have hpf := par_facts hr ho.hx ho.hp hy
    refine ⟨by rw [kindK_at hy]; exact hpf.2.1, hov, ?_, ?_, fun e => ?_⟩
    · rw [kindK_at ho.hx]; rcases hpf.1 with e | e <;> omega
    · rw [kindK_at ho.hx]; rcases hpf.1 with e | e <;> omega
    · rw [kindK_at hy] at e
      obtain ⟨h1, h2⟩ := (right_node hr hy).root e
      have hm := hasZ_mem hpf.2.2
      have hk := h2 _ hm
      rw [kindK_at ho.hx] at hk
      have hl : y.kids = [(X : Int)] := by
        match hq : y.kids with
        | [] => rw [hq] at hm; cases hm
        | [z] => rw [hq] at hm; rw [List.mem_singleton.1 hm]
        | a :: b :: r => rw [hq] at h1; simp at h1
      unfold docTakesB
      rw [kidsK_get hy, parts_at ho.hx, if_neg (by omega), hl]
      have : kindK F (X : Int) = 1 := by rw [kindK_at ho.hx]; exact hk
      simp [countNe, this]
  · have hrG := ho.rightG
    have hXG : X < G.length := by rw [ho.ed.len]; exact hX
    have hYG : Y < G.length := by rw [ho.ed.len]; exact hY
    have hXY : X ≠ Y := fun e => by subst e; rw [over_self hr hX] at hov; cases hov
    have hovG : overZ m G X Y = false := by
      cases hq : overZ m G X Y with
      | false => rfl
      | true =>
        have h1 := ((ho.over hX hY).1 ((overZ_iff hrG hXG hYG).1 hq)).1
        rw [(overZ_iff hr hX hY).2 h1] at hov
        cases hov
    rw [swap_is hr hX hY hC hpC, may_none hrG hXG hYG, refuse_zero, refuse_zero, ho.ed.kindK, ho.ed.kindK, hov, hovG]
    have hd : docTakesB G X Y (-1) = docTakesB F X Y C := by
      have hyG := ho.ed.at_ Y y hy
      have hxG := ho.ed.at_ X x hx
      unfold docTakesB
      rw [kidsK_get hy, kidsK_get hyG, parts_at hx, parts_at hxG]
      have hk : (fun k => kindK G k == 2) = (fun k => kindK F k == 2) := by funext k; rw [ho.ed.kindK]
      rw [hk]
      show ((!(if x.kind = 3 then (if X = Y then x.kids.filter (fun z => z != (C : Int)) else x.kids) else [(X : Int)]).any (fun k => kindK F k == 2)) && decide (countNe (if Y = Y then y.kids.filter (fun z => z != (C : Int)) else y.kids) (-1) + (if x.kind = 3 then (if X = Y then x.kids.filter (fun z => z != (C : Int)) else x.kids) else [(X : Int)]).length ≤ 1)) = _
      rw [if_neg hXY, if_pos rfl, countNe_all (fun z hz => kids_nat hr hy z (List.mem_filter.1 hz).1)]
      have : (y.kids.filter (fun z => z != (C : Int))).length = countNe y.kids C := by unfold countNe; rw [List.countP_eq_length_filter]
      rw [this]
    rw [hd]
end Go.Proofs.Ytllfkiifkkcinaa
/- The walk of the law ValidSwap, over the contracts of packages forest, shade and valid. -/
namespace Go.Proofs.Ytllfkiifkkcinaa
open Go.RowKit
set_option maxHeartbeats 16000000 in
set_option maxRecDepth 100000 in
theorem validSwap_walk (P : Lay5) (a0 : Option Addr) (len0 cap0 : Nat) (m : Int) (L0 : List NodeD) (x y z : Int) (w : World)
    (h0 : NodeRow w a0 len0 cap0 L0) (hm : In64 m) (hx : 0 ≤ x ∧ x ≤ 255) (hy : 0 ≤ y ∧ y ≤ 255) (hz : 0 ≤ z ∧ z ≤ 255) :
    Calls Try.prog 12 #[forV a0 len0 cap0 m, .int .u8 x, .int .u8 y, .int .u8 z] w fun e w' => e = .returned (.bool true) ∧ Below w.heap.size w w' := by
  obtain ⟨F, S, V⟩ := P
  have AW := Lib.hid (fun W => awake5_any F V W)
  have HF := Lib.hid F
  have HS := Lib.hid S
  have HV := Lib.hid V
  have BX := Lib.hid (Box.start (m := m) h0)
  have hl0 := h0.len64
  have HL := Lib.hid h0.hlen
  have HM := Lib.hid hm
  have H00 := Lib.hid h0
  clear h0 F S V hm
  cases c0 : shortF L0 with
  | false =>
    have C0 := Lib.hid c0
    go_enter Try.func12, Try.ntmps12
    go_wp2_with (first
                    | (go_at_call 50; (with_reducible refine (AW.out _).mono ?_); rintro e w1 ⟨rfl, hb⟩; have BX := Lib.hid (BX.out.keep hb); have z0 := BX.out.c0; have z1 := BX.out.c1; clear hb)
                    | (go_at_call 15; (with_reducible refine (refshortF_any _ _ _ _ _ _ BX.out.row).mono ?_); rintro e w1 ⟨rfl, hb⟩; have BX := Lib.hid (BX.out.keep hb); have z0 := BX.out.c0; have z1 := BX.out.c1; clear hb)
                    | (go_at_call 19; (with_reducible refine (HR.out _ BX.out.row).mono ?_); rintro e w1 ⟨rfl, hb⟩; have BX := Lib.hid (BX.out.keep hb); have z0 := BX.out.c0; have z1 := BX.out.c1; clear hb))
    go_ret
    exact ⟨rfl, BX.out.below⟩
  | true =>
    have SM := Lib.hid (small_of_short c0)
    cases c1 : rightF m (coreL L0) with
    | false =>
      have HR : Hid (∀ W, NodeRow W a0 len0 cap0 L0 → Calls Try.prog 19 #[forV a0 len0 cap0 m] W fun e w' => e = .returned (.bool false) ∧ Below W.heap.size W w') := Lib.hid (fun W h => by
        have := HF.out.right a0 len0 cap0 m L0 W h HM.out SM.out
        rwa [c1] at this)
      clear c1
      go_enter Try.func12, Try.ntmps12
      go_wp2_with (first
                      | (go_at_call 50; (with_reducible refine (AW.out _).mono ?_); rintro e w1 ⟨rfl, hb⟩; have BX := Lib.hid (BX.out.keep hb); have z0 := BX.out.c0; have z1 := BX.out.c1; clear hb)
                      | (go_at_call 15; (with_reducible refine (refshortF_any _ _ _ _ _ _ BX.out.row).mono ?_); rintro e w1 ⟨rfl, hb⟩; have BX := Lib.hid (BX.out.keep hb); have z0 := BX.out.c0; have z1 := BX.out.c1; clear hb)
                      | (go_at_call 19; (with_reducible refine (HR.out _ BX.out.row).mono ?_); rintro e w1 ⟨rfl, hb⟩; have BX := Lib.hid (BX.out.keep hb); have z0 := BX.out.c0; have z1 := BX.out.c1; clear hb))
      go_ret
      exact ⟨rfl, BX.out.below⟩
    | true =>
      have HR : Hid (∀ W, NodeRow W a0 len0 cap0 L0 → Calls Try.prog 19 #[forV a0 len0 cap0 m] W fun e w' => e = .returned (.bool true) ∧ Below W.heap.size W w') := Lib.hid (fun W h => by
        have := HF.out.right a0 len0 cap0 m L0 W h HM.out SM.out
        rwa [c1] at this)
      have C1 := Lib.hid c1
      have hlc : (coreL L0).length = len0 := by
        unfold coreL
        rw [List.length_map, HL.out]
      have hlp : 0 < len0 := by
        have := right_len c1
        rwa [hlc] at this
      clear c1
      obtain ⟨X, hX⟩ : ∃ X : Nat, x % (len0 : Int) = X := ⟨(x % (len0 : Int)).toNat, by have := Int.emod_nonneg x (show (len0 : Int) ≠ 0 by omega); omega⟩
      obtain ⟨Y, hY⟩ : ∃ Y : Nat, y % (len0 : Int) = Y := ⟨(y % (len0 : Int)).toNat, by have := Int.emod_nonneg y (show (len0 : Int) ≠ 0 by omega); omega⟩
      have hXl : X < len0 := by have := Int.emod_lt_of_pos x (show (0 : Int) < len0 by omega); omega
      have hYl : Y < len0 := by have := Int.emod_lt_of_pos y (show (0 : Int) < len0 by omega); omega
      obtain ⟨b, off, ny, rfl, hblt, hgy, hat2, hoky⟩ := H00.out.get hYl
      have CY := Lib.hid (stays hat2.c6 hblt)
      have KR := Lib.hid hoky.kids
      have hk64 := KR.out.len64
      have HYC := Lib.hid (coreL_get hgy)
      have in_nat : ∀ k : Nat, k < len0 → In64 (k : Int) := fun k hk => ⟨by omega, by omega⟩
      clear hgy hat2 hoky
      have hyk : (coreL L0)[Y]? = some ny.core := HYC.out
      by_cases hk0 : ny.kN = 0
      · obtain ⟨E3, hE3⟩ : ∃ O, swapZ m (coreL L0) X Y (-1) = O := ⟨_, rfl⟩
        have e3 : (E3 != 0) = true := by rw [← hE3]; exact bne_iff_ne.2 swap_none
        have GS : Hid (∀ W, NodeRow W (some ⟨b, off, none⟩) len0 cap0 L0 → Calls Try.prog 54 #[forV (some ⟨b, off, none⟩) len0 cap0 m, .int .i64 X, .int .i64 Y, .int .i64 (-1)] W fun e w' => e = .returned (.int .i64 E3) ∧ Below W.heap.size W w') := Lib.hid (fun W h => by
          rw [← hE3]
          exact HV.out.swap _ len0 cap0 m L0 X Y (-1) W h HM.out (in_nat X hXl) (in_nat Y hYl) inM1 SM.out)
        clear SM HF HS HV in_nat hlc hE3 hyk
        go_enter Try.func12, Try.ntmps12
        go_wp2_with (first
                        | (go_at_call 50; (with_reducible refine (AW.out _).mono ?_); rintro e w1 ⟨rfl, hb⟩; have BX := Lib.hid (BX.out.keep hb); have z0 := BX.out.c0; have z1 := BX.out.c1; clear hb)
                        | (go_at_call 15; (with_reducible refine (refshortF_any _ _ _ _ _ _ BX.out.row).mono ?_); rintro e w1 ⟨rfl, hb⟩; have BX := Lib.hid (BX.out.keep hb); have z0 := BX.out.c0; have z1 := BX.out.c1; clear hb)
                        | (go_at_call 19; (with_reducible refine (HR.out _ BX.out.row).mono ?_); rintro e w1 ⟨rfl, hb⟩; have BX := Lib.hid (BX.out.keep hb); have z0 := BX.out.c0; have z1 := BX.out.c1; clear hb))
        (have E0 := Ext.cell z0 BX.out.lt; have E1 := Ext.cell z1 BX.out.lt; refine wp_region_ext (by kernel_rfl) (by kernel_rfl) ?_; (repeat (go_big_quiet_step (fail))); refine wpQuiet_nil ?_; intro w' hw'; obtain ⟨⟨w2, hb2⟩, hw''⟩ := hw'; dsimp only at hw''; subst hw''; clear E0 E1; rw [hX, hY]; clear hX hY z0 z1; have BX := Lib.hid (BX.out.keep hb2); have z0 := BX.out.c0; have z1 := BX.out.c1; clear hb2)
        have cy := CY.out _ BX.out.below
        rw [hk0] at cy
        go_wp2_with (first
                        | (go_at_call 43; ((with_reducible refine (GO.out _ BX.out.row).mono ?_); rintro e w1 ⟨rfl, hb⟩; have BX := Lib.hid (BX.out.keep hb); have z0 := BX.out.c0; have z1 := BX.out.c1; clear hb))
                        | (go_at_call 51; ((with_reducible refine (GM.out _ BX.out.row).mono ?_); rintro e w1 ⟨rfl, hb⟩; have BX := Lib.hid (BX.out.keep hb); have z0 := BX.out.c0; have z1 := BX.out.c1; clear hb))
                        | (go_at_call 51; ((with_reducible refine (GN.out _ BX.out.row).mono ?_); rintro e w1 ⟨rfl, hb⟩; have BX := Lib.hid (BX.out.keep hb); have z0 := BX.out.c0; have z1 := BX.out.c1; clear hb))
                        | (go_at_call 54; ((with_reducible refine (GS.out _ BX.out.row).mono ?_); rintro e w1 ⟨rfl, hb⟩; have BX := Lib.hid (BX.out.keep hb); have z0 := BX.out.c0; have z1 := BX.out.c1; clear hb)))
        go_ret
        exact ⟨rfl, BX.out.below⟩
      · obtain ⟨K, hK⟩ : ∃ K : Nat, z % (ny.kN : Int) = K := ⟨(z % (ny.kN : Int)).toNat, by have := Int.emod_nonneg z (show (ny.kN : Int) ≠ 0 by omega); omega⟩
        have hKl : K < ny.kN := by have := Int.emod_lt_of_pos z (show (0 : Int) < ny.kN by omega); omega
        obtain ⟨bk, ok, zc, hka, hbk, hzc, hcc, -⟩ := KR.out.get hKl
        rw [hka] at CY
        have CC := Lib.hid (stays hcc hbk)
        obtain ⟨cc, hcc1, hcc2, hcc3, -⟩ := (right_node C1.out hyk).kids zc (List.mem_of_getElem? hzc)
        obtain ⟨hz0, hz1, hcc4⟩ := getC_some hcc1
        obtain ⟨C, rfl⟩ : ∃ C : Nat, zc = C := ⟨zc.toNat, by omega⟩
        rw [Int.toNat_natCast] at hz1 hcc4
        have hCl : C < len0 := by omega
        have HCC := Lib.hid hcc4
        have HCP := Lib.hid hcc3
        obtain ⟨EM, hEM⟩ : ∃ O, mayZ m (coreL L0) X Y C = O := ⟨_, rfl⟩
        obtain ⟨ES, hES⟩ : ∃ O, swapZ m (coreL L0) X Y C = O := ⟨_, rfl⟩
        obtain ⟨O, hO⟩ : ∃ O, overZ m (coreL L0) X Y = O := ⟨_, rfl⟩
        have SF : Hid (∀ G, Out m (coreL L0) G C Y cc → SwapFacts m (coreL L0) G X Y C) := Lib.hid (fun G hG => swap_facts (by omega) (by omega) hG)
        have HMS : Hid (EM = 0 → ES = 0) := Lib.hid (fun h => by
          rw [← hES]
          exact may_swap C1.out (by omega) (by omega) (by omega) (by rw [parentK_at HCC.out]; exact HCP.out) (hEM.trans h))
        have HEM := Lib.hid hEM
        have HES := Lib.hid hES
        have HOO := Lib.hid hO
        have GO : Hid (∀ W, NodeRow W (some ⟨b, off, none⟩) len0 cap0 L0 → Calls Try.prog 43 #[forV (some ⟨b, off, none⟩) len0 cap0 m, .int .i64 X, .int .i64 Y] W fun e w' => e = .returned (.bool O) ∧ Below W.heap.size W w') := Lib.hid (fun W h => by
          rw [← hO]
          exact HS.out.over _ len0 cap0 m L0 X Y W h HM.out (in_nat X hXl) (in_nat Y hYl) SM.out)
        have GN : Hid (∀ W, NodeRow W (some ⟨b, off, none⟩) len0 cap0 L0 → Calls Try.prog 51 #[forV (some ⟨b, off, none⟩) len0 cap0 m, .int .i64 X, .int .i64 Y, .int .i64 C] W fun e w' => e = .returned (.int .i64 EM) ∧ Below W.heap.size W w') := Lib.hid (fun W h => by
          rw [← hEM]
          exact HV.out.may _ len0 cap0 m L0 X Y C W h HM.out (in_nat X hXl) (in_nat Y hYl) (in_nat C hCl) SM.out)
        have GS : Hid (∀ W, NodeRow W (some ⟨b, off, none⟩) len0 cap0 L0 → Calls Try.prog 54 #[forV (some ⟨b, off, none⟩) len0 cap0 m, .int .i64 X, .int .i64 Y, .int .i64 C] W fun e w' => e = .returned (.int .i64 ES) ∧ Below W.heap.size W w') := Lib.hid (fun W h => by
          rw [← hES]
          exact HV.out.swap _ len0 cap0 m L0 X Y C W h HM.out (in_nat X hXl) (in_nat Y hYl) (in_nat C hCl) SM.out)
        clear in_nat hlc hEM hES hO hyk hzc hcc hcc1 hcc2 hcc3 hcc4 hz0 hz1 hka
        have HKZ := Lib.hid hK
        clear hK
        go_enter Try.func12, Try.ntmps12
        go_wp2_with (first
                        | (go_at_call 50; (with_reducible refine (AW.out _).mono ?_); rintro e w1 ⟨rfl, hb⟩; have BX := Lib.hid (BX.out.keep hb); have z0 := BX.out.c0; have z1 := BX.out.c1; clear hb)
                        | (go_at_call 15; (with_reducible refine (refshortF_any _ _ _ _ _ _ BX.out.row).mono ?_); rintro e w1 ⟨rfl, hb⟩; have BX := Lib.hid (BX.out.keep hb); have z0 := BX.out.c0; have z1 := BX.out.c1; clear hb)
                        | (go_at_call 19; (with_reducible refine (HR.out _ BX.out.row).mono ?_); rintro e w1 ⟨rfl, hb⟩; have BX := Lib.hid (BX.out.keep hb); have z0 := BX.out.c0; have z1 := BX.out.c1; clear hb))
        (have E0 := Ext.cell z0 BX.out.lt; have E1 := Ext.cell z1 BX.out.lt; refine wp_region_ext (by kernel_rfl) (by kernel_rfl) ?_; (repeat (go_big_quiet_step (fail))); refine wpQuiet_nil ?_; intro w' hw'; obtain ⟨⟨w2, hb2⟩, hw''⟩ := hw'; dsimp only at hw''; subst hw''; clear E0 E1; rw [hX, hY]; clear hX hY z0 z1; have BX := Lib.hid (BX.out.keep hb2); have z0 := BX.out.c0; have z1 := BX.out.c1; clear hb2)
        have cy := CY.out _ BX.out.below
        have c5 := CC.out _ BX.out.below
        have ek : ((ny.kN : Int) == 0) = false := beq_eq_false_iff_ne.2 (by omega)
        have hK := HKZ.out
        go_wp2
        clear hK cy c5
        have E0 := Ext.cell z0 BX.out.lt
        have E1 := Ext.cell z1 BX.out.lt
        have EN := Lib.hid (fun (x : Ext w') => GN.out x.v (BX.out.row.below x.below))
        have ESW := Lib.hid (fun (x : Ext w') => GS.out x.v (BX.out.row.below x.below))
        refine wp_region_ext (by kernel_rfl) (by kernel_rfl) ?_
        repeat (go_big_quiet_step (first
          | (go_at_call 51; exact Ext.call_below (EN.out _))
          | (go_at_call 54; exact Ext.call_below (ESW.out _))))
        refine wpQuiet_nil ?_
        intro w' hw'
        obtain ⟨⟨w2, hb2⟩, hw''⟩ := hw'
        dsimp only at hw''
        subst hw''
        clear E0 E1 EN ESW z0 z1
        have BX := Lib.hid (BX.out.keep hb2)
        have z0 := BX.out.c0
        have z1 := BX.out.c1
        clear hb2
        go_upto_region 11 with fail
        go_cut [76] (fun c wx => c = .bool false ∧ wx = w')
        case first =>
          by_cases k1 : EM = 0
          · have k2 := HMS.out k1
            subst k1 k2
            go_wp2
            go_meet
            exact ⟨rfl, rfl⟩
          · have e1 : (EM == 0) = false := beq_eq_false_iff_ne.2 k1
            clear k1
            go_wp2
            go_meet
            exact ⟨rfl, rfl⟩
        case rest =>
          obtain ⟨rfl, rfl⟩ := hcut
          have hl1k : len0 ≤ 1000 := by have := SM.out.1; have := HL.out; omega
          go_upto_region 13 with fail
          refine copy1_region 4 77 78 79 80 81 82 83 15 116 _ (by kernel_rfl) (by exact Nat.le_refl _) (by decide) w.heap.size (some ⟨b, off, none⟩) len0 cap0 m L0 rfl BX.out.lt z0 z1 BX.out.row ⟨hlp, hl1k⟩ ?_
          intro v g gr cap w1 hc
          have WR := hc.wrow HL.out BX.out.row.ok
          have BX1 := Lib.hid (BX.out.keep hc.row.below)
          have hgr := (hc.row.own.lt gr rfl).1
          have hbox := Lib.hid hc.box
          have HNE := Lib.hid hc.ne
          have HB1 := Lib.hid hc.row.below
          have HGR := Lib.hid hgr
          have OUT : Hid (Calls Try.prog 55 #[forV (some ⟨gr, 0, none⟩) len0 cap m, .int .i64 C] w1 fun e w2 => e = .returned (forV (some ⟨gr, 0, none⟩) len0 cap m) ∧ ∃ M' : List NodeD, Box2 w2 g (.slice (some ⟨gr, 0, none⟩) len0 cap) (.int .i64 m) ∧ NodeRow w2 (some ⟨gr, 0, none⟩) len0 cap M' ∧ Out m (coreL L0) (coreL M') C Y cc ∧ smallF M' ∧ Hid (Box w w2 w.heap.size (some ⟨b, off, none⟩) len0 cap0 m L0 (coreL L0))) := Lib.hid ((vout_any gr len0 cap m L0 C w1 WR C1.out hCl SM.out).mono (fun e w2 ⟨he, hg, M', hw, ho, hs⟩ => by
            refine ⟨he, M', hbox.out.grown hg (fun e => HNE.out (by injection e with e; exact e.symm)), hw.row, ?_, hs, Lib.hid (BX.out.keep (HB1.out.grown hg HB1.out.size (fun k hk => ?_)))⟩
            · obtain ⟨x, hx, hp⟩ := ho
              obtain rfl : cc = x := Option.some.inj (HCC.out.symm.trans hx)
              rcases hp with ⟨h1, _⟩ | ⟨p, hp⟩
              · have := HCP.out; omega
              · have e2 : (p : Int) = Y := hp.hp.symm.trans HCP.out
                have e3 : p = Y := by omega
                rw [e3] at hp
                exact hp
            · injection hk with hk
              rw [← hk]; exact HGR.out))
          have z0 := BX1.out.c0
          have z1 := BX1.out.c1
          have y0 := hc.box.c0
          have y1 := hc.box.c1
          have y2 := hc.box.f0
          have y3 := hc.box.f1
          clear hc WR hgr
          simp only [puts, List.set_cons_succ, List.set_cons_zero]
          generalize v 0 = v0, v 1 = v1, v 2 = v2, v 3 = v3, v 4 = v4, v 5 = v5
          go_upto_region 15 with (go_at_call 55; (with_reducible refine OUT.out.mono ?_); rintro e w2 ⟨rfl, M', hb2, hrow, hout, hsm, BX2⟩; have G0 := hb2.c0; have G1 := hb2.c1; have G2 := hb2.f0; have G3 := hb2.f1; have HB2 := Lib.hid hb2; have HROW := Lib.hid hrow; have HOUT := Lib.hid hout; have HSM := Lib.hid hsm; clear hb2 hrow hout hsm y0 y1 y2 y3 z0 z1)
          rw [setCell_id HB2.out.c0, setCell_id HB2.out.c1]
          have BX := BX2
          have RW := HROW
          have GB := HB2
          clear BX2 BX1
          have z0 := BX.out.c0
          have z1 := BX.out.c1
          have SFG := Lib.hid (SF.out _ HOUT.out)
          have HR2 : Hid (∀ W, NodeRow W (some ⟨gr, 0, none⟩) len0 cap M' → Calls Try.prog 19 #[forV (some ⟨gr, 0, none⟩) len0 cap m] W fun e w' => e = .returned (.bool true) ∧ Below W.heap.size W w') := Lib.hid (fun W h => by
            have := HF.out.right _ len0 cap m M' W h HM.out HSM.out
            rwa [HOUT.out.rightG] at this)
          obtain ⟨EG, hEG⟩ : ∃ O, mayZ m (coreL M') X Y (-1) = O := ⟨_, rfl⟩
          have GG : Hid (∀ W, NodeRow W (some ⟨gr, 0, none⟩) len0 cap M' → Calls Try.prog 51 #[forV (some ⟨gr, 0, none⟩) len0 cap m, .int .i64 X, .int .i64 Y, .int .i64 (-1)] W fun e w' => e = .returned (.int .i64 EG) ∧ Below W.heap.size W w') := Lib.hid (fun W h => by
            rw [← hEG]
            exact HV.out.may _ len0 cap m M' X Y (-1) W h HM.out ⟨by omega, by omega⟩ ⟨by omega, by omega⟩ inM1 HSM.out)
          have HEG := Lib.hid hEG
          clear hEG HF HS HV
          go_upto_region 17 with (first
                                     | (go_at_call 19; (with_reducible refine (HR2.out _ RW.out).mono ?_); (rintro e w3 ⟨rfl, hb⟩; have BX := Lib.hid (BX.out.keep hb); have RW := Lib.hid (RW.out.below hb); have GB := Lib.hid (GB.out.keep hb); have z0 := BX.out.c0; have z1 := BX.out.c1; have G0 := GB.out.c0; have G1 := GB.out.c1; clear hb))
                                     | (go_at_call 43; (with_reducible refine (GO.out _ BX.out.row).mono ?_); (rintro e w3 ⟨rfl, hb⟩; have BX := Lib.hid (BX.out.keep hb); have RW := Lib.hid (RW.out.below hb); have GB := Lib.hid (GB.out.keep hb); have z0 := BX.out.c0; have z1 := BX.out.c1; have G0 := GB.out.c0; have G1 := GB.out.c1; clear hb))
                                     | (go_at_call 51; (with_reducible refine (GG.out _ RW.out).mono ?_); (rintro e w3 ⟨rfl, hb⟩; have BX := Lib.hid (BX.out.keep hb); have RW := Lib.hid (RW.out.below hb); have GB := Lib.hid (GB.out.keep hb); have z0 := BX.out.c0; have z1 := BX.out.c1; have G0 := GB.out.c0; have G1 := GB.out.c1; clear hb)))
          by_cases hXC : X = C
          · have eb : ((X : Int) == (C : Int)) = true := by rw [hXC]; exact beq_self_eq_true _
            have HQ : Hid (O = false → ES = 0) := Lib.hid (fun h => by
              rw [← HES.out]
              exact SFG.out.same hXC (HOO.out.trans h))
            clear hXC
            by_cases k1 : ES = 0
            · have e1 : (ES == 0) = true := beq_iff_eq.2 k1
              clear k1
              go_wp2_with (first
                              | (go_at_call 19; (with_reducible refine (HR2.out _ RW.out).mono ?_); (rintro e w3 ⟨rfl, hb⟩; have BX := Lib.hid (BX.out.keep hb); have RW := Lib.hid (RW.out.below hb); have GB := Lib.hid (GB.out.keep hb); have z0 := BX.out.c0; have z1 := BX.out.c1; have G0 := GB.out.c0; have G1 := GB.out.c1; clear hb))
                              | (go_at_call 43; (with_reducible refine (GO.out _ BX.out.row).mono ?_); (rintro e w3 ⟨rfl, hb⟩; have BX := Lib.hid (BX.out.keep hb); have RW := Lib.hid (RW.out.below hb); have GB := Lib.hid (GB.out.keep hb); have z0 := BX.out.c0; have z1 := BX.out.c1; have G0 := GB.out.c0; have G1 := GB.out.c1; clear hb))
                              | (go_at_call 51; (with_reducible refine (GG.out _ RW.out).mono ?_); (rintro e w3 ⟨rfl, hb⟩; have BX := Lib.hid (BX.out.keep hb); have RW := Lib.hid (RW.out.below hb); have GB := Lib.hid (GB.out.keep hb); have z0 := BX.out.c0; have z1 := BX.out.c1; have G0 := GB.out.c0; have G1 := GB.out.c1; clear hb)))
              go_ret
              exact ⟨rfl, BX.out.below⟩
            · have e1 : (ES == 0) = false := beq_eq_false_iff_ne.2 k1
              cases hO : O with
              | false => exact absurd (HQ.out hO) k1
              | true =>
                subst hO
                clear k1
                go_wp2_with (first
                                | (go_at_call 19; (with_reducible refine (HR2.out _ RW.out).mono ?_); (rintro e w3 ⟨rfl, hb⟩; have BX := Lib.hid (BX.out.keep hb); have RW := Lib.hid (RW.out.below hb); have GB := Lib.hid (GB.out.keep hb); have z0 := BX.out.c0; have z1 := BX.out.c1; have G0 := GB.out.c0; have G1 := GB.out.c1; clear hb))
                                | (go_at_call 43; (with_reducible refine (GO.out _ BX.out.row).mono ?_); (rintro e w3 ⟨rfl, hb⟩; have BX := Lib.hid (BX.out.keep hb); have RW := Lib.hid (RW.out.below hb); have GB := Lib.hid (GB.out.keep hb); have z0 := BX.out.c0; have z1 := BX.out.c1; have G0 := GB.out.c0; have G1 := GB.out.c1; clear hb))
                                | (go_at_call 51; (with_reducible refine (GG.out _ RW.out).mono ?_); (rintro e w3 ⟨rfl, hb⟩; have BX := Lib.hid (BX.out.keep hb); have RW := Lib.hid (RW.out.below hb); have GB := Lib.hid (GB.out.keep hb); have z0 := BX.out.c0; have z1 := BX.out.c1; have G0 := GB.out.c0; have G1 := GB.out.c1; clear hb)))
                go_ret
                exact ⟨rfl, BX.out.below⟩
          · have eb : ((X : Int) == (C : Int)) = false := beq_eq_false_iff_ne.2 (by omega)
            have HQ : Hid (O = false → (ES = 0 ↔ EG = 0)) := Lib.hid (fun h => by
              rw [← HES.out, ← HEG.out]
              exact SFG.out.gone hXC (HOO.out.trans h))
            clear hXC
            cases hO : O with
            | true =>
              subst hO
              by_cases k1 : (ES == 0) = (EG == 0)
              · have e1 : ((ES == 0) == (EG == 0)) = true := beq_iff_eq.2 k1
                clear k1
                go_wp2_with (first
                                | (go_at_call 19; (with_reducible refine (HR2.out _ RW.out).mono ?_); (rintro e w3 ⟨rfl, hb⟩; have BX := Lib.hid (BX.out.keep hb); have RW := Lib.hid (RW.out.below hb); have GB := Lib.hid (GB.out.keep hb); have z0 := BX.out.c0; have z1 := BX.out.c1; have G0 := GB.out.c0; have G1 := GB.out.c1; clear hb))
                                | (go_at_call 43; (with_reducible refine (GO.out _ BX.out.row).mono ?_); (rintro e w3 ⟨rfl, hb⟩; have BX := Lib.hid (BX.out.keep hb); have RW := Lib.hid (RW.out.below hb); have GB := Lib.hid (GB.out.keep hb); have z0 := BX.out.c0; have z1 := BX.out.c1; have G0 := GB.out.c0; have G1 := GB.out.c1; clear hb))
                                | (go_at_call 51; (with_reducible refine (GG.out _ RW.out).mono ?_); (rintro e w3 ⟨rfl, hb⟩; have BX := Lib.hid (BX.out.keep hb); have RW := Lib.hid (RW.out.below hb); have GB := Lib.hid (GB.out.keep hb); have z0 := BX.out.c0; have z1 := BX.out.c1; have G0 := GB.out.c0; have G1 := GB.out.c1; clear hb)))
                go_ret
                exact ⟨rfl, BX.out.below⟩
              · have e1 : ((ES == 0) == (EG == 0)) = false := beq_eq_false_iff_ne.2 k1
                clear k1
                go_wp2_with (first
                                | (go_at_call 19; (with_reducible refine (HR2.out _ RW.out).mono ?_); (rintro e w3 ⟨rfl, hb⟩; have BX := Lib.hid (BX.out.keep hb); have RW := Lib.hid (RW.out.below hb); have GB := Lib.hid (GB.out.keep hb); have z0 := BX.out.c0; have z1 := BX.out.c1; have G0 := GB.out.c0; have G1 := GB.out.c1; clear hb))
                                | (go_at_call 43; (with_reducible refine (GO.out _ BX.out.row).mono ?_); (rintro e w3 ⟨rfl, hb⟩; have BX := Lib.hid (BX.out.keep hb); have RW := Lib.hid (RW.out.below hb); have GB := Lib.hid (GB.out.keep hb); have z0 := BX.out.c0; have z1 := BX.out.c1; have G0 := GB.out.c0; have G1 := GB.out.c1; clear hb))
                                | (go_at_call 51; (with_reducible refine (GG.out _ RW.out).mono ?_); (rintro e w3 ⟨rfl, hb⟩; have BX := Lib.hid (BX.out.keep hb); have RW := Lib.hid (RW.out.below hb); have GB := Lib.hid (GB.out.keep hb); have z0 := BX.out.c0; have z1 := BX.out.c1; have G0 := GB.out.c0; have G1 := GB.out.c1; clear hb)))
                go_ret
                exact ⟨rfl, BX.out.below⟩
            | false =>
              have hq := HQ.out hO
              subst hO
              have e1 : ((ES == 0) == (EG == 0)) = true := by
                by_cases k : ES = 0
                · rw [beq_iff_eq.2 k, beq_iff_eq.2 (hq.1 k)]; rfl
                · rw [beq_eq_false_iff_ne.2 k, beq_eq_false_iff_ne.2 (fun e => k (hq.2 e))]; rfl
              clear hq
              go_wp2_with (first
                              | (go_at_call 19; (with_reducible refine (HR2.out _ RW.out).mono ?_); (rintro e w3 ⟨rfl, hb⟩; have BX := Lib.hid (BX.out.keep hb); have RW := Lib.hid (RW.out.below hb); have GB := Lib.hid (GB.out.keep hb); have z0 := BX.out.c0; have z1 := BX.out.c1; have G0 := GB.out.c0; have G1 := GB.out.c1; clear hb))
                              | (go_at_call 43; (with_reducible refine (GO.out _ BX.out.row).mono ?_); (rintro e w3 ⟨rfl, hb⟩; have BX := Lib.hid (BX.out.keep hb); have RW := Lib.hid (RW.out.below hb); have GB := Lib.hid (GB.out.keep hb); have z0 := BX.out.c0; have z1 := BX.out.c1; have G0 := GB.out.c0; have G1 := GB.out.c1; clear hb))
                              | (go_at_call 51; (with_reducible refine (GG.out _ RW.out).mono ?_); (rintro e w3 ⟨rfl, hb⟩; have BX := Lib.hid (BX.out.keep hb); have RW := Lib.hid (RW.out.below hb); have GB := Lib.hid (GB.out.keep hb); have z0 := BX.out.c0; have z1 := BX.out.c1; have G0 := GB.out.c0; have G1 := GB.out.c1; clear hb)))
              go_ret
              exact ⟨rfl, BX.out.below⟩
end Go.Proofs.Ytllfkiifkkcinaa
