/- Texts joined in build order: ForestOrderFn ShadeAllFn ShadeElems ForestAheadFn ShadeProof ValidProof Ref3Bare StepWp RefName. -/
import Derived.Test.YtkgbgnmmgmnnlaaGreatDoorA15
import Derived.Test.YtkgbgnmmgmnnlaaGreatDoorA14
import Derived.Test.YtkgbgnmmgmnnlaaGreatDoorA16
import Derived.Test.YtkgbgnmmgmnnlaaGreatDoorA13
import Derived.BigRegion
import Derived.Deep.RegionLaw
import Derived.Test.YtkgbgnmmgmnnlaaGreatDoorA02
namespace Go.Proofs.YtkgbgnmmgmnnlaaGreatDoor
open Go.RowKit Go.Shelf
theorem OwnPostI.new {w w' : World} {l : List Int} {e : Ending} (h : OwnPostI w l e w') (hin : ∀ z ∈ l, In64 z) : ∃ a len cap, e = .returned (.slice a len cap) ∧ IntRow w' a len cap l ∧ Below w.heap.size w w' ∧ ∀ b off, a = some ⟨b, off, none⟩ → w.heap.size ≤ b := by
  obtain ⟨v, he, ho, hb⟩ := h
  obtain ⟨a9, cap9, hv9, hr9, hlo9⟩ := IntRow.of_own_new (M := l) (n := l.length) rfl ho hin
  exact ⟨a9, l.length, cap9, by rw [he, hv9], hr9, hb, hlo9⟩
def OrdNew (w : World) (l : List Int) (e : Ending) (w' : World) : Prop := ∃ a len cap, e = .returned (.slice a len cap) ∧ IntRow w' a len cap l ∧ Below w.heap.size w w' ∧ ∀ b off, a = some ⟨b, off, none⟩ → w.heap.size ≤ b
theorem OrdNew.post {w w' : World} {l : List Int} {e : Ending} (h : OrdNew w l e w') : OrdPost w l e w' := by
  obtain ⟨a, len, cap, h1, h2, h3, _⟩ := h
  exact ⟨a, len, cap, h1, h2, h3⟩
theorem ordB_in {m : Int} {sh : Bool} {F : List Core} (hr : rightF m F = true) {n : Nat} (hn : n < F.length) : ∀ z ∈ ordB sh F (n : Int), ∃ t : Nat, z = t ∧ t < F.length := by
  intro z hz
  cases sh
  · have hz : z ∈ ordI F (n : Int) := hz
    unfold ordI at hz
    obtain ⟨k, hk, rfl⟩ := List.mem_map.1 hz
    exact ⟨k, rfl, (tree_of_right hr).ord_lt _ n hn k (by rw [Int.toNat_natCast] at hk; exact hk)⟩
  · have hz : z ∈ allI F (n : Int) := hz
    unfold allI at hz
    obtain ⟨k, hk, rfl⟩ := List.mem_map.1 hz
    exact ⟨k, rfl, (treeS hr).ord_lt _ _ hn k (by rw [Int.toNat_natCast] at hk; exact hk)⟩
set_option maxHeartbeats 4000000 in
theorem wtree_any (a : Option Addr) (len cap : Nat) (m : Int) (L : List NodeD) (n : Nat) (w : World) (h : NodeRow w a len cap L) (hs : smallF L) (hr : rightF m (coreL L) = true) (hn : n < len) :
    Calls Tryz.prog 34 #[.slice a len cap, .int .i64 n] w (OrdNew w (ordI (coreL L) n)) := by
  have CO : Hid (Calls Tryz.prog 70 #[.slice a len cap, .int .i64 n, .bool false] w (OwnPostI w (ordI (coreL L) n))) := Lib.hid (worder_any a len cap m L n false w h hs hr hn)
  have HIN : Hid (∀ z ∈ ordI (coreL L) n, In64 z) := Lib.hid (fun z hz => by
    obtain ⟨t, rfl, ht⟩ := ordB_in (sh := false) hr (by rw [coreL_len, h.hlen]; exact hn) z hz
    rw [coreL_len, h.hlen] at ht
    have := h.len64
    exact ⟨by omega, by omega⟩)
  clear h hs hr
  go_enter Tryz.func34, Tryz.ntmps34
  go_wp2_with (go_at_call 70; (with_reducible refine CO.out.mono ?_); intro e w1 hp; obtain ⟨a9, len9, cap9, rfl, hr9, hb9, hlo9⟩ := hp.new HIN.out)
  go_ret
  exact ⟨a9, len9, cap9, rfl, hr9, hb9, hlo9⟩
set_option maxHeartbeats 4000000 in
theorem wfull_any (a : Option Addr) (len cap : Nat) (m : Int) (L : List NodeD) (n : Nat) (w : World) (h : NodeRow w a len cap L) (hs : smallF L) (hr : rightF m (coreL L) = true) (hn : n < len) :
    Calls Tryz.prog 109 #[.slice a len cap, .int .i64 n] w (OrdNew w (allI (coreL L) n)) := by
  have CO : Hid (Calls Tryz.prog 70 #[.slice a len cap, .int .i64 n, .bool true] w (OwnPostI w (allI (coreL L) n))) := Lib.hid (worder_any a len cap m L n true w h hs hr hn)
  have HIN : Hid (∀ z ∈ allI (coreL L) n, In64 z) := Lib.hid (fun z hz => by
    obtain ⟨t, rfl, ht⟩ := ordB_in (sh := true) hr (by rw [coreL_len, h.hlen]; exact hn) z hz
    rw [coreL_len, h.hlen] at ht
    have := h.len64
    exact ⟨by omega, by omega⟩)
  clear h hs hr
  go_enter Tryz.func109, Tryz.ntmps109
  go_wp2_with (go_at_call 70; (with_reducible refine CO.out.mono ?_); intro e w1 hp; obtain ⟨a9, len9, cap9, rfl, hr9, hb9, hlo9⟩ := hp.new HIN.out)
  go_ret
  exact ⟨a9, len9, cap9, rfl, hr9, hb9, hlo9⟩
end Go.Proofs.YtkgbgnmmgmnnlaaGreatDoor
namespace Go.Proofs.YtkgbgnmmgmnnlaaGreatDoor
open Go.RowKit Go.Shelf
end Go.Proofs.YtkgbgnmmgmnnlaaGreatDoor
namespace Go.Proofs.YtkgbgnmmgmnnlaaGreatDoor
open Go.RowKit
end Go.Proofs.YtkgbgnmmgmnnlaaGreatDoor
namespace Go.Proofs.YtkgbgnmmgmnnlaaGreatDoor
open Go.RowKit
theorem ahead_find {m : Int} {F : List Core} (hr : rightF m F = true) {x y : Nat} (hx : x < F.length) (hy : y < F.length) : aheadZ m F (x : Int) (y : Int) = decide (findZ (ordZ m F (rootF F x : Nat)) (x : Int) < findZ (ordZ m F (rootF F x : Nat)) (y : Int)) := by
  have T := tree_of_right hr
  have hrl := rootF_lt hr hx
  rw [aheadZ_eq hr hx hy, ordZ_eq hr hrl]
  have hf : ∀ (l : List Nat) (z : Nat), findZ (l.map Int.ofNat) (z : Int) = if posN l z < l.length then (posN l z : Int) else -1 := fun l z => by
    have h1 : findN (l.map Int.ofNat) (z : Int) = posN l z := by
      unfold findN posN
      rw [List.findIdx_map]
      congr 1
      funext q
      show (Int.ofNat q == (z : Int)) = (q == z)
      rw [Bool.eq_iff_iff]
      simp
      omega
    unfold findZ
    rw [h1, List.length_map]
  rw [hf, hf]
  have hxin : x ∈ ordF F (rootF F x) := T.in_root (f := F.length + 1) hx (by omega)
  have hpx := posN_mem hxin
  rw [if_pos hpx]
  unfold aheadF
  by_cases he : rootF F x = rootF F y
  · rw [decide_eq_true he, Bool.true_and]
    have hyin : y ∈ ordF F (rootF F x) := by
      rw [he]
      exact T.in_root (f := F.length + 1) hy (by omega)
    rw [if_pos (posN_mem hyin)]
    exact decide_eq_decide.2 (by omega)
  · rw [decide_eq_false he, Bool.false_and]
    have hyn : y ∉ ordF F (rootF F x) := fun hm => by
      have hh := (T.mem_ord _ _ hrl (by omega) y hy).1 hm
      have h2 : parF F (rootF F x) = none := T.root_top _ x hx (by have := T.rank_le x hx; omega)
      exact he (T.root_of (f := F.length + 1) hy (by have := T.rank_le y hy; omega) hh h2).symm
    have hpy : ¬ posN (ordF F (rootF F x)) y < (ordF F (rootF F x)).length := fun h => by
      have h2 : ((ordF F (rootF F x))[posN (ordF F (rootF F x)) y] == y) = true := List.findIdx_getElem (w := h)
      have h3 : (ordF F (rootF F x))[posN (ordF F (rootF F x)) y] = y := by simpa using h2
      exact hyn (h3 ▸ List.getElem_mem h)
    rw [if_neg hpy]
    exact (decide_eq_false (by omega)).symm
set_option maxHeartbeats 4000000 in
set_option maxRecDepth 100000 in
theorem aheadFn_any (a : Option Addr) (len cap : Nat) (m : Int) (L : List NodeD) (x y : Int) (w : World) (h : NodeRow w a len cap L) (hm : In64 m) (hx : In64 x) (hy : In64 y) (hs : smallF L) :
    Calls Tryz.prog 24 #[forV a len cap m, .int .i64 x, .int .i64 y] w fun e w' => e = .returned (.bool (aheadZ m (coreL L) x y)) ∧ Below w.heap.size w w' := by
  have HCL : Hid ((coreL L).length = len) := Lib.hid (by rw [coreL_len, h.hlen])
  have hlen := h.len64
  have BX := Lib.hid ((Box.start (m := m) h).keep (below_box _ (.cells #[.int .i64 x, .int .i64 y] 3)))
  have NB := Lib.hid (lit_two (w.alloc (forB a len cap m)) 3 x y hx hy)
  have CK : Hid (∀ W b, NodeRow W a len cap L → IntRow W b 2 2 [x, y] → Calls Tryz.prog 46 #[forV a len cap m, .slice b 2 2] W fun e w' => e = .returned (.bool (thereF m (coreL L) x && thereF m (coreL L) y)) ∧ Below W.heap.size W w') := Lib.hid (fun W b h1 h2 => by
    rw [← knowsB_two]
    exact knows_any a len cap m L b 2 2 [x, y] W h1 hm hs h2)
  simp only [World.size_alloc] at NB
  have z0 := BX.out.c0
  have z1 := BX.out.c1
  cases q : (thereF m (coreL L) x && thereF m (coreL L) y) with
  | false =>
    rw [q] at CK
    have HR : Hid (aheadZ m (coreL L) x y = false) := Lib.hid (by unfold aheadZ; rw [q]; rfl)
    clear q h hm hs hx hy
    go_enter Tryz.func24, Tryz.ntmps24
    go_wp2_with (first
                    | (go_at_call 46; ((with_reducible refine (CK.out _ _ BX.out.row NB.out).mono ?_); rintro e w1 ⟨rfl, hb⟩; have BX := Lib.hid (BX.out.keep hb); have z0 := BX.out.c0; have z1 := BX.out.c1; clear hb))
                    | (go_at_call 35; ((with_reducible refine (CU.out _ BX.out.row).mono ?_); rintro e w1 ⟨rfl, rfl⟩)))
    go_ret
    exact ⟨ret_bool HR.out.symm, BX.out.below⟩
  | true =>
    rw [q] at CK
    rw [Bool.and_eq_true] at q
    obtain ⟨hr, X, rfl, hX⟩ := there_nat q.1
    obtain ⟨-, Y, rfl, hY⟩ := there_nat q.2
    have HA := Lib.hid (ahead_find hr hX hY)
    have hRl := rootF_lt hr hX
    have CU : Hid (∀ W, NodeRow W a len cap L → Calls Tryz.prog 35 #[.slice a len cap, .int .i64 X] W fun e w' => e = .returned (.int .i64 (rootF (coreL L) X : Nat)) ∧ W = w') := Lib.hid (fun W h => rootUp_any a len cap m L X W h hr (by rw [← HCL.out]; exact hX))
    obtain ⟨R, hR⟩ : ∃ R, rootF (coreL L) X = R := ⟨_, rfl⟩
    rw [hR] at HA CU hRl
    have HRL : R < len := by rw [← HCL.out]; exact hRl
    have CO : Hid (∀ W, NodeRow W a len cap L → Calls Tryz.prog 34 #[.slice a len cap, .int .i64 R] W (OrdPost W (ordZ m (coreL L) R))) := Lib.hid (fun W h => by
      rw [ordZ_eq hr hRl]
      exact (wtree_any a len cap m L R W h hs hr HRL).mono fun _ _ h => h.post)
    clear q h hm hs hx hy hR hr
    go_enter Tryz.func24, Tryz.ntmps24
    go_wp2_with (first
                    | (go_at_call 46; ((with_reducible refine (CK.out _ _ BX.out.row NB.out).mono ?_); rintro e w1 ⟨rfl, hb⟩; have BX := Lib.hid (BX.out.keep hb); have z0 := BX.out.c0; have z1 := BX.out.c1; clear hb))
                    | (go_at_call 35; ((with_reducible refine (CU.out _ BX.out.row).mono ?_); rintro e w1 ⟨rfl, rfl⟩)))
    go_region_held3 (fun w' => w'.cell? ⟨w.heap.size, 0, none⟩ = some (.slice a len cap) ∧ w'.cell? ⟨w.heap.size, 1, none⟩ = some (.int .i64 m)) (go_keep)
      (first
        | (go_at_call 35; refine (CU.out _ (by first | exact BX.out.row | exact BX.out.row.drew)).mono ?_; rintro e w2 ⟨rfl, rfl⟩)
        | (go_at_call 34; refine (CO.out _ (by first | exact BX.out.row | exact BX.out.row.drew)).mono ?_; intro e w2 hp; obtain ⟨a2, n2, c2, rfl, hrow, hb⟩ := hp; have IR := Lib.hid hrow; have BX := Lib.hid (BX.out.keep ((Below.refl _ _).drew.trans hb)); have z0 := BX.out.c0; have z1 := BX.out.c1; clear hrow hb))
    go_wp2_with (go_at_call 47; refine (index_any _ _ _ _ _ _ IR.out).mono ?_; rintro e w3 ⟨rfl, rfl⟩)
    go_ret
    exact ⟨ret_bool HA.out.symm, BX.out.below⟩
end Go.Proofs.YtkgbgnmmgmnnlaaGreatDoor
namespace Go.Proofs.YtkgbgnmmgmnnlaaGreatDoor
open Go.RowKit
end Go.Proofs.YtkgbgnmmgmnnlaaGreatDoor
namespace Go.Proofs.YtkgbgnmmgmnnlaaGreatDoor
open Go.RowKit
theorem vknows_nat {m : Int} {F : List Core} {n p c : Int} (h : vknowsB m F n p c = true) : rightF m F = true ∧ (∃ k : Nat, n = k ∧ k < F.length) ∧ (∃ k : Nat, p = k ∧ k < F.length) ∧ (c = -1 ∨ ∃ k : Nat, c = k ∧ k < F.length) := by
  unfold vknowsB at h
  rw [Bool.and_eq_true, Bool.and_eq_true, Bool.and_eq_true, Bool.or_eq_true, beq_iff_eq] at h
  refine ⟨h.2, inF_nat h.1.1.1, inF_nat h.1.1.2, ?_⟩
  rcases h.1.2 with h | h
  · exact .inl h
  · exact .inr (inF_nat h)
set_option maxHeartbeats 4000000 in
set_option maxRecDepth 100000 in
theorem vmay_any (a : Option Addr) (len cap : Nat) (m : Int) (L : List NodeD) (n p c : Int) (w : World) (h : NodeRow w a len cap L) (hm : In64 m) (hn : In64 n) (hp : In64 p) (hc : In64 c) (hs : smallF L) :
    Calls Tryz.prog 60 #[forV a len cap m, .int .i64 n, .int .i64 p, .int .i64 c] w fun e w' => e = .returned (.int .i64 (mayZ m (coreL L) n p c)) ∧ Below w.heap.size w w' := by
  have HCL : Hid ((coreL L).length = len) := Lib.hid (by rw [coreL_len, h.hlen])
  have hlen := h.len64
  have BX := Lib.hid (Box.start (m := m) h)
  have CK : Hid (∀ W, NodeRow W a len cap L → Calls Tryz.prog 93 #[forV a len cap m, .int .i64 n, .int .i64 p, .int .i64 c] W fun e w' => e = .returned (.bool (vknowsB m (coreL L) n p c)) ∧ Below W.heap.size W w') := Lib.hid (fun W h1 => vknows_any a len cap m L n p c W h1 hm hn hp hc hs)
  have z0 := BX.out.c0
  have z1 := BX.out.c1
  cases q : vknowsB m (coreL L) n p c with
  | false =>
    rw [q] at CK
    have HR : Hid (mayZ m (coreL L) n p c = 1) := Lib.hid (by unfold mayZ; rw [q]; rfl)
    clear q h hm hn hp hc hs
    go_enter Tryz.func60, Tryz.ntmps60
    go_wp2_with (go_at_call 93; ((with_reducible refine (CK.out _ BX.out.row).mono ?_); rintro e w1 ⟨rfl, hb⟩; have BX := Lib.hid (BX.out.keep hb); have z0 := BX.out.c0; have z1 := BX.out.c1; clear hb))
    go_ret
    exact ⟨ret_int HR.out.symm, BX.out.below⟩
  | true =>
    rw [q] at CK
    obtain ⟨hr, ⟨N, rfl, hN⟩, ⟨P, rfl, hP⟩, hcc⟩ := vknows_nat q
    rw [HCL.out] at hN hP
    obtain ⟨E, hE⟩ : ∃ E, mayZ m (coreL L) N P c = E := ⟨_, rfl⟩
    have HE : Hid (∀ B : Bool, (c == -1 || parentK (coreL L) c == (P : Int)) = B → refuseE m (coreL L) N P B (-1) = E) := Lib.hid (fun B hB => by rw [← hE, ← hB]; unfold mayZ; rw [q]; rfl)
    rw [hE]
    have CEB : Hid (∀ B, refuseE m (coreL L) N P B (-1) = E → ∀ W, NodeRow W a len cap L → Calls Tryz.prog 94 #[forV a len cap m, .int .i64 N, .int .i64 P, .bool B, .int .i64 (-1)] W fun e w' => e = .returned (.int .i64 E) ∧ Below W.heap.size W w') := Lib.hid (fun B hB W h1 => by
      rw [← hB]
      exact vrefuse_any a len cap m L N P B (-1) W h1 hm inM1 hs hr hN hP)
    have HH := Lib.hid h
    clear q hE h hm hn hp hs hr
    rcases hcc with rfl | ⟨C, rfl, hC⟩
    · have CE := Lib.hid (CEB.out true (HE.out true (by simp)))
      clear CEB HE hc
      go_enter Tryz.func60, Tryz.ntmps60
      go_wp2_with (first | (go_at_call 93; ((with_reducible refine (CK.out _ BX.out.row).mono ?_); rintro e w1 ⟨rfl, hb⟩; have BX := Lib.hid (BX.out.keep hb); have z0 := BX.out.c0; have z1 := BX.out.c1; clear hb)) | (go_at_call 94; ((with_reducible refine (CE.out _ BX.out.row).mono ?_); rintro e w1 ⟨rfl, hb⟩; have BX := Lib.hid (BX.out.keep hb); have z0 := BX.out.c0; have z1 := BX.out.c1; clear hb)))
      go_ret
      exact ⟨rfl, BX.out.below⟩
    · rw [HCL.out] at hC
      have hne : ((C : Int) == -1) = false := beq_eq_false_iff_ne.2 (by omega)
      obtain ⟨b, off, x, rfl, hb, hx, hat, hok⟩ := HH.out.get hC
      have C5 := Lib.hid (stays hat.c5 hb)
      have HPK := Lib.hid (parentK_get hx)
      cases hq : (x.core.parent == (P : Int))
      all_goals
        have CE := Lib.hid (CEB.out (x.core.parent == (P : Int)) (HE.out _ (by rw [hne, HPK.out]; simp)))
        rw [hq] at CE
        clear CEB HE HPK hx hat hok
        go_enter Tryz.func60, Tryz.ntmps60
        go_wp2_with (first | ((go_at_call 93; ((with_reducible refine (CK.out _ BX.out.row).mono ?_); rintro e w1 ⟨rfl, hb⟩; have BX := Lib.hid (BX.out.keep hb); have z0 := BX.out.c0; have z1 := BX.out.c1; clear hb)); have c5 := C5.out _ BX.out.below) | (go_at_call 94; ((with_reducible refine (CE.out _ BX.out.row).mono ?_); rintro e w1 ⟨rfl, hb⟩; have BX := Lib.hid (BX.out.keep hb); have z0 := BX.out.c0; have z1 := BX.out.c1; clear hb)))
        go_ret
        exact ⟨rfl, BX.out.below⟩
theorem may_ok {m : Int} {F : List Core} {n p c : Int} (h : mayZ m F n p c = 0) : vknowsB m F n p c = true ∧ kindK F p ≠ 2 ∧ overZ m F n p = false ∧ (c = -1 ∨ parentK F c = p) ∧ kindK F n ≠ 0 ∧ kindK F n ≠ 4 ∧ (kindK F p = 0 → docTakesB F n p (-1) = true) := by
  unfold mayZ at h
  split at h
  · rename_i hk
    unfold refuseE at h
    split at h
    · cases h
    rename_i h1
    split at h
    · cases h
    rename_i h2
    split at h
    · cases h
    rename_i h3
    split at h
    · cases h
    rename_i h4
    refine ⟨hk, fun e => h1 (.inl e), ?_, ?_, fun e => h3 (.inl e), fun e => h3 (.inr e), fun e => ?_⟩
    · cases hq : overZ m F n p with
      | false => rfl
      | true => exact absurd (.inr hq) h1
    · cases hq : (c == -1 || parentK F c == p) with
      | false => exact absurd hq h2
      | true =>
        rw [Bool.or_eq_true, beq_iff_eq, beq_iff_eq] at hq
        exact hq
    · cases hq : docTakesB F n p (-1) with
      | true => rfl
      | false => exact absurd ⟨e, hq⟩ h4
  · cases h
theorem par_facts {m : Int} {F : List Core} (h : rightF m F = true) {N P : Nat} {x y : Core} (hx : F[N]? = some x) (hp : x.parent = (P : Int)) (hy : F[P]? = some y) : (x.kind = 1 ∨ x.kind = 2) ∧ y.kind ≠ 2 ∧ hasZ y.kids N = 1 := by
  have h1 := (nodeOk_iff.1 (((rightF_iff m F).1 h).2.1 N _ hx)).2.1
  unfold parOk at h1
  rw [beq_eq_false_iff_ne.2 (show x.parent ≠ -1 by omega), Bool.false_or, hp, getC_nat, hy] at h1
  simp only [Bool.and_eq_true, Bool.or_eq_true, beq_iff_eq, bne_iff_ne] at h1
  exact ⟨h1.1, h1.2.1, h1.2.2⟩
theorem place_at {m : Int} {F : List Core} (h : rightF m F = true) {N P : Nat} {x y : Core} (hx : F[N]? = some x) (hp : x.parent = (P : Int)) (hy : F[P]? = some y) : ∃ k : Nat, placeZ m F N = k ∧ k < y.kids.length ∧ y.kids[k]? = some (N : Int) := by
  have hN := (List.getElem?_eq_some_iff.1 hx).1
  have hm := hasZ_mem (par_facts h hx hp hy).2.2
  obtain ⟨p, e1, e2, e3⟩ := right_par h hx (by omega)
  obtain rfl : P = p := by omega
  obtain ⟨k, h1, h2⟩ := find_at hm
  refine ⟨k, ?_, (List.getElem?_eq_some_iff.1 h2).1, h2⟩
  unfold placeZ
  rw [thereF_of h hN, if_pos rfl, Int.toNat_natCast]
  unfold placeF
  rw [e3]
  dsimp only
  rw [hy]
  exact h1
set_option maxHeartbeats 4000000 in
set_option maxRecDepth 100000 in
theorem vbefore_any (a : Option Addr) (len cap : Nat) (m : Int) (L : List NodeD) (n p c : Int) (w : World) (h : NodeRow w a len cap L) (hm : In64 m) (hn : In64 n) (hp : In64 p) (hc : In64 c) (hs : smallF L) :
    Calls Tryz.prog 95 #[forV a len cap m, .int .i64 n, .int .i64 p, .int .i64 c] w fun e w' => e = .returned (.int .i64 (beforeZ m (coreL L) n p c)) ∧ Below w.heap.size w w' := by
  have HCL : Hid ((coreL L).length = len) := Lib.hid (by rw [coreL_len, h.hlen])
  have hlen := h.len64
  have BX := Lib.hid (Box.start (m := m) h)
  obtain ⟨M, hM⟩ : ∃ M, mayZ m (coreL L) n p c = M := ⟨_, rfl⟩
  have CM : Hid (∀ W, NodeRow W a len cap L → Calls Tryz.prog 60 #[forV a len cap m, .int .i64 n, .int .i64 p, .int .i64 c] W fun e w' => e = .returned (.int .i64 M) ∧ Below W.heap.size W w') := Lib.hid (fun W h1 => by
    rw [← hM]
    exact vmay_any a len cap m L n p c W h1 hm hn hp hc hs)
  have z0 := BX.out.c0
  have z1 := BX.out.c1
  by_cases h0 : M = 0
  · rw [h0] at CM hM
    obtain ⟨hk, h2, h3, h4, h5, h6, h7⟩ := may_ok hM
    obtain ⟨hr, ⟨N, rfl, hN⟩, ⟨P, rfl, hP⟩, hcc⟩ := vknows_nat hk
    rw [HCL.out] at hN hP
    have HH := Lib.hid h
    by_cases hcn : c = (N : Int)
    · subst hcn
      have e1 : ((N : Int) != (N : Int)) = false := by simp
      have e2 : ((N : Int) == (N : Int)) = true := by simp
      have hpar : parentK (coreL L) N = P := by rcases h4 with h4 | h4; omega; exact h4
      obtain ⟨b, off, x, rfl, hb, hx, hat, hok⟩ := HH.out.get hN
      obtain ⟨b2, off2, y, hab, hb2, hy, hat2, hok2⟩ := HH.out.get hP
      obtain ⟨rfl, rfl⟩ : b = b2 ∧ off = off2 := by injection hab with h1; injection h1 with h2 h3; exact ⟨h2, h3⟩
      rw [parentK_get hx] at hpar
      obtain ⟨pl, hpl⟩ : ∃ pl, placeZ m (coreL L) N = pl := ⟨_, rfl⟩
      have hpl2 : ∃ k : Nat, pl = k ∧ k < y.kN := by
        obtain ⟨k, h1, h2, _⟩ := place_at hr (coreL_get hx) hpar (coreL_get hy)
        exact ⟨k, by rw [← hpl, h1], by rw [hok2.kids.hlen] at h2; exact h2⟩
      obtain ⟨K, rfl, hK⟩ := hpl2
      have CP : Hid (∀ W, NodeRow W (some ⟨b, off, none⟩) len cap L → Calls Tryz.prog 118 #[forV (some ⟨b, off, none⟩) len cap m, .int .i64 N] W fun e w' => e = .returned (.int .i64 K) ∧ Below W.heap.size W w') := Lib.hid (fun W h1 => by
        rw [← hpl]
        exact placeFn_any (some ⟨b, off, none⟩) len cap m L N W h1 hm hn hs)
      have C6 := Lib.hid (stays hat2.c6 hb)
      have HKK : Hid (kidsK (coreL L) P = y.core.kids) := Lib.hid (by unfold kidsK; rw [getC_nat, coreL_get hy])
      have KR : Hid (∀ W, Below w.heap.size w W → IntRow W y.kA y.kN y.kC y.core.kids) := Lib.hid (fun W hb => hok2.kids.below hb)
      have hk64 := hok2.kids.len64
      by_cases hlt : K + 1 < y.kN
      · obtain ⟨bk, ok, z, hka, hbk, hz, hcz, hin⟩ := hok2.kids.get hlt
        have CZ := Lib.hid (stays hcz hbk)
        have HR : Hid (beforeZ m (coreL L) N P N = z) := Lib.hid (by unfold beforeZ; rw [if_pos hM, if_pos rfl, hpl, HKK.out, show ((K : Int) + 1).toNat = K + 1 by omega, hz])
        rw [hka] at C6
        obtain ⟨hz1, hz2⟩ := hin
        clear hM hk h2 h3 h4 h5 h6 h7 hr hx hy hat hat2 hok hok2 hab hb2 hpl h hm hs hz hcz hka hn hp hc h0 hpar
        go_enter Tryz.func95, Tryz.ntmps95
        go_wp2_with (first
          | (go_at_call 60; ((with_reducible refine (CM.out _ BX.out.row).mono ?_); rintro e w1 ⟨rfl, hb⟩; have BX := Lib.hid (BX.out.keep hb); have z0 := BX.out.c0; have z1 := BX.out.c1; clear hb; have c6 := C6.out _ BX.out.below))
          | (go_at_call 118; ((with_reducible refine (CP.out _ BX.out.row).mono ?_); rintro e w1 ⟨rfl, hb⟩; have BX := Lib.hid (BX.out.keep hb); have z0 := BX.out.c0; have z1 := BX.out.c1; clear hb; have c6 := C6.out _ BX.out.below; have cz := CZ.out _ BX.out.below)))
        go_ret
        exact ⟨ret_int HR.out.symm, BX.out.below⟩
      · have HR : Hid (beforeZ m (coreL L) N P N = -1) := Lib.hid (by unfold beforeZ; rw [if_pos hM, if_pos rfl, hpl, HKK.out, show ((K : Int) + 1).toNat = K + 1 by omega, List.getElem?_eq_none (by rw [hok2.kids.hlen]; omega)])
        clear hM hk h2 h3 h4 h5 h6 h7 hr hx hy hat hat2 hok hok2 hab hb2 hpl h hm hs hn hp hc h0 hpar
        go_enter Tryz.func95, Tryz.ntmps95
        go_wp2_with (first
          | (go_at_call 60; ((with_reducible refine (CM.out _ BX.out.row).mono ?_); rintro e w1 ⟨rfl, hb⟩; have BX := Lib.hid (BX.out.keep hb); have z0 := BX.out.c0; have z1 := BX.out.c1; clear hb; have c6 := C6.out _ BX.out.below))
          | (go_at_call 118; ((with_reducible refine (CP.out _ BX.out.row).mono ?_); rintro e w1 ⟨rfl, hb⟩; have BX := Lib.hid (BX.out.keep hb); have z0 := BX.out.c0; have z1 := BX.out.c1; clear hb; have c6 := C6.out _ BX.out.below)))
        go_ret
        exact ⟨ret_int HR.out.symm, BX.out.below⟩
    · have e1 : (c != (N : Int)) = true := bne_iff_ne.2 hcn
      have e2 : (c == (N : Int)) = false := beq_eq_false_iff_ne.2 hcn
      have HR : Hid (beforeZ m (coreL L) N P c = c) := Lib.hid (by unfold beforeZ; rw [if_pos hM, if_neg hcn])
      clear hM hk h2 h3 h4 h5 h6 h7 hr h hm hs hn hp hc h0 hcn hcc
      go_enter Tryz.func95, Tryz.ntmps95
      go_wp2_with (first
        | (go_at_call 60; ((with_reducible refine (CM.out _ BX.out.row).mono ?_); rintro e w1 ⟨rfl, hb⟩; have BX := Lib.hid (BX.out.keep hb); have z0 := BX.out.c0; have z1 := BX.out.c1; clear hb)))
      go_ret
      exact ⟨ret_int HR.out.symm, BX.out.below⟩
  · have HR : Hid (beforeZ m (coreL L) n p c = -1) := Lib.hid (by unfold beforeZ; rw [hM, if_neg h0])
    have e1 : (M != 0) = true := bne_iff_ne.2 h0
    have e2 : (M == 0) = false := beq_eq_false_iff_ne.2 h0
    clear hM h hm hs hn hp hc h0
    go_enter Tryz.func95, Tryz.ntmps95
    go_wp2_with (first
      | (go_at_call 60; ((with_reducible refine (CM.out _ BX.out.row).mono ?_); rintro e w1 ⟨rfl, hb⟩; have BX := Lib.hid (BX.out.keep hb); have z0 := BX.out.c0; have z1 := BX.out.c1; clear hb)))
    go_ret
    exact ⟨ret_int HR.out.symm, BX.out.below⟩
end Go.Proofs.YtkgbgnmmgmnnlaaGreatDoor
namespace Go.Proofs.YtkgbgnmmgmnnlaaGreatDoor
open Go.RowKit
end Go.Proofs.YtkgbgnmmgmnnlaaGreatDoor
namespace Go.Proofs.YtkgbgnmmgmnnlaaGreatDoor
theorem step_wpS {P : Program} {ops : Array Oper} {o : Oper} {a : Act} {w : World} {K : Act → World → Prop} {Q : Exit → Act → World → Prop} {E : Prop} (hg : o.guard = none) (h : Oper.wp P o a w K Q) : if Region.wanted o (yielded ops a.tmps) = true then Oper.wp P o a w K Q else E := by
  have hw : Region.wanted o (yielded ops a.tmps) = true := by simp [Region.wanted, hg]
  rw [if_pos hw]
  exact h
end Go.Proofs.YtkgbgnmmgmnnlaaGreatDoor
namespace Go.Proofs.YtkgbgnmmgmnnlaaGreatDoor
open Go.RowKit
def RESERVED_WORDS : List UInt8 := [97, 110, 110, 111, 116, 97, 116, 105, 111, 110, 45, 120, 109, 108, 32, 99, 111, 108, 111, 114, 45, 112, 114, 111, 102, 105, 108, 101, 32, 102, 111, 110, 116, 45, 102, 97, 99, 101, 32, 102, 111, 110, 116, 45, 102, 97, 99, 101, 45, 115, 114, 99, 32, 102, 111, 110, 116, 45, 102, 97, 99, 101, 45, 117, 114, 105, 32, 102, 111, 110, 116, 45, 102, 97, 99, 101, 45, 102, 111, 114, 109, 97, 116, 32, 102, 111, 110, 116, 45, 102, 97, 99, 101, 45, 110, 97, 109, 101, 32, 109, 105, 115, 115, 105, 110, 103, 45, 103, 108, 121, 112, 104]
theorem one_reserved (l : List UInt8) : oneL l RESERVED_WORDS = reservedL l := by
  rw [one_split]
  have : splitL [] RESERVED_WORDS = [[97, 110, 110, 111, 116, 97, 116, 105, 111, 110, 45, 120, 109, 108], [99, 111, 108, 111, 114, 45, 112, 114, 111, 102, 105, 108, 101], [102, 111, 110, 116, 45, 102, 97, 99, 101], [102, 111, 110, 116, 45, 102, 97, 99, 101, 45, 115, 114, 99], [102, 111, 110, 116, 45, 102, 97, 99, 101, 45, 117, 114, 105], [102, 111, 110, 116, 45, 102, 97, 99, 101, 45, 102, 111, 114, 109, 97, 116], [102, 111, 110, 116, 45, 102, 97, 99, 101, 45, 110, 97, 109, 101], [109, 105, 115, 115, 105, 110, 103, 45, 103, 108, 121, 112, 104]] := by decide +kernel
  rw [this]
  rfl
end Go.Proofs.YtkgbgnmmgmnnlaaGreatDoor
