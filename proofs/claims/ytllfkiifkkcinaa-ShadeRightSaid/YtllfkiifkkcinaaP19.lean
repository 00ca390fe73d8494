/- Texts joined in build order: Ref4All Ref4Over ShadeRight. -/
import Derived.Test.YtllfkiifkkcinaaP15
import Derived.Test.YtllfkiifkkcinaaP18
import Derived.Test.YtllfkiifkkcinaaP08
import Derived.Deep.DeepCutAuto
import Derived.Test.YtllfkiifkkcinaaP01
import Derived.Test.YtllfkiifkkcinaaP17
import Derived.Test.YtllfkiifkkcinaaP14
/- instarref04's All, Over, over a forest that is right. -/
namespace Go.Proofs.Ytllfkiifkkcinaa
open Go.RowKit
attribute [local go_sem ↓] Go.wp_at_zero Go.wp_at_succ
/-- Full order in hand, so many of those below having been gone through. -/
def allTo (F : List Core) (n : Nat) (K : List Int) (k : Nat) : List Int := (n : Int) :: (K.take k).flatMap (allI F)
theorem allTo_step {F : List Core} {n k : Nat} {K : List Int} {z : Int} (h : K[k]? = some z) : allTo F n K (k + 1) = allTo F n K k ++ allI F z := by
  obtain ⟨hl, hg⟩ := List.getElem?_eq_some_iff.1 h
  unfold allTo
  rw [List.take_succ_eq_append_getElem hl, hg, List.flatMap_append]
  simp
theorem allTo_end {m : Int} {F : List Core} (h : rightF m F = true) {a : Nat} {x : Core} (hx : F[a]? = some x) {k : Nat} (hk : k = (undL x ++ x.kids).length) : allTo F a (undL x ++ x.kids) k = allI F (a : Int) := by
  rw [allI_open h hx]
  unfold allTo
  rw [hk, List.take_length, List.flatMap_append]
  unfold undL
  by_cases hu : x.under = -1
  · rw [if_pos hu, if_pos hu]; rfl
  · rw [if_neg hu, if_neg hu]; simp
theorem allTo_len {F : List Core} {n k : Nat} {K : List Int} : (allTo F n K k).length ≤ (allTo F n K K.length).length := by
  unfold allTo
  rw [List.take_length, List.length_cons, List.length_cons]
  have : (K.flatMap (allI F)).length = ((K.take k).flatMap (allI F)).length + ((K.drop k).flatMap (allI F)).length := by
    rw [← List.length_append, ← List.flatMap_append, List.take_append_drop]
  omega
theorem below_at {m : Int} {F : List Core} (hr : rightF m F = true) {n : Nat} {x : Core} (hx : F[n]? = some x) {z : Int} (hz : z ∈ undL x ++ x.kids) : ∃ k : Nat, z = k ∧ k < F.length ∧ rankF F k = rankF F n + 1 := by
  have T := treeS hr
  have h0 : 0 ≤ z ∧ z.toNat ∈ kidsS F n := by
    rcases List.mem_append.1 hz with h1 | h1
    · unfold undL at h1
      by_cases hu : x.under = -1
      · rw [if_pos hu] at h1; simp at h1
      · rw [if_neg hu] at h1
        obtain rfl := List.mem_singleton.1 h1
        obtain ⟨s, u, e1, -⟩ := right_under hr hx hu
        refine ⟨by omega, List.mem_append.2 (.inl ?_)⟩
        unfold undS
        rw [hx]
        dsimp only
        rw [if_neg hu]
        exact List.mem_singleton.2 rfl
    · obtain ⟨k, rfl, -⟩ := right_kid hr hx h1
      refine ⟨by omega, List.mem_append.2 (.inr ?_)⟩
      unfold kidsF
      rw [hx]
      exact List.mem_map.2 ⟨_, h1, rfl⟩
  have h2 := T.kid_rank h0.2
  exact ⟨z.toNat, by omega, h2.1, h2.2⟩
set_option maxHeartbeats 16000000 in
set_option maxRecDepth 100000 in
theorem refallR_any (a : Option Addr) (len cap : Nat) (m : Int) (L : List NodeD) (hr : rightF m (coreL L) = true) (hs : L.length ≤ 1000) : ∀ (f n : Nat) (w : World), NodeRow w a len cap L → n < len → len + 2 ≤ rankF (coreL L) n + f →
    Calls Try.prog 47 #[forV a len cap m, .int .i64 n] w (OrdPost w (allI (coreL L) (n : Int))) := by
  intro f
  induction f with
  | zero =>
    intro n w h hn hk
    have h1 := (treeS hr).rank_le n (by rw [coreL_len, h.hlen]; exact hn)
    rw [coreL_len, h.hlen] at h1
    omega
  | succ f ih =>
    intro n w h hn hk
    have HCL : Hid ((coreL L).length = len) := Lib.hid (by rw [coreL_len, h.hlen])
    have hlen : len ≤ 1000 := by rw [← h.hlen]; exact hs
    obtain ⟨w1, hw1, BX⟩ : ∃ w1, w.alloc (forB a len cap m) = w1 ∧ Box w w1 w.heap.size a len cap m L (coreL L) := ⟨_, rfl, Box.start h⟩
    have BX := Lib.hid BX
    have HW1 := Lib.hid hw1
    obtain ⟨b, off, x, rfl, hb, hx, hat, hok⟩ := BX.out.row.get hn
    have hxc := coreL_get hx
    have HX := Lib.hid hxc
    have HKR := Lib.hid hok.kids
    have HC6 := Lib.hid (stays hat.c6 hb)
    have HC8 := Lib.hid (stays hat.c8 hb)
    have HKL := Lib.hid hok.kids.hlen
    obtain ⟨K, hK⟩ : ∃ K, undL x.core ++ x.core.kids = K := ⟨_, rfl⟩
    have HEND : Hid (allTo (coreL L) n K K.length = allI (coreL L) (n : Int)) := Lib.hid (by rw [← hK]; exact allTo_end hr hxc rfl)
    have HNL : Hid ((allI (coreL L) (n : Int)).length ≤ 1000) := Lib.hid (Nat.le_trans (allI_len hr (by rw [HCL.out]; exact hn)) (by rw [HCL.out]; exact hlen))
    have IH : Hid (∀ z ∈ K, ∃ k : Nat, z = k ∧ ∀ W, NodeRow W (some ⟨b, off, none⟩) len cap L → Calls Try.prog 47 #[forV (some ⟨b, off, none⟩) len cap m, .int .i64 z] W (OrdPost W (allI (coreL L) z))) := Lib.hid (fun z hz => by
      rw [← hK] at hz
      obtain ⟨k, rfl, hkl, hrk⟩ := below_at hr hxc hz
      exact ⟨k, rfl, fun W h => ih k W h (by rw [HCL.out] at hkl; exact hkl) (by omega)⟩)
    have PL : Hid (∀ k z, K[k]? = some z → (allTo (coreL L) n K k).length + (allI (coreL L) z).length ≤ 1000) := Lib.hid (fun k z hz => by
      have h1 := allTo_len (F := coreL L) (n := n) (k := k + 1) (K := K)
      rw [allTo_step hz, List.length_append, HEND.out] at h1
      have := HNL.out
      omega)
    obtain ⟨u, hu⟩ : ∃ u, (undL x.core).length = u := ⟨_, rfl⟩
    have HKK : Hid (∀ k, K[u + k]? = x.core.kids[k]?) := Lib.hid (fun k => by rw [← hK, ← hu, List.getElem?_append_right (by omega), Nat.add_sub_cancel_left])
    have HKN : Hid (u + x.kN = K.length) := Lib.hid (by rw [← hK, ← hu, List.length_append, HKL.out])
    have HU0 : Hid (x.core.under = -1 → u = 0) := Lib.hid (fun e => by rw [← hu]; unfold undL; rw [if_pos e]; rfl)
    have HU1 : Hid (x.core.under ≠ -1 → u = 1 ∧ K[0]? = some x.core.under) := Lib.hid (fun e => by
      rw [← hu, ← hK]
      unfold undL
      rw [if_neg e]
      exact ⟨rfl, rfl⟩)
    obtain ⟨i0, hi0, hz0, hz1, hz2⟩ := info_parts int_info
    have hkn : x.kN ≤ 9223372036854775807 := hok.kids.len64
    have z0 := BX.out.c0
    have z1 := BX.out.c1
    have c8 := HC8.out _ (Below.refl _ _)
    have OW0 : Hid ((w1.alloc (.cells #[.int .i64 n] 3)).ownsRow w1.heap.size 3 1 (.slice (some ⟨w.heap.size + 1, 0, none⟩) 1 1) (allTo (coreL L) n K 0).length ((allTo (coreL L) n K 0).flatMap encZ)) := Lib.hid (by
      have h2 := World.ownsRow_lit (base := w1.heap.size) (e := 3) (size := 1) w1 #[.int .i64 n] 1 (Nat.le_refl _) (by unfold maxLen; omega) (by simp)
      rwa [show (some (⟨w1.heap.size, 0, none⟩ : Addr)) = some ⟨w.heap.size + 1, 0, none⟩ by rw [← hw1]; simp] at h2)
    clear hat hok hx hxc hb h hk ih hw1 hK hu
    go_enter Try.func47, Try.ntmps47
    go_upto_region 2 with fail
    rw [HW1.out]
    have HBW : Hid (Below w1.heap.size w1 (w1.alloc (.cells #[.int .i64 n] 3))) := Lib.hid (below_box w1 _)
    have BX2 := Lib.hid (BX.out.keep HBW.out)
    clear z0 z1 c8
    have z0 := BX2.out.c0
    have z1 := BX2.out.c1
    have c8 := HC8.out _ HBW.out
    go_upto_if 15 with fail
    go_cut [5] (fun v wx => Hid (Below w1.heap.size w1 wx) ∧ Hid (wx.ownsRow w1.heap.size 3 1 v (allTo (coreL L) n K u).length ((allTo (coreL L) n K u).flatMap encZ)))
    case first =>
      by_cases hn1 : x.core.under = -1
      · have e1 : (x.core.under != -1) = false := by rw [hn1]; rfl
        have HU := Lib.hid (HU0.out hn1)
        clear hn1
        go_wp2
        go_meet
        exact ⟨HBW, by rw [HU.out]; exact OW0⟩
      · have e1 : (x.core.under != -1) = true := bne_iff_ne.2 hn1
        obtain ⟨hu1, hk0⟩ := HU1.out hn1
        obtain ⟨zk, hzk, IHz⟩ := IH.out _ (List.mem_of_getElem? hk0)
        have IHZ := Lib.hid IHz
        have HPL := Lib.hid (PL.out _ _ hk0)
        have HST := Lib.hid (allTo_step (F := coreL L) (n := n) hk0)
        have HU2 := Lib.hid hu1
        clear hn1 hu1 hk0 IHz hzk
        obtain ⟨n1, hn1⟩ : ∃ n1, (allTo (coreL L) n K 0).length = n1 := ⟨_, rfl⟩
        have HN1 := Lib.hid hn1
        have OW := OW0
        rw [hn1] at OW HPL
        have hpl := HPL.out
        have HC8' := Lib.hid HC8.out
        clear hn1 OW0
        obtain ⟨w2a, hw2a⟩ : ∃ w2a, w1.alloc (.cells #[.int .i64 n] 3) = w2a := ⟨_, rfl⟩
        rw [hw2a] at HBW OW ⊢
        have BX2 := Lib.hid (BX.out.keep HBW.out)
        have z0 := BX2.out.c0
        have z1 := BX2.out.c1
        have c8 := HC8.out _ HBW.out
        clear hw2a
        go_wp2
        go_region_held3 (fun w' => w'.cell? ⟨w.heap.size, 0, none⟩ = some (.slice (some ⟨b, off, none⟩) len cap) ∧ w'.cell? ⟨w.heap.size, 1, none⟩ = some (.int .i64 m) ∧ w'.cell? ⟨b, off + n * 10 + 8, none⟩ = some (.int .i64 x.core.under)) (go_keep)
          (first
            | (go_at_call 47; refine (IHZ.out _ BX2.out.row.drew).mono ?_; intro e w2 hp; obtain ⟨a2, n2, c2, rfl, hrow, hb⟩ := hp; have hb := (Below.refl _ _).drew.trans hb; have IR := Lib.hid hrow; have OW := Lib.hid (own_below OW.out hb); have HBW := Lib.hid (HBW.out.trans (hb.mono HBW.out.size)); have BX2 := Lib.hid (BX.out.keep HBW.out); have z0 := BX2.out.c0; have z1 := BX2.out.c1; have c8 := HC8'.out _ HBW.out; have hn2 : n2 ≤ 1000 := (by have h1 := IR.out.hlen; omega); have hn12 : n1 + n2 ≤ 1000 := (by have h1 := IR.out.hlen; omega); clear hrow hb)
            | (refine step_append_rows (by rfl) _ _ _ (by rfl) 3 i0 _ 1 8 Try.underlying26 hi0 hz0 hz1 hz2 (by rfl) (by decide) w1.heap.size (.slice (some ⟨w.heap.size + 1, 0, none⟩) 1 1) n1 (allTo (coreL L) n K 0) (allI (coreL L) x.core.under) (by rfl) OW.out a2 n2 c2 (by rfl) IR.out.row (fun x _ => encZ_one x) (by unfold maxLen; omega) (by omega) HBW.out.size IR.out.hnil ?_; intro v2 w3 hown3 hg3 hat3; have HBW := Lib.hid (HBW.out.grown hg3 HBW.out.size (fun k e => (OW.out.lt k e).1)); have OW := Lib.hid hown3; have BX2 := Lib.hid (BX.out.keep HBW.out); have z0 := BX2.out.c0; have z1 := BX2.out.c1; have c8 := HC8'.out _ HBW.out; clear hown3 hg3 hat3))
        have OW2 : Hid (w3.ownsRow w1.heap.size 3 1 v2 (allTo (coreL L) n K u).length ((allTo (coreL L) n K u).flatMap encZ)) := Lib.hid (by
          have h1 := OW.out
          rw [← HST.out] at h1
          have h2 : n1 + n2 = (allTo (coreL L) n K (0 + 1)).length := by
            rw [HST.out, List.length_append, HN1.out, IR.out.hlen]
          rw [h2] at h1
          rw [HU2.out]
          exact h1)
        go_wp2
        go_meet
        exact ⟨HBW, OW2⟩
    case rest =>
      obtain ⟨HBW0, OWu⟩ := hcut
      clear OW0 z0 z1 c8 BX2 HBW
      go_wp2
      go_loopw [5, 6] (fun v i wr => ∃ k : Nat, k ≤ x.kN ∧ i = .int .i64 k ∧ Hid (Below w1.heap.size w1 wr) ∧ Hid (wr.ownsRow w1.heap.size 3 1 v (allTo (coreL L) n K (u + k)).length ((allTo (coreL L) n K (u + k)).flatMap encZ))) (fun _ i _ => x.kN - (intOf i).toNat)
      case atStart => exact ⟨0, Nat.zero_le _, rfl, HBW0, OWu⟩
      case round =>
        clear OWu HBW0
        obtain ⟨k, hk, rfl, HBW, OW⟩ := hrel
        have BX2 := Lib.hid (BX.out.keep HBW.out)
        have z0 := BX2.out.c0
        have z1 := BX2.out.c1
        have c6 := HC6.out _ HBW.out
        by_cases hlt : k < x.kN
        · obtain ⟨bk, ok, z, hka, hbk, hz, hcz, hin⟩ := (HKR.out.below HBW.out).get hlt
          have hzK : K[u + k]? = some z := by rw [HKK.out]; exact hz
          obtain ⟨zk, rfl, IHz⟩ := IH.out z (List.mem_of_getElem? hzK)
          have IHZ := Lib.hid IHz
          rw [hka] at c6
          have HCK := Lib.hid (HC6.out)
          rw [hka] at HCK
          have HPL := Lib.hid (PL.out _ _ hzK)
          have HST := Lib.hid (allTo_step (F := coreL L) (n := n) hzK)
          have HBK : Hid (bk < w1.heap.size) := Lib.hid (by
            rcases HKR.out.row.cells with h0 | ⟨b2, o2, ha2, hlt2, _⟩
            · omega
            · rw [hka] at ha2
              injection ha2 with ha2
              injection ha2 with e1
              omega)
          have HCZ : Hid (∀ W, Below w1.heap.size w1 W → W.cell? ⟨bk, ok + k, none⟩ = some (.int .i64 (zk : Int))) := Lib.hid (stays ((HBW.out.cell (p := ⟨bk, ok + k, none⟩) HBK.out).symm.trans hcz) HBK.out)
          obtain ⟨n1, hn1⟩ : ∃ n1, (allTo (coreL L) n K (u + k)).length = n1 := ⟨_, rfl⟩
          have HN1 := Lib.hid hn1
          rw [hn1] at OW HPL
          have hpl := HPL.out
          clear hz hzK hin hka hbk IHz hn1
          go_wp2
          have cz := HCZ.out _ HBW.out
          go_region_held3 (fun w' => w'.cell? ⟨w.heap.size, 0, none⟩ = some (.slice (some ⟨b, off, none⟩) len cap) ∧ w'.cell? ⟨w.heap.size, 1, none⟩ = some (.int .i64 m) ∧ w'.cell? ⟨b, off + n * 10 + 6, none⟩ = some (.slice (some ⟨bk, ok, none⟩) x.kN x.kC) ∧ w'.cell? ⟨bk, ok + k, none⟩ = some (.int .i64 (zk : Int))) (go_keep)
            (first
              | (go_at_call 47; refine (IHZ.out _ BX2.out.row.drew).mono ?_; intro e w2 hp; obtain ⟨a2, n2, c2, rfl, hrow, hb⟩ := hp; have hb := (Below.refl _ _).drew.trans hb; have IR := Lib.hid hrow; have OW := Lib.hid (own_below OW.out hb); have HBW := Lib.hid (HBW.out.trans (hb.mono HBW.out.size)); have BX2 := Lib.hid (BX.out.keep HBW.out); have z0 := BX2.out.c0; have z1 := BX2.out.c1; have c6 := HCK.out _ HBW.out; have cz := HCZ.out _ HBW.out; have hn2 : n2 ≤ 1000 := (by have h1 := IR.out.hlen; omega); have hn12 : n1 + n2 ≤ 1000 := (by have h1 := IR.out.hlen; omega); clear hrow hb)
              | (refine step_append_rows (by rfl) _ _ _ (by rfl) 3 i0 _ 1 8 Try.underlying26 hi0 hz0 hz1 hz2 (by rfl) (by decide) w1.heap.size u5 n1 (allTo (coreL L) n K (u + k)) (allI (coreL L) (zk : Int)) (by rfl) OW.out a2 n2 c2 (by rfl) IR.out.row (fun x _ => encZ_one x) (by unfold maxLen; omega) (by omega) HBW.out.size IR.out.hnil ?_; intro v2 w3 hown3 hg3 hat3; have HBW := Lib.hid (HBW.out.grown hg3 HBW.out.size (fun k e => (OW.out.lt k e).1)); have OW := Lib.hid hown3; have BX2 := Lib.hid (BX.out.keep HBW.out); have z0 := BX2.out.c0; have z1 := BX2.out.c1; have c6 := HCK.out _ HBW.out; have cz := HCZ.out _ HBW.out; clear hown3 hg3 hat3))
          have OW2 : Hid (w3.ownsRow w1.heap.size 3 1 v2 (allTo (coreL L) n K (u + (k + 1))).length ((allTo (coreL L) n K (u + (k + 1))).flatMap encZ)) := Lib.hid (by
            have h1 := OW.out
            rw [← HST.out] at h1
            have h2 : n1 + n2 = (allTo (coreL L) n K (u + k + 1)).length := by
              rw [HST.out, List.length_append, HN1.out, IR.out.hlen]
            rwa [h2] at h1)
          go_wp2
          go_roundw
          case rel => exact ⟨k + 1, by omega, by go_num, HBW, OW2⟩
          case measure => simp [intOf]; omega
        · have hkk : k = x.kN := by omega
          subst hkk
          rw [HKN.out, HEND.out] at OW
          have HIN : Hid (∀ z ∈ allI (coreL L) (n : Int), In64 z) := Lib.hid (fun z hz => by
            obtain ⟨q, rfl, hql⟩ := allI_num hr (by rw [HCL.out]; exact hn) hz
            rw [HCL.out] at hql
            exact ⟨by show (_ : Int) ≤ ((q : Nat) : Int); omega, by show ((q : Nat) : Int) ≤ _; omega⟩)
          obtain ⟨a9, cap9, rfl, hr9, -⟩ := IntRow.of_own_new (M := allI (coreL L) (n : Int)) (n := (allI (coreL L) (n : Int)).length) rfl OW.out HIN.out
          have HR9 := Lib.hid hr9
          clear hr9
          by_cases hkz : x.kN = 0
          · have hkz' := Lib.hid hkz
            go_wp2
            go_ret
            exact ⟨a9, _, cap9, rfl, HR9.out, BX.out.below.trans (HBW.out.mono BX.out.below.size)⟩
          · go_wp2
            go_ret
            exact ⟨a9, _, cap9, rfl, HR9.out, BX.out.below.trans (HBW.out.mono BX.out.below.size)⟩
/-- instarref04.All in a forest that is right. -/
theorem refall_any (a : Option Addr) (len cap : Nat) (m : Int) (L : List NodeD) (hr : rightF m (coreL L) = true) (hs : L.length ≤ 1000) (n : Nat) (w : World) (h : NodeRow w a len cap L) (hn : n < len) :
    Calls Try.prog 47 #[forV a len cap m, .int .i64 n] w (OrdPost w (allI (coreL L) (n : Int))) :=
  refallR_any a len cap m L hr hs (len + 2) n w h hn (by omega)
end Go.Proofs.Ytllfkiifkkcinaa
/- instarref04's Over, Elems, over a forest that is right. -/
namespace Go.Proofs.Ytllfkiifkkcinaa
open Go.RowKit
set_option maxHeartbeats 4000000 in
set_option maxRecDepth 100000 in
theorem refover_any (a : Option Addr) (len cap : Nat) (m : Int) (L : List NodeD) (hr : rightF m (coreL L) = true) (hs : L.length ≤ 1000) (x : Nat) (y : Int) (w : World) (h : NodeRow w a len cap L) (hx : x < len) :
    Calls Try.prog 49 #[forV a len cap m, .int .i64 x, .int .i64 y] w fun e w' => e = .returned (.bool (decide (0 < hasZ (allI (coreL L) (x : Int)) y))) ∧ Below w.heap.size w w' := by
  have BX := Lib.hid (Box.start (m := m) h)
  have CO : Hid (∀ W, NodeRow W a len cap L → Calls Try.prog 47 #[forV a len cap m, .int .i64 x] W (OrdPost W (allI (coreL L) (x : Int)))) := Lib.hid (fun W h => refall_any a len cap m L hr hs x W h hx)
  have z0 := BX.out.c0
  have z1 := BX.out.c1
  clear h hr hx
  go_enter Try.func49, Try.ntmps49
  go_wp2_with (first
      | (go_at_call 47; refine (CO.out _ (by first | exact BX.out.row | exact BX.out.row.drew)).mono ?_; intro e w2 hp; obtain ⟨a2, n2, c2, rfl, hrow, hb⟩ := hp; have IR := Lib.hid hrow; have BX := Lib.hid (BX.out.keep hb); have z0 := BX.out.c0; have z1 := BX.out.c1; clear hrow hb)
      | (go_at_call 34; refine (refhas_any _ _ _ _ _ _ IR.out).mono ?_; rintro e w3 ⟨rfl, rfl⟩))
  go_ret
  exact ⟨rfl, BX.out.below⟩
set_option maxHeartbeats 8000000 in
set_option maxRecDepth 100000 in
theorem refelems_any (a : Option Addr) (len cap : Nat) (m : Int) (L : List NodeD) (hr : rightF m (coreL L) = true) (hs : L.length ≤ 1000) (n : Nat) (w : World) (h : NodeRow w a len cap L) (hn : n < len) :
    Calls Try.prog 48 #[forV a len cap m, .int .i64 n] w (OrdPost w ((allI (coreL L) (n : Int)).filter (fun k => kindK (coreL L) k == 1))) := by
  have HCL : Hid ((coreL L).length = len) := Lib.hid (by rw [coreL_len, h.hlen])
  have hlen : len ≤ 1000 := by rw [← h.hlen]; exact hs
  have BX := Lib.hid (Box.start (m := m) h)
  have z0 := BX.out.c0
  have z1 := BX.out.c1
  obtain ⟨l, hl⟩ : ∃ l, allI (coreL L) (n : Int) = l := ⟨_, rfl⟩
  have CA : Hid (∀ W, NodeRow W a len cap L → Calls Try.prog 47 #[forV a len cap m, .int .i64 n] W (OrdPost W l)) := Lib.hid (fun W h => by
    rw [← hl]
    exact refall_any a len cap m L hr hs n W h hn)
  have NUM : Hid (∀ z ∈ l, ∃ k : Nat, z = k ∧ k < len) := Lib.hid (fun z hz => by
    rw [← hl] at hz
    rw [← HCL.out]
    exact allI_num hr (by rw [HCL.out]; exact hn) hz)
  have HLL : Hid (l.length ≤ 1000) := Lib.hid (by rw [← hl]; exact Nat.le_trans (allI_len hr (by rw [HCL.out]; exact hn)) (by rw [HCL.out]; exact hlen))
  have HE : Hid (l.filter (fun k => kindK (coreL L) k == 1) = selE (coreL L) l l.length) := Lib.hid (by unfold selE; rw [List.take_length])
  rw [hl]
  obtain ⟨i0, hi0, hz0, hz1, hz2⟩ := info_parts int_info
  clear h hn hs hl hr
  go_enter Try.func48, Try.ntmps48
  go_wp2_with (go_at_call 47; ((with_reducible refine (CA.out _ BX.out.row).mono ?_); rintro e w1 ⟨ao, lo, co, rfl, hro, hb⟩; have BX := Lib.hid (BX.out.keep hb); have IR := Lib.hid hro; have z0 := BX.out.c0; have z1 := BX.out.c1; clear hb hro))
  have hl64 := IR.out.len64
  have hl1k : lo ≤ 1000 := by rw [← IR.out.hlen]; exact HLL.out
  have OW0 : Hid (w1.ownsRow w1.heap.size 3 1 (.slice none 0 0) (selE (coreL L) l 0).length ((selE (coreL L) l 0).flatMap encZ)) := Lib.hid (World.ownsRow_nil _ _ _ _)
  go_loopw [5, 7] (fun v i wr => ∃ k : Nat, k ≤ lo ∧ i = .int .i64 k ∧ Hid (Below w1.heap.size w1 wr) ∧ Hid (wr.ownsRow w1.heap.size 3 1 v (selE (coreL L) l k).length ((selE (coreL L) l k).flatMap encZ))) (fun _ i _ => lo - (intOf i).toNat)
  case atStart => exact ⟨0, Nat.zero_le _, rfl, Lib.hid (Below.refl _ _), OW0⟩
  case round =>
    clear OW0 z0 z1
    obtain ⟨k, hk, rfl, HBW, OW⟩ := hrel
    have BX2 := Lib.hid (BX.out.keep HBW.out)
    have IR2 := Lib.hid (IR.out.below HBW.out)
    have z0 := BX2.out.c0
    have z1 := BX2.out.c1
    by_cases hlt : k < lo
    · obtain ⟨bo, oo, z, rfl, hbo, hz, hcz, -⟩ := IR2.out.get hlt
      obtain ⟨q, rfl, hq⟩ := NUM.out z (List.mem_of_getElem? hz)
      obtain ⟨b, off, x, rfl, hb, hx, hat, -⟩ := BX2.out.row.get hq
      have c0 := hat.c0
      have HKD : Hid (kindK (coreL L) (q : Int) = x.core.kind) := Lib.hid (by unfold kindK; rw [getC_nat, coreL_get hx])
      have HST := Lib.hid (selE_step (F := coreL L) hz)
      have hsl : (selE (coreL L) l k).length ≤ 1000 := Nat.le_trans (selE_len _ _ _) HLL.out
      obtain ⟨n1, hn1⟩ : ∃ n1, (selE (coreL L) l k).length = n1 := ⟨_, rfl⟩
      have HN1 := Lib.hid hn1
      rw [hn1] at OW hsl
      clear hz hx hat hn1
      by_cases hkd : x.core.kind = 1
      · have hk1 : (x.core.kind == 1) = true := beq_iff_eq.2 hkd
        have HS2 : Hid (selE (coreL L) l (k + 1) = selE (coreL L) l k ++ [(q : Int)]) := Lib.hid (by rw [HST.out, HKD.out, hk1]; rfl)
        clear hkd
        go_wp2
        have E0 := Ext.cell z0 BX2.out.lt
        have EZ := Ext.cell hcz hbo
        have EC := Ext.cell c0 hb
        refine wp_region_ext (by kernel_rfl) (by kernel_rfl) ?_
        repeat (go_big_quiet_step (fail))
        refine wpQuiet_nil ?_
        intro w' hw'
        obtain ⟨⟨w2, hb2⟩, hw''⟩ := hw'
        dsimp only at hw''
        subst hw''
        have hcz := (hb2.cell (p := ⟨bo, oo + k, none⟩) hbo).trans hcz
        have BX2 := Lib.hid (BX2.out.keep hb2)
        have OW := Lib.hid (own_below OW.out hb2)
        have HBW := Lib.hid (HBW.out.trans (hb2.mono HBW.out.size))
        have z0 := BX2.out.c0
        clear E0 EZ EC c0 z1
        clear hb2
        go_wp2_with (at_builtin
                     refine wpList_append_rows rfl (.tmp 27) (.tmp 32) 26 rfl 3 i0 _ 1 8 Try.underlying26 hi0 hz0 hz1 hz2 rfl (by decide) w1.heap.size _ n1 (selE (coreL L) l k) [(q : Int)] rfl (OW.out.alloc _) _ 1 1 rfl (own_one _ _ _ _ rfl rfl) (fun x _ => encZ_one x) (by unfold maxLen; omega) (by omega) (by have := HBW.out.size; simp; omega) (fun h => by cases h) ?_
                     intro v3 w3 hown3 hg3 hat3
                     have HB3 := Lib.hid (below_own HBW.out OW.out hg3)
                     have HO3 := Lib.hid hown3
                     clear hown3 hg3 hat3)
        go_roundw
        case rel => exact ⟨k + 1, by omega, by go_num, HB3, Lib.hid (by
          have h1 := HO3.out
          rw [← HS2.out] at h1
          rwa [show n1 + 1 = (selE (coreL L) l (k + 1)).length by rw [HS2.out, List.length_append, HN1.out]; rfl] at h1)⟩
        case measure => simp [intOf]; omega
      · have hk1 : (x.core.kind == 1) = false := beq_eq_false_iff_ne.2 hkd
        have HS2 : Hid (selE (coreL L) l (k + 1) = selE (coreL L) l k) := Lib.hid (by rw [HST.out, HKD.out, hk1]; simp)
        clear hkd
        go_wp2
        have E0 := Ext.cell z0 BX2.out.lt
        have EZ := Ext.cell hcz hbo
        have EC := Ext.cell c0 hb
        refine wp_region_ext (by kernel_rfl) (by kernel_rfl) ?_
        repeat (go_big_quiet_step (fail))
        refine wpQuiet_nil ?_
        intro w' hw'
        obtain ⟨⟨w2, hb2⟩, hw''⟩ := hw'
        dsimp only at hw''
        subst hw''
        have hcz := (hb2.cell (p := ⟨bo, oo + k, none⟩) hbo).trans hcz
        have BX2 := Lib.hid (BX2.out.keep hb2)
        have OW := Lib.hid (own_below OW.out hb2)
        have HBW := Lib.hid (HBW.out.trans (hb2.mono HBW.out.size))
        have z0 := BX2.out.c0
        clear E0 EZ EC c0 z1
        clear hb2
        go_wp2
        go_roundw
        case rel => exact ⟨k + 1, by omega, by go_num, HBW, Lib.hid (by rw [HS2.out, HN1.out]; exact OW.out)⟩
        case measure => simp [intOf]; omega
    · have hkk : k = lo := by omega
      subst hkk
      have HIN : Hid (∀ z ∈ selE (coreL L) l k, In64 z) := Lib.hid (fun z hz => by
        unfold selE at hz
        obtain ⟨q, rfl, hq⟩ := NUM.out z (List.mem_of_mem_take ((List.mem_filter.1 hz).1))
        exact ⟨by omega, by omega⟩)
      have HSE : Hid (l.filter (fun k => kindK (coreL L) k == 1) = selE (coreL L) l k) := Lib.hid (by rw [HE.out, IR.out.hlen])
      obtain ⟨a9, cap9, rfl, hr9, -⟩ := IntRow.of_own_new (M := selE (coreL L) l k) (n := (selE (coreL L) l k).length) rfl OW.out HIN.out
      have HR9 := Lib.hid hr9
      clear hr9 OW
      go_wp2
      go_ret
      exact ⟨a9, _, cap9, rfl, by rw [HSE.out]; exact HR9.out, BX2.out.below⟩
end Go.Proofs.Ytllfkiifkkcinaa
/- The walk of the law ShadeRight, over the contracts of packages forest and shade, and of the reference. -/
namespace Go.Proofs.Ytllfkiifkkcinaa
open Go.RowKit
theorem thereF_not {m : Int} {F : List Core} {n : Int} (h : thereF m F n = false) : attE m F n = 1 ∧ topZ m F n = -1 ∧ connZ m F n = false ∧ allZ m F n = [] ∧ elemsZ m F n = [] ∧ ∀ k, overZ m F n k = false ∧ overZ m F k n = false := by
  refine ⟨?_, ?_, ?_, ?_, ?_, fun k => ⟨?_, ?_⟩⟩
  · unfold attE; rw [h]; rfl
  · unfold topZ; rw [h]; rfl
  · unfold connZ; rw [h]; rfl
  · unfold allZ; rw [h]; rfl
  · unfold elemsZ allZ; rw [h]; rfl
  · unfold overZ; rw [h]; rfl
  · unfold overZ; rw [h, Bool.and_false]; rfl
set_option maxHeartbeats 16000000 in
set_option maxRecDepth 100000 in
theorem shadeRight_walk (P : Lay4) (a0 : Option Addr) (len0 cap0 : Nat) (m : Int) (L0 : List NodeD) (x y : Int) (w : World)
    (h0 : NodeRow w a0 len0 cap0 L0) (hm : In64 m) (hx : In64 x) (hy : In64 y) :
    Calls Try.prog 7 #[forV a0 len0 cap0 m, .int .i64 x, .int .i64 y] w fun e w' => e = .returned (.bool true) ∧ Below w.heap.size w w' := by
  obtain ⟨F, S⟩ := P
  have AW := Lib.hid (fun W => awake4_any F S W)
  have HS := Lib.hid S
  have BX := Lib.hid (Box.start (m := m) h0)
  have hl0 := h0.len64
  have HL := Lib.hid h0.hlen
  have HM := Lib.hid hm
  have HX := Lib.hid hx
  have HY := Lib.hid hy
  clear h0 F S hm
  cases c0 : shortF L0 with
  | false =>
    have C0 := Lib.hid c0
    go_enter Try.func7, Try.ntmps7
    go_wp2_with (first
                    | (go_at_call 37; (with_reducible refine (AW.out _).mono ?_); rintro e w1 ⟨rfl, hb⟩; have BX := Lib.hid (BX.out.keep hb); have z0 := BX.out.c0; have z1 := BX.out.c1; clear hb)
                    | (go_at_call 15; (with_reducible refine (refshortF_any _ _ _ _ _ _ BX.out.row).mono ?_); rintro e w1 ⟨rfl, hb⟩; have BX := Lib.hid (BX.out.keep hb); have z0 := BX.out.c0; have z1 := BX.out.c1; clear hb)
                    | (go_at_call 19; (with_reducible refine (HR.out _ BX.out.row).mono ?_); rintro e w1 ⟨rfl, hb⟩; have BX := Lib.hid (BX.out.keep hb); have z0 := BX.out.c0; have z1 := BX.out.c1; clear hb))
    go_ret
    exact ⟨rfl, BX.out.below⟩
  | true =>
    have SM := Lib.hid (small_of_short c0)
    have HCL : Hid ((coreL L0).length = len0) := Lib.hid (by unfold coreL; rw [List.length_map, HL.out])
    obtain ⟨E, hE⟩ : ∃ E, attE m (coreL L0) x = E := ⟨_, rfl⟩
    obtain ⟨N, hN⟩ : ∃ N, attN m (coreL L0) x = N := ⟨_, rfl⟩
    obtain ⟨FG, hFG⟩ : ∃ FG, attL m (coreL L0) x = FG := ⟨_, rfl⟩
    have GA : Hid (∀ W, NodeRow W a0 len0 cap0 L0 → Calls Try.prog 38 #[forV a0 len0 cap0 m, .int .i64 x] W (ForPost W FG m [.int .i64 N, .int .i64 E])) := Lib.hid (fun W h => by
      rw [← hE, ← hN, ← hFG]
      exact HS.out.attach a0 len0 cap0 m L0 x W h HM.out HX.out SM.out)
    have HE := Lib.hid hE
    have HN := Lib.hid hN
    have HFG := Lib.hid hFG
    obtain ⟨R, hR⟩ : ∃ R, rightF m (coreL L0) = R := ⟨_, rfl⟩
    have HR := Lib.hid hR
    have GR : Hid (∀ W, NodeRow W a0 len0 cap0 L0 → Calls Try.prog 16 #[forV a0 len0 cap0 m] W fun e w' => e = .returned (.bool R) ∧ Below W.heap.size W w') := Lib.hid (fun W h => by
      rw [← HR.out]
      exact refrightN_any a0 len0 cap0 m L0 W h)
    obtain ⟨T, hT⟩ : ∃ T, thereF m (coreL L0) x = T := ⟨_, rfl⟩
    have HT := Lib.hid hT
    have HTT : Hid (T = (R && decide (0 ≤ x) && decide (x < (len0 : Int)))) := Lib.hid (by
      rw [← hT, ← hR]
      unfold thereF
      rw [HCL.out])
    clear hE hN hFG hR hT
    go_enter Try.func7, Try.ntmps7
    go_upto_region 6 with (first | (first
                                       | (go_at_call 37; (with_reducible refine (AW.out _).mono ?_); rintro e w1 ⟨rfl, hb⟩; have BX := Lib.hid (BX.out.keep hb); have z0 := BX.out.c0; have z1 := BX.out.c1; clear hb)
                                       | (go_at_call 15; (with_reducible refine (refshortF_any _ _ _ _ _ _ BX.out.row).mono ?_); rintro e w1 ⟨rfl, hb⟩; have BX := Lib.hid (BX.out.keep hb); have z0 := BX.out.c0; have z1 := BX.out.c1; clear hb)
                                       | (go_at_call 19; (with_reducible refine (HR.out _ BX.out.row).mono ?_); rintro e w1 ⟨rfl, hb⟩; have BX := Lib.hid (BX.out.keep hb); have z0 := BX.out.c0; have z1 := BX.out.c1; clear hb)) | (go_at_call 38; (with_reducible refine (GA.out _ BX.out.row).mono ?_); rintro e w1 ⟨a1, len1, cap1, L1, rfl, hr1, hcl, hb⟩; have BX := Lib.hid ((BX.out.keep hb).keep (below_box w1 (forB a1 len1 cap1 m))); have z0 := BX.out.c0; have z1 := BX.out.c1; have BG := Lib.hid (Box.start (m := m) hr1); have g0 := BG.out.c0; have g1 := BG.out.c1; have CL1 := Lib.hid hcl; clear hb hr1 hcl))
    clear AW
    go_cut [38] (fun c wx => c = .bool (!T) ∧ Hid (Box w wx w.heap.size a0 len0 cap0 m L0 (coreL L0)) ∧ Hid (Box w1 wx w1.heap.size a1 len1 cap1 m L1 (coreL L1)))
    case first =>
      cases R with
      | false =>
        have HTT := Lib.hid (show T = false from HTT.out)
        go_wp2_with (go_at_call 16; (with_reducible refine (GR.out _ BX.out.row).mono ?_); rintro e w2 ⟨rfl, hb⟩; (have BX := Lib.hid (BX.out.keep hb); have BG := Lib.hid (BG.out.keep hb); have z0 := BX.out.c0; have z1 := BX.out.c1; have g0 := BG.out.c0; have g1 := BG.out.c1; clear hb))
        go_meet
        exact ⟨by rw [HTT.out]; rfl, BX, BG⟩
      | true =>
        by_cases k0 : x < 0
        · have HTT := Lib.hid (show T = false by rw [HTT.out, decide_eq_false (show ¬ (0 : Int) ≤ x by omega)]; rfl)
          go_wp2_with (go_at_call 16; (with_reducible refine (GR.out _ BX.out.row).mono ?_); rintro e w2 ⟨rfl, hb⟩; (have BX := Lib.hid (BX.out.keep hb); have BG := Lib.hid (BG.out.keep hb); have z0 := BX.out.c0; have z1 := BX.out.c1; have g0 := BG.out.c0; have g1 := BG.out.c1; clear hb))
          go_meet
          exact ⟨by rw [HTT.out]; rfl, BX, BG⟩
        · by_cases k1 : x ≥ (len0 : Int)
          · have HTT := Lib.hid (show T = false by rw [HTT.out, decide_eq_false (show ¬ x < (len0 : Int) by omega), Bool.and_false])
            go_wp2_with (go_at_call 16; (with_reducible refine (GR.out _ BX.out.row).mono ?_); rintro e w2 ⟨rfl, hb⟩; (have BX := Lib.hid (BX.out.keep hb); have BG := Lib.hid (BG.out.keep hb); have z0 := BX.out.c0; have z1 := BX.out.c1; have g0 := BG.out.c0; have g1 := BG.out.c1; clear hb))
            go_meet
            exact ⟨by rw [HTT.out]; rfl, BX, BG⟩
          · have HTT := Lib.hid (show T = true by rw [HTT.out, decide_eq_true (show (0 : Int) ≤ x by omega), decide_eq_true (show x < (len0 : Int) by omega)]; rfl)
            go_wp2_with (go_at_call 16; (with_reducible refine (GR.out _ BX.out.row).mono ?_); rintro e w2 ⟨rfl, hb⟩; (have BX := Lib.hid (BX.out.keep hb); have BG := Lib.hid (BG.out.keep hb); have z0 := BX.out.c0; have z1 := BX.out.c1; have g0 := BG.out.c0; have g1 := BG.out.c1; clear hb))
            go_meet
            exact ⟨by rw [HTT.out, decide_eq_false (show ¬ x < 0 by omega), decide_eq_false (show ¬ (len0 : Int) ≤ x by omega)]; rfl, BX, BG⟩
    case rest =>
      obtain ⟨rfl, BX, BG⟩ := hcut
      have z0 := BX.out.c0
      have z1 := BX.out.c1
      have g0 := BG.out.c0
      have g1 := BG.out.c1
      clear GA GR
      cases T with
      | false =>
        have TN := Lib.hid (thereF_not HT.out)
        obtain rfl : E = 1 := HE.out.symm.trans TN.out.1
        obtain ⟨hmL, hmN⟩ := att_not (m := m) (F := coreL L0) (n := x) (by rw [TN.out.1]; decide)
        obtain rfl : N = -1 := HN.out.symm.trans hmN
        have HCC : Hid (coreL L1 = coreL L0) := Lib.hid (CL1.out.trans (HFG.out.symm.trans hmL))
        clear hmL hmN
        have GS : Hid (∀ W, NodeRow W a1 len1 cap1 L1 → NodeRow W a0 len0 cap0 L0 → Calls Try.prog 20 #[forV a1 len1 cap1 m, forV a0 len0 cap0 m] W fun e w' => e = .returned (.bool true) ∧ Below W.heap.size W w') := Lib.hid (fun W h1 h2 => by
          have := refsameF_any a1 a0 len1 cap1 len0 cap0 m m L1 L0 W h1 h2
          rwa [HCC.out, decide_eq_true rfl, decide_eq_true rfl] at this)
        have GT : Hid (∀ W, NodeRow W a0 len0 cap0 L0 → Calls Try.prog 39 #[forV a0 len0 cap0 m, .int .i64 x] W fun e w' => e = .returned (.int .i64 (-1)) ∧ Below W.heap.size W w') := Lib.hid (fun W h => by
          have := HS.out.top a0 len0 cap0 m L0 x W h HM.out HX.out SM.out
          rwa [TN.out.2.1] at this)
        have GC : Hid (∀ W, NodeRow W a0 len0 cap0 L0 → Calls Try.prog 40 #[forV a0 len0 cap0 m, .int .i64 x] W fun e w' => e = .returned (.bool false) ∧ Below W.heap.size W w') := Lib.hid (fun W h => by
          have := HS.out.conn a0 len0 cap0 m L0 x W h HM.out HX.out SM.out
          rwa [TN.out.2.2.1] at this)
        have GL : Hid (∀ W, NodeRow W a0 len0 cap0 L0 → Calls Try.prog 41 #[forV a0 len0 cap0 m, .int .i64 x] W (OrdPost W [])) := Lib.hid (fun W h => by
          have := HS.out.all a0 len0 cap0 m L0 x W h HM.out HX.out SM.out
          rwa [TN.out.2.2.2.1] at this)
        have GE : Hid (∀ W, NodeRow W a0 len0 cap0 L0 → Calls Try.prog 42 #[forV a0 len0 cap0 m, .int .i64 x] W (OrdPost W [])) := Lib.hid (fun W h => by
          have := HS.out.elems a0 len0 cap0 m L0 x W h HM.out HX.out SM.out
          rwa [TN.out.2.2.2.2.1] at this)
        have GO : Hid (∀ W, NodeRow W a0 len0 cap0 L0 → Calls Try.prog 43 #[forV a0 len0 cap0 m, .int .i64 x, .int .i64 y] W fun e w' => e = .returned (.bool false) ∧ Below W.heap.size W w') := Lib.hid (fun W h => by
          have := HS.out.over a0 len0 cap0 m L0 x y W h HM.out HX.out HY.out SM.out
          rwa [(TN.out.2.2.2.2.2 y).1] at this)
        have GP : Hid (∀ W, NodeRow W a0 len0 cap0 L0 → Calls Try.prog 43 #[forV a0 len0 cap0 m, .int .i64 y, .int .i64 x] W fun e w' => e = .returned (.bool false) ∧ Below W.heap.size W w') := Lib.hid (fun W h => by
          have := HS.out.over a0 len0 cap0 m L0 y x W h HM.out HY.out HX.out SM.out
          rwa [(TN.out.2.2.2.2.2 y).2] at this)
        go_wp2_with (first
                        | (go_at_call 20; (with_reducible refine (GS.out _ BG.out.row BX.out.row).mono ?_); rintro e w2 ⟨rfl, hb⟩; (have BX := Lib.hid (BX.out.keep hb); have BG := Lib.hid (BG.out.keep hb); have z0 := BX.out.c0; have z1 := BX.out.c1; have g0 := BG.out.c0; have g1 := BG.out.c1; clear hb))
                        | (go_at_call 39; (with_reducible refine (GT.out _ BX.out.row).mono ?_); rintro e w2 ⟨rfl, hb⟩; (have BX := Lib.hid (BX.out.keep hb); have BG := Lib.hid (BG.out.keep hb); have z0 := BX.out.c0; have z1 := BX.out.c1; have g0 := BG.out.c0; have g1 := BG.out.c1; clear hb))
                        | (go_at_call 40; (with_reducible refine (GC.out _ BX.out.row).mono ?_); rintro e w2 ⟨rfl, hb⟩; (have BX := Lib.hid (BX.out.keep hb); have BG := Lib.hid (BG.out.keep hb); have z0 := BX.out.c0; have z1 := BX.out.c1; have g0 := BG.out.c0; have g1 := BG.out.c1; clear hb))
                        | (go_at_call 41; (with_reducible refine (GL.out _ BX.out.row).mono ?_); rintro e w2 ⟨al, ll, cl, rfl, hrl, hb⟩; obtain rfl : ll = 0 := hrl.hlen.symm; clear hrl; (have BX := Lib.hid (BX.out.keep hb); have BG := Lib.hid (BG.out.keep hb); have z0 := BX.out.c0; have z1 := BX.out.c1; have g0 := BG.out.c0; have g1 := BG.out.c1; clear hb))
                        | (go_at_call 42; (with_reducible refine (GE.out _ BX.out.row).mono ?_); rintro e w2 ⟨al, ll, cl, rfl, hrl, hb⟩; obtain rfl : ll = 0 := hrl.hlen.symm; clear hrl; (have BX := Lib.hid (BX.out.keep hb); have BG := Lib.hid (BG.out.keep hb); have z0 := BX.out.c0; have z1 := BX.out.c1; have g0 := BG.out.c0; have g1 := BG.out.c1; clear hb))
                        | (go_at_call 43; (with_reducible refine (GO.out _ BX.out.row).mono ?_); rintro e w2 ⟨rfl, hb⟩; (have BX := Lib.hid (BX.out.keep hb); have BG := Lib.hid (BG.out.keep hb); have z0 := BX.out.c0; have z1 := BX.out.c1; have g0 := BG.out.c0; have g1 := BG.out.c1; clear hb))
                        | (go_at_call 43; (with_reducible refine (GP.out _ BX.out.row).mono ?_); rintro e w2 ⟨rfl, hb⟩; (have BX := Lib.hid (BX.out.keep hb); have BG := Lib.hid (BG.out.keep hb); have z0 := BX.out.c0; have z1 := BX.out.c1; have g0 := BG.out.c0; have g1 := BG.out.c1; clear hb)))
        go_ret
        exact ⟨rfl, BX.out.below⟩
      | true =>
        obtain ⟨hr, X, rfl, hXl⟩ := there_nat HT.out
        have HRT := Lib.hid hr
        have hXl0 : X < len0 := by rw [← HCL.out]; exact hXl
        have hl1k : L0.length ≤ 1000 := SM.out.1
        have HL1 := Lib.hid hl1k
        have GB : Hid (∀ W, NodeRow W a0 len0 cap0 L0 → Calls Try.prog 44 #[forV a0 len0 cap0 m, .int .i64 X] W (ForPost W FG m [.int .i64 N, .int .i64 E])) := Lib.hid (fun W h => by
          rw [← HE.out, ← HN.out, ← HFG.out]
          exact refattach_any a0 len0 cap0 m L0 X W HRT.out SM.out h hXl0)
        clear hr hl1k hXl
        go_upto_region 9 with (go_at_call 44; (with_reducible refine (GB.out _ BX.out.row).mono ?_); rintro e w2 ⟨a2, len2, cap2, L2, rfl, hr2, hcl2, hb⟩; have BX := Lib.hid ((BX.out.keep hb).keep (below_box w2 (forB a2 len2 cap2 m))); have BG := Lib.hid ((BG.out.keep hb).keep (below_box w2 (forB a2 len2 cap2 m))); have z0 := BX.out.c0; have z1 := BX.out.c1; have g0 := BG.out.c0; have g1 := BG.out.c1; have BH := Lib.hid (Box.start (m := m) hr2); have CL2 := Lib.hid hcl2; clear hb hr2 hcl2)
        refine shadeRight9_region (x := X) (T := (topF (coreL L0) X : Nat)) (C := kindK (coreL L0) (topF (coreL L0) X : Nat) == 0) (la := allI (coreL L0) X) (le := (allI (coreL L0) X).filter (fun k => kindK (coreL L0) k == 1)) (by kernel_rfl) BX.out.lt z0 z1 BG.out.lt g0 g1 BH.out.lt BH.out.c0 BH.out.c1 rfl rfl rfl rfl rfl rfl rfl rfl
          (fun V hV => fact_same (BG.out.row.below hV) (BH.out.row.below hV) (CL1.out.trans CL2.out.symm))
          (fun V hV => fact_of (by have := HS.out.top a0 len0 cap0 m L0 X V (BX.out.row.below hV) HM.out HX.out SM.out; rwa [topZ_eq HRT.out (by rw [HCL.out]; exact hXl0)] at this))
          (fun V hV => fact_of (reftop_any a0 len0 cap0 m L0 X V HRT.out (BX.out.row.below hV) hXl0))
          (fun V hV => fact_of (by have := HS.out.conn a0 len0 cap0 m L0 X V (BX.out.row.below hV) HM.out HX.out SM.out; unfold connZ at this; rwa [HT.out, Bool.true_and, topZ_eq HRT.out (by rw [HCL.out]; exact hXl0)] at this))
          (fun V hV => fact_of (refconn_any a0 len0 cap0 m L0 X V HRT.out (BX.out.row.below hV) hXl0))
          (fun V hV => fact_ord (by have := HS.out.all a0 len0 cap0 m L0 X V (BX.out.row.below hV) HM.out HX.out SM.out; rwa [allZ_eq HRT.out (by rw [HCL.out]; exact hXl0)] at this))
          (fun V hV => fact_ord (refall_any a0 len0 cap0 m L0 HRT.out HL1.out X V (BX.out.row.below hV) hXl0))
          (fun V hV => fact_ord (by have := HS.out.elems a0 len0 cap0 m L0 X V (BX.out.row.below hV) HM.out HX.out SM.out; unfold elemsZ at this; rwa [allZ_eq HRT.out (by rw [HCL.out]; exact hXl0)] at this))
          (fun V hV => fact_ord (refelems_any a0 len0 cap0 m L0 HRT.out HL1.out X V (BX.out.row.below hV) hXl0)) ?_
        intro v w3 hb
        (have BX := Lib.hid (BX.out.keep hb); have BG := Lib.hid (BG.out.keep hb); have z0 := BX.out.c0; have z1 := BX.out.c1; have g0 := BG.out.c0; have g1 := BG.out.c1; clear hb)
        clear g0 g1
        simp only [puts, List.set_cons_succ, List.set_cons_zero]
        have GO : Hid (∀ W b, NodeRow W a0 len0 cap0 L0 → overZ m (coreL L0) X y = b → Calls Try.prog 43 #[forV a0 len0 cap0 m, .int .i64 X, .int .i64 y] W fun e w' => e = .returned (.bool b) ∧ Below W.heap.size W w') := Lib.hid (fun W b h hb => by
          rw [← hb]
          exact HS.out.over a0 len0 cap0 m L0 X y W h HM.out HX.out HY.out SM.out)
        by_cases k0 : y < 0
        · have hov : overZ m (coreL L0) X y = false := by
            unfold overZ thereF
            rw [decide_eq_false (show ¬ (0 : Int) ≤ y by omega), Bool.and_false, Bool.false_and, Bool.and_false, Bool.false_and]
          have HOV := Lib.hid hov
          clear hov
          go_wp2_with (go_at_call 43; (with_reducible refine (GO.out _ _ BX.out.row HOV.out).mono ?_); rintro e w2 ⟨rfl, hb⟩; (have BX := Lib.hid (BX.out.keep hb); have BG := Lib.hid (BG.out.keep hb); have z0 := BX.out.c0; have z1 := BX.out.c1; have g0 := BG.out.c0; have g1 := BG.out.c1; clear hb))
          go_ret
          exact ⟨rfl, BX.out.below⟩
        · by_cases k1 : y ≥ (len0 : Int)
          · have hov : overZ m (coreL L0) X y = false := by
              unfold overZ thereF
              rw [decide_eq_false (show ¬ y < ((coreL L0).length : Int) by rw [HCL.out]; omega), Bool.and_false, Bool.and_false, Bool.false_and]
            have HOV := Lib.hid hov
            clear hov
            go_wp2_with (go_at_call 43; (with_reducible refine (GO.out _ _ BX.out.row HOV.out).mono ?_); rintro e w2 ⟨rfl, hb⟩; (have BX := Lib.hid (BX.out.keep hb); have BG := Lib.hid (BG.out.keep hb); have z0 := BX.out.c0; have z1 := BX.out.c1; have g0 := BG.out.c0; have g1 := BG.out.c1; clear hb))
            go_ret
            exact ⟨rfl, BX.out.below⟩
          · obtain ⟨Y, rfl⟩ : ∃ Y : Nat, y = Y := ⟨y.toNat, by omega⟩
            have hYl : Y < len0 := by omega
            go_upto_region 13 with fail
            refine shadeRight13_region (x := X) (y := Y) (O := overZ m (coreL L0) X Y) (by kernel_rfl) BX.out.lt z0 z1 rfl rfl rfl
              (fun V hV => fact_of (GO.out V _ (BX.out.row.below hV) rfl))
              (fun V hV => fact_of (by
                have := refover_any a0 len0 cap0 m L0 HRT.out HL1.out X Y V (BX.out.row.below hV) hXl0
                rwa [hasZ_all HRT.out (by rw [HCL.out]; exact hXl0) (by rw [HCL.out]; exact hYl), show decide (0 < (if overZ m (coreL L0) X Y = true then 1 else 0)) = overZ m (coreL L0) X Y by cases overZ m (coreL L0) X Y <;> rfl] at this)) ?_
            intro v w3 hb
            (have BX := Lib.hid (BX.out.keep hb); have BG := Lib.hid (BG.out.keep hb); have z0 := BX.out.c0; have z1 := BX.out.c1; have g0 := BG.out.c0; have g1 := BG.out.c1; clear hb)
            clear g0 g1
            simp only [puts, List.set_cons_succ, List.set_cons_zero]
            go_wp2
            go_ret
            exact ⟨rfl, BX.out.below⟩
end Go.Proofs.Ytllfkiifkkcinaa
