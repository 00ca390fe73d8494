/- Texts joined in build order: Ref3Order. -/
import Derived.Test.YtnjoimedilonnaaGreatC27
import Derived.Test.YtnjoimedilonnaaGreatC05
import Derived.Test.YtnjoimedilonnaaGreatC22
import Derived.Deep.RegionHeld3
import Derived.Deep.DrawnRows
namespace Go.Proofs.YtnjoimedilonnaaGreat
open Go.RowKit
attribute [local go_sem ↓] Go.wp_at_zero Go.wp_at_succ
def ordG (F : List Core) (f n : Nat) : List Int := (ordN (kidsF F) f n).map Int.ofNat
theorem ordG_succ {F : List Core} {f n : Nat} {x : Core} (hx : F[n]? = some x) : ordG F (f + 1) n = (n : Int) :: x.kids.flatMap (fun z => ordG F f z.toNat) := by
  have hk : kidsF F n = x.kids.map Int.toNat := by unfold kidsF; rw [hx]
  have h2 : ordN (kidsF F) (f + 1) n = n :: (kidsF F n).flatMap (ordN (kidsF F) f) := rfl
  unfold ordG
  rw [h2, hk, List.map_cons, List.flatMap_map, List.map_flatMap]
  rfl
def ordTo (F : List Core) (f n : Nat) (K : List Int) (k : Nat) : List Int := (n : Int) :: (K.take k).flatMap (fun z => ordG F f z.toNat)
theorem ordTo_step {F : List Core} {f n k : Nat} {K : List Int} {z : Int} (h : K[k]? = some z) : ordTo F f n K (k + 1) = ordTo F f n K k ++ ordG F f z.toNat := by
  obtain ⟨hl, hg⟩ := List.getElem?_eq_some_iff.1 h
  unfold ordTo
  rw [List.take_succ_eq_append_getElem hl, hg, List.flatMap_append]
  simp
theorem right_kid {m : Int} {F : List Core} (hr : rightF m F = true) {n : Nat} {x : Core} (hx : F[n]? = some x) {z : Int} (hz : z ∈ x.kids) : ∃ k : Nat, z = k ∧ k < F.length ∧ rankF F k = rankF F n + 1 := by
  have T := tree_of_right hr
  have h2 := (nodeOk_iff.1 (((rightF_iff m F).1 hr).2.1 _ x hx)).2.2.1 z hz
  obtain ⟨c, hc, _⟩ := kidB_iff.1 (kidOk_iff.1 h2).2
  obtain ⟨e1, e2, _⟩ := getC_some hc
  have hm : z.toNat ∈ kidsF F n := by
    unfold kidsF
    rw [hx]
    exact List.mem_map.2 ⟨z, hz, rfl⟩
  exact ⟨z.toNat, by omega, e2, (T.kid_rank hm).2⟩
theorem ordG_len {m : Int} {F : List Core} (hr : rightF m F = true) {f n : Nat} (hn : n < F.length) (hf : F.length + 1 ≤ rankF F n + f) : (ordG F f n).length ≤ F.length := by
  have T := tree_of_right hr
  unfold ordG
  rw [List.length_map]
  exact nodup_lt F.length _ (T.ord_nodup _ n hn hf) (fun x hx => T.ord_lt _ n hn x hx)
theorem prefix_len {F : List Core} {f n k : Nat} {x : Core} (hx : F[n]? = some x) : (ordTo F f n x.kids k).length ≤ (ordG F (f + 1) n).length := by
  rw [ordG_succ hx]
  unfold ordTo
  rw [List.length_cons, List.length_cons]
  have : (x.kids.flatMap (fun z => ordG F f z.toNat)).length = ((x.kids.take k).flatMap (fun z => ordG F f z.toNat)).length + ((x.kids.drop k).flatMap (fun z => ordG F f z.toNat)).length := by
    rw [← List.length_append, ← List.flatMap_append, List.take_append_drop]
  omega
set_option maxHeartbeats 16000000 in
set_option maxRecDepth 100000 in
theorem reforderR_any (a : Option Addr) (len cap : Nat) (m : Int) (L : List NodeD) (hr : rightF m (coreL L) = true) (hs : L.length ≤ 1000) : ∀ (f n : Nat) (w : World), NodeRow w a len cap L → n < len → len + 2 ≤ rankF (coreL L) n + f →
    Calls Tryz.prog 37 #[forV a len cap m, .int .i64 n] w (OrdPost w (ordG (coreL L) f n)) := by
  intro f
  induction f with
  | zero =>
    intro n w h hn hk
    have h1 := (tree_of_right hr).rank_le n (by rw [coreL_len, h.hlen]; exact hn)
    rw [coreL_len, h.hlen] at h1
    omega
  | succ f ih =>
    intro n w h hn hk
    have HCL : Hid ((coreL L).length = len) := Lib.hid (by rw [coreL_len, h.hlen])
    have hlen : len ≤ 1000 := by rw [← h.hlen]; exact hs
    obtain ⟨w1, hw1, BX⟩ : ∃ w1, w.alloc (forB a len cap m) = w1 ∧ Box w w1 w.heap.size a len cap m L (coreL L) := ⟨_, rfl, Box.start h⟩
    have BX := Lib.hid BX
    have HW1 := Lib.hid hw1
    obtain ⟨b, off, x, rfl, hb, hx, hat, hok⟩ := BX.out.row.get hn
    have hxc := coreL_get hx
    have HX := Lib.hid hxc
    have HKR := Lib.hid hok.kids
    have HC6 := Lib.hid (stays hat.c6 hb)
    have HB := Lib.hid hb
    have HKL := Lib.hid hok.kids.hlen
    have HNL : Hid ((ordG (coreL L) (f + 1) n).length ≤ 1000) := Lib.hid (Nat.le_trans (ordG_len hr (by rw [HCL.out]; exact hn) (by rw [HCL.out]; omega)) (by rw [HCL.out]; exact hlen))
    have IH : Hid (∀ z ∈ x.core.kids, ∃ k : Nat, z = k ∧ ∀ W, NodeRow W (some ⟨b, off, none⟩) len cap L → Calls Tryz.prog 37 #[forV (some ⟨b, off, none⟩) len cap m, .int .i64 z] W (OrdPost W (ordG (coreL L) f z.toNat))) := Lib.hid (fun z hz => by
      obtain ⟨k, rfl, hkl, hrk⟩ := right_kid hr hxc hz
      exact ⟨k, rfl, fun W h => by
        rw [Int.toNat_natCast]
        exact ih k W h (by rw [HCL.out] at hkl; exact hkl) (by omega)⟩)
    obtain ⟨i0, hi0, hz0, hz1, hz2⟩ := info_parts int_info
    have hkn : x.kN ≤ 9223372036854775807 := hok.kids.len64
    have z0 := BX.out.c0
    have z1 := BX.out.c1
    have c6 := HC6.out _ (Below.refl _ _)
    have OW0 : Hid ((w1.alloc (.cells #[.int .i64 n] 3)).ownsRow w1.heap.size 3 1 (.slice (some ⟨w.heap.size + 1, 0, none⟩) 1 1) (ordTo (coreL L) f n x.core.kids 0).length ((ordTo (coreL L) f n x.core.kids 0).flatMap encZ)) := Lib.hid (by
      have h2 := World.ownsRow_lit (base := w1.heap.size) (e := 3) (size := 1) w1 #[.int .i64 n] 1 (Nat.le_refl _) (by unfold maxLen; omega) (by simp)
      rwa [show (some (⟨w1.heap.size, 0, none⟩ : Addr)) = some ⟨w.heap.size + 1, 0, none⟩ by rw [← hw1]; simp] at h2)
    clear hat hok hx hxc hb h hk ih hw1
    go_enter Tryz.func37, Tryz.ntmps37
    go_wp2
    rw [HW1.out]
    go_loopw [5, 6] (fun v i wr => ∃ k : Nat, k ≤ x.kN ∧ i = .int .i64 k ∧ Hid (Below w1.heap.size w1 wr) ∧ Hid (wr.ownsRow w1.heap.size 3 1 v (ordTo (coreL L) f n x.core.kids k).length ((ordTo (coreL L) f n x.core.kids k).flatMap encZ))) (fun _ i _ => x.kN - (intOf i).toNat)
    case atStart => exact ⟨0, Nat.zero_le _, rfl, Lib.hid (below_box w1 _), OW0⟩
    case round =>
      clear OW0 z0 z1 c6
      obtain ⟨k, hk, rfl, HBW, OW⟩ := hrel
      have BX2 := Lib.hid (BX.out.keep HBW.out)
      have z0 := BX2.out.c0
      have z1 := BX2.out.c1
      have c6 := HC6.out _ HBW.out
      by_cases hlt : k < x.kN
      · obtain ⟨bk, ok, z, hka, hbk, hz, hcz, hin⟩ := (HKR.out.below HBW.out).get hlt
        obtain ⟨zk, rfl, IHz⟩ := IH.out z (List.mem_of_getElem? hz)
        have IHZ := Lib.hid IHz
        rw [hka] at c6
        have HCK := Lib.hid (HC6.out)
        rw [hka] at HCK
        have HPL : Hid ((ordTo (coreL L) f n x.core.kids k).length + (ordG (coreL L) f zk).length ≤ 1000) := Lib.hid (by
          have h1 := prefix_len (f := f) (k := k + 1) HX.out
          rw [ordTo_step hz, List.length_append, Int.toNat_natCast] at h1
          have := HNL.out
          omega)
        have HST := Lib.hid (ordTo_step (F := coreL L) (f := f) (n := n) hz)
        have HBK : Hid (bk < w1.heap.size) := Lib.hid (by
          rcases HKR.out.row.cells with h0 | ⟨b2, o2, ha2, hlt2, _⟩
          · omega
          · rw [hka] at ha2
            injection ha2 with ha2
            injection ha2 with e1
            omega)
        have HCZ : Hid (∀ W, Below w1.heap.size w1 W → W.cell? ⟨bk, ok + k, none⟩ = some (.int .i64 (zk : Int))) := Lib.hid (stays ((HBW.out.cell (p := ⟨bk, ok + k, none⟩) HBK.out).symm.trans hcz) HBK.out)
        obtain ⟨n1, hn1⟩ : ∃ n1, (ordTo (coreL L) f n x.core.kids k).length = n1 := ⟨_, rfl⟩
        have HN1 := Lib.hid hn1
        rw [hn1] at OW HPL
        have hpl := HPL.out
        clear hz hin hka hbk IHz hn1
        go_wp2
        have cz := HCZ.out _ HBW.out
        go_region_held3 (fun w' => w'.cell? ⟨w.heap.size, 0, none⟩ = some (.slice (some ⟨b, off, none⟩) len cap) ∧ w'.cell? ⟨w.heap.size, 1, none⟩ = some (.int .i64 m) ∧ w'.cell? ⟨b, off + n * 10 + 6, none⟩ = some (.slice (some ⟨bk, ok, none⟩) x.kN x.kC) ∧ w'.cell? ⟨bk, ok + k, none⟩ = some (.int .i64 (zk : Int))) (go_keep)
          (first
            | (go_at_call 37; refine (IHZ.out _ BX2.out.row.drew).mono ?_; intro e w2 hp; obtain ⟨a2, n2, c2, rfl, hrow, hb⟩ := hp; have hb := (Below.refl _ _).drew.trans hb; have IR := Lib.hid hrow; have OW := Lib.hid (own_below OW.out hb); have HBW := Lib.hid (HBW.out.trans (hb.mono HBW.out.size)); have BX2 := Lib.hid (BX.out.keep HBW.out); have z0 := BX2.out.c0; have z1 := BX2.out.c1; have c6 := HCK.out _ HBW.out; have cz := HCZ.out _ HBW.out; have hn2 : n2 ≤ 1000 := (by have h1 := IR.out.hlen; rw [Int.toNat_natCast] at h1; omega); have hn12 : n1 + n2 ≤ 1000 := (by have h1 := IR.out.hlen; rw [Int.toNat_natCast] at h1; omega); clear hrow hb)
            | (refine step_append_rows (by rfl) _ _ _ (by rfl) 3 i0 _ 1 8 Tryz.underlying27 hi0 hz0 hz1 hz2 (by rfl) (by decide) w1.heap.size u5 n1 (ordTo (coreL L) f n x.core.kids k) (ordG (coreL L) f (zk : Int).toNat) (by rfl) OW.out a2 n2 c2 (by rfl) IR.out.row (fun x _ => encZ_one x) (by unfold maxLen; omega) (by omega) HBW.out.size IR.out.hnil ?_; intro v2 w3 hown3 hg3 hat3; have HBW := Lib.hid (HBW.out.grown hg3 HBW.out.size (fun k e => (OW.out.lt k e).1)); have OW := Lib.hid hown3; have BX2 := Lib.hid (BX.out.keep HBW.out); have z0 := BX2.out.c0; have z1 := BX2.out.c1; have c6 := HCK.out _ HBW.out; have cz := HCZ.out _ HBW.out; clear hown3 hg3 hat3))
        have OW2 : Hid (w3.ownsRow w1.heap.size 3 1 v2 (ordTo (coreL L) f n x.core.kids (k + 1)).length ((ordTo (coreL L) f n x.core.kids (k + 1)).flatMap encZ)) := Lib.hid (by
          have h1 := OW.out
          rw [← HST.out] at h1
          have h2 : n1 + n2 = (ordTo (coreL L) f n x.core.kids (k + 1)).length := by
            rw [HST.out, List.length_append, HN1.out, IR.out.hlen]
          rwa [h2] at h1)
        go_wp2
        go_roundw
        case rel => exact ⟨k + 1, by omega, by go_num, HBW, OW2⟩
        case measure => simp [intOf]; omega
      · have hkk : k = x.kN := by omega
        subst hkk
        have HD : Hid (ordTo (coreL L) f n x.core.kids x.kN = ordG (coreL L) (f + 1) n) := Lib.hid (by
          rw [ordG_succ HX.out]
          unfold ordTo
          rw [List.take_of_length_le (by rw [HKL.out]; exact Nat.le_refl _)])
        rw [HD.out] at OW
        have HIN : Hid (∀ z ∈ ordG (coreL L) (f + 1) n, In64 z) := Lib.hid (fun z hz => by
          unfold ordG at hz
          obtain ⟨q, hq, rfl⟩ := List.mem_map.1 hz
          have hql := (tree_of_right hr).ord_lt _ n (by rw [HCL.out]; exact hn) q hq
          rw [HCL.out] at hql
          exact ⟨by show (_ : Int) ≤ ((q : Nat) : Int); omega, by show ((q : Nat) : Int) ≤ _; omega⟩)
        obtain ⟨a9, cap9, rfl, hr9, -⟩ := IntRow.of_own_new (M := ordG (coreL L) (f + 1) n) (n := (ordG (coreL L) (f + 1) n).length) rfl OW.out HIN.out
        have HR9 := Lib.hid hr9
        clear hr9
        by_cases hkz : x.kN = 0
        · have hkz' := Lib.hid hkz
          go_wp2
          go_ret
          exact ⟨a9, _, cap9, rfl, HR9.out, BX.out.below.trans (HBW.out.mono BX.out.below.size)⟩
        · go_wp2
          go_ret
          exact ⟨a9, _, cap9, rfl, HR9.out, BX.out.below.trans (HBW.out.mono BX.out.below.size)⟩
theorem reforder_any (a : Option Addr) (len cap : Nat) (m : Int) (L : List NodeD) (hr : rightF m (coreL L) = true) (hs : L.length ≤ 1000) (n : Nat) (w : World) (h : NodeRow w a len cap L) (hn : n < len) :
    Calls Tryz.prog 37 #[forV a len cap m, .int .i64 n] w (OrdPost w ((ordF (coreL L) n).map Int.ofNat)) := by
  have hcl : (coreL L).length = len := by rw [coreL_len, h.hlen]
  have h2 := reforderR_any a len cap m L hr hs (len + 2) n w h hn (by omega)
  have h3 : ordG (coreL L) (len + 2) n = (ordF (coreL L) n).map Int.ofNat := by
    unfold ordG ordF
    rw [hcl, (tree_of_right hr).ord_more (len + 1) n (by rw [hcl]; exact hn) (by rw [hcl]; omega)]
  rwa [h3] at h2
end Go.Proofs.YtnjoimedilonnaaGreat
