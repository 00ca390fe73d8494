/- Texts joined in build order: AbleAll. -/
import Derived.Test.YtnjoimedilonnaaGreatC42
import Derived.Test.YtnjoimedilonnaaGreatC28
namespace Go.Proofs.YtnjoimedilonnaaGreat
open Go.RowKit
theorem own_one_at {α : Type} {enc : α → List Value} {size : Nat} (w : World) (g : Nat) (hg : w.heap.size = g) (e : TypeId) (x : α) (cs : Array Value) (hx : enc x = cs.toList) (hs : cs.size = size) : SRow enc size (w.alloc (.cells cs e)) (some ⟨g, 0, none⟩) 1 1 [x] := by
  subst hg
  exact own_one w e x cs hx hs
def barK (F : List Core) (k : Nat) : List Int := ((List.range k).filter (barF F)).map Int.ofNat
theorem barK_step (F : List Core) (k : Nat) : barK F (k + 1) = barK F k ++ if barF F k then [(k : Int)] else [] := by
  unfold barK
  rw [List.range_succ, List.filter_append, List.map_append]
  congr 1
  by_cases h : barF F k = true
  · rw [if_pos h, List.filter_cons, if_pos h]; rfl
  · rw [if_neg h, List.filter_cons, if_neg h]; rfl
theorem barK_len (F : List Core) (k : Nat) : (barK F k).length ≤ k := by
  unfold barK
  rw [List.length_map]
  exact Nat.le_trans (List.length_filter_le _ _) (by rw [List.length_range]; omega)
theorem barK_mem {F : List Core} {k : Nat} {z : Int} (h : z ∈ barK F k) : ∃ i : Nat, z = i ∧ i < k := by
  unfold barK at h
  obtain ⟨i, hi, rfl⟩ := List.mem_map.1 h
  exact ⟨i, rfl, List.mem_range.1 (List.mem_filter.1 hi).1⟩
theorem mem_barL {F : List Core} {n : Int} : n ∈ barL F ↔ ∃ i : Nat, n = i ∧ i < F.length ∧ barF F i = true := by
  unfold barL
  constructor
  · intro h
    obtain ⟨i, hi, rfl⟩ := List.mem_map.1 h
    obtain ⟨h1, h2⟩ := List.mem_filter.1 hi
    exact ⟨i, rfl, List.mem_range.1 h1, h2⟩
  · rintro ⟨i, rfl, h1, h2⟩
    exact List.mem_map.2 ⟨i, List.mem_filter.2 ⟨List.mem_range.2 h1, h2⟩, rfl⟩
theorem mem_allB {m : Int} {F : List Core} {n : Int} : decide (n ∈ allB m F) = barO m F n := by
  unfold allB barO
  by_cases hr : rightF m F = true
  · rw [if_pos hr, Bool.eq_iff_iff, decide_eq_true_eq, Bool.and_eq_true, mem_barL]
    constructor
    · rintro ⟨i, rfl, h1, h2⟩
      exact ⟨thereF_of hr h1, by rw [Int.toNat_natCast]; exact h2⟩
    · rintro ⟨h1, h2⟩
      obtain ⟨_, i, rfl, h3⟩ := there_nat h1
      rw [Int.toNat_natCast] at h2
      exact ⟨i, rfl, h3, h2⟩
  · rw [if_neg hr]
    have : thereF m F n = false := by
      cases hq : thereF m F n with
      | false => rfl
      | true => exact absurd (there_nat hq).1 hr
    rw [this]
    simp
set_option maxHeartbeats 8000000 in
set_option maxRecDepth 100000 in
theorem allB_any (a : Option Addr) (len cap : Nat) (m : Int) (L : List NodeD) (w : World) (h : NodeRow w a len cap L) (hm : In64 m) (hs : smallF L) :
    Calls Tryz.prog 6 #[forV a len cap m] w (OrdNew w (allB m (coreL L))) := by
  have HCL : Hid ((coreL L).length = len) := Lib.hid (by rw [coreL_len, h.hlen])
  have hlen : len ≤ 1000 := by rw [← h.hlen]; exact hs.1
  have BX := Lib.hid (Box.start (m := m) h)
  have z0 := BX.out.c0
  have z1 := BX.out.c1
  cases hr : rightF m (coreL L) with
  | false =>
    have CR : Hid (∀ W, NodeRow W a len cap L → Calls Tryz.prog 14 #[forV a len cap m] W fun e w' => e = .returned (.bool false) ∧ Below W.heap.size W w') := Lib.hid (fun W h => by
      have := rightF_any a len cap m L W h hm hs
      rwa [hr] at this)
    have HR : Hid (allB m (coreL L) = []) := Lib.hid (by unfold allB; rw [hr]; rfl)
    clear h hm hs hr
    go_enter Tryz.func6, Tryz.ntmps6
    go_wp2_with (go_at_call 14; ((with_reducible refine (CR.out _ BX.out.row).mono ?_); rintro e w1 ⟨rfl, hb⟩; have BX := Lib.hid (BX.out.keep hb); clear hb))
    go_ret
    exact ⟨none, 0, 0, rfl, by rw [HR.out]; exact ⟨SRow.nil, (fun z hz => by cases hz), fun _ => rfl⟩, BX.out.below, fun b off e => by cases e⟩
  | true =>
    have CR : Hid (∀ W, NodeRow W a len cap L → Calls Tryz.prog 14 #[forV a len cap m] W fun e w' => e = .returned (.bool true) ∧ Below W.heap.size W w') := Lib.hid (fun W h => by
      have := rightF_any a len cap m L W h hm hs
      rwa [hr] at this)
    have HR : Hid (allB m (coreL L) = barK (coreL L) len) := Lib.hid (by unfold allB; rw [hr, ← HCL.out]; rfl)
    have hmk := run_make_row' (P := Tryz.prog) 38 4 (.bool false) 1 Tryz.underlying38 bool_info rfl .i64 .i64 len (by omega) (by omega)
    have HS := Lib.hid hs
    have HRT := Lib.hid hr
    obtain ⟨i0, hi0, hz0, hz1, hz2⟩ := info_parts int_info
    clear h hm hs hr
    go_enter Tryz.func6, Tryz.ntmps6
    go_upto_region 3 with (go_at_call 14; ((with_reducible refine (CR.out _ BX.out.row).mono ?_); rintro e w1 ⟨rfl, hb⟩; have BX := Lib.hid (BX.out.keep hb); clear hb z0 z1; have z0 := BX.out.c0; have z1 := BX.out.c1))
    have z0a := (BX.out.keep (box_below w1 (.cells (madeCells #[.bool false] len) 4))).c0
    go_wp2
    clear hmk z0a
    have HG : Hid (w.heap.size ≤ w1.heap.size) := Lib.hid BX.out.below.size
    have HX : Hid (∀ W, Below w1.heap.size w1 W → Box w W w.heap.size a len cap m L (coreL L)) := Lib.hid (fun W hb => BX.out.keep hb)
    have OW0 : Hid (Below w1.heap.size w1 (w1.alloc (.cells (madeCells #[.bool false] len) 4)) ∧ ORow encT (w1.alloc (.cells (madeCells #[.bool false] len) 4)) w1.heap.size (List.replicate len false)) := Lib.hid ⟨box_below _ _, ORow.made (enc := encT) w1 4 false len⟩
    clear BX CR z0 z1
    go_loopw [19] (fun i wr => ∃ (k : Nat) (S : List Bool), k ≤ len ∧ i = .int .i64 k ∧ Hid (Below w1.heap.size w1 wr) ∧ Hid (ORow encT wr w1.heap.size S) ∧ Hid (S.length = len) ∧ Hid (∀ i : Nat, i < len → S[i]? = some (decide (rootF (coreL L) i < k) && shutB (coreL L) i))) (fun i _ => len - (intOf i).toNat)
    case atStart => exact ⟨0, _, Nat.zero_le _, rfl, Lib.hid OW0.out.1, Lib.hid OW0.out.2, Lib.hid (List.length_replicate ..), Lib.hid (fun i hi => by rw [List.getElem?_replicate, if_pos hi]; rfl)⟩
    case round =>
      clear OW0
      obtain ⟨k, S, hk, rfl, HB, OW, HVL, HA⟩ := hrel
      have BX := Lib.hid (HX.out wr HB.out)
      have z0 := BX.out.c0
      have z1 := BX.out.c1
      by_cases hlt : k < len
      · obtain ⟨b, off, x, rfl, hb, hx, hat, hok⟩ := BX.out.row.get hlt
        have hxc := coreL_get hx
        obtain ⟨c0, c1, c2, c3, c4, c5, c6, c7, c8, c9⟩ := hat
        have hkc : k < (coreL L).length := by rw [HCL.out]; exact hlt
        by_cases hp : x.core.parent = -1
        · have hpar := right_top hxc hp
          have hrk : rootF (coreL L) k = k := (root_self HRT.out hkc hpar (ordN_head (kids := kidsF (coreL L)) ((coreL L).length + 1) k |>.elim fun r hr => by unfold ordF; rw [hr]; simp)).2
          have CO : Hid (∀ W, Below wr.heap.size wr W → Calls Tryz.prog 15 #[.slice (some ⟨b, off, none⟩) len cap, .int .i64 k, .slice (some ⟨w1.heap.size, 0, none⟩) len len] W (ShutBy (coreL L) w1 W w1.heap.size len S (ordF (coreL L) k))) := Lib.hid (fun W hb2 =>
            shutIn_any _ len cap m L k w1.heap.size S w1 W (HX.out w1 (Below.refl _ _)).row HS.out HRT.out hlt hpar (HB.out.trans (hb2.mono HB.out.size)) (Nat.le_refl _) (OW.out.keep hb2) HVL.out (by
              rw [HA.out k hlt, hrk, decide_eq_false (Nat.lt_irrefl k)]; rfl))
          have HAX : Hid (∀ S2 : List Bool, (∀ i : Nat, i < len → S2[i]? = if parIn (coreL L) (ordF (coreL L) k) i then some (shutB (coreL L) i) else S[i]?) → ∀ i : Nat, i < len → S2[i]? = some (decide (rootF (coreL L) i < k + 1) && shutB (coreL L) i)) := Lib.hid (fun S2 h2 i hi => by
            have hic : i < (coreL L).length := by rw [HCL.out]; exact hi
            have T := tree_of_right HRT.out
            rw [h2 i hi]
            by_cases hpi : parIn (coreL L) (ordF (coreL L) k) i = true
            · obtain ⟨p, h3, h4⟩ := parIn_iff.1 hpi
              have h5 := (root_self HRT.out hkc hpar h4).1
              have h6 : i ∈ ordF (coreL L) k := (T.mem_ord _ k hkc (by omega) i hic).2 (holds_trans ((T.mem_ord _ k hkc (by omega) p h5).1 h4) (holds_par h3))
              have h7 := (root_self HRT.out hkc hpar h6).2
              rw [if_pos hpi, h7, decide_eq_true (Nat.lt_succ_self k), Bool.true_and]
            · rw [if_neg hpi, HA.out i hi]
              by_cases hri : rootF (coreL L) i = k
              · have hin := in_tree HRT.out hic
                rw [hri] at hin
                obtain ⟨j, hj⟩ := List.getElem?_of_mem hin
                have hsf : shutB (coreL L) i = false := by
                  rcases tree_ahead HRT.out hkc hj with e | e
                  · rw [e]; exact shut_top HRT.out hkc hpar
                  · obtain ⟨p, h3, h4⟩ := parIn_iff.1 e
                    exact absurd (parIn_iff.2 ⟨p, h3, List.mem_of_mem_take h4⟩) hpi
                rw [hsf, Bool.and_false, Bool.and_false]
              · congr 2
                rw [decide_eq_decide]
                omega)
          have hpe : (x.core.parent == -1) = true := beq_iff_eq.2 hp
          rw [hp] at c5
          have z0a : ∀ o, (wr.alloc o).cell? ⟨w.heap.size, 0, none⟩ = some (.slice (some ⟨b, off, none⟩) len cap) := fun o => (BX.out.keep (box_below _ o)).c0
          clear hx hxc hok hb hpar hpe hp hrk
          go_wp2_with (go_at_call 15; (with_reducible refine (CO.out _ (box_below _ _)).mono ?_); rintro e w4 ⟨rfl, S2, hS2⟩; have HS2 := Lib.hid hS2; clear hS2)
          go_roundw
          case rel => exact ⟨k + 1, S2, by omega, by go_num, Lib.hid HS2.out.below, Lib.hid HS2.out.row, Lib.hid HS2.out.hl, Lib.hid (HAX.out S2 HS2.out.at_)⟩
          case measure => simp [intOf]; omega
        · have HA2 : Hid (∀ i : Nat, i < len → S[i]? = some (decide (rootF (coreL L) i < k + 1) && shutB (coreL L) i)) := Lib.hid (fun i hi => by
            have hic : i < (coreL L).length := by rw [HCL.out]; exact hi
            rw [HA.out i hi]
            congr 2
            rw [decide_eq_decide]
            have : rootF (coreL L) i ≠ k := fun e => by
              have h1 := root_none HRT.out hic
              rw [e] at h1
              obtain ⟨p, _, _, h3⟩ := right_par HRT.out hxc hp
              rw [h3] at h1
              cases h1
            omega)
          have hpe : (x.core.parent == -1) = false := beq_eq_false_iff_ne.2 hp
          clear hx hxc hok hb hp
          go_wp2
          go_roundw
          case rel => exact ⟨k + 1, S, by omega, by go_num, Lib.hid (HB.out.trans ((box_below _ _).mono HB.out.size)), Lib.hid (OW.out.keep (box_below _ _)), HVL, HA2⟩
          case measure => simp [intOf]; omega
      · have HSA : Hid (∀ i : Nat, i < len → S[i]? = some (shutB (coreL L) i)) := Lib.hid (fun i hi => by
          have hic : i < (coreL L).length := by rw [HCL.out]; exact hi
          have h1 := rootF_lt2 HRT.out hic
          rw [HCL.out] at h1
          rw [HA.out i hi, decide_eq_true (show rootF (coreL L) i < k by omega), Bool.true_and])
        have HX2 : Hid (∀ W, Below wr.heap.size wr W → Box w W w.heap.size a len cap m L (coreL L)) := Lib.hid (fun W hb => BX.out.keep hb)
        have HO2 : Hid (∀ W, Below wr.heap.size wr W → ORow encT W w1.heap.size S) := Lib.hid (fun W hb => OW.out.keep hb)
        have HSZ : Hid (w.heap.size ≤ wr.heap.size) := Lib.hid BX.out.below.size
        obtain ⟨w5, hw5⟩ : ∃ w5, wr = w5 := ⟨_, rfl⟩
        subst hw5
        clear HX HB OW HVL HA BX
        go_upto_region 12 with fail
        clear z0 z1
        have OI0 : Hid (wr.ownsRow wr.heap.size 3 1 (.slice none 0 0) (barK (coreL L) 0).length ((barK (coreL L) 0).flatMap encZ)) := Lib.hid (World.ownsRow_nil _ _ _ _)
        obtain ⟨w5, hw5⟩ : ∃ w5, wr = w5 := ⟨_, rfl⟩
        rw [hw5] at HX2 HO2 HSZ OI0 ⊢
        clear hw5
        go_loopw [6, 36] (fun v i wr => ∃ k : Nat, k ≤ len ∧ i = .int .i64 k ∧ Hid (Below w5.heap.size w5 wr) ∧ Hid (wr.ownsRow w5.heap.size 3 1 v (barK (coreL L) k).length ((barK (coreL L) k).flatMap encZ))) (fun _ i _ => len - (intOf i).toNat)
        case atStart => exact ⟨0, Nat.zero_le _, rfl, Lib.hid (Below.refl _ _), OI0⟩
        case round =>
          clear OI0
          obtain ⟨k, hk, rfl, HBW, OW⟩ := hrel
          by_cases hlt : k < len
          · obtain ⟨b, off, x, rfl, hb, hx, hat, hok⟩ := (HX2.out _ HBW.out).row.get hlt
            have hxc := coreL_get hx
            obtain ⟨c0, c1, c2, c3, c4, c5, c6, c7, c8, c9⟩ := hat
            have hTc : ∀ o, (wr.alloc o).cell? ⟨w1.heap.size, k, none⟩ = some (.bool (shutB (coreL L) k)) := fun o => ((HO2.out _ HBW.out).keep (box_below _ o)).cell k _ (HSA.out k hlt)
            have HST := Lib.hid (barK_step (coreL L) k)
            have HBF := Lib.hid (barF_shut (coreL L) k)
            rw [kindK_at hxc, disB_at hxc] at HBF
            have hsl : (barK (coreL L) k).length ≤ 1000 := Nat.le_trans (barK_len _ _) (by omega)
            have CD : Hid (∀ W, Below wr.heap.size wr W → Calls Tryz.prog 16 #[nodVal x] W fun e w' => e = .returned (.bool (hasA x.core.attrs disT)) ∧ Below W.heap.size W w') := Lib.hid (fun W hb => disabled_any x W (hok.below hb))
            obtain ⟨n1, hn1⟩ : ∃ n1, (barK (coreL L) k).length = n1 := ⟨_, rfl⟩
            obtain ⟨sk, hsk⟩ : ∃ s, shutB (coreL L) k = s := ⟨_, rfl⟩
            obtain ⟨dk, hdk⟩ : ∃ d, hasA x.core.attrs disT = d := ⟨_, rfl⟩
            rw [hn1] at OW hsl
            rw [hsk] at hTc HBF
            rw [hdk] at HBF CD
            have HN1 := Lib.hid hn1
            clear hxc hx hok hb hn1 hsk hdk
            by_cases hkd : x.core.kind = 1
            · have hk1 : (x.core.kind == 1) = true := beq_iff_eq.2 hkd
              rw [decide_eq_true hkd, Bool.true_and] at HBF
              clear hkd
              cases sk with
              | true =>
                have HS2 : Hid (barK (coreL L) (k + 1) = barK (coreL L) k ++ [(k : Int)]) := Lib.hid (by rw [HST.out, if_pos (by rw [HBF.out, Bool.or_true])])
                clear HST HBF CD
                go_wp2_with (at_builtin; (first
                                | (refine wpList_append_rows rfl (.tmp 54) (.tmp 56) 27 rfl 3 i0 _ 1 8 Tryz.underlying27 hi0 hz0 hz1 hz2 rfl (by decide) w5.heap.size _ n1 (barK (coreL L) k) [(k : Int)] rfl (OW4.out.alloc _) _ 1 1 rfl (own_one_at _ _ (by simp) _ _ _ rfl rfl) (fun x _ => encZ_one x) (by unfold maxLen; omega) (by omega) (by have := HB4.out.size; simp; omega) (fun h => by cases h) ?_; intro v3 w3 hown3 hg3 hat3; have HB3 := Lib.hid (below_own HB4.out OW4.out hg3))
                                | (refine wpList_append_rows rfl (.tmp 54) (.tmp 56) 27 rfl 3 i0 _ 1 8 Tryz.underlying27 hi0 hz0 hz1 hz2 rfl (by decide) w5.heap.size _ n1 (barK (coreL L) k) [(k : Int)] rfl ((OW.out.alloc _).alloc _) _ 1 1 rfl (own_one_at _ _ (by simp) _ _ _ rfl rfl) (fun x _ => encZ_one x) (by unfold maxLen; omega) (by omega) (by have := HBW.out.size; simp; omega) (fun h => by cases h) ?_; intro v3 w3 hown3 hg3 hat3; have HB3 := Lib.hid (below_own (HBW.out.trans ((box_below _ _).mono HBW.out.size)) (OW.out.alloc _) hg3))); have HO3 := Lib.hid hown3; clear hown3 hg3 hat3)
                go_roundw
                case rel => exact ⟨k + 1, by omega, by go_num, HB3, Lib.hid (by
                  have h1 := HO3.out
                  rw [← HS2.out] at h1
                  rwa [show n1 + 1 = (barK (coreL L) (k + 1)).length by rw [HS2.out, List.length_append, HN1.out]; rfl] at h1)⟩
                case measure => simp [intOf]; omega
              | false =>
                cases dk with
                | true =>
                  have HS2 : Hid (barK (coreL L) (k + 1) = barK (coreL L) k ++ [(k : Int)]) := Lib.hid (by rw [HST.out, if_pos (by rw [HBF.out, Bool.or_false])])
                  clear HST HBF
                  go_wp2_with (first | (go_at_call 16; (with_reducible refine (CD.out _ (box_below _ _)).mono ?_); rintro e w4 ⟨rfl, hb⟩; have hbb := (box_below wr _).trans (hb.mono (box_below wr _).size); have OW4 := Lib.hid (own_below OW.out hbb); have HB4 := Lib.hid (HBW.out.trans (hbb.mono HBW.out.size)); clear hb hbb) | (at_builtin; (first
                                                    | (refine wpList_append_rows rfl (.tmp 54) (.tmp 56) 27 rfl 3 i0 _ 1 8 Tryz.underlying27 hi0 hz0 hz1 hz2 rfl (by decide) w5.heap.size _ n1 (barK (coreL L) k) [(k : Int)] rfl (OW4.out.alloc _) _ 1 1 rfl (own_one_at _ _ (by simp) _ _ _ rfl rfl) (fun x _ => encZ_one x) (by unfold maxLen; omega) (by omega) (by have := HB4.out.size; simp; omega) (fun h => by cases h) ?_; intro v3 w3 hown3 hg3 hat3; have HB3 := Lib.hid (below_own HB4.out OW4.out hg3))
                                                    | (refine wpList_append_rows rfl (.tmp 54) (.tmp 56) 27 rfl 3 i0 _ 1 8 Tryz.underlying27 hi0 hz0 hz1 hz2 rfl (by decide) w5.heap.size _ n1 (barK (coreL L) k) [(k : Int)] rfl ((OW.out.alloc _).alloc _) _ 1 1 rfl (own_one_at _ _ (by simp) _ _ _ rfl rfl) (fun x _ => encZ_one x) (by unfold maxLen; omega) (by omega) (by have := HBW.out.size; simp; omega) (fun h => by cases h) ?_; intro v3 w3 hown3 hg3 hat3; have HB3 := Lib.hid (below_own (HBW.out.trans ((box_below _ _).mono HBW.out.size)) (OW.out.alloc _) hg3))); have HO3 := Lib.hid hown3; clear hown3 hg3 hat3))
                  go_roundw
                  case rel => exact ⟨k + 1, by omega, by go_num, HB3, Lib.hid (by
                  have h1 := HO3.out
                  rw [← HS2.out] at h1
                  rwa [show n1 + 1 = (barK (coreL L) (k + 1)).length by rw [HS2.out, List.length_append, HN1.out]; rfl] at h1)⟩
                  case measure => simp [intOf]; omega
                | false =>
                  have HS2 : Hid (barK (coreL L) (k + 1) = barK (coreL L) k) := Lib.hid (by rw [HST.out, if_neg (by rw [HBF.out]; exact Bool.false_ne_true), List.append_nil])
                  clear HST HBF
                  go_wp2_with (go_at_call 16; (with_reducible refine (CD.out _ (box_below _ _)).mono ?_); rintro e w4 ⟨rfl, hb⟩; have hbb := (box_below wr _).trans (hb.mono (box_below wr _).size); have OW4 := Lib.hid (own_below OW.out hbb); have HB4 := Lib.hid (HBW.out.trans (hbb.mono HBW.out.size)); clear hb hbb)
                  go_roundw
                  case rel => exact ⟨k + 1, by omega, by go_num, HB4, Lib.hid (by rw [HS2.out, HN1.out]; exact OW4.out)⟩
                  case measure => simp [intOf]; omega
            · have hk1 : (x.core.kind == 1) = false := beq_eq_false_iff_ne.2 hkd
              have HS2 : Hid (barK (coreL L) (k + 1) = barK (coreL L) k) := Lib.hid (by rw [HST.out, if_neg (by rw [HBF.out, decide_eq_false hkd, Bool.false_and]; exact Bool.false_ne_true), List.append_nil])
              clear hkd HST HBF CD
              go_wp2
              go_roundw
              case rel => exact ⟨k + 1, by omega, by go_num, Lib.hid (HBW.out.trans ((box_below _ _).mono HBW.out.size)), Lib.hid (by rw [HS2.out, HN1.out]; exact OW.out.alloc _)⟩
              case measure => simp [intOf]; omega
          · obtain rfl : k = len := by omega
            have HIN : Hid (∀ z ∈ barK (coreL L) k, In64 z) := Lib.hid (fun z hz => by
              obtain ⟨i, rfl, hi⟩ := barK_mem hz
              exact ⟨by omega, by omega⟩)
            have HBE := Lib.hid (HX2.out _ HBW.out).below
            obtain ⟨a9, cap9, rfl, hr9, hlo9⟩ := IntRow.of_own_new (M := barK (coreL L) k) (n := (barK (coreL L) k).length) rfl OW.out HIN.out
            have HR9 := Lib.hid hr9
            have HLO := Lib.hid hlo9
            clear hr9 OW hlo9
            go_wp2
            go_ret
            exact ⟨a9, _, cap9, rfl, by rw [HR.out]; exact HR9.out, HBE.out, fun b off e => Nat.le_trans HSZ.out (HLO.out b off e)⟩
theorem barO_any (a : Option Addr) (len cap : Nat) (m : Int) (L : List NodeD) (n : Int) (w : World) (h : NodeRow w a len cap L) (hm : In64 m) (hs : smallF L) :
    Calls Tryz.prog 8 #[forV a len cap m, .int .i64 n] w fun e w' => e = .returned (.bool (barO m (coreL L) n)) ∧ Below w.heap.size w w' := by
  have BX := Lib.hid (Box.start (m := m) h)
  have z0 := BX.out.c0
  have z1 := BX.out.c1
  have CA : Hid (∀ W, NodeRow W a len cap L → Calls Tryz.prog 6 #[forV a len cap m] W (OrdNew W (allB m (coreL L)))) := Lib.hid (fun W h => allB_any a len cap m L W h hm hs)
  have HR := Lib.hid (mem_allB (m := m) (F := coreL L) (n := n))
  clear h hm hs
  go_enter Tryz.func8, Tryz.ntmps8
  go_wp2_with (first
    | (go_at_call 6; ((with_reducible refine (CA.out _ BX.out.row).mono ?_); rintro e w1 ⟨ao, lo, co, rfl, hro, hb, -⟩; have BX := Lib.hid (BX.out.keep hb); have IR := Lib.hid hro; clear hb hro))
    | (go_at_call 18; ((with_reducible refine (containsI_any _ _ _ _ _ _ IR.out).mono ?_); rintro e w2 ⟨rfl, hb⟩; have BX := Lib.hid (BX.out.keep hb); clear hb)))
  go_ret
  exact ⟨ret_bool HR.out, BX.out.below⟩
theorem legO_not {m : Int} {F : List Core} {n : Int} (h : thereF m F n = false) : legO m F n = -1 := by unfold legO; rw [h]; rfl
set_option maxHeartbeats 8000000 in
set_option maxRecDepth 100000 in
theorem legO_any (a : Option Addr) (len cap : Nat) (m : Int) (L : List NodeD) (n : Int) (w : World) (h : NodeRow w a len cap L) (hm : In64 m) (hs : smallF L) :
    Calls Tryz.prog 9 #[forV a len cap m, .int .i64 n] w fun e w' => e = .returned (.int .i64 (legO m (coreL L) n)) ∧ Below w.heap.size w w' := by
  have HCL : Hid ((coreL L).length = len) := Lib.hid (by rw [coreL_len, h.hlen])
  have hl64 := h.len64
  have BX := Lib.hid (Box.start (m := m) h)
  have z0 := BX.out.c0
  have z1 := BX.out.c1
  obtain ⟨q, hq⟩ : ∃ q, rightF m (coreL L) = q := ⟨_, rfl⟩
  have CR : Hid (∀ W, NodeRow W a len cap L → Calls Tryz.prog 14 #[forV a len cap m] W fun e w' => e = .returned (.bool q) ∧ Below W.heap.size W w') := Lib.hid (fun W h => by
    have := rightF_any a len cap m L W h hm hs
    rwa [hq] at this)
  clear hm hs
  by_cases h0 : n < 0
  · have HN : Hid (legO m (coreL L) n = -1) := Lib.hid (legO_not (by
      cases hq2 : thereF m (coreL L) n with
      | false => rfl
      | true =>
        obtain ⟨_, k, rfl, _⟩ := there_nat hq2
        omega))
    clear h CR
    go_enter Tryz.func9, Tryz.ntmps9
    go_wp2
    go_ret
    exact ⟨ret_int HN.out.symm, BX.out.below⟩
  by_cases h1 : (len : Int) ≤ n
  · have HN : Hid (legO m (coreL L) n = -1) := Lib.hid (legO_not (by
      cases hq2 : thereF m (coreL L) n with
      | false => rfl
      | true =>
        obtain ⟨_, k, rfl, hk⟩ := there_nat hq2
        rw [HCL.out] at hk
        omega))
    clear h CR
    go_enter Tryz.func9, Tryz.ntmps9
    go_wp2
    go_ret
    exact ⟨ret_int HN.out.symm, BX.out.below⟩
  obtain ⟨k, rfl⟩ : ∃ k : Nat, n = k := ⟨n.toNat, by omega⟩
  have hk : k < len := by omega
  cases q with
  | false =>
    have HN : Hid (legO m (coreL L) k = -1) := Lib.hid (legO_not (by unfold thereF; rw [hq]; rfl))
    clear h hq
    go_enter Tryz.func9, Tryz.ntmps9
    go_wp2_with (go_at_call 14; ((with_reducible refine (CR.out _ BX.out.row).mono ?_); rintro e w1 ⟨rfl, hb⟩; have BX := Lib.hid (BX.out.keep hb); clear hb z0 z1; have z0 := BX.out.c0; have z1 := BX.out.c1))
    go_ret
    exact ⟨ret_int HN.out.symm, BX.out.below⟩
  | true =>
    have HN : Hid (legO m (coreL L) k = legF (coreL L) k) := Lib.hid (legO_nat hq (by rw [HCL.out]; exact hk))
    have CL : Hid (∀ W, NodeRow W a len cap L → Calls Tryz.prog 19 #[.slice a len cap, .int .i64 k] W fun e w' => e = .returned (.int .i64 (legF (coreL L) k)) ∧ Below W.heap.size W w') := Lib.hid (fun W h => legendOf_any a len cap m L k W h hq hk)
    obtain ⟨z, hz⟩ : ∃ z, legF (coreL L) k = z := ⟨_, rfl⟩
    rw [hz] at CL HN
    clear h hq hz
    go_enter Tryz.func9, Tryz.ntmps9
    go_wp2_with (first
      | (go_at_call 14; ((with_reducible refine (CR.out _ BX.out.row).mono ?_); rintro e w1 ⟨rfl, hb⟩; have BX := Lib.hid (BX.out.keep hb); clear hb z0 z1; have z0 := BX.out.c0; have z1 := BX.out.c1))
      | (go_at_call 19; ((with_reducible refine (CL.out _ BX.out.row).mono ?_); rintro e w2 ⟨rfl, hb⟩; have BX := Lib.hid (BX.out.keep hb); clear hb z0 z1; have z0 := BX.out.c0; have z1 := BX.out.c1)))
    go_ret
    exact ⟨ret_int HN.out.symm, BX.out.below⟩
end Go.Proofs.YtnjoimedilonnaaGreat
