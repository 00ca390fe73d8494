/- Texts joined in build order: OwnerAll. -/
import Derived.Test.YtkgbgnmmgmnnlaaGreatDoorE40
import Derived.Test.YtkgbgnmmgmnnlaaGreatDoorE21
namespace Go.Proofs.YtkgbgnmmgmnnlaaGreatDoor
open Go.RowKit Go.Maps Go.WideMaps
theorem ORow.stay {α : Type} {enc : α → Value} {w w' : World} {g : Nat} {L : List α} (h : ORow enc w g L) (hb : Below w.heap.size w w') : ORow enc w' g L := h.keep hb
theorem own_list {F : List Core} {len : Nat} (hF : F.length = len) {V : List Int} (hl : V.length = len) (h : ∀ i : Nat, i < len → V[i]? = some (ownF F i)) : V = ownL F := by
  apply List.ext_getElem?
  intro i
  by_cases hi : i < len
  · rw [h i hi, ownL_get (by rw [hF]; exact hi)]
  · rw [List.getElem?_eq_none (by omega), List.getElem?_eq_none (by rw [ownL_len]; omega)]
theorem ORow.ints {W : World} {g n : Nat} {V : List Int} (h : ORow encI W g V) (hl : V.length = n) (hin : ∀ z ∈ V, In64 z) (hn : n ≤ 1000) : IntRow W (some ⟨g, 0, none⟩) n n V := by
  refine ⟨⟨hl, Nat.le_refl _, by unfold maxLen; omega, fun x _ => rfl, .inr ⟨g, 0, rfl, h.lt, fun i x j v hx hv => ?_⟩⟩, hin, fun e => by cases e⟩
  obtain ⟨hj, hv2⟩ := List.getElem?_eq_some_iff.1 hv
  have hj0 : j = 0 := by simpa [encZ] using hj
  subst hj0
  simp [encZ] at hv2
  subst hv2
  rw [show 0 + i * 1 + 0 = i by omega]
  exact h.cell i x hx
set_option maxHeartbeats 8000000 in
set_option maxRecDepth 100000 in
theorem allO_any (a : Option Addr) (len cap : Nat) (m : Int) (L : List NodeD) (w : World) (h : NodeRow w a len cap L) (hm : In64 m) (hs : smallF L) :
    Calls Tryz.prog 11 #[forV a len cap m] w (OrdNew w (allO m (coreL L))) := by
  have HCL : Hid ((coreL L).length = len) := Lib.hid (by rw [coreL_len, h.hlen])
  have hlen : len ≤ 1000 := by rw [← h.hlen]; exact hs.1
  have BX := Lib.hid (Box.start (m := m) h)
  have z0 := BX.out.c0
  have z1 := BX.out.c1
  cases hr : rightF m (coreL L) with
  | false =>
    have CR : Hid (∀ W, NodeRow W a len cap L → Calls Tryz.prog 19 #[forV a len cap m] W fun e w' => e = .returned (.bool false) ∧ Below W.heap.size W w') := Lib.hid (fun W h => by
      have := rightF_any a len cap m L W h hm hs
      rwa [hr] at this)
    have HR : Hid (allO m (coreL L) = []) := Lib.hid (by unfold allO; rw [hr]; rfl)
    clear h hm hs hr
    go_enter Tryz.func11, Tryz.ntmps11
    go_wp2_with (go_at_call 19; ((with_reducible refine (CR.out _ BX.out.row).mono ?_); rintro e w1 ⟨rfl, hb⟩; have BX := Lib.hid (BX.out.keep hb); clear hb))
    go_ret
    exact ⟨none, 0, 0, rfl, by rw [HR.out]; exact ⟨SRow.nil, (fun z hz => by cases hz), fun _ => rfl⟩, BX.out.below, fun b off e => by cases e⟩
  | true =>
    have CR : Hid (∀ W, NodeRow W a len cap L → Calls Tryz.prog 19 #[forV a len cap m] W fun e w' => e = .returned (.bool true) ∧ Below W.heap.size W w') := Lib.hid (fun W h => by
      have := rightF_any a len cap m L W h hm hs
      rwa [hr] at this)
    have HR : Hid (allO m (coreL L) = ownL (coreL L)) := Lib.hid (by unfold allO; rw [hr]; rfl)
    have hmk := run_make_row' (P := Tryz.prog) 27 3 (.int .i64 0) 8 Tryz.underlying27 int_info rfl .i64 .i64 len (by omega) (by omega)
    have HS := Lib.hid hs
    have HRT := Lib.hid hr
    clear h hm hs hr
    go_enter Tryz.func11, Tryz.ntmps11
    go_upto_region 3 with (go_at_call 19; ((with_reducible refine (CR.out _ BX.out.row).mono ?_); rintro e w1 ⟨rfl, hb⟩; have BX := Lib.hid (BX.out.keep hb); clear hb z0 z1; have z0 := BX.out.c0; have z1 := BX.out.c1))
    have z0a := (BX.out.keep (box_below w1 (.cells (madeCells #[.int .i64 0] len) 3))).c0
    go_wp2
    clear hmk z0a
    have HG : Hid (w.heap.size ≤ w1.heap.size) := Lib.hid BX.out.below.size
    have HX : Hid (∀ W, Below w1.heap.size w1 W → Box w W w.heap.size a len cap m L (coreL L)) := Lib.hid (fun W hb => BX.out.keep hb)
    have OW0 : Hid (Below w1.heap.size w1 (w1.alloc (.cells (madeCells #[.int .i64 0] len) 3)) ∧ ORow encI (w1.alloc (.cells (madeCells #[.int .i64 0] len) 3)) w1.heap.size (List.replicate len 0)) := Lib.hid ⟨box_below _ _, ORow.made w1 3 (0 : Int) len⟩
    clear BX CR z0 z1
    go_loopw [16] (fun i wr => ∃ (k : Nat) (V : List Int), k ≤ len ∧ i = .int .i64 k ∧ Hid (Below w1.heap.size w1 wr) ∧ Hid (ORow encI wr w1.heap.size V) ∧ Hid (V.length = len) ∧ Hid (∀ i : Nat, i < len → rootF (coreL L) i < k → V[i]? = some (ownF (coreL L) i))) (fun i _ => len - (intOf i).toNat)
    case atStart => exact ⟨0, _, Nat.zero_le _, rfl, Lib.hid OW0.out.1, Lib.hid OW0.out.2, Lib.hid (List.length_replicate ..), Lib.hid (fun i _ h => absurd h (by omega))⟩
    case round =>
      clear OW0
      obtain ⟨k, V, hk, rfl, HB, OW, HVL, HA⟩ := hrel
      have BX := Lib.hid (HX.out wr HB.out)
      have z0 := BX.out.c0
      have z1 := BX.out.c1
      by_cases hlt : k < len
      · obtain ⟨b, off, x, rfl, hb, hx, hat, hok⟩ := BX.out.row.get hlt
        have hxc := coreL_get hx
        obtain ⟨c0, c1, c2, c3, c4, c5, c6, c7, c8, c9⟩ := hat
        have hkc : k < (coreL L).length := by rw [HCL.out]; exact hlt
        by_cases hp : x.core.parent = -1
        · have hpar := right_top hxc hp
          have CO : Hid (∀ W, Below wr.heap.size wr W → Calls Tryz.prog 32 #[.slice (some ⟨b, off, none⟩) len cap, .int .i64 k, .slice (some ⟨w1.heap.size, 0, none⟩) len len] W (OwnedBy (coreL L) w1 W w1.heap.size len V (ordF (coreL L) k))) := Lib.hid (fun W hb2 =>
            own_any _ len cap m L k w1.heap.size V w1 W (HX.out w1 (Below.refl _ _)).row HS.out HRT.out hlt hpar (HB.out.trans (hb2.mono HB.out.size)) (Nat.le_refl _) (OW.out.keep hb2) HVL.out)
          have HAX : Hid (∀ V2 : List Int, (∀ i : Nat, V2[i]? = if i ∈ (ordF (coreL L) k).take (ordF (coreL L) k).length then some (ownF (coreL L) i) else V[i]?) → ∀ i : Nat, i < len → rootF (coreL L) i < k + 1 → V2[i]? = some (ownF (coreL L) i)) := Lib.hid (fun V2 h2 i hi hri => by
            rw [h2 i, List.take_length]
            by_cases hm : i ∈ ordF (coreL L) k
            · rw [if_pos hm]
            · rw [if_neg hm]
              have hic : i < (coreL L).length := by rw [HCL.out]; exact hi
              refine HA.out i hi ?_
              rcases Nat.lt_or_ge (rootF (coreL L) i) k with h | h
              · exact h
              · have e : rootF (coreL L) i = k := by omega
                exact absurd (e ▸ in_tree HRT.out hic) hm)
          have hpe : (x.core.parent == -1) = true := beq_iff_eq.2 hp
          rw [hp] at c5
          have z0a : ∀ o, (wr.alloc o).cell? ⟨w.heap.size, 0, none⟩ = some (.slice (some ⟨b, off, none⟩) len cap) := fun o => (BX.out.keep (box_below _ o)).c0
          clear hx hxc hok hb hpar hpe hp
          go_wp2_with (go_at_call 32; (with_reducible refine (CO.out _ (box_below _ _)).mono ?_); rintro e w4 ⟨rfl, V2, hV2⟩; have HV2 := Lib.hid hV2; clear hV2)
          go_roundw
          case rel => exact ⟨k + 1, V2, by omega, by go_num, Lib.hid HV2.out.below, Lib.hid HV2.out.row, Lib.hid HV2.out.hl, Lib.hid (HAX.out V2 HV2.out.at_)⟩
          case measure => simp [intOf]; omega
        · have HA2 : Hid (∀ i : Nat, i < len → rootF (coreL L) i < k + 1 → V[i]? = some (ownF (coreL L) i)) := Lib.hid (fun i hi hri => by
            have hic : i < (coreL L).length := by rw [HCL.out]; exact hi
            refine HA.out i hi ?_
            rcases Nat.lt_or_ge (rootF (coreL L) i) k with h | h
            · exact h
            · have e : rootF (coreL L) i = k := by omega
              have h1 := root_none HRT.out hic
              rw [e] at h1
              obtain ⟨p, _, _, h3⟩ := right_par HRT.out hxc hp
              rw [h3] at h1
              cases h1)
          have hpe : (x.core.parent == -1) = false := beq_eq_false_iff_ne.2 hp
          clear hx hxc hok hb hp
          go_wp2
          go_roundw
          case rel => exact ⟨k + 1, V, by omega, by go_num, Lib.hid (HB.out.trans ((box_below _ _).mono HB.out.size)), Lib.hid (OW.out.keep (box_below _ _)), HVL, HA2⟩
          case measure => simp [intOf]; omega
      · have HE : Hid (V = ownL (coreL L)) := Lib.hid (own_list HCL.out HVL.out (fun i hi => HA.out i hi (by
          have := rootF_lt2 HRT.out (show i < (coreL L).length by rw [HCL.out]; exact hi)
          rw [HCL.out] at this
          omega)))
        have HI : Hid (IntRow wr (some ⟨w1.heap.size, 0, none⟩) len len (ownL (coreL L))) := Lib.hid (by
          rw [← HE.out]
          refine OW.out.ints HVL.out (fun z hz => ?_) hlen
          rw [HE.out] at hz
          unfold ownL at hz
          obtain ⟨i, _, rfl⟩ := List.mem_map.1 hz
          have := ownF_lt HRT.out i
          rw [HCL.out] at this
          exact ⟨by omega, by omega⟩)
        go_wp2
        go_ret
        exact ⟨_, _, _, rfl, by rw [HR.out]; exact HI.out, BX.out.below, fun b off e => by injection e with e; injection e with e _; rw [← e]; exact HG.out⟩
theorem allO_len {m : Int} {F : List Core} : (allO m F).length = if rightF m F then F.length else 0 := by
  unfold allO
  by_cases h : rightF m F = true
  · rw [if_pos h, if_pos h, ownL_len]
  · rw [if_neg h, if_neg h]; rfl
theorem allO_get {m : Int} {F : List Core} {n : Int} {k : Nat} (hn : n = k) {z : Int} (h : (allO m F)[k]? = some z) : thereF m F n = true ∧ ofO m F n = z ∧ ownF F k = z := by
  have hl := (List.getElem?_eq_some_iff.1 h).1
  rw [allO_len] at hl
  by_cases hr : rightF m F = true
  · rw [if_pos hr] at hl
    have ht : thereF m F n = true := by subst hn; exact thereF_of hr hl
    have e : ownF F k = z := by
      unfold allO at h
      rw [if_pos hr, ownL_get hl] at h
      exact Option.some.inj h
    refine ⟨ht, ?_, e⟩
    unfold ofO
    rw [if_pos ht, hn, Int.toNat_natCast, e]
  · rw [if_neg hr] at hl
    omega
theorem allO_not {m : Int} {F : List Core} {n : Int} (h : n < 0 ∨ ((allO m F).length : Int) ≤ n) : thereF m F n = false ∧ ofO m F n = -1 ∧ membersO m F n = [] := by
  have ht : thereF m F n = false := by
    rw [allO_len] at h
    cases hq : thereF m F n with
    | false => rfl
    | true =>
      obtain ⟨hr, k, rfl, hk⟩ := there_nat hq
      rw [if_pos hr] at h
      omega
  exact ⟨ht, by unfold ofO; rw [ht]; rfl, by unfold membersO; rw [ht]; rfl⟩
set_option maxHeartbeats 8000000 in
set_option maxRecDepth 100000 in
theorem ofO_any (a : Option Addr) (len cap : Nat) (m : Int) (L : List NodeD) (n : Int) (w : World) (h : NodeRow w a len cap L) (hm : In64 m) (hs : smallF L) :
    Calls Tryz.prog 13 #[forV a len cap m, .int .i64 n] w fun e w' => e = .returned (.int .i64 (ofO m (coreL L) n)) ∧ Below w.heap.size w w' := by
  have BX := Lib.hid (Box.start (m := m) h)
  have z0 := BX.out.c0
  have z1 := BX.out.c1
  have CA : Hid (∀ W, NodeRow W a len cap L → Calls Tryz.prog 11 #[forV a len cap m] W (OrdNew W (allO m (coreL L)))) := Lib.hid (fun W h => allO_any a len cap m L W h hm hs)
  clear h hm hs
  by_cases h0 : n < 0
  · have HN := Lib.hid (allO_not (m := m) (F := coreL L) (.inl h0)).2.1
    go_enter Tryz.func13, Tryz.ntmps13
    go_wp2_with (go_at_call 11; ((with_reducible refine (CA.out _ BX.out.row).mono ?_); rintro e w1 ⟨ao, lo, co, rfl, hro, hb, hnew⟩; have BX := Lib.hid (BX.out.keep hb); have IR := Lib.hid hro; clear z0 z1; have z0 := BX.out.c0; have z1 := BX.out.c1; clear hb hro hnew))
    go_ret
    exact ⟨ret_int HN.out.symm, BX.out.below⟩
  · go_enter Tryz.func13, Tryz.ntmps13
    go_upto_region 2 with (go_at_call 11; ((with_reducible refine (CA.out _ BX.out.row).mono ?_); rintro e w1 ⟨ao, lo, co, rfl, hro, hb, hnew⟩; have BX := Lib.hid (BX.out.keep hb); have IR := Lib.hid hro; clear z0 z1; have z0 := BX.out.c0; have z1 := BX.out.c1; clear hb hro hnew))
    have hlo := IR.out.len64
    by_cases h1 : (lo : Int) ≤ n
    · have HN := Lib.hid (allO_not (m := m) (F := coreL L) (n := n) (.inr (by rw [IR.out.hlen]; exact h1))).2.1
      go_wp2
      go_ret
      exact ⟨ret_int HN.out.symm, BX.out.below⟩
    · obtain ⟨k, rfl⟩ : ∃ k : Nat, n = k := ⟨n.toNat, by omega⟩
      obtain ⟨b, off, z, rfl, hb, hz, hc, -⟩ := IR.out.get (show k < lo by omega)
      have HN := Lib.hid (allO_get (n := (k : Int)) rfl hz).2.1
      clear hz
      go_wp2
      go_ret
      exact ⟨ret_int HN.out.symm, BX.out.below⟩
def selM (F : List Core) (l : List Int) (x : Int) (k : Nat) : List Int := (l.take k).filter (fun z => ownF F z.toNat == x)
theorem selM_step {F : List Core} {l : List Int} {x : Int} {k : Nat} {z : Int} (h : l[k]? = some z) : selM F l x (k + 1) = selM F l x k ++ if ownF F z.toNat == x then [z] else [] := by
  unfold selM
  rw [List.take_add_one, h, List.filter_append]
  congr 1
  simp only [Option.toList, List.filter_cons, List.filter_nil]
theorem selM_len (F : List Core) (l : List Int) (x : Int) (k : Nat) : (selM F l x k).length ≤ l.length := Nat.le_trans (List.length_filter_le _ _) (List.length_take_le' _ _)
set_option maxHeartbeats 8000000 in
set_option maxRecDepth 100000 in
theorem membersNew_any (a : Option Addr) (len cap : Nat) (m : Int) (L : List NodeD) (n : Int) (w : World) (h : NodeRow w a len cap L) (hm : In64 m) (hs : smallF L) :
    Calls Tryz.prog 14 #[forV a len cap m, .int .i64 n] w (OrdNew w (membersO m (coreL L) n)) := by
  have HCL : Hid ((coreL L).length = len) := Lib.hid (by rw [coreL_len, h.hlen])
  have hlen : len ≤ 1000 := by rw [← h.hlen]; exact hs.1
  have BX := Lib.hid (Box.start (m := m) h)
  have z0 := BX.out.c0
  have z1 := BX.out.c1
  have CA : Hid (∀ W, NodeRow W a len cap L → Calls Tryz.prog 11 #[forV a len cap m] W (OrdNew W (allO m (coreL L)))) := Lib.hid (fun W h => allO_any a len cap m L W h hm hs)
  have HS := Lib.hid hs
  obtain ⟨i0, hi0, hz0, hz1, hz2⟩ := info_parts int_info
  clear h hm hs
  by_cases h0 : n < 0
  · have HN := Lib.hid (allO_not (m := m) (F := coreL L) (.inl h0)).2.2
    go_enter Tryz.func14, Tryz.ntmps14
    go_wp2_with (go_at_call 11; ((with_reducible refine (CA.out _ BX.out.row).mono ?_); rintro e w1 ⟨ao, lo, co, rfl, hro, hb, hnew⟩; have BX := Lib.hid (BX.out.keep hb); have IR := Lib.hid hro; clear z0 z1; have z0 := BX.out.c0; have z1 := BX.out.c1; clear hb hro hnew))
    go_ret
    exact ⟨none, 0, 0, rfl, by rw [HN.out]; exact ⟨SRow.nil, (fun z hz => by cases hz), fun _ => rfl⟩, BX.out.below, fun b off e => by cases e⟩
  · go_enter Tryz.func14, Tryz.ntmps14
    go_upto_region 2 with (go_at_call 11; ((with_reducible refine (CA.out _ BX.out.row).mono ?_); rintro e w1 ⟨ao, lo, co, rfl, hro, hb, hnew⟩; have BX := Lib.hid (BX.out.keep hb); have IR := Lib.hid hro; clear z0 z1; have z0 := BX.out.c0; have z1 := BX.out.c1; clear hb hro hnew))
    have hlo := IR.out.len64
    by_cases h1 : (lo : Int) ≤ n
    · have HN := Lib.hid (allO_not (m := m) (F := coreL L) (n := n) (.inr (by rw [IR.out.hlen]; exact h1))).2.2
      go_wp2
      go_ret
      exact ⟨none, 0, 0, rfl, by rw [HN.out]; exact ⟨SRow.nil, (fun z hz => by cases hz), fun _ => rfl⟩, BX.out.below, fun b off e => by cases e⟩
    · obtain ⟨x, rfl⟩ : ∃ k : Nat, n = k := ⟨n.toNat, by omega⟩
      obtain ⟨b0, off0, z, rfl, -, hz, -, -⟩ := IR.out.get (show x < lo by omega)
      have HTH := Lib.hid (allO_get (m := m) (F := coreL L) (n := (x : Int)) rfl hz).1
      have HRT := Lib.hid (there_nat HTH.out).1
      have hx : x < len := by
        obtain ⟨_, k, h1, h2⟩ := there_nat HTH.out
        rw [HCL.out] at h2
        omega
      have HAL : Hid (allO m (coreL L) = ownL (coreL L)) := Lib.hid (by unfold allO; rw [HRT.out]; rfl)
      rw [HAL.out] at IR
      have hloe : lo = len := by have := IR.out.hlen; rw [ownL_len, HCL.out] at this; exact this.symm
      subst hloe
      obtain ⟨R, hR⟩ : ∃ R, rootF (coreL L) x = R := ⟨_, rfl⟩
      have hRl : R < lo := by rw [← hR, ← HCL.out]; exact rootF_lt2 HRT.out (by rw [HCL.out]; exact hx)
      obtain ⟨l, hl⟩ : ∃ l, ordI (coreL L) (R : Int) = l := ⟨_, rfl⟩
      have HM : Hid (membersO m (coreL L) x = selM (coreL L) l x l.length) := Lib.hid (by
        unfold membersO memO selM
        rw [if_pos HTH.out, Int.toNat_natCast, hR, hl, List.take_length])
      have NUM : Hid (∀ z ∈ l, ∃ k : Nat, z = k ∧ k < lo) := Lib.hid (fun z hz => by
        rw [← hl, ordI_nat] at hz
        unfold natL at hz
        obtain ⟨k, hk, rfl⟩ := List.mem_map.1 hz
        exact ⟨k, rfl, by rw [← HCL.out]; exact ordF_lt HRT.out (by rw [HCL.out]; exact hRl) k hk⟩)
      have HLL : Hid (l.length ≤ 1000) := Lib.hid (by
        rw [← hl]
        exact Nat.le_trans (ordI_len HRT.out (by rw [HCL.out]; exact hRl)) (by rw [HCL.out]; exact hlen))
      have CU : Hid (∀ W, NodeRow W a lo cap L → Calls Tryz.prog 35 #[.slice a lo cap, .int .i64 x] W fun e w' => e = .returned (.int .i64 (R : Nat)) ∧ W = w') := Lib.hid (fun W h => by
        rw [← hR]
        exact rootUp_any a lo cap m L x W h HRT.out hx)
      have CT : Hid (∀ W, NodeRow W a lo cap L → Calls Tryz.prog 34 #[.slice a lo cap, .int .i64 R] W (OrdNew W l)) := Lib.hid (fun W h => by
        rw [← hl]
        exact wtree_any a lo cap m L R W h HS.out HRT.out hRl)
      clear hz hR hl HTH HAL CA h1
      have hx0 : ¬ ((x : Int) < 0) := by omega
      have hx1 : ¬ ((lo : Int) ≤ (x : Int)) := by omega
      go_upto_region 5 with fail
      clear hx0 hx1
      have LT := Lib.hid BX.out.lt
      have HXB : Hid (∀ W, Below w1.heap.size w1 W → Box w W w.heap.size a lo cap m L (coreL L)) := Lib.hid (fun W hb => BX.out.keep hb)
      have SV : w1.cell? ⟨w.heap.size, 0, none⟩ = some (.slice a lo cap) ∧ Below w1.heap.size w1 w1 := ⟨z0, Below.refl _ _⟩
      have HIR : Hid (∀ W, Below w1.heap.size w1 W → IntRow W (some ⟨b0, off0, none⟩) lo co (ownL (coreL L))) := Lib.hid (fun W hb => IR.out.below hb)
      clear z0 z1 BX IR h0
      go_cut [25, 26, 27] (fun tr tn ti wx => True ∧ ∃ ta tl tc, tr = .slice ta tl tc ∧ tn = .int .i64 ((tl : Nat) : Int) ∧ ti = .int .i64 0 ∧ Hid (IntRow wx ta tl tc l) ∧ Hid (Below w1.heap.size w1 wx))
      case first =>
        go_region_held3 (fun w' => w'.cell? ⟨w.heap.size, 0, none⟩ = some (.slice a lo cap) ∧ Below w1.heap.size w1 w')
          (with_reducible first | (refine keep1 LT.out SV ?_; first | exact HWX.out | exact HWX.out.drew | exact (Below.refl _ _).drew) | assumption)
          (first
            | (go_at_call 35; (with_reducible refine (CU.out _ (HXB.out _ (kept1 ‹_ ∧ Below _ _ _›)).row).mono ?_); rintro e w2 ⟨rfl, rfl⟩)
            | (go_at_call 34; (with_reducible refine (CT.out _ (HXB.out _ (kept1 ‹_ ∧ Below _ _ _›)).row).mono ?_); rintro e w3 ⟨ta, tl, tc, rfl, hti, hb, -⟩; have HWX := Lib.hid ((kept1 ‹_ ∧ Below _ _ _›).trans (hb.mono (kept1 ‹_ ∧ Below _ _ _›).size)); have IR := Lib.hid hti; clear hti hb))
        all_goals
          go_wp2_with fail
          go_meet
          first
            | exact ⟨trivial, _, _, _, rfl, rfl, rfl, IR, HWX⟩
            | exact ⟨trivial, _, _, _, rfl, rfl, rfl, Lib.hid (IR.out.drewN 1), Lib.hid HWX.out.drew⟩
      case rest =>
        obtain ⟨-, ta, tl, tc, rfl, rfl, rfl, IR, HWX⟩ := hcut
        have htl64 := IR.out.len64
        have htl1k : tl ≤ 1000 := by rw [← IR.out.hlen]; exact HLL.out
        clear SV CU CT
        have HIR2 : Hid (∀ W, Below wc.heap.size wc W → IntRow W (some ⟨b0, off0, none⟩) lo co (ownL (coreL L))) := Lib.hid (fun W hb => HIR.out W (HWX.out.trans (hb.mono HWX.out.size)))
        have HBE : Hid (∀ W, Below wc.heap.size wc W → Below w.heap.size w W) := Lib.hid (fun W hb => (HXB.out W (HWX.out.trans (hb.mono HWX.out.size))).below)
        have OW0 : Hid (wc.ownsRow wc.heap.size 3 1 (.slice none 0 0) (selM (coreL L) l x 0).length ((selM (coreL L) l x 0).flatMap encZ)) := Lib.hid (World.ownsRow_nil _ _ _ _)
        clear HXB HIR HWX LT
        go_wp2
        go_loopw [6, 27] (fun v i wr => ∃ k : Nat, k ≤ tl ∧ i = .int .i64 k ∧ Hid (Below wc.heap.size wc wr) ∧ Hid (wr.ownsRow wc.heap.size 3 1 v (selM (coreL L) l x k).length ((selM (coreL L) l x k).flatMap encZ))) (fun _ i _ => tl - (intOf i).toNat)
        case atStart => exact ⟨0, Nat.zero_le _, rfl, Lib.hid (Below.refl _ _), OW0⟩
        case round =>
          clear OW0
          obtain ⟨k, hk, rfl, HBW, OW⟩ := hrel
          by_cases hlt : k < tl
          · obtain ⟨bo, oo, z, rfl, hbo, hz, hcz, -⟩ := (IR.out.below HBW.out).get hlt
            obtain ⟨q, rfl, hq⟩ := NUM.out z (List.mem_of_getElem? hz)
            obtain ⟨b, off, y, hab, hb, hy, hcy, -⟩ := (HIR2.out wr HBW.out).get hq
            injection hab with hab
            injection hab with hab1 hab2
            subst hab1
            subst hab2
            have HYE : Hid (ownF (coreL L) q = y) := Lib.hid (by
              rw [ownL_get (by rw [HCL.out]; exact hq)] at hy
              exact Option.some.inj hy)
            have HST := Lib.hid (selM_step (F := coreL L) (x := (x : Int)) hz)
            have hsl : (selM (coreL L) l x k).length ≤ 1000 := Nat.le_trans (selM_len _ _ _ _) HLL.out
            obtain ⟨n1, hn1⟩ : ∃ n1, (selM (coreL L) l x k).length = n1 := ⟨_, rfl⟩
            have HN1 := Lib.hid hn1
            rw [hn1] at OW hsl
            clear hz hy hn1 hb hbo
            by_cases hkd : y = (x : Int)
            · have hk1 : (y == (x : Int)) = true := beq_iff_eq.2 hkd
              have HS2 : Hid (selM (coreL L) l x (k + 1) = selM (coreL L) l x k ++ [(q : Int)]) := Lib.hid (by rw [HST.out, Int.toNat_natCast, HYE.out, hk1]; rfl)
              clear hkd
              go_wp2_with (at_builtin
                           refine wpList_append_rows rfl (.tmp 37) (.tmp 39) 27 rfl 3 i0 _ 1 8 Tryz.underlying27 hi0 hz0 hz1 hz2 rfl (by decide) wc.heap.size _ n1 (selM (coreL L) l x k) [(q : Int)] rfl (OW.out.alloc _) _ 1 1 rfl (own_one _ _ _ _ rfl rfl) (fun x _ => encZ_one x) (by unfold maxLen; omega) (by omega) (by have := HBW.out.size; simp; omega) (fun h => by cases h) ?_
                           intro v3 w3 hown3 hg3 hat3
                           have HB3 := Lib.hid (below_own HBW.out OW.out hg3)
                           have HO3 := Lib.hid hown3
                           clear hown3 hg3 hat3)
              go_roundw
              case rel => exact ⟨k + 1, by omega, by go_num, HB3, Lib.hid (by
                have h1 := HO3.out
                rw [← HS2.out] at h1
                rwa [show n1 + 1 = (selM (coreL L) l x (k + 1)).length by rw [HS2.out, List.length_append, HN1.out]; rfl] at h1)⟩
              case measure => simp [intOf]; omega
            · have hk1 : (y == (x : Int)) = false := beq_eq_false_iff_ne.2 hkd
              have HS2 : Hid (selM (coreL L) l x (k + 1) = selM (coreL L) l x k) := Lib.hid (by rw [HST.out, Int.toNat_natCast, HYE.out, hk1]; simp)
              clear hkd
              go_wp2
              go_roundw
              case rel => exact ⟨k + 1, by omega, by go_num, HBW, Lib.hid (by rw [HS2.out, HN1.out]; exact OW.out)⟩
              case measure => simp [intOf]; omega
          · have hkk : k = tl := by omega
            subst hkk
            have HIN : Hid (∀ z ∈ selM (coreL L) l x k, In64 z) := Lib.hid (fun z hz => by
              unfold selM at hz
              obtain ⟨q, rfl, hq⟩ := NUM.out z (List.mem_of_mem_take ((List.mem_filter.1 hz).1))
              exact ⟨by omega, by omega⟩)
            have HSE : Hid (membersO m (coreL L) x = selM (coreL L) l x k) := Lib.hid (by rw [HM.out, IR.out.hlen])
            obtain ⟨a9, cap9, rfl, hr9, hlo9⟩ := IntRow.of_own_new (M := selM (coreL L) l x k) (n := (selM (coreL L) l x k).length) rfl OW.out HIN.out
            have HR9 := Lib.hid hr9
            have HLO := Lib.hid hlo9
            clear hr9 OW hlo9
            go_wp2
            go_ret
            exact ⟨a9, _, cap9, rfl, by rw [HSE.out]; exact HR9.out, HBE.out _ HBW.out, fun b off e => Nat.le_trans (HBE.out _ (Below.refl _ _)).size (HLO.out b off e)⟩
theorem membersO_any (a : Option Addr) (len cap : Nat) (m : Int) (L : List NodeD) (n : Int) (w : World) (h : NodeRow w a len cap L) (hm : In64 m) (hs : smallF L) :
    Calls Tryz.prog 14 #[forV a len cap m, .int .i64 n] w (OrdPost w (membersO m (coreL L) n)) := (membersNew_any a len cap m L n w h hm hs).mono fun _ _ h => h.post
end Go.Proofs.YtkgbgnmmgmnnlaaGreatDoor
