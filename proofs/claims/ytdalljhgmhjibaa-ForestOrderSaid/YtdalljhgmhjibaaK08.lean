/- Texts joined in build order: ForestOrder. -/
import Derived.Test.YtdalljhgmhjibaaK02
import Derived.Test.YtdalljhgmhjibaaK07
/- The walk of the law ForestOrder, over the contracts of package forest. -/
namespace Go.Proofs.Ytdalljhgmhjibaa
open Go.RowKit
set_option maxHeartbeats 16000000 in
set_option maxRecDepth 100000 in
theorem forestOrder_walk (F : ForestFns) (a0 : Option Addr) (len0 cap0 : Nat) (m : Int) (L0 : List NodeD) (x y : Int) (w : World)
    (h0 : NodeRow w a0 len0 cap0 L0) (hm : In64 m) (hx : 0 ≤ x ∧ x ≤ 255) (hy : 0 ≤ y ∧ y ≤ 255) :
    Calls Try.prog 4 #[forV a0 len0 cap0 m, .int .u8 x, .int .u8 y] w fun e w' => e = .returned (.bool true) ∧ Below w.heap.size w w' := by
  have AW := Lib.hid (fun W => awake3_any F W)
  have HF := Lib.hid F
  have BX := Lib.hid (Box.start (m := m) h0)
  have hl0 := h0.len64
  have HL := Lib.hid h0.hlen
  have HM := Lib.hid hm
  clear h0 F hm
  cases c0 : shortF L0 with
  | false =>
    have C0 := Lib.hid c0
    go_enter Try.func4, Try.ntmps4
    go_wp2_with (first
                    | (go_at_call 11; (with_reducible refine (AW.out _).mono ?_); rintro e w1 ⟨rfl, hb⟩; have BX := Lib.hid (BX.out.keep hb); have z0 := BX.out.c0; have z1 := BX.out.c1; clear hb)
                    | (go_at_call 12; (with_reducible refine (refshortF_any _ _ _ _ _ _ BX.out.row).mono ?_); rintro e w1 ⟨rfl, hb⟩; have BX := Lib.hid (BX.out.keep hb); have z0 := BX.out.c0; have z1 := BX.out.c1; clear hb)
                    | (go_at_call 16; (with_reducible refine (HR.out _ BX.out.row).mono ?_); rintro e w1 ⟨rfl, hb⟩; have BX := Lib.hid (BX.out.keep hb); have z0 := BX.out.c0; have z1 := BX.out.c1; clear hb))
    go_ret
    exact ⟨rfl, BX.out.below⟩
  | true =>
    have SM := Lib.hid (small_of_short c0)
    cases c1 : rightF m (coreL L0) with
    | false =>
      have HR : Hid (∀ W, NodeRow W a0 len0 cap0 L0 → Calls Try.prog 16 #[forV a0 len0 cap0 m] W fun e w' => e = .returned (.bool false) ∧ Below W.heap.size W w') := Lib.hid (fun W h => by
        have := HF.out.right a0 len0 cap0 m L0 W h HM.out SM.out
        rwa [c1] at this)
      clear c1
      go_enter Try.func4, Try.ntmps4
      go_wp2_with (first
                      | (go_at_call 11; (with_reducible refine (AW.out _).mono ?_); rintro e w1 ⟨rfl, hb⟩; have BX := Lib.hid (BX.out.keep hb); have z0 := BX.out.c0; have z1 := BX.out.c1; clear hb)
                      | (go_at_call 12; (with_reducible refine (refshortF_any _ _ _ _ _ _ BX.out.row).mono ?_); rintro e w1 ⟨rfl, hb⟩; have BX := Lib.hid (BX.out.keep hb); have z0 := BX.out.c0; have z1 := BX.out.c1; clear hb)
                      | (go_at_call 16; (with_reducible refine (HR.out _ BX.out.row).mono ?_); rintro e w1 ⟨rfl, hb⟩; have BX := Lib.hid (BX.out.keep hb); have z0 := BX.out.c0; have z1 := BX.out.c1; clear hb))
      go_ret
      exact ⟨rfl, BX.out.below⟩
    | true =>
      have HR : Hid (∀ W, NodeRow W a0 len0 cap0 L0 → Calls Try.prog 16 #[forV a0 len0 cap0 m] W fun e w' => e = .returned (.bool true) ∧ Below W.heap.size W w') := Lib.hid (fun W h => by
        have := HF.out.right a0 len0 cap0 m L0 W h HM.out SM.out
        rwa [c1] at this)
      have C1 := Lib.hid c1
      have hlc : (coreL L0).length = len0 := by
        unfold coreL
        rw [List.length_map, HL.out]
      have hlp : 0 < len0 := by
        have := right_len c1
        rwa [hlc] at this
      clear c1
      obtain ⟨X, hX⟩ : ∃ X : Nat, x % (len0 : Int) = X := ⟨(x % (len0 : Int)).toNat, by have := Int.emod_nonneg x (show (len0 : Int) ≠ 0 by omega); omega⟩
      obtain ⟨Y, hY⟩ : ∃ Y : Nat, y % (len0 : Int) = Y := ⟨(y % (len0 : Int)).toNat, by have := Int.emod_nonneg y (show (len0 : Int) ≠ 0 by omega); omega⟩
      have hXl : X < len0 := by have := Int.emod_lt_of_pos x (show (0 : Int) < len0 by omega); omega
      have hYl : Y < len0 := by have := Int.emod_lt_of_pos y (show (0 : Int) < len0 by omega); omega
      have FX := Lib.hid (order_facts (x := X) (y := Y) C1.out (by omega) (by omega))
      have in_nat : ∀ k : Nat, k < len0 → In64 (k : Int) := fun k hk => ⟨by omega, by omega⟩
      obtain ⟨l, hl⟩ : ∃ l, ordZ m (coreL L0) (X : Int) = l := ⟨_, rfl⟩
      have GO : Hid (∀ W, NodeRow W a0 len0 cap0 L0 → Calls Try.prog 20 #[forV a0 len0 cap0 m, .int .i64 X] W (OrdPost W l)) := Lib.hid (fun W h => by
        rw [← hl]
        exact HF.out.order a0 len0 cap0 m L0 X W h HM.out (in_nat X hXl) SM.out)
      rw [hl] at FX
      clear hl
      have GH : Hid (∀ W (u v : Nat) (b : Bool), NodeRow W a0 len0 cap0 L0 → u < len0 → v < len0 → holdsZ m (coreL L0) u v = b → Calls Try.prog 21 #[forV a0 len0 cap0 m, .int .i64 u, .int .i64 v] W fun e w' => e = .returned (.bool b) ∧ Below W.heap.size W w') := Lib.hid (fun W u v b h hu hv hb => by
        rw [← hb]
        exact HF.out.holds a0 len0 cap0 m L0 u v W h HM.out (in_nat u hu) (in_nat v hv) SM.out)
      have GR : Hid (∀ W (u : Nat) (r : Int), NodeRow W a0 len0 cap0 L0 → u < len0 → rootZ m (coreL L0) u = r → Calls Try.prog 19 #[forV a0 len0 cap0 m, .int .i64 u] W fun e w' => e = .returned (.int .i64 r) ∧ Below W.heap.size W w') := Lib.hid (fun W u r h hu hr => by
        rw [← hr]
        exact HF.out.root a0 len0 cap0 m L0 u W h HM.out (in_nat u hu) SM.out)
      have GA : Hid (∀ W (u v : Nat) (b : Bool), NodeRow W a0 len0 cap0 L0 → u < len0 → v < len0 → aheadZ m (coreL L0) u v = b → Calls Try.prog 23 #[forV a0 len0 cap0 m, .int .i64 u, .int .i64 v] W fun e w' => e = .returned (.bool b) ∧ Below W.heap.size W w') := Lib.hid (fun W u v b h hu hv hb => by
        rw [← hb]
        exact HF.out.ahead a0 len0 cap0 m L0 u v W h HM.out (in_nat u hu) (in_nat v hv) SM.out)
      clear SM HF
      go_enter Try.func4, Try.ntmps4
      go_wp2_with (first
                      | (go_at_call 11; (with_reducible refine (AW.out _).mono ?_); rintro e w1 ⟨rfl, hb⟩; have BX := Lib.hid (BX.out.keep hb); have z0 := BX.out.c0; have z1 := BX.out.c1; clear hb)
                      | (go_at_call 12; (with_reducible refine (refshortF_any _ _ _ _ _ _ BX.out.row).mono ?_); rintro e w1 ⟨rfl, hb⟩; have BX := Lib.hid (BX.out.keep hb); have z0 := BX.out.c0; have z1 := BX.out.c1; clear hb)
                      | (go_at_call 16; (with_reducible refine (HR.out _ BX.out.row).mono ?_); rintro e w1 ⟨rfl, hb⟩; have BX := Lib.hid (BX.out.keep hb); have z0 := BX.out.c0; have z1 := BX.out.c1; clear hb))
      have E0 := Ext.cell z0 BX.out.lt
      have E1 := Ext.cell z1 BX.out.lt
      refine wp_region_ext (by kernel_rfl) (by kernel_rfl) ?_
      repeat (go_big_quiet_step (fail))
      refine wpQuiet_nil ?_
      intro w' hw'
      obtain ⟨⟨w2, hb2⟩, hw''⟩ := hw'
      dsimp only at hw''
      subst hw''
      clear E0 E1
      rw [hX, hY]
      clear hX hY
      have BX := Lib.hid (BX.out.keep hb2)
      have z0 := BX.out.c0
      have z1 := BX.out.c1
      clear hb2
      go_wp2_with (go_at_call 20; (with_reducible refine (GO.out _ BX.out.row).mono ?_); rintro e w1 ⟨ao, leno, capo, rfl, hro, hb⟩; have BX := Lib.hid (BX.out.keep hb); have z0 := BX.out.c0; have z1 := BX.out.c1; have RO := Lib.hid hro; clear hb hro)
      have GC : Hid (∀ W (n r : Int), IntRow W ao leno capo l → ((hasZ l n : Nat) : Int) = r → Calls Try.prog 31 #[.slice ao leno capo, .int .i64 n] W fun e w' => e = .returned (.int .i64 r) ∧ W = w') := Lib.hid (fun W n r h hr => by
        rw [← hr]
        exact refhas_any ao leno capo l n W h)
      have GF : Hid (∀ W (n r : Int), IntRow W ao leno capo l → findZ l n = r → Calls Try.prog 32 #[.slice ao leno capo, .int .i64 n] W fun e w' => e = .returned (.int .i64 r) ∧ W = w') := Lib.hid (fun W n r h hr => by
        rw [← hr]
        exact reffind_any ao leno capo l n W h)
      go_loopw [10] (fun i wr => ∃ k : Nat, k ≤ len0 ∧ i = .int .i64 k ∧ Hid (Box w wr w.heap.size a0 len0 cap0 m L0 (coreL L0)) ∧ Hid (IntRow wr ao leno capo l)) (fun i _ => len0 - (intOf i).toNat)
      case atStart => exact ⟨0, Nat.zero_le _, rfl, BX, RO⟩
      case round =>
        clear BX RO z0 z1
        obtain ⟨k, hk, rfl, BX, RO⟩ := hrel
        have z0 := BX.out.c0
        have z1 := BX.out.c1
        by_cases hlt : k < len0
        · have hmy := FX.out.many k (by rw [hlc]; exact hlt)
          cases e1 : holdsZ m (coreL L0) X k with
          | true =>
            rw [e1, if_pos rfl] at hmy
            have hmy : ((hasZ l (k : Int) : Nat) : Int) = 1 := by rw [hmy]; rfl
            go_wp2_with (first
                            | (go_at_call 21; (refine (GH.out _ _ _ _ BX.out.row (by assumption) (by assumption) (by assumption)).mono ?_); rintro e w1 ⟨rfl, hb⟩; have BX := Lib.hid (BX.out.keep hb); have RO := Lib.hid (RO.out.below hb); have z0 := BX.out.c0; have z1 := BX.out.c1; clear hb)
                            | (go_at_call 19; (refine (GR.out _ _ _ BX.out.row (by assumption) (by assumption)).mono ?_); rintro e w1 ⟨rfl, hb⟩; have BX := Lib.hid (BX.out.keep hb); have RO := Lib.hid (RO.out.below hb); have z0 := BX.out.c0; have z1 := BX.out.c1; clear hb)
                            | (go_at_call 23; (refine (GA.out _ _ _ _ BX.out.row (by assumption) (by assumption) (by assumption)).mono ?_); rintro e w1 ⟨rfl, hb⟩; have BX := Lib.hid (BX.out.keep hb); have RO := Lib.hid (RO.out.below hb); have z0 := BX.out.c0; have z1 := BX.out.c1; clear hb)
                            | (go_at_call 31; (refine (GC.out _ _ _ RO.out (by assumption)).mono ?_); rintro e w1 ⟨rfl, rfl⟩)
                            | (go_at_call 32; (refine (GF.out _ _ _ RO.out (by assumption)).mono ?_); rintro e w1 ⟨rfl, rfl⟩))
            go_roundw
            case rel => exact ⟨k + 1, hlt, by go_num, BX, RO⟩
            case measure => simp [intOf]; omega
          | false =>
            rw [e1, if_neg (by decide)] at hmy
            have hmy : ((hasZ l (k : Int) : Nat) : Int) = 0 := by rw [hmy]; rfl
            go_wp2_with (first
                            | (go_at_call 21; (refine (GH.out _ _ _ _ BX.out.row (by assumption) (by assumption) (by assumption)).mono ?_); rintro e w1 ⟨rfl, hb⟩; have BX := Lib.hid (BX.out.keep hb); have RO := Lib.hid (RO.out.below hb); have z0 := BX.out.c0; have z1 := BX.out.c1; clear hb)
                            | (go_at_call 19; (refine (GR.out _ _ _ BX.out.row (by assumption) (by assumption)).mono ?_); rintro e w1 ⟨rfl, hb⟩; have BX := Lib.hid (BX.out.keep hb); have RO := Lib.hid (RO.out.below hb); have z0 := BX.out.c0; have z1 := BX.out.c1; clear hb)
                            | (go_at_call 23; (refine (GA.out _ _ _ _ BX.out.row (by assumption) (by assumption) (by assumption)).mono ?_); rintro e w1 ⟨rfl, hb⟩; have BX := Lib.hid (BX.out.keep hb); have RO := Lib.hid (RO.out.below hb); have z0 := BX.out.c0; have z1 := BX.out.c1; clear hb)
                            | (go_at_call 31; (refine (GC.out _ _ _ RO.out (by assumption)).mono ?_); rintro e w1 ⟨rfl, rfl⟩)
                            | (go_at_call 32; (refine (GF.out _ _ _ RO.out (by assumption)).mono ?_); rintro e w1 ⟨rfl, rfl⟩))
            go_roundw
            case rel => exact ⟨k + 1, hlt, by go_num, BX, RO⟩
            case measure => simp [intOf]; omega
        · go_wp2_with (first
                          | (go_at_call 21; (refine (GH.out _ _ _ _ BX.out.row (by assumption) (by assumption) (by assumption)).mono ?_); rintro e w1 ⟨rfl, hb⟩; have BX := Lib.hid (BX.out.keep hb); have RO := Lib.hid (RO.out.below hb); have z0 := BX.out.c0; have z1 := BX.out.c1; clear hb)
                          | (go_at_call 19; (refine (GR.out _ _ _ BX.out.row (by assumption) (by assumption)).mono ?_); rintro e w1 ⟨rfl, hb⟩; have BX := Lib.hid (BX.out.keep hb); have RO := Lib.hid (RO.out.below hb); have z0 := BX.out.c0; have z1 := BX.out.c1; clear hb)
                          | (go_at_call 23; (refine (GA.out _ _ _ _ BX.out.row (by assumption) (by assumption) (by assumption)).mono ?_); rintro e w1 ⟨rfl, hb⟩; have BX := Lib.hid (BX.out.keep hb); have RO := Lib.hid (RO.out.below hb); have z0 := BX.out.c0; have z1 := BX.out.c1; clear hb)
                          | (go_at_call 31; (refine (GC.out _ _ _ RO.out (by assumption)).mono ?_); rintro e w1 ⟨rfl, rfl⟩)
                          | (go_at_call 32; (refine (GF.out _ _ _ RO.out (by assumption)).mono ?_); rintro e w1 ⟨rfl, rfl⟩))
          have hlo := RO.out.hlen
          have hl64 := RO.out.len64
          have hlp2 : 0 < leno := by
            have h1 := (List.getElem?_eq_some_iff.1 FX.out.pos).1
            rwa [hlo] at h1
          obtain ⟨b, off, -, hab, -⟩ := BX.out.row.get hXl
          subst hab
          obtain ⟨bo, oo, -, hao, -⟩ := RO.out.get hlp2
          subst hao
          have CASES : ∃ (r1 r2 : Int) (c1 c2 c3 : Bool), rootZ m (coreL L0) X = r1 ∧ rootZ m (coreL L0) Y = r2 ∧ aheadZ m (coreL L0) X Y = c1 ∧ aheadZ m (coreL L0) Y X = c2 ∧ holdsZ m (coreL L0) X Y = c3 ∧
              ((X = Y ∧ r1 = r2 ∧ c1 = false ∧ c2 = false ∧ c3 = true) ∨ ((¬ (X : Int) = Y ∧ ((X : Int) != (Y : Int)) = true) ∧ r1 = r2 ∧ c1 = true ∧ c2 = false ∧ c3 = true) ∨ ((¬ (X : Int) = Y ∧ ((X : Int) != (Y : Int)) = true) ∧ r1 = r2 ∧ c1 = true ∧ c2 = false ∧ c3 = false) ∨ ((¬ (X : Int) = Y ∧ ((X : Int) != (Y : Int)) = true) ∧ r1 = r2 ∧ c1 = false ∧ c2 = true ∧ c3 = false) ∨ ((¬ (X : Int) = Y ∧ ((X : Int) != (Y : Int)) = true) ∧ ¬ r1 = r2 ∧ c1 = false ∧ c2 = false ∧ c3 = false)) := by
            refine ⟨_, _, _, _, _, rfl, rfl, rfl, rfl, rfl, ?_⟩
            by_cases e : X = Y
            · obtain ⟨s1, s2⟩ := FX.out.self e
              refine .inl ⟨e, by rw [e], s1, s2, ?_⟩
              rw [← e]
              exact (holdsZ_iff C1.out (by omega) (by omega)).2 (holds_refl X)
            · have ei0 : ¬ (X : Int) = Y := fun g => e (Int.ofNat.inj g)
              have ei : ¬ (X : Int) = Y ∧ ((X : Int) != (Y : Int)) = true := ⟨ei0, bne_iff_ne.2 ei0⟩
              by_cases er : rootZ m (coreL L0) X = rootZ m (coreL L0) Y
              · have h1 := FX.out.one er e
                cases h2 : aheadZ m (coreL L0) Y X with
                | true =>
                  rw [h2] at h1
                  cases h3 : holdsZ m (coreL L0) X Y with
                  | true =>
                    have := FX.out.held h3 e
                    rw [h1] at this
                    cases this
                  | false => exact .inr (.inr (.inr (.inl ⟨ei, er, h1, rfl, rfl⟩)))
                | false =>
                  rw [h2] at h1
                  cases h3 : holdsZ m (coreL L0) X Y with
                  | true => exact .inr (.inl ⟨ei, er, h1, rfl, rfl⟩)
                  | false => exact .inr (.inr (.inl ⟨ei, er, h1, rfl, rfl⟩))
              · obtain ⟨s1, s2⟩ := FX.out.apart er
                cases h3 : holdsZ m (coreL L0) X Y with
                | true =>
                  have := FX.out.held h3 e
                  rw [s1] at this
                  cases this
                | false => exact .inr (.inr (.inr (.inr ⟨ei, er, s1, s2, rfl⟩)))
          replace CASES := Lib.hid CASES
          go_loopw [12] (fun i wr => ∃ k : Nat, 1 ≤ k ∧ k ≤ leno ∧ i = .int .i64 k ∧ Hid (Box w wr w.heap.size (some ⟨b, off, none⟩) len0 cap0 m L0 (coreL L0)) ∧ Hid (IntRow wr (some ⟨bo, oo, none⟩) leno capo l)) (fun i _ => leno - (intOf i).toNat)
          case atStart => exact ⟨1, Nat.le_refl _, hlp2, rfl, BX, RO⟩
          case round =>
            clear BX RO z0 z1
            obtain ⟨i, hi1, hi, rfl, BX, RO⟩ := hrel
            have z0 := BX.out.c0
            have z1 := BX.out.c1
            by_cases hlt : i < leno
            · obtain ⟨bo', oo', zi, hao', hbo, hzi, hci, -⟩ := RO.out.get hlt
              cases hao'
              obtain ⟨n, rfl, hnl⟩ := FX.out.num i zi hzi
              rw [hlc] at hnl
              obtain ⟨b', off', nn, hab', hblt, hgn, hat, -⟩ := BX.out.row.get hnl
              cases hab'
              obtain ⟨j, p, hj, hp, hpar, hfind, hbet⟩ := FX.out.step i n nn.core hi1 hzi (by unfold coreL; rw [List.getElem?_map, hgn]; rfl)
              rw [hlc] at hp
              have hc5 := hat.c5
              rw [hpar] at hc5
              have HB := Lib.hid hbet
              clear hat hgn hpar hbet
              have E0 := Ext.cell z0 BX.out.lt
              have E1 := Ext.cell hci hbo
              have E5 := Ext.cell hc5 hblt
              go_wp2
              refine wp_region_ext (by kernel_rfl) (by kernel_rfl) ?_
              repeat (go_big_quiet_step (fail))
              refine wpQuiet_nil ?_
              intro w' hw'
              obtain ⟨⟨w2, hb2⟩, hw''⟩ := hw'
              dsimp only at hw''
              subst hw''
              clear E0 E1 E5 hc5 hci
              have BX := Lib.hid (BX.out.keep hb2)
              have RO := Lib.hid (RO.out.below hb2)
              have z0 := BX.out.c0
              have z1 := BX.out.c1
              clear hb2
              go_wp2_with (first
                              | (go_at_call 21; (refine (GH.out _ _ _ _ BX.out.row (by assumption) (by assumption) (by assumption)).mono ?_); rintro e w1 ⟨rfl, hb⟩; have BX := Lib.hid (BX.out.keep hb); have RO := Lib.hid (RO.out.below hb); have z0 := BX.out.c0; have z1 := BX.out.c1; clear hb)
                              | (go_at_call 19; (refine (GR.out _ _ _ BX.out.row (by assumption) (by assumption)).mono ?_); rintro e w1 ⟨rfl, hb⟩; have BX := Lib.hid (BX.out.keep hb); have RO := Lib.hid (RO.out.below hb); have z0 := BX.out.c0; have z1 := BX.out.c1; clear hb)
                              | (go_at_call 23; (refine (GA.out _ _ _ _ BX.out.row (by assumption) (by assumption) (by assumption)).mono ?_); rintro e w1 ⟨rfl, hb⟩; have BX := Lib.hid (BX.out.keep hb); have RO := Lib.hid (RO.out.below hb); have z0 := BX.out.c0; have z1 := BX.out.c1; clear hb)
                              | (go_at_call 31; (refine (GC.out _ _ _ RO.out (by assumption)).mono ?_); rintro e w1 ⟨rfl, rfl⟩)
                              | (go_at_call 32; (refine (GF.out _ _ _ RO.out (by assumption)).mono ?_); rintro e w1 ⟨rfl, rfl⟩))
              go_loopw [14] (fun kk wr => ∃ k : Nat, j < k ∧ k ≤ i ∧ kk = .int .i64 k ∧ Hid (Box w wr w.heap.size (some ⟨b, off, none⟩) len0 cap0 m L0 (coreL L0)) ∧ Hid (IntRow wr (some ⟨bo, oo, none⟩) leno capo l)) (fun kk _ => i - (intOf kk).toNat)
              case atStart => exact ⟨j + 1, Nat.lt_succ_self _, hj, by go_num, BX, RO⟩
              case round =>
                clear BX RO z0 z1
                obtain ⟨k, hk1, hk2, rfl, BX, RO⟩ := hrel
                have z0 := BX.out.c0
                have z1 := BX.out.c1
                by_cases hki : k < i
                · have hkl : k < leno := by omega
                  obtain ⟨bo', oo', zq, hao', hbo, hzq, hcq, -⟩ := RO.out.get hkl
                  cases hao'
                  obtain ⟨bo', oo', zi, hao', -, hzi', hci, -⟩ := RO.out.get hlt
                  cases hao'
                  obtain rfl : zi = (n : Int) := Option.some.inj (hzi'.symm.trans hzi)
                  obtain ⟨q, rfl, hql⟩ := FX.out.num k zq hzq
                  rw [hlc] at hql
                  obtain ⟨g1, g2⟩ := HB.out k q hk1 hki hzq
                  clear hzq hzi'
                  go_wp2_with (first
                                  | (go_at_call 21; (refine (GH.out _ _ _ _ BX.out.row (by assumption) (by assumption) (by assumption)).mono ?_); rintro e w1 ⟨rfl, hb⟩; have BX := Lib.hid (BX.out.keep hb); have RO := Lib.hid (RO.out.below hb); have z0 := BX.out.c0; have z1 := BX.out.c1; clear hb)
                                  | (go_at_call 19; (refine (GR.out _ _ _ BX.out.row (by assumption) (by assumption)).mono ?_); rintro e w1 ⟨rfl, hb⟩; have BX := Lib.hid (BX.out.keep hb); have RO := Lib.hid (RO.out.below hb); have z0 := BX.out.c0; have z1 := BX.out.c1; clear hb)
                                  | (go_at_call 23; (refine (GA.out _ _ _ _ BX.out.row (by assumption) (by assumption) (by assumption)).mono ?_); rintro e w1 ⟨rfl, hb⟩; have BX := Lib.hid (BX.out.keep hb); have RO := Lib.hid (RO.out.below hb); have z0 := BX.out.c0; have z1 := BX.out.c1; clear hb)
                                  | (go_at_call 31; (refine (GC.out _ _ _ RO.out (by assumption)).mono ?_); rintro e w1 ⟨rfl, rfl⟩)
                                  | (go_at_call 32; (refine (GF.out _ _ _ RO.out (by assumption)).mono ?_); rintro e w1 ⟨rfl, rfl⟩))
                  have E0 := Ext.cell z0 BX.out.lt
                  have E1 := Ext.cell z1 BX.out.lt
                  have E2 := Ext.cell hcq hbo
                  have E3 := Ext.cell hci hbo
                  have EH := Lib.hid (fun (x : Ext wr) u v b hu hv hb => GH.out x.v u v b (BX.out.row.below x.below) hu hv hb)
                  refine wp_region_ext (by kernel_rfl) (by kernel_rfl) ?_
                  repeat (go_big_quiet_step ((go_at_call 21; exact Ext.call_below (EH.out _ _ _ _ (by assumption) (by assumption) (by assumption)))))
                  refine wpQuiet_nil ?_
                  intro w' hw'
                  obtain ⟨⟨w2, hb2⟩, hw''⟩ := hw'
                  dsimp only at hw''
                  subst hw''
                  clear E0 E1 E2 E3 EH
                  have BX := Lib.hid (BX.out.keep hb2)
                  have RO := Lib.hid (RO.out.below hb2)
                  clear hb2
                  go_wp2_with (first
                                  | (go_at_call 21; (refine (GH.out _ _ _ _ BX.out.row (by assumption) (by assumption) (by assumption)).mono ?_); rintro e w1 ⟨rfl, hb⟩; have BX := Lib.hid (BX.out.keep hb); have RO := Lib.hid (RO.out.below hb); have z0 := BX.out.c0; have z1 := BX.out.c1; clear hb)
                                  | (go_at_call 19; (refine (GR.out _ _ _ BX.out.row (by assumption) (by assumption)).mono ?_); rintro e w1 ⟨rfl, hb⟩; have BX := Lib.hid (BX.out.keep hb); have RO := Lib.hid (RO.out.below hb); have z0 := BX.out.c0; have z1 := BX.out.c1; clear hb)
                                  | (go_at_call 23; (refine (GA.out _ _ _ _ BX.out.row (by assumption) (by assumption) (by assumption)).mono ?_); rintro e w1 ⟨rfl, hb⟩; have BX := Lib.hid (BX.out.keep hb); have RO := Lib.hid (RO.out.below hb); have z0 := BX.out.c0; have z1 := BX.out.c1; clear hb)
                                  | (go_at_call 31; (refine (GC.out _ _ _ RO.out (by assumption)).mono ?_); rintro e w1 ⟨rfl, rfl⟩)
                                  | (go_at_call 32; (refine (GF.out _ _ _ RO.out (by assumption)).mono ?_); rintro e w1 ⟨rfl, rfl⟩))
                  go_roundw
                  case rel => exact ⟨k + 1, by omega, hki, by go_num, BX, RO⟩
                  case measure => simp [intOf]; omega
                · go_wp2_with (first
                                  | (go_at_call 21; (refine (GH.out _ _ _ _ BX.out.row (by assumption) (by assumption) (by assumption)).mono ?_); rintro e w1 ⟨rfl, hb⟩; have BX := Lib.hid (BX.out.keep hb); have RO := Lib.hid (RO.out.below hb); have z0 := BX.out.c0; have z1 := BX.out.c1; clear hb)
                                  | (go_at_call 19; (refine (GR.out _ _ _ BX.out.row (by assumption) (by assumption)).mono ?_); rintro e w1 ⟨rfl, hb⟩; have BX := Lib.hid (BX.out.keep hb); have RO := Lib.hid (RO.out.below hb); have z0 := BX.out.c0; have z1 := BX.out.c1; clear hb)
                                  | (go_at_call 23; (refine (GA.out _ _ _ _ BX.out.row (by assumption) (by assumption) (by assumption)).mono ?_); rintro e w1 ⟨rfl, hb⟩; have BX := Lib.hid (BX.out.keep hb); have RO := Lib.hid (RO.out.below hb); have z0 := BX.out.c0; have z1 := BX.out.c1; clear hb)
                                  | (go_at_call 31; (refine (GC.out _ _ _ RO.out (by assumption)).mono ?_); rintro e w1 ⟨rfl, rfl⟩)
                                  | (go_at_call 32; (refine (GF.out _ _ _ RO.out (by assumption)).mono ?_); rintro e w1 ⟨rfl, rfl⟩))
                  go_roundw
                  case rel => exact ⟨i + 1, by omega, hlt, by go_num, BX, RO⟩
                  case measure => simp [intOf]; omega
            · go_wp2_with (first
                              | (go_at_call 21; (refine (GH.out _ _ _ _ BX.out.row (by assumption) (by assumption) (by assumption)).mono ?_); rintro e w1 ⟨rfl, hb⟩; have BX := Lib.hid (BX.out.keep hb); have RO := Lib.hid (RO.out.below hb); have z0 := BX.out.c0; have z1 := BX.out.c1; clear hb)
                              | (go_at_call 19; (refine (GR.out _ _ _ BX.out.row (by assumption) (by assumption)).mono ?_); rintro e w1 ⟨rfl, hb⟩; have BX := Lib.hid (BX.out.keep hb); have RO := Lib.hid (RO.out.below hb); have z0 := BX.out.c0; have z1 := BX.out.c1; clear hb)
                              | (go_at_call 23; (refine (GA.out _ _ _ _ BX.out.row (by assumption) (by assumption) (by assumption)).mono ?_); rintro e w1 ⟨rfl, hb⟩; have BX := Lib.hid (BX.out.keep hb); have RO := Lib.hid (RO.out.below hb); have z0 := BX.out.c0; have z1 := BX.out.c1; clear hb)
                              | (go_at_call 31; (refine (GC.out _ _ _ RO.out (by assumption)).mono ?_); rintro e w1 ⟨rfl, rfl⟩)
                              | (go_at_call 32; (refine (GF.out _ _ _ RO.out (by assumption)).mono ?_); rintro e w1 ⟨rfl, rfl⟩))
              rcases CASES.out with ⟨r1, r2, c1, c2, c3, hr1, hr2, ha1, ha2, hh, ⟨rfl, rfl, rfl, rfl, rfl⟩ | ⟨⟨eXY, eN⟩, rfl, rfl, rfl, rfl⟩ | ⟨⟨eXY, eN⟩, rfl, rfl, rfl, rfl⟩ | ⟨⟨eXY, eN⟩, rfl, rfl, rfl, rfl⟩ | ⟨⟨eXY, eN⟩, er, rfl, rfl, rfl⟩⟩
              all_goals clear CASES
              all_goals
                have E0 := Ext.cell z0 BX.out.lt
                have E1 := Ext.cell z1 BX.out.lt
                have ER := Lib.hid (fun (x : Ext wr) u r hu hr => GR.out x.v u r (BX.out.row.below x.below) hu hr)
                refine wp_region_ext (by kernel_rfl) (by kernel_rfl) ?_
                repeat (go_big_quiet_step ((go_at_call 19; exact Ext.call_below (ER.out _ _ _ (by assumption) (by assumption)))))
                refine wpQuiet_nil ?_
                intro w' hw'
                obtain ⟨⟨w2, hb2⟩, hw''⟩ := hw'
                dsimp only at hw''
                subst hw''
                clear E0 E1 ER
                have BX := Lib.hid (BX.out.keep hb2)
                have RO := Lib.hid (RO.out.below hb2)
                have z0 := BX.out.c0
                have z1 := BX.out.c1
                clear hb2
                go_wp2_with (first
                                | (go_at_call 21; (refine (GH.out _ _ _ _ BX.out.row (by assumption) (by assumption) (by assumption)).mono ?_); rintro e w1 ⟨rfl, hb⟩; have BX := Lib.hid (BX.out.keep hb); have RO := Lib.hid (RO.out.below hb); have z0 := BX.out.c0; have z1 := BX.out.c1; clear hb)
                                | (go_at_call 19; (refine (GR.out _ _ _ BX.out.row (by assumption) (by assumption)).mono ?_); rintro e w1 ⟨rfl, hb⟩; have BX := Lib.hid (BX.out.keep hb); have RO := Lib.hid (RO.out.below hb); have z0 := BX.out.c0; have z1 := BX.out.c1; clear hb)
                                | (go_at_call 23; (refine (GA.out _ _ _ _ BX.out.row (by assumption) (by assumption) (by assumption)).mono ?_); rintro e w1 ⟨rfl, hb⟩; have BX := Lib.hid (BX.out.keep hb); have RO := Lib.hid (RO.out.below hb); have z0 := BX.out.c0; have z1 := BX.out.c1; clear hb)
                                | (go_at_call 31; (refine (GC.out _ _ _ RO.out (by assumption)).mono ?_); rintro e w1 ⟨rfl, rfl⟩)
                                | (go_at_call 32; (refine (GF.out _ _ _ RO.out (by assumption)).mono ?_); rintro e w1 ⟨rfl, rfl⟩))
                have E0 := Ext.cell z0 BX.out.lt
                have E1 := Ext.cell z1 BX.out.lt
                have EA := Lib.hid (fun (x : Ext w') u v b hu hv hb => GA.out x.v u v b (BX.out.row.below x.below) hu hv hb)
                refine wp_region_ext (by kernel_rfl) (by kernel_rfl) ?_
                repeat (go_big_quiet_step ((go_at_call 23; exact Ext.call_below (EA.out _ _ _ _ (by assumption) (by assumption) (by assumption)))))
                refine wpQuiet_nil ?_
                intro w' hw'
                obtain ⟨⟨w2, hb2⟩, hw''⟩ := hw'
                dsimp only at hw''
                subst hw''
                clear E0 E1 EA
                have BX := Lib.hid (BX.out.keep hb2)
                have RO := Lib.hid (RO.out.below hb2)
                have z0 := BX.out.c0
                have z1 := BX.out.c1
                clear hb2
                obtain ⟨bo', oo', zp, hao', hbo, hzp, hcp, -⟩ := RO.out.get hlp2
                cases hao'
                obtain rfl : zp = (X : Int) := Option.some.inj (hzp.symm.trans FX.out.pos)
                rw [Nat.add_zero] at hcp
                clear hzp
                go_wp2_with (first
                                | (go_at_call 21; (refine (GH.out _ _ _ _ BX.out.row (by assumption) (by assumption) (by assumption)).mono ?_); rintro e w1 ⟨rfl, hb⟩; have BX := Lib.hid (BX.out.keep hb); have RO := Lib.hid (RO.out.below hb); have z0 := BX.out.c0; have z1 := BX.out.c1; clear hb)
                                | (go_at_call 19; (refine (GR.out _ _ _ BX.out.row (by assumption) (by assumption)).mono ?_); rintro e w1 ⟨rfl, hb⟩; have BX := Lib.hid (BX.out.keep hb); have RO := Lib.hid (RO.out.below hb); have z0 := BX.out.c0; have z1 := BX.out.c1; clear hb)
                                | (go_at_call 23; (refine (GA.out _ _ _ _ BX.out.row (by assumption) (by assumption) (by assumption)).mono ?_); rintro e w1 ⟨rfl, hb⟩; have BX := Lib.hid (BX.out.keep hb); have RO := Lib.hid (RO.out.below hb); have z0 := BX.out.c0; have z1 := BX.out.c1; clear hb)
                                | (go_at_call 31; (refine (GC.out _ _ _ RO.out (by assumption)).mono ?_); rintro e w1 ⟨rfl, rfl⟩)
                                | (go_at_call 32; (refine (GF.out _ _ _ RO.out (by assumption)).mono ?_); rintro e w1 ⟨rfl, rfl⟩))
                go_ret
                exact ⟨rfl, BX.out.below⟩
end Go.Proofs.Ytdalljhgmhjibaa
