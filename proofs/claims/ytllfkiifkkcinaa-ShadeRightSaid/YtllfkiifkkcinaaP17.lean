/- Texts joined in build order: ShadeOver ShadeRegion Ref4Attach Ref4Ask. -/
import Derived.Test.YtllfkiifkkcinaaP16
import Derived.Test.YtllfkiifkkcinaaP08
import Derived.Test.YtllfkiifkkcinaaP04
import Derived.Deep.DeepCutAuto
import Derived.Test.YtllfkiifkkcinaaP10
import Derived.Test.YtllfkiifkkcinaaP12
import Derived.Test.YtllfkiifkkcinaaP09
import Derived.Test.YtllfkiifkkcinaaP05
/- The walk of the law ShadeOver, over the contracts of packages forest and shade. -/
namespace Go.Proofs.Ytllfkiifkkcinaa
open Go.RowKit
set_option maxHeartbeats 16000000 in
set_option maxRecDepth 100000 in
theorem shadeOver_walk (F : ForestFns) (S : ShadeFns) (a0 : Option Addr) (len0 cap0 : Nat) (m : Int) (L0 : List NodeD) (x y z : Int) (w : World)
    (h0 : NodeRow w a0 len0 cap0 L0) (hm : In64 m) (hx : 0 ≤ x ∧ x ≤ 255) (hy : 0 ≤ y ∧ y ≤ 255) (hz : 0 ≤ z ∧ z ≤ 255) :
    Calls Try.prog 10 #[forV a0 len0 cap0 m, .int .u8 x, .int .u8 y, .int .u8 z] w fun e w' => e = .returned (.bool true) ∧ Below w.heap.size w w' := by
  have AW := Lib.hid (fun W => awake4_any F S W)
  have HF := Lib.hid F
  have HS := Lib.hid S
  have BX := Lib.hid (Box.start (m := m) h0)
  have hl0 := h0.len64
  have HL := Lib.hid h0.hlen
  have HM := Lib.hid hm
  clear h0 F S hm
  cases c0 : shortF L0 with
  | false =>
    have C0 := Lib.hid c0
    go_enter Try.func10, Try.ntmps10
    go_wp2_with (first
                    | (go_at_call 37; (with_reducible refine (AW.out _).mono ?_); rintro e w1 ⟨rfl, hb⟩; have BX := Lib.hid (BX.out.keep hb); have z0 := BX.out.c0; have z1 := BX.out.c1; clear hb)
                    | (go_at_call 15; (with_reducible refine (refshortF_any _ _ _ _ _ _ BX.out.row).mono ?_); rintro e w1 ⟨rfl, hb⟩; have BX := Lib.hid (BX.out.keep hb); have z0 := BX.out.c0; have z1 := BX.out.c1; clear hb)
                    | (go_at_call 19; (with_reducible refine (HR.out _ BX.out.row).mono ?_); rintro e w1 ⟨rfl, hb⟩; have BX := Lib.hid (BX.out.keep hb); have z0 := BX.out.c0; have z1 := BX.out.c1; clear hb))
    go_ret
    exact ⟨rfl, BX.out.below⟩
  | true =>
    have SM := Lib.hid (small_of_short c0)
    cases c1 : rightF m (coreL L0) with
    | false =>
      have HR : Hid (∀ W, NodeRow W a0 len0 cap0 L0 → Calls Try.prog 19 #[forV a0 len0 cap0 m] W fun e w' => e = .returned (.bool false) ∧ Below W.heap.size W w') := Lib.hid (fun W h => by
        have := HF.out.right a0 len0 cap0 m L0 W h HM.out SM.out
        rwa [c1] at this)
      clear c1
      go_enter Try.func10, Try.ntmps10
      go_wp2_with (first
                      | (go_at_call 37; (with_reducible refine (AW.out _).mono ?_); rintro e w1 ⟨rfl, hb⟩; have BX := Lib.hid (BX.out.keep hb); have z0 := BX.out.c0; have z1 := BX.out.c1; clear hb)
                      | (go_at_call 15; (with_reducible refine (refshortF_any _ _ _ _ _ _ BX.out.row).mono ?_); rintro e w1 ⟨rfl, hb⟩; have BX := Lib.hid (BX.out.keep hb); have z0 := BX.out.c0; have z1 := BX.out.c1; clear hb)
                      | (go_at_call 19; (with_reducible refine (HR.out _ BX.out.row).mono ?_); rintro e w1 ⟨rfl, hb⟩; have BX := Lib.hid (BX.out.keep hb); have z0 := BX.out.c0; have z1 := BX.out.c1; clear hb))
      go_ret
      exact ⟨rfl, BX.out.below⟩
    | true =>
      have HR : Hid (∀ W, NodeRow W a0 len0 cap0 L0 → Calls Try.prog 19 #[forV a0 len0 cap0 m] W fun e w' => e = .returned (.bool true) ∧ Below W.heap.size W w') := Lib.hid (fun W h => by
        have := HF.out.right a0 len0 cap0 m L0 W h HM.out SM.out
        rwa [c1] at this)
      have C1 := Lib.hid c1
      have hlc : (coreL L0).length = len0 := by
        unfold coreL
        rw [List.length_map, HL.out]
      have hlp : 0 < len0 := by
        have := right_len c1
        rwa [hlc] at this
      clear c1
      obtain ⟨X, hX⟩ : ∃ X : Nat, x % (len0 : Int) = X := ⟨(x % (len0 : Int)).toNat, by have := Int.emod_nonneg x (show (len0 : Int) ≠ 0 by omega); omega⟩
      obtain ⟨Y, hY⟩ : ∃ Y : Nat, y % (len0 : Int) = Y := ⟨(y % (len0 : Int)).toNat, by have := Int.emod_nonneg y (show (len0 : Int) ≠ 0 by omega); omega⟩
      obtain ⟨Z, hZ⟩ : ∃ Z : Nat, z % (len0 : Int) = Z := ⟨(z % (len0 : Int)).toNat, by have := Int.emod_nonneg z (show (len0 : Int) ≠ 0 by omega); omega⟩
      have hXl : X < len0 := by have := Int.emod_lt_of_pos x (show (0 : Int) < len0 by omega); omega
      have hYl : Y < len0 := by have := Int.emod_lt_of_pos y (show (0 : Int) < len0 by omega); omega
      have hZl : Z < len0 := by have := Int.emod_lt_of_pos z (show (0 : Int) < len0 by omega); omega
      obtain ⟨nx, hnx⟩ : ∃ nx, L0[X]? = some nx := ⟨_, List.getElem?_eq_getElem (by have := HL.out; omega)⟩
      have hc : (coreL L0)[X]? = some nx.core := by unfold coreL; rw [List.getElem?_map, hnx]; rfl
      have FX := Lib.hid (over_facts (x := X) (y := Y) (z := Z) C1.out (by omega) (by omega) (by omega) hc)
      have HNX := Lib.hid hnx
      have in_nat : ∀ k : Nat, k < len0 → In64 (k : Int) := fun k hk => ⟨by omega, by omega⟩
      have GO : Hid (∀ W (u v : Nat) (b : Bool), NodeRow W a0 len0 cap0 L0 → u < len0 → v < len0 → overZ m (coreL L0) u v = b → Calls Try.prog 43 #[forV a0 len0 cap0 m, .int .i64 u, .int .i64 v] W fun e w' => e = .returned (.bool b) ∧ Below W.heap.size W w') := Lib.hid (fun W u v b h hu hv hb => by
        rw [← hb]
        exact HS.out.over a0 len0 cap0 m L0 u v W h HM.out (in_nat u hu) (in_nat v hv) SM.out)
      have GH : Hid (∀ W (u v : Nat) (b : Bool), NodeRow W a0 len0 cap0 L0 → u < len0 → v < len0 → holdsZ m (coreL L0) u v = b → Calls Try.prog 24 #[forV a0 len0 cap0 m, .int .i64 u, .int .i64 v] W fun e w' => e = .returned (.bool b) ∧ Below W.heap.size W w') := Lib.hid (fun W u v b h hu hv hb => by
        rw [← hb]
        exact HF.out.holds a0 len0 cap0 m L0 u v W h HM.out (in_nat u hu) (in_nat v hv) SM.out)
      have GC : Hid (∀ W (u : Nat) (b : Bool), NodeRow W a0 len0 cap0 L0 → u < len0 → connZ m (coreL L0) u = b → Calls Try.prog 40 #[forV a0 len0 cap0 m, .int .i64 u] W fun e w' => e = .returned (.bool b) ∧ Below W.heap.size W w') := Lib.hid (fun W u b h hu hb => by
        rw [← hb]
        exact HS.out.conn a0 len0 cap0 m L0 u W h HM.out (in_nat u hu) SM.out)
      have GT : Hid (∀ W (u : Nat) (r : Int), NodeRow W a0 len0 cap0 L0 → u < len0 → topZ m (coreL L0) u = r → Calls Try.prog 39 #[forV a0 len0 cap0 m, .int .i64 u] W fun e w' => e = .returned (.int .i64 r) ∧ Below W.heap.size W w') := Lib.hid (fun W u r h hu hr => by
        rw [← hr]
        exact HS.out.top a0 len0 cap0 m L0 u W h HM.out (in_nat u hu) SM.out)
      have HLC := Lib.hid hlc
      clear SM HF HS hc hnx in_nat hlc
      have hself := FX.out.self
      go_enter Try.func10, Try.ntmps10
      go_wp2_with (first
                      | (go_at_call 37; (with_reducible refine (AW.out _).mono ?_); rintro e w1 ⟨rfl, hb⟩; have BX := Lib.hid (BX.out.keep hb); have z0 := BX.out.c0; have z1 := BX.out.c1; clear hb)
                      | (go_at_call 15; (with_reducible refine (refshortF_any _ _ _ _ _ _ BX.out.row).mono ?_); rintro e w1 ⟨rfl, hb⟩; have BX := Lib.hid (BX.out.keep hb); have z0 := BX.out.c0; have z1 := BX.out.c1; clear hb)
                      | (go_at_call 19; (with_reducible refine (HR.out _ BX.out.row).mono ?_); rintro e w1 ⟨rfl, hb⟩; have BX := Lib.hid (BX.out.keep hb); have z0 := BX.out.c0; have z1 := BX.out.c1; clear hb))
      have E0 := Ext.cell z0 BX.out.lt
      have E1 := Ext.cell z1 BX.out.lt
      refine wp_region_ext (by kernel_rfl) (by kernel_rfl) ?_
      repeat (go_big_quiet_step (fail))
      refine wpQuiet_nil ?_
      intro w' hw'
      obtain ⟨⟨w2, hb2⟩, hw''⟩ := hw'
      dsimp only at hw''
      subst hw''
      clear E0 E1
      rw [hX, hY, hZ]
      clear hX hY hZ
      have BX := Lib.hid (BX.out.keep hb2)
      have z0 := BX.out.c0
      have z1 := BX.out.c1
      clear hb2
      go_upto_region 6 with fail
      go_cut [94] (fun c wx => c = .bool false ∧ Hid (Box w wx w.heap.size a0 len0 cap0 m L0 (coreL L0)))
      case first =>
        have CASES : (¬ (X : Int) = Y ∧ ((X : Int) != Y) = true ∧ overZ m (coreL L0) X Y = false ∧ holdsZ m (coreL L0) X Y = false) ∨ (X = Y ∧ overZ m (coreL L0) X Y = true ∧ ∃ h, holdsZ m (coreL L0) X Y = h ∧ (overZ m (coreL L0) Y Z = false ∨ overZ m (coreL L0) Y Z = true ∧ overZ m (coreL L0) X Z = true))
            ∨ (¬ (X : Int) = Y ∧ ((X : Int) != Y) = true ∧ overZ m (coreL L0) X Y = true ∧ overZ m (coreL L0) Y X = false ∧ ∃ h, holdsZ m (coreL L0) X Y = h ∧ (overZ m (coreL L0) Y Z = false ∨ overZ m (coreL L0) Y Z = true ∧ overZ m (coreL L0) X Z = true)) := by
          have tail : overZ m (coreL L0) X Y = true → (overZ m (coreL L0) Y Z = false ∨ overZ m (coreL L0) Y Z = true ∧ overZ m (coreL L0) X Z = true) := fun e1 => by
            cases e4 : overZ m (coreL L0) Y Z with
            | false => exact .inl rfl
            | true => exact .inr ⟨rfl, FX.out.trans e1 e4⟩
          by_cases e2 : (X : Int) = Y
          · have e1 : overZ m (coreL L0) X Y = true := by rw [← e2]; exact hself
            exact .inr (.inl ⟨Int.ofNat.inj e2, e1, _, rfl, tail e1⟩)
          · have e3 : ((X : Int) != Y) = true := bne_iff_ne.2 e2
            cases e1 : overZ m (coreL L0) X Y with
            | false =>
              refine .inl ⟨e2, e3, rfl, ?_⟩
              cases e5 : holdsZ m (coreL L0) X Y with
              | false => rfl
              | true => rw [FX.out.held e5] at e1; cases e1
            | true => exact .inr (.inr ⟨e2, e3, rfl, FX.out.anti (fun e => e2 (by rw [e])) e1, _, rfl, tail e1⟩)
        rcases CASES with ⟨e2, e3, e1, e5⟩ | ⟨rfl, e1, h, e5, e4 | ⟨e4, e6⟩⟩ | ⟨e2, e3, e1, e7, h, e5, e4 | ⟨e4, e6⟩⟩
        · go_wp2_with (first
                          | (go_at_call 43; (refine (GO.out _ _ _ _ BX.out.row (by assumption) (by assumption) (by assumption)).mono ?_); rintro e w1 ⟨rfl, hb⟩; have BX := Lib.hid (BX.out.keep hb); have z0 := BX.out.c0; have z1 := BX.out.c1; clear hb)
                          | (go_at_call 24; (refine (GH.out _ _ _ _ BX.out.row (by assumption) (by assumption) (by assumption)).mono ?_); rintro e w1 ⟨rfl, hb⟩; have BX := Lib.hid (BX.out.keep hb); have z0 := BX.out.c0; have z1 := BX.out.c1; clear hb)
                          | (go_at_call 40; (refine (GC.out _ _ _ BX.out.row (by assumption) (by assumption)).mono ?_); rintro e w1 ⟨rfl, hb⟩; have BX := Lib.hid (BX.out.keep hb); have z0 := BX.out.c0; have z1 := BX.out.c1; clear hb)
                          | (go_at_call 39; (refine (GT.out _ _ _ BX.out.row (by assumption) (by assumption)).mono ?_); rintro e w1 ⟨rfl, hb⟩; have BX := Lib.hid (BX.out.keep hb); have z0 := BX.out.c0; have z1 := BX.out.c1; clear hb))
          go_meet
          exact ⟨rfl, BX⟩
        all_goals
          cases h
          all_goals
            go_wp2_with (first
                            | (go_at_call 43; (refine (GO.out _ _ _ _ BX.out.row (by assumption) (by assumption) (by assumption)).mono ?_); rintro e w1 ⟨rfl, hb⟩; have BX := Lib.hid (BX.out.keep hb); have z0 := BX.out.c0; have z1 := BX.out.c1; clear hb)
                            | (go_at_call 24; (refine (GH.out _ _ _ _ BX.out.row (by assumption) (by assumption) (by assumption)).mono ?_); rintro e w1 ⟨rfl, hb⟩; have BX := Lib.hid (BX.out.keep hb); have z0 := BX.out.c0; have z1 := BX.out.c1; clear hb)
                            | (go_at_call 40; (refine (GC.out _ _ _ BX.out.row (by assumption) (by assumption)).mono ?_); rintro e w1 ⟨rfl, hb⟩; have BX := Lib.hid (BX.out.keep hb); have z0 := BX.out.c0; have z1 := BX.out.c1; clear hb)
                            | (go_at_call 39; (refine (GT.out _ _ _ BX.out.row (by assumption) (by assumption)).mono ?_); rintro e w1 ⟨rfl, hb⟩; have BX := Lib.hid (BX.out.keep hb); have z0 := BX.out.c0; have z1 := BX.out.c1; clear hb))
            go_meet
            exact ⟨rfl, BX⟩
      case rest =>
        clear BX z0 z1
        obtain ⟨rfl, BX⟩ := hcut
        have z0 := BX.out.c0
        have z1 := BX.out.c1
        obtain ⟨b, off, nx', hab, hblt, hgx, hat, hok⟩ := BX.out.row.get hXl
        obtain rfl : nx = nx' := Option.some.inj (HNX.out.symm.trans hgx)
        subst hab
        have LAST : (nx.core.kind = 0 ∧ connZ m (coreL L0) X = true ∧ topZ m (coreL L0) X = X) ∨ (nx.core.kind ≠ 0 ∧ ∃ (P : Nat) (T : Int) (cb : Bool), nx.core.parent = P ∧ P < len0 ∧ connZ m (coreL L0) X = cb ∧ connZ m (coreL L0) P = cb ∧ topZ m (coreL L0) X = T ∧ topZ m (coreL L0) P = T)
            ∨ (nx.core.kind ≠ 0 ∧ nx.core.parent = -1 ∧ ∃ (P : Nat) (T : Int) (cb : Bool), nx.core.host = P ∧ P < len0 ∧ connZ m (coreL L0) X = cb ∧ connZ m (coreL L0) P = cb ∧ topZ m (coreL L0) X = T ∧ topZ m (coreL L0) P = T)
            ∨ (nx.core.kind ≠ 0 ∧ nx.core.parent = -1 ∧ nx.core.host = -1 ∧ connZ m (coreL L0) X = false ∧ topZ m (coreL L0) X = X) := by
          by_cases hk : nx.core.kind = 0
          · exact .inl ⟨hk, FX.out.doc hk⟩
          by_cases hp : nx.core.parent = -1
          · by_cases hh : nx.core.host = -1
            · exact .inr (.inr (.inr ⟨hk, hp, hh, FX.out.alone hk hp hh⟩))
            · obtain ⟨P, e1, e2, e3, e4⟩ := FX.out.host hk hp hh
              exact .inr (.inr (.inl ⟨hk, hp, P, _, _, e1, by rw [HLC.out] at e2; exact e2, e3, rfl, e4, rfl⟩))
          · obtain ⟨P, e1, e2, e3, e4⟩ := FX.out.par hk hp
            exact .inr (.inl ⟨hk, P, _, _, e1, by rw [HLC.out] at e2; exact e2, e3, rfl, e4, rfl⟩)
        obtain ⟨x0, x1, x2, x3, x4, x5, x6, x7, x8, x9⟩ := hat
        clear FX HNX hgx hself
        have OK := Lib.hid hok
        clear hok
        obtain ⟨⟨kind, name, is, data, attrs, parent, kids, host, under, doc⟩, aA, aN, aC, kA, kN, kC⟩ := nx
        dsimp only at LAST x0 x1 x2 x3 x4 x5 x6 x7 x8 x9
        have NK := Lib.hid (NKeep.start OK.out)
        have BX := Lib.hid (BX.out.keep NK.out.below)
        have y0 := BX.out.c0
        have y1 := BX.out.c1
        dsimp only [nodB] at y0 y1
        rcases LAST with ⟨rfl, e1, e2⟩ | ⟨hk, P, T, cb, rfl, hP, e1, e2, e3, e4⟩ | ⟨hk, rfl, P, T, cb, rfl, hP, e1, e2, e3, e4⟩ | ⟨hk, rfl, rfl, e1, e2⟩
        · go_wp2_with (first
                          | (go_at_call 43; (refine (GO.out _ _ _ _ BX.out.row (by assumption) (by assumption) (by assumption)).mono ?_); rintro e w1 ⟨rfl, hb⟩; have BX := Lib.hid (BX.out.keep hb); have z0 := BX.out.c0; have z1 := BX.out.c1; clear hb)
                          | (go_at_call 24; (refine (GH.out _ _ _ _ BX.out.row (by assumption) (by assumption) (by assumption)).mono ?_); rintro e w1 ⟨rfl, hb⟩; have BX := Lib.hid (BX.out.keep hb); have z0 := BX.out.c0; have z1 := BX.out.c1; clear hb)
                          | (go_at_call 40; (refine (GC.out _ _ _ BX.out.row (by assumption) (by assumption)).mono ?_); rintro e w1 ⟨rfl, hb⟩; have BX := Lib.hid (BX.out.keep hb); have z0 := BX.out.c0; have z1 := BX.out.c1; clear hb)
                          | (go_at_call 39; (refine (GT.out _ _ _ BX.out.row (by assumption) (by assumption)).mono ?_); rintro e w1 ⟨rfl, hb⟩; have BX := Lib.hid (BX.out.keep hb); have z0 := BX.out.c0; have z1 := BX.out.c1; clear hb))
          go_ret
          exact ⟨rfl, BX.out.below⟩
        · have hpn : ((P : Int) != -1) = true := bne_iff_ne.2 (by omega)
          have hpn2 : ((P : Int) == -1) = false := beq_eq_false_iff_ne.2 (by omega)
          have hk1 : (kind == 0) = false := beq_eq_false_iff_ne.2 hk
          clear hk
          cases cb
          all_goals
            go_wp2
            have eT : (T == T) = true := by simp
            have E0 := Ext.cell y0 BX.out.lt
            have E1 := Ext.cell y1 BX.out.lt
            have E5 := Ext.cell NK.out.box.c5 NK.out.box.lt
            dsimp only [nodB] at E5
            have EC := Lib.hid (fun (x : Ext (wc.alloc (nodB ⟨⟨kind, name, is, data, attrs, (P : Int), kids, host, under, doc⟩, aA, aN, aC, kA, kN, kC⟩))) u b hu hb => GC.out x.v u b (BX.out.row.below x.below) hu hb)
            have ET := Lib.hid (fun (x : Ext (wc.alloc (nodB ⟨⟨kind, name, is, data, attrs, (P : Int), kids, host, under, doc⟩, aA, aN, aC, kA, kN, kC⟩))) u r hu hr => GT.out x.v u r (BX.out.row.below x.below) hu hr)
            refine wp_region_ext (by kernel_rfl) (by kernel_rfl) ?_
            repeat (go_big_quiet_step (first
              | (go_at_call 40; exact Ext.call_below (EC.out _ _ _ (by assumption) (by assumption)))
              | (go_at_call 39; exact Ext.call_below (ET.out _ _ _ (by assumption) (by assumption)))))
            refine wpQuiet_nil ?_
            intro w' hw'
            obtain ⟨⟨w2, hb2⟩, hw''⟩ := hw'
            dsimp only at hw''
            subst hw''
            have BX := Lib.hid (BX.out.keep hb2)
            clear E0 E1 E5 EC ET
            go_wp2
            go_ret
            exact ⟨rfl, BX.out.below⟩
        · have hpn : ((P : Int) != -1) = true := bne_iff_ne.2 (by omega)
          have hpn2 : ((P : Int) == -1) = false := beq_eq_false_iff_ne.2 (by omega)
          have hk1 : (kind == 0) = false := beq_eq_false_iff_ne.2 hk
          clear hk
          cases cb
          all_goals
            go_wp2
            have eT : (T == T) = true := by simp
            have E0 := Ext.cell y0 BX.out.lt
            have E1 := Ext.cell y1 BX.out.lt
            have E7 := Ext.cell NK.out.box.c7 NK.out.box.lt
            dsimp only [nodB] at E7
            have EC := Lib.hid (fun (x : Ext (wc.alloc (nodB ⟨⟨kind, name, is, data, attrs, -1, kids, (P : Int), under, doc⟩, aA, aN, aC, kA, kN, kC⟩))) u b hu hb => GC.out x.v u b (BX.out.row.below x.below) hu hb)
            have ET := Lib.hid (fun (x : Ext (wc.alloc (nodB ⟨⟨kind, name, is, data, attrs, -1, kids, (P : Int), under, doc⟩, aA, aN, aC, kA, kN, kC⟩))) u r hu hr => GT.out x.v u r (BX.out.row.below x.below) hu hr)
            refine wp_region_ext (by kernel_rfl) (by kernel_rfl) ?_
            repeat (go_big_quiet_step (first
              | (go_at_call 40; exact Ext.call_below (EC.out _ _ _ (by assumption) (by assumption)))
              | (go_at_call 39; exact Ext.call_below (ET.out _ _ _ (by assumption) (by assumption)))))
            refine wpQuiet_nil ?_
            intro w' hw'
            obtain ⟨⟨w2, hb2⟩, hw''⟩ := hw'
            dsimp only at hw''
            subst hw''
            have BX := Lib.hid (BX.out.keep hb2)
            clear E0 E1 E7 EC ET
            go_wp2
            go_ret
            exact ⟨rfl, BX.out.below⟩
        · have hk1 : (kind == 0) = false := beq_eq_false_iff_ne.2 hk
          clear hk
          go_wp2_with (first
                          | (go_at_call 43; (refine (GO.out _ _ _ _ BX.out.row (by assumption) (by assumption) (by assumption)).mono ?_); rintro e w1 ⟨rfl, hb⟩; have BX := Lib.hid (BX.out.keep hb); have z0 := BX.out.c0; have z1 := BX.out.c1; clear hb)
                          | (go_at_call 24; (refine (GH.out _ _ _ _ BX.out.row (by assumption) (by assumption) (by assumption)).mono ?_); rintro e w1 ⟨rfl, hb⟩; have BX := Lib.hid (BX.out.keep hb); have z0 := BX.out.c0; have z1 := BX.out.c1; clear hb)
                          | (go_at_call 40; (refine (GC.out _ _ _ BX.out.row (by assumption) (by assumption)).mono ?_); rintro e w1 ⟨rfl, hb⟩; have BX := Lib.hid (BX.out.keep hb); have z0 := BX.out.c0; have z1 := BX.out.c1; clear hb)
                          | (go_at_call 39; (refine (GT.out _ _ _ BX.out.row (by assumption) (by assumption)).mono ?_); rintro e w1 ⟨rfl, hb⟩; have BX := Lib.hid (BX.out.keep hb); have z0 := BX.out.c0; have z1 := BX.out.c1; clear hb))
          go_ret
          exact ⟨rfl, BX.out.below⟩
end Go.Proofs.Ytllfkiifkkcinaa
/- Region 9 of the law ShadeRight. (Printed by wip/tools/gen_shaderight.py.) -/
namespace Go.Proofs.Ytllfkiifkkcinaa
open Go.RowKit
def shadeRight9Ops : List Oper := [
  { dst := some 97, op := Go.Op.load 24 (Go.Operand.tmp 7), type := 24, pos := "law.go:35", after := #[], guard := none },
  { dst := some 98, op := Go.Op.load 24 (Go.Operand.tmp 10), type := 24, pos := "law.go:35", after := #[], guard := none },
  { dst := some 99, op := Go.Op.call { callee := Go.Callee.value (Go.Operand.func 20), args := #[Go.Operand.tmp 97, Go.Operand.tmp 98], argTypes := #[24, 24] }, type := 4, pos := "law.go:35", after := #[{ on := 0, ground := Go.Ground.data }, { on := 1, ground := Go.Ground.data }], guard := none },
  { dst := some 100, op := Go.Op.unOp Go.UnOp.not 4 (Go.Operand.tmp 99), type := 4, pos := "law.go:35", after := #[{ on := 2, ground := Go.Ground.data }], guard := none },
  { dst := some 101, op := Go.Op.move (Go.Operand.tmp 100), type := 4, pos := "law.go:35", after := #[{ on := 3, ground := Go.Ground.data }, { on := 2, ground := Go.Ground.chain }], guard := none },
  { dst := some 102, op := Go.Op.move (Go.Operand.tmp 8), type := 3, pos := "law.go:35", after := #[{ on := 4, ground := Go.Ground.guard }], guard := some (4, false) },
  { dst := some 103, op := Go.Op.move (Go.Operand.tmp 11), type := 3, pos := "law.go:35", after := #[{ on := 4, ground := Go.Ground.guard }], guard := some (4, false) },
  { dst := some 104, op := Go.Op.binOp Go.BinOp.neq 3 (Go.Operand.tmp 102) (Go.Operand.tmp 103) 3, type := 4, pos := "law.go:35", after := #[{ on := 5, ground := Go.Ground.data }, { on := 6, ground := Go.Ground.data }, { on := 4, ground := Go.Ground.guard }], guard := some (4, false) },
  { dst := some 105, op := Go.Op.pick (Go.Operand.tmp 101) (Go.Operand.const (Go.Value.bool true)) (Go.Operand.tmp 104), type := 4, pos := "law.go:35", after := #[{ on := 4, ground := Go.Ground.data }, { on := 7, ground := Go.Ground.data }], guard := none },
  { dst := some 106, op := Go.Op.move (Go.Operand.tmp 105), type := 4, pos := "law.go:35", after := #[{ on := 8, ground := Go.Ground.data }, { on := 4, ground := Go.Ground.chain }], guard := none },
  { dst := some 107, op := Go.Op.move (Go.Operand.tmp 9), type := 31, pos := "law.go:35", after := #[{ on := 9, ground := Go.Ground.guard }], guard := some (9, false) },
  { dst := some 108, op := Go.Op.move (Go.Operand.tmp 12), type := 3, pos := "law.go:35", after := #[{ on := 9, ground := Go.Ground.guard }], guard := some (9, false) },
  { dst := some 109, op := Go.Op.binOp Go.BinOp.neq 3 (Go.Operand.tmp 107) (Go.Operand.tmp 108) 3, type := 4, pos := "law.go:35", after := #[{ on := 10, ground := Go.Ground.data }, { on := 11, ground := Go.Ground.data }, { on := 9, ground := Go.Ground.guard }], guard := some (9, false) },
  { dst := some 110, op := Go.Op.pick (Go.Operand.tmp 106) (Go.Operand.const (Go.Value.bool true)) (Go.Operand.tmp 109), type := 4, pos := "law.go:35", after := #[{ on := 9, ground := Go.Ground.data }, { on := 12, ground := Go.Ground.data }], guard := none },
  { dst := some 111, op := Go.Op.move (Go.Operand.tmp 110), type := 4, pos := "law.go:35", after := #[{ on := 13, ground := Go.Ground.data }, { on := 9, ground := Go.Ground.chain }], guard := none },
  { dst := some 112, op := Go.Op.load 24 (Go.Operand.tmp 3), type := 24, pos := "law.go:35", after := #[{ on := 14, ground := Go.Ground.guard }], guard := some (14, false) },
  { dst := some 113, op := Go.Op.move (Go.Operand.tmp 1), type := 3, pos := "law.go:35", after := #[{ on := 14, ground := Go.Ground.guard }], guard := some (14, false) },
  { dst := some 114, op := Go.Op.call { callee := Go.Callee.value (Go.Operand.func 39), args := #[Go.Operand.tmp 112, Go.Operand.tmp 113], argTypes := #[24, 3] }, type := 3, pos := "law.go:35", after := #[{ on := 15, ground := Go.Ground.data }, { on := 16, ground := Go.Ground.data }, { on := 14, ground := Go.Ground.chain }, { on := 14, ground := Go.Ground.guard }], guard := some (14, false) },
  { dst := some 115, op := Go.Op.load 24 (Go.Operand.tmp 3), type := 24, pos := "law.go:35", after := #[{ on := 14, ground := Go.Ground.guard }], guard := some (14, false) },
  { dst := some 116, op := Go.Op.move (Go.Operand.tmp 1), type := 3, pos := "law.go:35", after := #[{ on := 14, ground := Go.Ground.guard }], guard := some (14, false) },
  { dst := some 117, op := Go.Op.call { callee := Go.Callee.value (Go.Operand.func 45), args := #[Go.Operand.tmp 115, Go.Operand.tmp 116], argTypes := #[24, 3] }, type := 3, pos := "law.go:35", after := #[{ on := 18, ground := Go.Ground.data }, { on := 19, ground := Go.Ground.data }, { on := 17, ground := Go.Ground.chain }, { on := 14, ground := Go.Ground.guard }], guard := some (14, false) },
  { dst := some 118, op := Go.Op.binOp Go.BinOp.neq 3 (Go.Operand.tmp 114) (Go.Operand.tmp 117) 3, type := 4, pos := "law.go:35", after := #[{ on := 17, ground := Go.Ground.data }, { on := 20, ground := Go.Ground.data }, { on := 14, ground := Go.Ground.guard }], guard := some (14, false) },
  { dst := some 119, op := Go.Op.pick (Go.Operand.tmp 111) (Go.Operand.const (Go.Value.bool true)) (Go.Operand.tmp 118), type := 4, pos := "law.go:35", after := #[{ on := 14, ground := Go.Ground.data }, { on := 21, ground := Go.Ground.data }], guard := none },
  { dst := some 120, op := Go.Op.move (Go.Operand.tmp 119), type := 4, pos := "law.go:35", after := #[{ on := 22, ground := Go.Ground.data }, { on := 20, ground := Go.Ground.chain }], guard := none },
  { dst := some 121, op := Go.Op.load 24 (Go.Operand.tmp 3), type := 24, pos := "law.go:35", after := #[{ on := 23, ground := Go.Ground.guard }], guard := some (23, false) },
  { dst := some 122, op := Go.Op.move (Go.Operand.tmp 1), type := 3, pos := "law.go:35", after := #[{ on := 23, ground := Go.Ground.guard }], guard := some (23, false) },
  { dst := some 123, op := Go.Op.call { callee := Go.Callee.value (Go.Operand.func 40), args := #[Go.Operand.tmp 121, Go.Operand.tmp 122], argTypes := #[24, 3] }, type := 4, pos := "law.go:35", after := #[{ on := 24, ground := Go.Ground.data }, { on := 25, ground := Go.Ground.data }, { on := 23, ground := Go.Ground.chain }, { on := 23, ground := Go.Ground.guard }], guard := some (23, false) },
  { dst := some 124, op := Go.Op.load 24 (Go.Operand.tmp 3), type := 24, pos := "law.go:35", after := #[{ on := 23, ground := Go.Ground.guard }], guard := some (23, false) },
  { dst := some 125, op := Go.Op.move (Go.Operand.tmp 1), type := 3, pos := "law.go:35", after := #[{ on := 23, ground := Go.Ground.guard }], guard := some (23, false) },
  { dst := some 126, op := Go.Op.call { callee := Go.Callee.value (Go.Operand.func 46), args := #[Go.Operand.tmp 124, Go.Operand.tmp 125], argTypes := #[24, 3] }, type := 4, pos := "law.go:35", after := #[{ on := 27, ground := Go.Ground.data }, { on := 28, ground := Go.Ground.data }, { on := 26, ground := Go.Ground.chain }, { on := 23, ground := Go.Ground.guard }], guard := some (23, false) },
  { dst := some 127, op := Go.Op.binOp Go.BinOp.neq 4 (Go.Operand.tmp 123) (Go.Operand.tmp 126) 4, type := 4, pos := "law.go:35", after := #[{ on := 26, ground := Go.Ground.data }, { on := 29, ground := Go.Ground.data }, { on := 23, ground := Go.Ground.guard }], guard := some (23, false) },
  { dst := some 128, op := Go.Op.pick (Go.Operand.tmp 120) (Go.Operand.const (Go.Value.bool true)) (Go.Operand.tmp 127), type := 4, pos := "law.go:35", after := #[{ on := 23, ground := Go.Ground.data }, { on := 30, ground := Go.Ground.data }], guard := none },
  { dst := some 129, op := Go.Op.move (Go.Operand.tmp 128), type := 4, pos := "law.go:35", after := #[{ on := 31, ground := Go.Ground.data }, { on := 29, ground := Go.Ground.chain }], guard := none },
  { dst := some 130, op := Go.Op.load 24 (Go.Operand.tmp 3), type := 24, pos := "law.go:35", after := #[{ on := 32, ground := Go.Ground.guard }], guard := some (32, false) },
  { dst := some 131, op := Go.Op.move (Go.Operand.tmp 1), type := 3, pos := "law.go:35", after := #[{ on := 32, ground := Go.Ground.guard }], guard := some (32, false) },
  { dst := some 132, op := Go.Op.call { callee := Go.Callee.value (Go.Operand.func 41), args := #[Go.Operand.tmp 130, Go.Operand.tmp 131], argTypes := #[24, 3] }, type := 26, pos := "law.go:35", after := #[{ on := 33, ground := Go.Ground.data }, { on := 34, ground := Go.Ground.data }, { on := 32, ground := Go.Ground.chain }, { on := 32, ground := Go.Ground.guard }], guard := some (32, false) },
  { dst := some 133, op := Go.Op.load 24 (Go.Operand.tmp 3), type := 24, pos := "law.go:35", after := #[{ on := 32, ground := Go.Ground.guard }], guard := some (32, false) },
  { dst := some 134, op := Go.Op.move (Go.Operand.tmp 1), type := 3, pos := "law.go:35", after := #[{ on := 32, ground := Go.Ground.guard }], guard := some (32, false) },
  { dst := some 135, op := Go.Op.call { callee := Go.Callee.value (Go.Operand.func 47), args := #[Go.Operand.tmp 133, Go.Operand.tmp 134], argTypes := #[24, 3] }, type := 26, pos := "law.go:35", after := #[{ on := 36, ground := Go.Ground.data }, { on := 37, ground := Go.Ground.data }, { on := 35, ground := Go.Ground.chain }, { on := 32, ground := Go.Ground.guard }], guard := some (32, false) },
  { dst := some 136, op := Go.Op.call { callee := Go.Callee.value (Go.Operand.func 29), args := #[Go.Operand.tmp 132, Go.Operand.tmp 135], argTypes := #[26, 26] }, type := 4, pos := "law.go:35", after := #[{ on := 35, ground := Go.Ground.data }, { on := 38, ground := Go.Ground.data }, { on := 38, ground := Go.Ground.chain }, { on := 32, ground := Go.Ground.guard }], guard := some (32, false) },
  { dst := some 137, op := Go.Op.unOp Go.UnOp.not 4 (Go.Operand.tmp 136), type := 4, pos := "law.go:35", after := #[{ on := 39, ground := Go.Ground.data }, { on := 32, ground := Go.Ground.guard }], guard := some (32, false) },
  { dst := some 138, op := Go.Op.pick (Go.Operand.tmp 129) (Go.Operand.const (Go.Value.bool true)) (Go.Operand.tmp 137), type := 4, pos := "law.go:35", after := #[{ on := 32, ground := Go.Ground.data }, { on := 40, ground := Go.Ground.data }], guard := none },
  { dst := some 139, op := Go.Op.move (Go.Operand.tmp 138), type := 4, pos := "law.go:35", after := #[{ on := 41, ground := Go.Ground.data }, { on := 39, ground := Go.Ground.chain }], guard := none },
  { dst := some 140, op := Go.Op.load 24 (Go.Operand.tmp 3), type := 24, pos := "law.go:35", after := #[{ on := 42, ground := Go.Ground.guard }], guard := some (42, false) },
  { dst := some 141, op := Go.Op.move (Go.Operand.tmp 1), type := 3, pos := "law.go:35", after := #[{ on := 42, ground := Go.Ground.guard }], guard := some (42, false) },
  { dst := some 142, op := Go.Op.call { callee := Go.Callee.value (Go.Operand.func 42), args := #[Go.Operand.tmp 140, Go.Operand.tmp 141], argTypes := #[24, 3] }, type := 26, pos := "law.go:35", after := #[{ on := 43, ground := Go.Ground.data }, { on := 44, ground := Go.Ground.data }, { on := 42, ground := Go.Ground.chain }, { on := 42, ground := Go.Ground.guard }], guard := some (42, false) },
  { dst := some 143, op := Go.Op.load 24 (Go.Operand.tmp 3), type := 24, pos := "law.go:35", after := #[{ on := 42, ground := Go.Ground.guard }], guard := some (42, false) },
  { dst := some 144, op := Go.Op.move (Go.Operand.tmp 1), type := 3, pos := "law.go:35", after := #[{ on := 42, ground := Go.Ground.guard }], guard := some (42, false) },
  { dst := some 145, op := Go.Op.call { callee := Go.Callee.value (Go.Operand.func 48), args := #[Go.Operand.tmp 143, Go.Operand.tmp 144], argTypes := #[24, 3] }, type := 26, pos := "law.go:35", after := #[{ on := 46, ground := Go.Ground.data }, { on := 47, ground := Go.Ground.data }, { on := 45, ground := Go.Ground.chain }, { on := 42, ground := Go.Ground.guard }], guard := some (42, false) },
  { dst := some 146, op := Go.Op.call { callee := Go.Callee.value (Go.Operand.func 29), args := #[Go.Operand.tmp 142, Go.Operand.tmp 145], argTypes := #[26, 26] }, type := 4, pos := "law.go:35", after := #[{ on := 45, ground := Go.Ground.data }, { on := 48, ground := Go.Ground.data }, { on := 48, ground := Go.Ground.chain }, { on := 42, ground := Go.Ground.guard }], guard := some (42, false) },
  { dst := some 147, op := Go.Op.unOp Go.UnOp.not 4 (Go.Operand.tmp 146), type := 4, pos := "law.go:35", after := #[{ on := 49, ground := Go.Ground.data }, { on := 42, ground := Go.Ground.guard }], guard := some (42, false) },
  { dst := some 148, op := Go.Op.pick (Go.Operand.tmp 139) (Go.Operand.const (Go.Value.bool true)) (Go.Operand.tmp 147), type := 4, pos := "law.go:35", after := #[{ on := 42, ground := Go.Ground.data }, { on := 50, ground := Go.Ground.data }], guard := none }]
set_option maxHeartbeats 16000000 in
set_option maxRecDepth 100000 in
theorem shadeRight9_region {Q : Exit → Act → World → Prop} {a0 : Act} {W : World} (hsz : factsOK shadeRight9Ops a0.tmps.size = true) {x N E T m : Int} {C : Bool} {la le : List Int} {q0 q1 q2 : Nat} {fa ga ha : Option Addr} {fl fc gl gc hl hc : Nat}
    (hq0 : q0 < W.heap.size) (hc00 : W.cell? ⟨q0, 0, none⟩ = some (.slice fa fl fc)) (hc01 : W.cell? ⟨q0, 1, none⟩ = some (.int .i64 m)) (hq1 : q1 < W.heap.size) (hc10 : W.cell? ⟨q1, 0, none⟩ = some (.slice ga gl gc)) (hc11 : W.cell? ⟨q1, 1, none⟩ = some (.int .i64 m)) (hq2 : q2 < W.heap.size) (hc20 : W.cell? ⟨q2, 0, none⟩ = some (.slice ha hl hc)) (hc21 : W.cell? ⟨q2, 1, none⟩ = some (.int .i64 m))

    (h1 : a0.tmps[1]? = some (.int .i64 x))
    (h3 : a0.tmps[3]? = some (.pointer (some ⟨q0, 0, none⟩)))
    (h7 : a0.tmps[7]? = some (.pointer (some ⟨q1, 0, none⟩)))
    (h8 : a0.tmps[8]? = some (.int .i64 N))
    (h9 : a0.tmps[9]? = some (.int .i64 E))
    (h10 : a0.tmps[10]? = some (.pointer (some ⟨q2, 0, none⟩)))
    (h11 : a0.tmps[11]? = some (.int .i64 N))
    (h12 : a0.tmps[12]? = some (.int .i64 E))
    (C2 : CallFact Try.prog 20 #[forV ga gl gc m, forV ha hl hc m] W (isV (.bool true)))
    (C17 : CallFact Try.prog 39 #[forV fa fl fc m, .int .i64 x] W (isV (.int .i64 T)))
    (C20 : CallFact Try.prog 45 #[forV fa fl fc m, .int .i64 x] W (isV (.int .i64 T)))
    (C26 : CallFact Try.prog 40 #[forV fa fl fc m, .int .i64 x] W (isV (.bool C)))
    (C29 : CallFact Try.prog 46 #[forV fa fl fc m, .int .i64 x] W (isV (.bool C)))
    (C35 : CallFact Try.prog 41 #[forV fa fl fc m, .int .i64 x] W (rowF la))
    (C38 : CallFact Try.prog 47 #[forV fa fl fc m, .int .i64 x] W (rowF la))
    (C45 : CallFact Try.prog 42 #[forV fa fl fc m, .int .i64 x] W (rowF le))
    (C48 : CallFact Try.prog 48 #[forV fa fl fc m, .int .i64 x] W (rowF le))
    (hQ : ∀ (v : Nat → Value) w', Below W.heap.size W w' → Q .normal ⟨(puts a0.tmps.toList [(some 97, v 0), (some 98, v 1), (some 99, v 2), (some 100, v 3), (some 101, v 4), (some 102, v 5), (some 103, v 6), (some 104, v 7), (some 105, v 8), (some 106, v 9), (some 107, v 10), (some 108, v 11), (some 109, v 12), (some 110, v 13), (some 111, v 14), (some 112, v 15), (some 113, v 16), (some 114, v 17), (some 115, v 18), (some 116, v 19), (some 117, v 20), (some 118, v 21), (some 119, v 22), (some 120, v 23), (some 121, v 24), (some 122, v 25), (some 123, v 26), (some 124, v 27), (some 125, v 28), (some 126, v 29), (some 127, v 30), (some 128, v 31), (some 129, v 32), (some 130, v 33), (some 131, v 34), (some 132, v 35), (some 133, v 36), (some 134, v 37), (some 135, v 38), (some 136, v 39), (some 137, v 40), (some 138, v 41), (some 139, v 42), (some 140, v 43), (some 141, v 44), (some 142, v 45), (some 143, v 46), (some 144, v 47), (some 145, v 48), (some 146, v 49), (some 147, v 50), (some 148, .bool false)]).toArray, a0.defers⟩ w') :
    (Code.region 9 shadeRight9Ops.toArray true).wp Try.prog Q a0 W := by
  refine wp_region_facts [isV (forV ga gl gc m), isV (forV ha hl hc m), isV (.bool true), isV (.bool false), isV (.bool false), isV (.int .i64 N), isV (.int .i64 N), isV (.bool false), isV (.bool false), isV (.bool false), isV (.int .i64 E), isV (.int .i64 E), isV (.bool false), isV (.bool false), isV (.bool false), isV (forV fa fl fc m), isV (.int .i64 x), isV (.int .i64 T), isV (forV fa fl fc m), isV (.int .i64 x), isV (.int .i64 T), isV (.bool false), isV (.bool false), isV (.bool false), isV (forV fa fl fc m), isV (.int .i64 x), isV (.bool C), isV (forV fa fl fc m), isV (.int .i64 x), isV (.bool C), isV (.bool false), isV (.bool false), isV (.bool false), isV (forV fa fl fc m), isV (.int .i64 x), rowF la, isV (forV fa fl fc m), isV (.int .i64 x), rowF la, isV (.bool true), isV (.bool false), isV (.bool false), isV (.bool false), isV (forV fa fl fc m), isV (.int .i64 x), rowF le, isV (forV fa fl fc m), isV (.int .i64 x), rowF le, isV (.bool true), isV (.bool false), isV (.bool false)] (by kernel_rfl) hsz rfl (.cons ?_ (.cons ?_ (.cons ?_ (.cons ?_ (.cons ?_ (.cons ?_ (.cons ?_ (.cons ?_ (.cons ?_ (.cons ?_ (.cons ?_ (.cons ?_ (.cons ?_ (.cons ?_ (.cons ?_ (.cons ?_ (.cons ?_ (.cons ?_ (.cons ?_ (.cons ?_ (.cons ?_ (.cons ?_ (.cons ?_ (.cons ?_ (.cons ?_ (.cons ?_ (.cons ?_ (.cons ?_ (.cons ?_ (.cons ?_ (.cons ?_ (.cons ?_ (.cons ?_ (.cons ?_ (.cons ?_ (.cons ?_ (.cons ?_ (.cons ?_ (.cons ?_ (.cons ?_ (.cons ?_ (.cons ?_ (.cons ?_ (.cons ?_ (.cons ?_ (.cons ?_ (.cons ?_ (.cons ?_ (.cons ?_ (.cons ?_ (.cons ?_ (.cons ?_ .nil)))))))))))))))))))))))))))))))))))))))))))))))))))) ?_
  · intro a w v K h hK
    rw [if_pos (wanted_none rfl)]
    have e7 := h.out (t := 7) (by kernel_rfl) h7
    have c0 := (h.below.cell (p := ⟨q1, 0, none⟩) hq1).trans hc10
    have c1 := (h.below.cell (p := ⟨q1, 1, none⟩) hq1).trans hc11
    have hK := Lib.hid hK; clear h
    go_simp
    exact hK.out _ _ rfl (Below.refl _ _)
  · intro a w v K h hK
    rw [if_pos (wanted_none rfl)]
    have e10 := h.out (t := 10) (by kernel_rfl) h10
    have c0 := (h.below.cell (p := ⟨q2, 0, none⟩) hq2).trans hc20
    have c1 := (h.below.cell (p := ⟨q2, 1, none⟩) hq2).trans hc21
    have hK := Lib.hid hK; clear h
    go_simp
    exact hK.out _ _ rfl (Below.refl _ _)
  · intro a w v K h hK
    rw [if_pos (wanted_none rfl)]
    have e97 := h.at_ (j := 0) (d := 97) (by decide) (by kernel_rfl) rfl rfl
    have e98 := h.at_ (j := 1) (d := 98) (by decide) (by kernel_rfl) rfl rfl
    have hc := C2 w h.below
    have hK := Lib.hid hK; clear h
    go_simp
    refine hc.mono ?_
    rintro e w' ⟨u, rfl, hu, hb⟩
    exact hK.out _ _ hu hb
  · intro a w v K h hK
    rw [if_pos (wanted_none rfl)]
    have e99 := h.at_ (j := 2) (d := 99) (by decide) (by kernel_rfl) rfl rfl
    have hK := Lib.hid hK; clear h
    go_simp
    exact hK.out _ _ rfl (Below.refl _ _)
  · intro a w v K h hK
    rw [if_pos (wanted_none rfl)]
    have e100 := h.at_ (j := 3) (d := 100) (by decide) (by kernel_rfl) rfl rfl
    have hK := Lib.hid hK; clear h
    go_simp
    exact hK.out _ _ rfl (Below.refl _ _)
  · intro a w v K h hK
    have e101 := h.at_ (j := 4) (d := 101) (by decide) (by kernel_rfl) rfl rfl
    rw [if_pos (wanted_some (l := shadeRight9Ops) rfl rfl e101)]
    have e8 := h.out (t := 8) (by kernel_rfl) h8
    have hK := Lib.hid hK; clear h
    go_simp
    exact hK.out _ _ rfl (Below.refl _ _)
  · intro a w v K h hK
    have e101 := h.at_ (j := 4) (d := 101) (by decide) (by kernel_rfl) rfl rfl
    rw [if_pos (wanted_some (l := shadeRight9Ops) rfl rfl e101)]
    have e11 := h.out (t := 11) (by kernel_rfl) h11
    have hK := Lib.hid hK; clear h
    go_simp
    exact hK.out _ _ rfl (Below.refl _ _)
  · intro a w v K h hK
    have e101 := h.at_ (j := 4) (d := 101) (by decide) (by kernel_rfl) rfl rfl
    rw [if_pos (wanted_some (l := shadeRight9Ops) rfl rfl e101)]
    have e102 := h.at_ (j := 5) (d := 102) (by decide) (by kernel_rfl) rfl rfl
    have e103 := h.at_ (j := 6) (d := 103) (by decide) (by kernel_rfl) rfl rfl
    have hK := Lib.hid hK; clear h
    go_simp
    exact hK.out _ _ rfl (Below.refl _ _)
  · intro a w v K h hK
    rw [if_pos (wanted_none rfl)]
    have e101 := h.at_ (j := 4) (d := 101) (by decide) (by kernel_rfl) rfl rfl
    have e104 := h.at_ (j := 7) (d := 104) (by decide) (by kernel_rfl) rfl rfl
    have hK := Lib.hid hK; clear h
    go_simp
    exact hK.out _ _ rfl (Below.refl _ _)
  · intro a w v K h hK
    rw [if_pos (wanted_none rfl)]
    have e105 := h.at_ (j := 8) (d := 105) (by decide) (by kernel_rfl) rfl rfl
    have hK := Lib.hid hK; clear h
    go_simp
    exact hK.out _ _ rfl (Below.refl _ _)
  · intro a w v K h hK
    have e106 := h.at_ (j := 9) (d := 106) (by decide) (by kernel_rfl) rfl rfl
    rw [if_pos (wanted_some (l := shadeRight9Ops) rfl rfl e106)]
    have e9 := h.out (t := 9) (by kernel_rfl) h9
    have hK := Lib.hid hK; clear h
    go_simp
    exact hK.out _ _ rfl (Below.refl _ _)
  · intro a w v K h hK
    have e106 := h.at_ (j := 9) (d := 106) (by decide) (by kernel_rfl) rfl rfl
    rw [if_pos (wanted_some (l := shadeRight9Ops) rfl rfl e106)]
    have e12 := h.out (t := 12) (by kernel_rfl) h12
    have hK := Lib.hid hK; clear h
    go_simp
    exact hK.out _ _ rfl (Below.refl _ _)
  · intro a w v K h hK
    have e106 := h.at_ (j := 9) (d := 106) (by decide) (by kernel_rfl) rfl rfl
    rw [if_pos (wanted_some (l := shadeRight9Ops) rfl rfl e106)]
    have e107 := h.at_ (j := 10) (d := 107) (by decide) (by kernel_rfl) rfl rfl
    have e108 := h.at_ (j := 11) (d := 108) (by decide) (by kernel_rfl) rfl rfl
    have hK := Lib.hid hK; clear h
    go_simp
    exact hK.out _ _ rfl (Below.refl _ _)
  · intro a w v K h hK
    rw [if_pos (wanted_none rfl)]
    have e106 := h.at_ (j := 9) (d := 106) (by decide) (by kernel_rfl) rfl rfl
    have e109 := h.at_ (j := 12) (d := 109) (by decide) (by kernel_rfl) rfl rfl
    have hK := Lib.hid hK; clear h
    go_simp
    exact hK.out _ _ rfl (Below.refl _ _)
  · intro a w v K h hK
    rw [if_pos (wanted_none rfl)]
    have e110 := h.at_ (j := 13) (d := 110) (by decide) (by kernel_rfl) rfl rfl
    have hK := Lib.hid hK; clear h
    go_simp
    exact hK.out _ _ rfl (Below.refl _ _)
  · intro a w v K h hK
    have e111 := h.at_ (j := 14) (d := 111) (by decide) (by kernel_rfl) rfl rfl
    rw [if_pos (wanted_some (l := shadeRight9Ops) rfl rfl e111)]
    have e3 := h.out (t := 3) (by kernel_rfl) h3
    have c0 := (h.below.cell (p := ⟨q0, 0, none⟩) hq0).trans hc00
    have c1 := (h.below.cell (p := ⟨q0, 1, none⟩) hq0).trans hc01
    have hK := Lib.hid hK; clear h
    go_simp
    exact hK.out _ _ rfl (Below.refl _ _)
  · intro a w v K h hK
    have e111 := h.at_ (j := 14) (d := 111) (by decide) (by kernel_rfl) rfl rfl
    rw [if_pos (wanted_some (l := shadeRight9Ops) rfl rfl e111)]
    have e1 := h.out (t := 1) (by kernel_rfl) h1
    have hK := Lib.hid hK; clear h
    go_simp
    exact hK.out _ _ rfl (Below.refl _ _)
  · intro a w v K h hK
    have e111 := h.at_ (j := 14) (d := 111) (by decide) (by kernel_rfl) rfl rfl
    rw [if_pos (wanted_some (l := shadeRight9Ops) rfl rfl e111)]
    have e112 := h.at_ (j := 15) (d := 112) (by decide) (by kernel_rfl) rfl rfl
    have e113 := h.at_ (j := 16) (d := 113) (by decide) (by kernel_rfl) rfl rfl
    have hc := C17 w h.below
    have hK := Lib.hid hK; clear h
    go_simp
    refine hc.mono ?_
    rintro e w' ⟨u, rfl, hu, hb⟩
    exact hK.out _ _ hu hb
  · intro a w v K h hK
    have e111 := h.at_ (j := 14) (d := 111) (by decide) (by kernel_rfl) rfl rfl
    rw [if_pos (wanted_some (l := shadeRight9Ops) rfl rfl e111)]
    have e3 := h.out (t := 3) (by kernel_rfl) h3
    have c0 := (h.below.cell (p := ⟨q0, 0, none⟩) hq0).trans hc00
    have c1 := (h.below.cell (p := ⟨q0, 1, none⟩) hq0).trans hc01
    have hK := Lib.hid hK; clear h
    go_simp
    exact hK.out _ _ rfl (Below.refl _ _)
  · intro a w v K h hK
    have e111 := h.at_ (j := 14) (d := 111) (by decide) (by kernel_rfl) rfl rfl
    rw [if_pos (wanted_some (l := shadeRight9Ops) rfl rfl e111)]
    have e1 := h.out (t := 1) (by kernel_rfl) h1
    have hK := Lib.hid hK; clear h
    go_simp
    exact hK.out _ _ rfl (Below.refl _ _)
  · intro a w v K h hK
    have e111 := h.at_ (j := 14) (d := 111) (by decide) (by kernel_rfl) rfl rfl
    rw [if_pos (wanted_some (l := shadeRight9Ops) rfl rfl e111)]
    have e115 := h.at_ (j := 18) (d := 115) (by decide) (by kernel_rfl) rfl rfl
    have e116 := h.at_ (j := 19) (d := 116) (by decide) (by kernel_rfl) rfl rfl
    have hc := C20 w h.below
    have hK := Lib.hid hK; clear h
    go_simp
    refine hc.mono ?_
    rintro e w' ⟨u, rfl, hu, hb⟩
    exact hK.out _ _ hu hb
  · intro a w v K h hK
    have e111 := h.at_ (j := 14) (d := 111) (by decide) (by kernel_rfl) rfl rfl
    rw [if_pos (wanted_some (l := shadeRight9Ops) rfl rfl e111)]
    have e114 := h.at_ (j := 17) (d := 114) (by decide) (by kernel_rfl) rfl rfl
    have e117 := h.at_ (j := 20) (d := 117) (by decide) (by kernel_rfl) rfl rfl
    have hK := Lib.hid hK; clear h
    go_simp
    exact hK.out _ _ rfl (Below.refl _ _)
  · intro a w v K h hK
    rw [if_pos (wanted_none rfl)]
    have e111 := h.at_ (j := 14) (d := 111) (by decide) (by kernel_rfl) rfl rfl
    have e118 := h.at_ (j := 21) (d := 118) (by decide) (by kernel_rfl) rfl rfl
    have hK := Lib.hid hK; clear h
    go_simp
    exact hK.out _ _ rfl (Below.refl _ _)
  · intro a w v K h hK
    rw [if_pos (wanted_none rfl)]
    have e119 := h.at_ (j := 22) (d := 119) (by decide) (by kernel_rfl) rfl rfl
    have hK := Lib.hid hK; clear h
    go_simp
    exact hK.out _ _ rfl (Below.refl _ _)
  · intro a w v K h hK
    have e120 := h.at_ (j := 23) (d := 120) (by decide) (by kernel_rfl) rfl rfl
    rw [if_pos (wanted_some (l := shadeRight9Ops) rfl rfl e120)]
    have e3 := h.out (t := 3) (by kernel_rfl) h3
    have c0 := (h.below.cell (p := ⟨q0, 0, none⟩) hq0).trans hc00
    have c1 := (h.below.cell (p := ⟨q0, 1, none⟩) hq0).trans hc01
    have hK := Lib.hid hK; clear h
    go_simp
    exact hK.out _ _ rfl (Below.refl _ _)
  · intro a w v K h hK
    have e120 := h.at_ (j := 23) (d := 120) (by decide) (by kernel_rfl) rfl rfl
    rw [if_pos (wanted_some (l := shadeRight9Ops) rfl rfl e120)]
    have e1 := h.out (t := 1) (by kernel_rfl) h1
    have hK := Lib.hid hK; clear h
    go_simp
    exact hK.out _ _ rfl (Below.refl _ _)
  · intro a w v K h hK
    have e120 := h.at_ (j := 23) (d := 120) (by decide) (by kernel_rfl) rfl rfl
    rw [if_pos (wanted_some (l := shadeRight9Ops) rfl rfl e120)]
    have e121 := h.at_ (j := 24) (d := 121) (by decide) (by kernel_rfl) rfl rfl
    have e122 := h.at_ (j := 25) (d := 122) (by decide) (by kernel_rfl) rfl rfl
    have hc := C26 w h.below
    have hK := Lib.hid hK; clear h
    go_simp
    refine hc.mono ?_
    rintro e w' ⟨u, rfl, hu, hb⟩
    exact hK.out _ _ hu hb
  · intro a w v K h hK
    have e120 := h.at_ (j := 23) (d := 120) (by decide) (by kernel_rfl) rfl rfl
    rw [if_pos (wanted_some (l := shadeRight9Ops) rfl rfl e120)]
    have e3 := h.out (t := 3) (by kernel_rfl) h3
    have c0 := (h.below.cell (p := ⟨q0, 0, none⟩) hq0).trans hc00
    have c1 := (h.below.cell (p := ⟨q0, 1, none⟩) hq0).trans hc01
    have hK := Lib.hid hK; clear h
    go_simp
    exact hK.out _ _ rfl (Below.refl _ _)
  · intro a w v K h hK
    have e120 := h.at_ (j := 23) (d := 120) (by decide) (by kernel_rfl) rfl rfl
    rw [if_pos (wanted_some (l := shadeRight9Ops) rfl rfl e120)]
    have e1 := h.out (t := 1) (by kernel_rfl) h1
    have hK := Lib.hid hK; clear h
    go_simp
    exact hK.out _ _ rfl (Below.refl _ _)
  · intro a w v K h hK
    have e120 := h.at_ (j := 23) (d := 120) (by decide) (by kernel_rfl) rfl rfl
    rw [if_pos (wanted_some (l := shadeRight9Ops) rfl rfl e120)]
    have e124 := h.at_ (j := 27) (d := 124) (by decide) (by kernel_rfl) rfl rfl
    have e125 := h.at_ (j := 28) (d := 125) (by decide) (by kernel_rfl) rfl rfl
    have hc := C29 w h.below
    have hK := Lib.hid hK; clear h
    go_simp
    refine hc.mono ?_
    rintro e w' ⟨u, rfl, hu, hb⟩
    exact hK.out _ _ hu hb
  · intro a w v K h hK
    have e120 := h.at_ (j := 23) (d := 120) (by decide) (by kernel_rfl) rfl rfl
    rw [if_pos (wanted_some (l := shadeRight9Ops) rfl rfl e120)]
    have e123 := h.at_ (j := 26) (d := 123) (by decide) (by kernel_rfl) rfl rfl
    have e126 := h.at_ (j := 29) (d := 126) (by decide) (by kernel_rfl) rfl rfl
    have hK := Lib.hid hK; clear h
    go_simp
    exact hK.out _ _ rfl (Below.refl _ _)
  · intro a w v K h hK
    rw [if_pos (wanted_none rfl)]
    have e120 := h.at_ (j := 23) (d := 120) (by decide) (by kernel_rfl) rfl rfl
    have e127 := h.at_ (j := 30) (d := 127) (by decide) (by kernel_rfl) rfl rfl
    have hK := Lib.hid hK; clear h
    go_simp
    exact hK.out _ _ rfl (Below.refl _ _)
  · intro a w v K h hK
    rw [if_pos (wanted_none rfl)]
    have e128 := h.at_ (j := 31) (d := 128) (by decide) (by kernel_rfl) rfl rfl
    have hK := Lib.hid hK; clear h
    go_simp
    exact hK.out _ _ rfl (Below.refl _ _)
  · intro a w v K h hK
    have e129 := h.at_ (j := 32) (d := 129) (by decide) (by kernel_rfl) rfl rfl
    rw [if_pos (wanted_some (l := shadeRight9Ops) rfl rfl e129)]
    have e3 := h.out (t := 3) (by kernel_rfl) h3
    have c0 := (h.below.cell (p := ⟨q0, 0, none⟩) hq0).trans hc00
    have c1 := (h.below.cell (p := ⟨q0, 1, none⟩) hq0).trans hc01
    have hK := Lib.hid hK; clear h
    go_simp
    exact hK.out _ _ rfl (Below.refl _ _)
  · intro a w v K h hK
    have e129 := h.at_ (j := 32) (d := 129) (by decide) (by kernel_rfl) rfl rfl
    rw [if_pos (wanted_some (l := shadeRight9Ops) rfl rfl e129)]
    have e1 := h.out (t := 1) (by kernel_rfl) h1
    have hK := Lib.hid hK; clear h
    go_simp
    exact hK.out _ _ rfl (Below.refl _ _)
  · intro a w v K h hK
    have e129 := h.at_ (j := 32) (d := 129) (by decide) (by kernel_rfl) rfl rfl
    rw [if_pos (wanted_some (l := shadeRight9Ops) rfl rfl e129)]
    have e130 := h.at_ (j := 33) (d := 130) (by decide) (by kernel_rfl) rfl rfl
    have e131 := h.at_ (j := 34) (d := 131) (by decide) (by kernel_rfl) rfl rfl
    have hc := C35 w h.below
    have hK := Lib.hid hK; clear h
    go_simp
    refine hc.mono ?_
    rintro e w' ⟨u, rfl, hu, hb⟩
    exact hK.out _ _ hu hb
  · intro a w v K h hK
    have e129 := h.at_ (j := 32) (d := 129) (by decide) (by kernel_rfl) rfl rfl
    rw [if_pos (wanted_some (l := shadeRight9Ops) rfl rfl e129)]
    have e3 := h.out (t := 3) (by kernel_rfl) h3
    have c0 := (h.below.cell (p := ⟨q0, 0, none⟩) hq0).trans hc00
    have c1 := (h.below.cell (p := ⟨q0, 1, none⟩) hq0).trans hc01
    have hK := Lib.hid hK; clear h
    go_simp
    exact hK.out _ _ rfl (Below.refl _ _)
  · intro a w v K h hK
    have e129 := h.at_ (j := 32) (d := 129) (by decide) (by kernel_rfl) rfl rfl
    rw [if_pos (wanted_some (l := shadeRight9Ops) rfl rfl e129)]
    have e1 := h.out (t := 1) (by kernel_rfl) h1
    have hK := Lib.hid hK; clear h
    go_simp
    exact hK.out _ _ rfl (Below.refl _ _)
  · intro a w v K h hK
    have e129 := h.at_ (j := 32) (d := 129) (by decide) (by kernel_rfl) rfl rfl
    rw [if_pos (wanted_some (l := shadeRight9Ops) rfl rfl e129)]
    have e133 := h.at_ (j := 36) (d := 133) (by decide) (by kernel_rfl) rfl rfl
    have e134 := h.at_ (j := 37) (d := 134) (by decide) (by kernel_rfl) rfl rfl
    have hc := C38 w h.below
    have hK := Lib.hid hK; clear h
    go_simp
    refine hc.mono ?_
    rintro e w' ⟨u, rfl, hu, hb⟩
    exact hK.out _ _ hu hb
  · intro a w v K h hK
    have e129 := h.at_ (j := 32) (d := 129) (by decide) (by kernel_rfl) rfl rfl
    rw [if_pos (wanted_some (l := shadeRight9Ops) rfl rfl e129)]
    obtain ⟨u132, e132, r132⟩ := h.with (j := 35) (d := 132) (by decide) (by kernel_rfl) rfl rfl
    obtain ⟨u135, e135, r135⟩ := h.with (j := 38) (d := 135) (by decide) (by kernel_rfl) rfl rfl
    obtain ⟨a1, l1, c1, rfl, hr1⟩ := r132
    obtain ⟨a2, l2, c2, rfl, hr2⟩ := r135
    have hc := ints_same hr1 hr2
    have hK := Lib.hid hK; clear h
    go_simp
    refine hc.mono ?_
    rintro e w' ⟨u, rfl, hu, hb⟩
    exact hK.out _ _ hu hb
  · intro a w v K h hK
    have e129 := h.at_ (j := 32) (d := 129) (by decide) (by kernel_rfl) rfl rfl
    rw [if_pos (wanted_some (l := shadeRight9Ops) rfl rfl e129)]
    have e136 := h.at_ (j := 39) (d := 136) (by decide) (by kernel_rfl) rfl rfl
    have hK := Lib.hid hK; clear h
    go_simp
    exact hK.out _ _ rfl (Below.refl _ _)
  · intro a w v K h hK
    rw [if_pos (wanted_none rfl)]
    have e129 := h.at_ (j := 32) (d := 129) (by decide) (by kernel_rfl) rfl rfl
    have e137 := h.at_ (j := 40) (d := 137) (by decide) (by kernel_rfl) rfl rfl
    have hK := Lib.hid hK; clear h
    go_simp
    exact hK.out _ _ rfl (Below.refl _ _)
  · intro a w v K h hK
    rw [if_pos (wanted_none rfl)]
    have e138 := h.at_ (j := 41) (d := 138) (by decide) (by kernel_rfl) rfl rfl
    have hK := Lib.hid hK; clear h
    go_simp
    exact hK.out _ _ rfl (Below.refl _ _)
  · intro a w v K h hK
    have e139 := h.at_ (j := 42) (d := 139) (by decide) (by kernel_rfl) rfl rfl
    rw [if_pos (wanted_some (l := shadeRight9Ops) rfl rfl e139)]
    have e3 := h.out (t := 3) (by kernel_rfl) h3
    have c0 := (h.below.cell (p := ⟨q0, 0, none⟩) hq0).trans hc00
    have c1 := (h.below.cell (p := ⟨q0, 1, none⟩) hq0).trans hc01
    have hK := Lib.hid hK; clear h
    go_simp
    exact hK.out _ _ rfl (Below.refl _ _)
  · intro a w v K h hK
    have e139 := h.at_ (j := 42) (d := 139) (by decide) (by kernel_rfl) rfl rfl
    rw [if_pos (wanted_some (l := shadeRight9Ops) rfl rfl e139)]
    have e1 := h.out (t := 1) (by kernel_rfl) h1
    have hK := Lib.hid hK; clear h
    go_simp
    exact hK.out _ _ rfl (Below.refl _ _)
  · intro a w v K h hK
    have e139 := h.at_ (j := 42) (d := 139) (by decide) (by kernel_rfl) rfl rfl
    rw [if_pos (wanted_some (l := shadeRight9Ops) rfl rfl e139)]
    have e140 := h.at_ (j := 43) (d := 140) (by decide) (by kernel_rfl) rfl rfl
    have e141 := h.at_ (j := 44) (d := 141) (by decide) (by kernel_rfl) rfl rfl
    have hc := C45 w h.below
    have hK := Lib.hid hK; clear h
    go_simp
    refine hc.mono ?_
    rintro e w' ⟨u, rfl, hu, hb⟩
    exact hK.out _ _ hu hb
  · intro a w v K h hK
    have e139 := h.at_ (j := 42) (d := 139) (by decide) (by kernel_rfl) rfl rfl
    rw [if_pos (wanted_some (l := shadeRight9Ops) rfl rfl e139)]
    have e3 := h.out (t := 3) (by kernel_rfl) h3
    have c0 := (h.below.cell (p := ⟨q0, 0, none⟩) hq0).trans hc00
    have c1 := (h.below.cell (p := ⟨q0, 1, none⟩) hq0).trans hc01
    have hK := Lib.hid hK; clear h
    go_simp
    exact hK.out _ _ rfl (Below.refl _ _)
  · intro a w v K h hK
    have e139 := h.at_ (j := 42) (d := 139) (by decide) (by kernel_rfl) rfl rfl
    rw [if_pos (wanted_some (l := shadeRight9Ops) rfl rfl e139)]
    have e1 := h.out (t := 1) (by kernel_rfl) h1
    have hK := Lib.hid hK; clear h
    go_simp
    exact hK.out _ _ rfl (Below.refl _ _)
  · intro a w v K h hK
    have e139 := h.at_ (j := 42) (d := 139) (by decide) (by kernel_rfl) rfl rfl
    rw [if_pos (wanted_some (l := shadeRight9Ops) rfl rfl e139)]
    have e143 := h.at_ (j := 46) (d := 143) (by decide) (by kernel_rfl) rfl rfl
    have e144 := h.at_ (j := 47) (d := 144) (by decide) (by kernel_rfl) rfl rfl
    have hc := C48 w h.below
    have hK := Lib.hid hK; clear h
    go_simp
    refine hc.mono ?_
    rintro e w' ⟨u, rfl, hu, hb⟩
    exact hK.out _ _ hu hb
  · intro a w v K h hK
    have e139 := h.at_ (j := 42) (d := 139) (by decide) (by kernel_rfl) rfl rfl
    rw [if_pos (wanted_some (l := shadeRight9Ops) rfl rfl e139)]
    obtain ⟨u142, e142, r142⟩ := h.with (j := 45) (d := 142) (by decide) (by kernel_rfl) rfl rfl
    obtain ⟨u145, e145, r145⟩ := h.with (j := 48) (d := 145) (by decide) (by kernel_rfl) rfl rfl
    obtain ⟨a1, l1, c1, rfl, hr1⟩ := r142
    obtain ⟨a2, l2, c2, rfl, hr2⟩ := r145
    have hc := ints_same hr1 hr2
    have hK := Lib.hid hK; clear h
    go_simp
    refine hc.mono ?_
    rintro e w' ⟨u, rfl, hu, hb⟩
    exact hK.out _ _ hu hb
  · intro a w v K h hK
    have e139 := h.at_ (j := 42) (d := 139) (by decide) (by kernel_rfl) rfl rfl
    rw [if_pos (wanted_some (l := shadeRight9Ops) rfl rfl e139)]
    have e146 := h.at_ (j := 49) (d := 146) (by decide) (by kernel_rfl) rfl rfl
    have hK := Lib.hid hK; clear h
    go_simp
    exact hK.out _ _ rfl (Below.refl _ _)
  · intro a w v K h hK
    rw [if_pos (wanted_none rfl)]
    have e139 := h.at_ (j := 42) (d := 139) (by decide) (by kernel_rfl) rfl rfl
    have e147 := h.at_ (j := 50) (d := 147) (by decide) (by kernel_rfl) rfl rfl
    have hK := Lib.hid hK; clear h
    go_simp
    exact hK.out _ _ rfl (Below.refl _ _)
  · intro v w' hb hf
    have e : v 51 = .bool false := hf 51 (by decide) _ rfl
    have := hQ v w' hb
    rw [← e] at this
    exact this
def shadeRight13Ops : List Oper := [
  { dst := some 163, op := Go.Op.load 24 (Go.Operand.tmp 3), type := 24, pos := "law.go:41", after := #[], guard := none },
  { dst := some 164, op := Go.Op.move (Go.Operand.tmp 1), type := 3, pos := "law.go:41", after := #[], guard := none },
  { dst := some 165, op := Go.Op.move (Go.Operand.tmp 2), type := 3, pos := "law.go:41", after := #[], guard := none },
  { dst := some 166, op := Go.Op.call { callee := Go.Callee.value (Go.Operand.func 43), args := #[Go.Operand.tmp 163, Go.Operand.tmp 164, Go.Operand.tmp 165], argTypes := #[24, 3, 3] }, type := 4, pos := "law.go:41", after := #[{ on := 0, ground := Go.Ground.data }, { on := 1, ground := Go.Ground.data }, { on := 2, ground := Go.Ground.data }], guard := none },
  { dst := some 167, op := Go.Op.load 24 (Go.Operand.tmp 3), type := 24, pos := "law.go:41", after := #[], guard := none },
  { dst := some 168, op := Go.Op.move (Go.Operand.tmp 1), type := 3, pos := "law.go:41", after := #[], guard := none },
  { dst := some 169, op := Go.Op.move (Go.Operand.tmp 2), type := 3, pos := "law.go:41", after := #[], guard := none },
  { dst := some 170, op := Go.Op.call { callee := Go.Callee.value (Go.Operand.func 49), args := #[Go.Operand.tmp 167, Go.Operand.tmp 168, Go.Operand.tmp 169], argTypes := #[24, 3, 3] }, type := 4, pos := "law.go:41", after := #[{ on := 4, ground := Go.Ground.data }, { on := 5, ground := Go.Ground.data }, { on := 6, ground := Go.Ground.data }, { on := 3, ground := Go.Ground.chain }], guard := none },
  { dst := some 171, op := Go.Op.binOp Go.BinOp.eql 4 (Go.Operand.tmp 166) (Go.Operand.tmp 170) 4, type := 4, pos := "law.go:41", after := #[{ on := 3, ground := Go.Ground.data }, { on := 7, ground := Go.Ground.data }], guard := none },
  { dst := some 6, op := Go.Op.assign (Go.Operand.tmp 171), type := 4, pos := "law.go:41", after := #[{ on := 8, ground := Go.Ground.data }, { on := 7, ground := Go.Ground.chain }, { on := 0, ground := Go.Ground.phase }, { on := 1, ground := Go.Ground.phase }, { on := 2, ground := Go.Ground.phase }, { on := 3, ground := Go.Ground.phase }, { on := 4, ground := Go.Ground.phase }, { on := 5, ground := Go.Ground.phase }, { on := 6, ground := Go.Ground.phase }, { on := 7, ground := Go.Ground.phase }, { on := 8, ground := Go.Ground.phase }], guard := none }]
set_option maxHeartbeats 16000000 in
set_option maxRecDepth 100000 in
theorem shadeRight13_region {Q : Exit → Act → World → Prop} {a0 : Act} {W : World} (hsz : factsOK shadeRight13Ops a0.tmps.size = true) {x y m : Int} {O : Bool} {q0 : Nat} {fa : Option Addr} {fl fc : Nat}
    (hq0 : q0 < W.heap.size) (hc00 : W.cell? ⟨q0, 0, none⟩ = some (.slice fa fl fc)) (hc01 : W.cell? ⟨q0, 1, none⟩ = some (.int .i64 m))

    (h1 : a0.tmps[1]? = some (.int .i64 x))
    (h2 : a0.tmps[2]? = some (.int .i64 y))
    (h3 : a0.tmps[3]? = some (.pointer (some ⟨q0, 0, none⟩)))
    (C3 : CallFact Try.prog 43 #[forV fa fl fc m, .int .i64 x, .int .i64 y] W (isV (.bool O)))
    (C7 : CallFact Try.prog 49 #[forV fa fl fc m, .int .i64 x, .int .i64 y] W (isV (.bool O)))
    (hQ : ∀ (v : Nat → Value) w', Below W.heap.size W w' → Q .normal ⟨(puts a0.tmps.toList [(some 163, v 0), (some 164, v 1), (some 165, v 2), (some 166, v 3), (some 167, v 4), (some 168, v 5), (some 169, v 6), (some 170, v 7), (some 171, v 8), (some 6, .bool true)]).toArray, a0.defers⟩ w') :
    (Code.region 13 shadeRight13Ops.toArray true).wp Try.prog Q a0 W := by
  refine wp_region_facts [isV (forV fa fl fc m), isV (.int .i64 x), isV (.int .i64 y), isV (.bool O), isV (forV fa fl fc m), isV (.int .i64 x), isV (.int .i64 y), isV (.bool O), isV (.bool true), isV (.bool true)] (by kernel_rfl) hsz rfl (.cons ?_ (.cons ?_ (.cons ?_ (.cons ?_ (.cons ?_ (.cons ?_ (.cons ?_ (.cons ?_ (.cons ?_ (.cons ?_ .nil)))))))))) ?_
  · intro a w v K h hK
    rw [if_pos (wanted_none rfl)]
    have e3 := h.out (t := 3) (by kernel_rfl) h3
    have c0 := (h.below.cell (p := ⟨q0, 0, none⟩) hq0).trans hc00
    have c1 := (h.below.cell (p := ⟨q0, 1, none⟩) hq0).trans hc01
    have hK := Lib.hid hK; clear h
    go_simp
    exact hK.out _ _ rfl (Below.refl _ _)
  · intro a w v K h hK
    rw [if_pos (wanted_none rfl)]
    have e1 := h.out (t := 1) (by kernel_rfl) h1
    have hK := Lib.hid hK; clear h
    go_simp
    exact hK.out _ _ rfl (Below.refl _ _)
  · intro a w v K h hK
    rw [if_pos (wanted_none rfl)]
    have e2 := h.out (t := 2) (by kernel_rfl) h2
    have hK := Lib.hid hK; clear h
    go_simp
    exact hK.out _ _ rfl (Below.refl _ _)
  · intro a w v K h hK
    rw [if_pos (wanted_none rfl)]
    have e163 := h.at_ (j := 0) (d := 163) (by decide) (by kernel_rfl) rfl rfl
    have e164 := h.at_ (j := 1) (d := 164) (by decide) (by kernel_rfl) rfl rfl
    have e165 := h.at_ (j := 2) (d := 165) (by decide) (by kernel_rfl) rfl rfl
    have hc := C3 w h.below
    have hK := Lib.hid hK; clear h
    go_simp
    refine hc.mono ?_
    rintro e w' ⟨u, rfl, hu, hb⟩
    exact hK.out _ _ hu hb
  · intro a w v K h hK
    rw [if_pos (wanted_none rfl)]
    have e3 := h.out (t := 3) (by kernel_rfl) h3
    have c0 := (h.below.cell (p := ⟨q0, 0, none⟩) hq0).trans hc00
    have c1 := (h.below.cell (p := ⟨q0, 1, none⟩) hq0).trans hc01
    have hK := Lib.hid hK; clear h
    go_simp
    exact hK.out _ _ rfl (Below.refl _ _)
  · intro a w v K h hK
    rw [if_pos (wanted_none rfl)]
    have e1 := h.out (t := 1) (by kernel_rfl) h1
    have hK := Lib.hid hK; clear h
    go_simp
    exact hK.out _ _ rfl (Below.refl _ _)
  · intro a w v K h hK
    rw [if_pos (wanted_none rfl)]
    have e2 := h.out (t := 2) (by kernel_rfl) h2
    have hK := Lib.hid hK; clear h
    go_simp
    exact hK.out _ _ rfl (Below.refl _ _)
  · intro a w v K h hK
    rw [if_pos (wanted_none rfl)]
    have e167 := h.at_ (j := 4) (d := 167) (by decide) (by kernel_rfl) rfl rfl
    have e168 := h.at_ (j := 5) (d := 168) (by decide) (by kernel_rfl) rfl rfl
    have e169 := h.at_ (j := 6) (d := 169) (by decide) (by kernel_rfl) rfl rfl
    have hc := C7 w h.below
    have hK := Lib.hid hK; clear h
    go_simp
    refine hc.mono ?_
    rintro e w' ⟨u, rfl, hu, hb⟩
    exact hK.out _ _ hu hb
  · intro a w v K h hK
    rw [if_pos (wanted_none rfl)]
    have e166 := h.at_ (j := 3) (d := 166) (by decide) (by kernel_rfl) rfl rfl
    have e170 := h.at_ (j := 7) (d := 170) (by decide) (by kernel_rfl) rfl rfl
    have hK := Lib.hid hK; clear h
    go_simp
    exact hK.out _ _ rfl (Below.refl _ _)
  · intro a w v K h hK
    rw [if_pos (wanted_none rfl)]
    have e171 := h.at_ (j := 8) (d := 171) (by decide) (by kernel_rfl) rfl rfl
    have hK := Lib.hid hK; clear h
    go_simp
    exact hK.out _ _ rfl (Below.refl _ _)
  · intro v w' hb hf
    have e : v 9 = .bool true := hf 9 (by decide) _ rfl
    have := hQ v w' hb
    rw [← e] at this
    exact this
end Go.Proofs.Ytllfkiifkkcinaa
/- instarref04's Attach, of a node that is there, in a forest that is right. -/
namespace Go.Proofs.Ytllfkiifkkcinaa
open Go.RowKit
attribute [local go_sem ↓] Go.wp_at_zero Go.wp_at_succ
/-- "div p span", as bytes. -/
abbrev HOST_WORDS : List UInt8 := [100, 105, 118, 32, 112, 32, 115, 112, 97, 110]
theorem host_words : (⟨HOST_WORDS.toArray⟩ : ByteArray).toList = HOST_WORDS := by decide +kernel
theorem one_hosts (l : List UInt8) : oneL l HOST_WORDS = (l == [100, 105, 118] || l == [112] || l == [115, 112, 97, 110]) := by
  rw [one_split]
  have : splitL [] HOST_WORDS = [[100, 105, 118], [112], [115, 112, 97, 110]] := by decide +kernel
  rw [this]
  simp only [List.contains_cons, List.contains_nil, Bool.or_false, Bool.or_assoc]
theorem hosts_is (x : Core) : hostsC x = (x.kind == 1 && (customL x.name.toList || oneL x.name.toList HOST_WORDS)) := by
  unfold hostsC
  rw [one_hosts, Bool.or_comm (customL _)]
set_option maxHeartbeats 16000000 in
set_option maxRecDepth 100000 in
theorem refattach_any (a : Option Addr) (len cap : Nat) (m : Int) (L : List NodeD) (n : Nat) (w : World) (hr : rightF m (coreL L) = true) (hs : smallF L) (h : NodeRow w a len cap L) (hn : n < len) :
    Calls Try.prog 44 #[forV a len cap m, .int .i64 n] w (ForPost w (attL m (coreL L) n) m [.int .i64 (attN m (coreL L) n), .int .i64 (attE m (coreL L) n)]) := by
  have HL := Lib.hid h.hlen
  have H0 := Lib.hid h
  have hl64 := h.len64
  have HCL : Hid ((coreL L).length = len) := Lib.hid (by rw [coreL_len, HL.out])
  obtain ⟨b, off, x, rfl, hblt, hx, hat, hok⟩ := h.get hn
  have hl1k : len ≤ 1000 := by rw [← HL.out]; exact hs.1
  have hxc := coreL_get hx
  have hnm := (hs.2 x (List.mem_of_getElem? hx))
  have HNM : Hid (x.core.name.size ≤ 1000000) := Lib.hid (by unfold smallN at hnm; omega)
  have hlm : (len : Int) ≤ m := by have := (right_most hr).2.2; rwa [HCL.out] at this
  have HX := Lib.hid hx
  have HXC := Lib.hid hxc
  have HOK := Lib.hid hok
  obtain ⟨E, hE⟩ : ∃ E, attE m (coreL L) n = E := ⟨_, rfl⟩
  have HEE : Hid (E = if hostsC x.core then (if x.core.under = -1 then (if (len : Int) = m then 8 else 0) else 10) else 5) := Lib.hid (by
    rw [← hE]
    unfold attE
    rw [thereF_of hr (by rw [HCL.out]; exact hn), if_pos rfl, getC_nat, hxc, HCL.out])
  have HA := Lib.hid hE
  clear hE
  obtain ⟨w0, hw0, hsz, ST⟩ : ∃ w0, (w.alloc (forB (some ⟨b, off, none⟩) len cap m)).alloc zeroFB = w0 ∧ w.heap.size + 2 = w0.heap.size ∧ AttSt w w0 (some ⟨b, off, none⟩) len cap m L := ⟨_, rfl, by simp, AttSt.start h⟩
  have ST := Lib.hid ST
  have HW := Lib.hid hw0
  have HSZ := Lib.hid hsz
  have NX : Hid (NBox w0 (w0.alloc (nodB x)) w0.heap.size x) := Lib.hid (NKeep.start (hok.below ST.out.box.below)).box
  have hat0 := hat.below hblt ST.out.box.below
  obtain ⟨y0, y1, y2, y3, y4, y5, y6, y7, y8, y9⟩ := hat0
  have z0 := ST.out.box.c0
  clear h hr hs hx hat hok hxc hnm hw0 hsz
  go_enter Try.func44, Try.ntmps44
  go_upto_region 1 with fail
  rw [HW.out]
  go_upto_region 2 with fail
  obtain ⟨w1, hw1⟩ : ∃ w1, w0.alloc (nodB x) = w1 := ⟨_, rfl⟩
  have HW1 := Lib.hid hw1
  have hb1 : Below w0.heap.size w0 w1 := by rw [← hw1]; exact below_box _ _
  have ST := Lib.hid (ST.out.keep hb1)
  have HB := Lib.hid ST.out.box.below
  rw [hw1] at NX ⊢
  clear hw1 hb1 y0 y1 y2 y3 y4 y5 y6 y7 y8 y9 z0 HW HW1
  obtain ⟨q, hq⟩ : ∃ q, w0.heap.size = q := ⟨_, rfl⟩
  rw [hq] at NX HSZ ⊢
  clear hq
  have z0 := ST.out.box.c0
  have z1 := ST.out.box.c1
  have e0 := ST.out.res.c0
  have e1 := ST.out.res.c1
  have e2 := ST.out.res.f0
  have e3 := ST.out.res.f1
  have x0 := NX.out.c0
  have x1 := NX.out.c1
  have x8 := NX.out.c8
  have x9 := NX.out.c9
  have CC : Hid (∀ V, Calls Try.prog 72 #[.string x.core.name] V fun e w' => e = .returned (.bool (customL x.core.name.toList)) ∧ Below V.heap.size V w') := Lib.hid (fun V => refcustom_any _ V HNM.out)
  have CO : Hid (∀ V, Calls Try.prog 73 #[.string x.core.name, .string ⟨HOST_WORDS.toArray⟩] V fun e w' => e = .returned (.bool (oneL x.core.name.toList HOST_WORDS)) ∧ V = w') := Lib.hid (fun V => by
    have := one_any x.core.name ⟨HOST_WORDS.toArray⟩ V (by decide)
    rwa [host_words] at this)
  have HHI := Lib.hid (hosts_is x.core)
  obtain ⟨H, hH⟩ : ∃ H, hostsC x.core = H := ⟨_, rfl⟩
  have HH := Lib.hid hH
  rw [hH] at HEE HHI
  clear hH
  go_cut [29] (fun c wx => c = .bool (!H) ∧ Hid (Below w1.heap.size w1 wx))
  case first =>
    by_cases k1 : x.core.kind = 1
    · have f1 : (x.core.kind != 1) = false := by rw [k1]; rfl
      have HHI := Lib.hid (show H = (customL x.core.name.toList || oneL x.core.name.toList HOST_WORDS) by rw [HHI.out, beq_iff_eq.2 k1, Bool.true_and])
      clear k1
      obtain ⟨cu, hcu⟩ : ∃ cu, customL x.core.name.toList = cu := ⟨_, rfl⟩
      obtain ⟨on, hon⟩ : ∃ on, oneL x.core.name.toList HOST_WORDS = on := ⟨_, rfl⟩
      rw [hcu] at CC HHI
      rw [hon] at CO HHI
      clear hcu hon
      cases cu with
      | true =>
        have HHI := Lib.hid (show H = true from HHI.out)
        go_wp2_with (go_at_call 72; (with_reducible refine (CC.out _).mono ?_); rintro e w2 ⟨rfl, hb⟩; have HB2 := Lib.hid hb; (have ST := Lib.hid (ST.out.keep hb); have NX := Lib.hid (NX.out.keep hb); have HB := Lib.hid (HB.out.trans (hb.mono HB.out.size)); have z0 := ST.out.box.c0; have z1 := ST.out.box.c1; have e0 := ST.out.res.c0; have e1 := ST.out.res.c1; have e2 := ST.out.res.f0; have e3 := ST.out.res.f1; have x0 := NX.out.c0; have x1 := NX.out.c1; have x8 := NX.out.c8; have x9 := NX.out.c9; clear hb))
        go_meet
        exact ⟨by rw [HHI.out]; rfl, HB2⟩
      | false =>
        cases on with
        | true =>
          have HHI := Lib.hid (show H = true from HHI.out)
          go_wp2_with (first | (go_at_call 72; (with_reducible refine (CC.out _).mono ?_); rintro e w2 ⟨rfl, hb⟩; have HB2 := Lib.hid hb; (have ST := Lib.hid (ST.out.keep hb); have NX := Lib.hid (NX.out.keep hb); have HB := Lib.hid (HB.out.trans (hb.mono HB.out.size)); have z0 := ST.out.box.c0; have z1 := ST.out.box.c1; have e0 := ST.out.res.c0; have e1 := ST.out.res.c1; have e2 := ST.out.res.f0; have e3 := ST.out.res.f1; have x0 := NX.out.c0; have x1 := NX.out.c1; have x8 := NX.out.c8; have x9 := NX.out.c9; clear hb)) | (go_at_call 73; (with_reducible refine (CO.out _).mono ?_); rintro e w2 ⟨rfl, rfl⟩))
          go_meet
          exact ⟨by rw [HHI.out]; rfl, HB2⟩
        | false =>
          have HHI := Lib.hid (show H = false from HHI.out)
          go_wp2_with (first | (go_at_call 72; (with_reducible refine (CC.out _).mono ?_); rintro e w2 ⟨rfl, hb⟩; have HB2 := Lib.hid hb; (have ST := Lib.hid (ST.out.keep hb); have NX := Lib.hid (NX.out.keep hb); have HB := Lib.hid (HB.out.trans (hb.mono HB.out.size)); have z0 := ST.out.box.c0; have z1 := ST.out.box.c1; have e0 := ST.out.res.c0; have e1 := ST.out.res.c1; have e2 := ST.out.res.f0; have e3 := ST.out.res.f1; have x0 := NX.out.c0; have x1 := NX.out.c1; have x8 := NX.out.c8; have x9 := NX.out.c9; clear hb)) | (go_at_call 73; (with_reducible refine (CO.out _).mono ?_); rintro e w2 ⟨rfl, rfl⟩))
          go_meet
          exact ⟨by rw [HHI.out]; rfl, HB2⟩
    · have f1 : (x.core.kind != 1) = true := bne_iff_ne.2 k1
      have HHI := Lib.hid (show H = false by rw [HHI.out, beq_eq_false_iff_ne.2 k1, Bool.false_and])
      clear k1
      go_wp2
      go_meet
      exact ⟨by rw [HHI.out]; rfl, Lib.hid (Below.refl _ _)⟩
  case rest =>
    obtain ⟨rfl, hb⟩ := hcut
    have hb := hb.out
    clear z0 z1 e0 e1 e2 e3 x0 x1 x8 x9 CC CO
    (have ST := Lib.hid (ST.out.keep hb); have NX := Lib.hid (NX.out.keep hb); have HB := Lib.hid (HB.out.trans (hb.mono HB.out.size)); have z0 := ST.out.box.c0; have z1 := ST.out.box.c1; have e0 := ST.out.res.c0; have e1 := ST.out.res.c1; have e2 := ST.out.res.f0; have e3 := ST.out.res.f1; have x0 := NX.out.c0; have x1 := NX.out.c1; have x8 := NX.out.c8; have x9 := NX.out.c9; clear hb)
    cases H with
    | false =>
      have HE1 : Hid (E = 5) := Lib.hid HEE.out
      have HNN := Lib.hid (att_not (m := m) (F := coreL L) (n := n) (by rw [HA.out, HE1.out]; decide))
      go_wp2
      rw [HA.out, HE1.out, HNN.out.1, HNN.out.2]
      (
        have hbz := (HB.out.setCell (p := ⟨w.heap.size + 1, 0, none⟩) (by show w.heap.size ≤ w.heap.size + 1; omega) (.slice (some ⟨b, off, none⟩) len cap)).setCell (p := ⟨w.heap.size + 1, 1, none⟩) (by show w.heap.size ≤ w.heap.size + 1; omega) (.int .i64 m)
        refine bodyPost_ret (v := .tuple #[forV (some ⟨b, off, none⟩) len cap m, .int .i64 (-1), .int .i64 5]) ?_ rfl ⟨some ⟨b, off, none⟩, len, cap, L, rfl, H0.out.below hbz, rfl, hbz⟩
        simp [results, Try.results44, go_sem, e0, e1])
    | true =>
      have HEE := Lib.hid (HEE.out.trans (if_pos rfl))
      by_cases k2 : x.core.under = -1
      · have HEE := Lib.hid (HEE.out.trans (if_pos k2))
        have f2 : (x.core.under != -1) = false := by rw [k2]; rfl
        by_cases k3 : (len : Int) = m
        · have HE1 : Hid (E = 8) := Lib.hid (HEE.out.trans (if_pos k3))
          have HNN := Lib.hid (att_not (m := m) (F := coreL L) (n := n) (by rw [HA.out, HE1.out]; decide))
          have f3 : (len : Int) ≥ m := by omega
          clear k2 k3
          go_wp2
          rw [HA.out, HE1.out, HNN.out.1, HNN.out.2]
          (
            have hbz := (HB.out.setCell (p := ⟨w.heap.size + 1, 0, none⟩) (by show w.heap.size ≤ w.heap.size + 1; omega) (.slice (some ⟨b, off, none⟩) len cap)).setCell (p := ⟨w.heap.size + 1, 1, none⟩) (by show w.heap.size ≤ w.heap.size + 1; omega) (.int .i64 m)
            refine bodyPost_ret (v := .tuple #[forV (some ⟨b, off, none⟩) len cap m, .int .i64 (-1), .int .i64 8]) ?_ rfl ⟨some ⟨b, off, none⟩, len, cap, L, rfl, H0.out.below hbz, rfl, hbz⟩
            simp [results, Try.results44, go_sem, e0, e1])
        · have HE1 : Hid (E = 0) := Lib.hid (HEE.out.trans (if_neg k3))
          have f3 : ¬ (len : Int) ≥ m := by omega
          have CB : Hid (∀ V, Calls Try.prog 63 #[.int .i64 4, .int .i64 x.core.doc] V fun e w' => e = .returned (nodVal (bareD 4 x.core.doc)) ∧ Below V.heap.size V w') := Lib.hid (fun V => refbare_any 4 x.core.doc V ⟨by omega, by omega⟩ HOK.out.doc)
          have HUN := Lib.hid k2
          clear k2 k3
          go_upto_region 9 with (go_at_call 63; (with_reducible refine (CB.out _).mono ?_); rintro e w3 ⟨rfl, hb⟩; (have ST := Lib.hid (ST.out.keep hb); have NX := Lib.hid (NX.out.keep hb); have HB := Lib.hid (HB.out.trans (hb.mono HB.out.size)); have z0 := ST.out.box.c0; have z1 := ST.out.box.c1; have e0 := ST.out.res.c0; have e1 := ST.out.res.c1; have e2 := ST.out.res.f0; have e3 := ST.out.res.f1; have x0 := NX.out.c0; have x1 := NX.out.c1; have x8 := NX.out.c8; have x9 := NX.out.c9; clear hb))
          unfold bareD
          go_upto_region 10 with fail
          show Code.wp _ _ _ _ (w3.alloc (nodB ⟨⟨4, ⟨#[]⟩, ⟨#[]⟩, ⟨#[]⟩, [], -1, [], n, -1, x.core.doc⟩, none, 0, 0, none, 0, 0⟩))
          obtain ⟨y, hyy⟩ : ∃ y : NodeD, (⟨⟨4, ⟨#[]⟩, ⟨#[]⟩, ⟨#[]⟩, [], -1, [], n, -1, x.core.doc⟩, none, 0, 0, none, 0, 0⟩ : NodeD) = y := ⟨_, rfl⟩
          have hyo : NodeOk w y := by
            rw [← hyy]
            refine ⟨⟨SRow.nil, (fun z hz => by cases hz), fun _ => rfl⟩, ⟨SRow.nil, (fun z hz => by cases hz), fun _ => rfl⟩, ?_, ?_, ?_, ⟨by show _ ≤ (4 : Int); omega, by show (4 : Int) ≤ _; omega⟩, inM1, ⟨by show _ ≤ (n : Int); omega, by show (n : Int) ≤ _; omega⟩, inM1, HOK.out.doc⟩
            · show 0 ≤ maxLen; decide
            · show 0 ≤ maxLen; decide
            · show 0 ≤ maxLen; decide
          have hyc : y.core = shadeC n x.core.doc := by rw [← hyy]; rfl
          rw [hyy]
          have HYC := Lib.hid hyc
          obtain ⟨W, hW, NK⟩ : ∃ W, w3.alloc (nodB y) = W ∧ NKeep w3 W y := ⟨_, rfl, NKeep.start (hyo.below HB.out)⟩
          have hyb := NK.box
          have ST := Lib.hid (ST.out.keep NK.below)
          have HB := Lib.hid (HB.out.trans (NK.below.mono HB.out.size))
          rw [hW]
          obtain ⟨q2, hq2⟩ : ∃ q2, w3.heap.size = q2 := ⟨_, rfl⟩
          rw [hq2] at hyb ⊢
          have z0 := ST.out.box.c0
          have z1 := ST.out.box.c1
          have hok : ∀ z ∈ L ++ [y], NodeOk w z := fun z hz => by
            rcases List.mem_append.1 hz with hz | hz
            · exact H0.out.ok z hz
            · rw [List.mem_singleton.1 hz]; exact hyo
          have HOKS := Lib.hid hok
          clear hW hq2 hyy hyc hyo NK NX x0 x1 x8 x9 CB
          refine copyM_region 2 8 47 48 49 50 51 52 53 54 55 56 9 69 _ (by kernel_rfl) (by exact Nat.le_refl _) (by decide) (by decide) w.heap.size (some ⟨b, off, none⟩) len cap L rfl ST.out.box.lt z0 ST.out.box.row (by omega) m z1 w3 y q2 rfl hyb ?_
          intro v g gr cap2 w6 hc
          have hx1 : (L ++ [y])[n]? = some x := by rw [List.getElem?_append_left (by rw [HL.out]; exact hn)]; exact HX.out
          have HX1 := Lib.hid hx1
          have WR := Lib.hid (hc.wrow (by rw [List.length_append, HL.out]; rfl) (fun z hz => (hok z hz).below HB.out))
          have hat := (WR.out.at_ hx1).1.c8
          have hfr := WR.out.free (n * 10 + 8)
          have hW3 : w.heap.size + 1 < W.heap.size := ST.out.res.lt
          have HG := Lib.hid (show w.heap.size + 1 < g from Nat.lt_of_lt_of_le hW3 hc.ge)
          have HGR := Lib.hid (show w.heap.size + 1 < gr from Nat.lt_of_lt_of_le hW3 (hc.row.own.lt gr rfl).1)
          have HB6 := Lib.hid (HB.out.trans (hc.row.below.mono HB.out.size))
          have ST := Lib.hid (ST.out.keep hc.row.below)
          have G0 := hc.box.c0
          have G1 := hc.box.c1
          have G2 := hc.box.f0
          have G3 := hc.box.f1
          have hne := hc.ne
          have hne2 := hc.ne.symm
          clear hc hok hyb hW3 z0 z1 e0 e1 e2 e3 hx1
          have z0 := ST.out.box.c0
          have z1 := ST.out.box.c1
          have e0 := ST.out.res.c0
          have e1 := ST.out.res.c1
          have e2 := ST.out.res.f0
          have e3 := ST.out.res.f1
          have hn1 : g ≠ w.heap.size + 1 := by have := HG.out; omega
          have hn2 : w.heap.size + 1 ≠ g := hn1.symm
          have hn3 : gr ≠ w.heap.size := by have := HGR.out; omega
          have hn4 : w.heap.size ≠ gr := hn3.symm
          have hn5 : gr ≠ w.heap.size + 1 := by have := HGR.out; omega
          have hn6 : w.heap.size + 1 ≠ gr := hn5.symm
          simp only [puts, List.set_cons_succ, List.set_cons_zero]
          generalize v 0 = v0, v 1 = v1, v 2 = v2, v 3 = v3, v 4 = v4, v 5 = v5, v 6 = v6, v 7 = v7, v 8 = v8
          go_upto_region 12 with fail
          go_region
          have hxw := HOKS.out x (List.mem_append_left _ (List.mem_of_getElem? HX.out))
          have W1 := Lib.hid (WR.out.set (j := 8) (y := withUD x len) (u := .int .i64 len) HX1.out (by decide) rfl (by have h1 := hxw.below HB6.out; exact ⟨h1.attrs, h1.kids, h1.name, h1.is, h1.data, h1.kind, h1.parent, h1.host, ⟨by show _ ≤ (len : Int); omega, by show (len : Int) ≤ _; omega⟩, h1.doc⟩) (by have h1 := hxw.away (g := gr) (by have := HGR.out; omega); exact ⟨h1.1, h1.2⟩))
          have HAW : Hid (∀ z ∈ (L ++ [y]).set n (withUD x len), NodeAway (w.heap.size + 1) z) := Lib.hid (fun z hz => by
            rcases List.mem_or_eq_of_mem_set hz with hz | rfl
            · exact (HOKS.out z hz).away (by omega)
            · have h1 := hxw.away (g := w.heap.size + 1) (by omega)
              exact ⟨h1.1, h1.2⟩)
          have W2 := Lib.hid (W1.out.other (b := w.heap.size + 1) (by have := HGR.out; omega) HAW.out 0 (.slice (some ⟨gr, 0, none⟩) (len + 1) cap2))
          have W3 := Lib.hid ((W2.out.other (b := w.heap.size + 1) (by have := HGR.out; omega) HAW.out 1 (.int .i64 m)).keep (Below.refl _ _).drew)
          have hb3 := (((HB6.out.setCell (p := ⟨gr, n * 10 + 8, none⟩) (by show w.heap.size ≤ gr; have := HGR.out; omega) (.int .i64 len)).setCell (p := ⟨w.heap.size + 1, 0, none⟩) (by show w.heap.size ≤ w.heap.size + 1; omega) (.slice (some ⟨gr, 0, none⟩) (len + 1) cap2)).setCell (p := ⟨w.heap.size + 1, 1, none⟩) (by show w.heap.size ≤ w.heap.size + 1; omega) (.int .i64 m)).drew
          have HNN : Hid (attL m (coreL L) n = coreL ((L ++ [y]).set n (withUD x len)) ∧ attN m (coreL L) n = len) := Lib.hid (by
            unfold attL attN attC
            rw [HA.out, HE1.out, if_pos rfl, if_pos rfl, getC_nat, HXC.out, HCL.out]
            refine ⟨?_, rfl⟩
            unfold coreL
            rw [List.set_append_left _ _ (by rw [HL.out]; exact hn), List.map_append, List.map_set, List.map_cons, List.map_nil, HYC.out]
            rfl)
          go_wp2
          rw [HA.out, HE1.out, HNN.out.1, HNN.out.2]
          have hfp : ForPost w (coreL ((L ++ [y]).set n (withUD x len))) m [.int .i64 (len : Int), .int .i64 0] (.returned (.tuple #[forV (some ⟨gr, 0, none⟩) (len + 1) cap2 m, .int .i64 (len : Int), .int .i64 0])) _ := ⟨_, _, cap2, (L ++ [y]).set n (withUD x len), rfl, W3.out.row, rfl, hb3⟩
          refine bodyPost_ret (v := .tuple #[forV (some ⟨gr, 0, none⟩) (len + 1) cap2 m, .int .i64 (len : Int), .int .i64 0]) ?_ rfl hfp
          simp [results, Try.results44, go_sem, e0, e1]
      · have HE1 : Hid (E = 10) := Lib.hid (HEE.out.trans (if_neg k2))
        have HNN := Lib.hid (att_not (m := m) (F := coreL L) (n := n) (by rw [HA.out, HE1.out]; decide))
        have f2 : (x.core.under != -1) = true := bne_iff_ne.2 k2
        clear k2
        go_wp2
        rw [HA.out, HE1.out, HNN.out.1, HNN.out.2]
        (
          have hbz := (HB.out.setCell (p := ⟨w.heap.size + 1, 0, none⟩) (by show w.heap.size ≤ w.heap.size + 1; omega) (.slice (some ⟨b, off, none⟩) len cap)).setCell (p := ⟨w.heap.size + 1, 1, none⟩) (by show w.heap.size ≤ w.heap.size + 1; omega) (.int .i64 m)
          refine bodyPost_ret (v := .tuple #[forV (some ⟨b, off, none⟩) len cap m, .int .i64 (-1), .int .i64 10]) ?_ rfl ⟨some ⟨b, off, none⟩, len, cap, L, rfl, H0.out.below hbz, rfl, hbz⟩
          simp [results, Try.results44, go_sem, e0, e1])
end Go.Proofs.Ytllfkiifkkcinaa
/- instarref04's Top, Connected, over a forest that is right. -/
namespace Go.Proofs.Ytllfkiifkkcinaa
open Go.RowKit
set_option maxHeartbeats 4000000 in
set_option maxRecDepth 100000 in
theorem reftopR_any (a : Option Addr) (len cap : Nat) (m : Int) (L : List NodeD) (hr : rightF m (coreL L) = true) : ∀ (r n : Nat) (w : World), NodeRow w a len cap L → n < len → rankF (coreL L) n ≤ r →
    Calls Try.prog 45 #[forV a len cap m, .int .i64 n] w fun e w' => e = .returned (.int .i64 (topF (coreL L) n : Nat)) ∧ Below w.heap.size w w' := by
  intro r
  induction r using Nat.strongRecOn with
  | ind r ih =>
    intro n w h hn hk
    have HCL : Hid ((coreL L).length = len) := Lib.hid (by rw [coreL_len, h.hlen])
    have hlen := h.len64
    have BX := Lib.hid (Box.start (m := m) h)
    have z0 := BX.out.c0
    have z1 := BX.out.c1
    obtain ⟨b, off, x, rfl, hb, hx, hat, hok⟩ := BX.out.row.get hn
    have c5 := hat.c5
    have c7 := hat.c7
    have hxc := coreL_get hx
    have T := treeS hr
    have UPW : Hid (∀ z : Int, nextUp (coreL L) (n : Int) = z → z ≠ -1 → ∃ p : Nat, z = p ∧ p < len ∧ rankF (coreL L) p < r ∧ topF (coreL L) p = topF (coreL L) n) := Lib.hid (fun z hz hne => by
      rcases right_up hr n (by omega) (by rw [HCL.out]; omega) with e | ⟨e1, e2⟩
      · exact absurd (hz.symm.trans e) hne
      · rw [hz] at e1 e2
        rw [HCL.out] at e2
        obtain ⟨p, rfl⟩ : ∃ p : Nat, z = p := ⟨z.toNat, by omega⟩
        have hpar : parS (coreL L) n = some p := parS_some hz
        have hrk := T.rank_up _ n (by rw [HCL.out]; exact hn) hpar
        exact ⟨p, rfl, by omega, by omega, T.root_held (by rw [HCL.out]; exact hn) (by omega) (holds_par hpar)⟩)
    by_cases hp : x.core.parent = -1
    · have e5 : (x.core.parent != -1) = false := by rw [hp]; rfl
      by_cases hh : x.core.host = -1
      · have e7 : (x.core.host != -1) = false := by rw [hh]; rfl
        have HR : Hid (topF (coreL L) n = n) := Lib.hid (rootN_none (parS_none (by rw [next_host hxc hp, hh])))
        clear hat hok hx hxc hp hh hb h hk ih UPW T
        go_enter Try.func45, Try.ntmps45
        go_wp2
        go_ret
        exact ⟨ret_int (by rw [HR.out]), BX.out.below⟩
      · obtain ⟨p, hpp, hpl, hpr, hpt⟩ := UPW.out _ (next_host hxc hp) hh
        have IH : Hid (∀ W, NodeRow W (some ⟨b, off, none⟩) len cap L → Calls Try.prog 45 #[forV (some ⟨b, off, none⟩) len cap m, .int .i64 p] W fun e w' => e = .returned (.int .i64 (topF (coreL L) n : Nat)) ∧ Below W.heap.size W w') := Lib.hid (fun W h => by
          rw [← hpt]
          exact ih _ hpr p W h hpl (Nat.le_refl _))
        rw [hpp] at c7
        have e7 : ((p : Int) != -1) = true := bne_iff_ne.2 (by omega)
        clear hp hh hpp hpl hpr hpt UPW T
        (
          have HB := Lib.hid hb
          clear hat hok hx hxc hb h hk ih
          go_enter Try.func45, Try.ntmps45
          go_wp2
          have E0 := Ext.cell z0 BX.out.lt
          have E1 := Ext.cell z1 BX.out.lt
          have E5 := Ext.cell c5 HB.out
          have E7 := Ext.cell c7 HB.out
          have EI := Lib.hid (fun (x : Ext (w.alloc (forB (some ⟨b, off, none⟩) len cap m))) => IH.out x.v (BX.out.row.below x.below))
          refine wp_region_ext (by kernel_rfl) (by kernel_rfl) ?_
          repeat (go_big_quiet_step (first | (go_at_call 45; exact Ext.call_below (EI.out _))))
          refine wpQuiet_nil ?_
          intro w3 hw'
          obtain ⟨⟨w4, hb4⟩, hw''⟩ := hw'
          dsimp only at hw''
          subst hw''
          have BX := Lib.hid (BX.out.keep hb4)
          clear E0 E1 E5 E7 EI hb4
          go_wp2
          go_ret
          exact ⟨rfl, BX.out.below⟩)
    · have e5 : (x.core.parent != -1) = true := bne_iff_ne.2 hp
      obtain ⟨p, hpp, hpl, hpr, hpt⟩ := UPW.out _ (next_par hxc hp) hp
      have IH : Hid (∀ W, NodeRow W (some ⟨b, off, none⟩) len cap L → Calls Try.prog 45 #[forV (some ⟨b, off, none⟩) len cap m, .int .i64 p] W fun e w' => e = .returned (.int .i64 (topF (coreL L) n : Nat)) ∧ Below W.heap.size W w') := Lib.hid (fun W h => by
        rw [← hpt]
        exact ih _ hpr p W h hpl (Nat.le_refl _))
      rw [hpp] at c5
      have e6 : ((p : Int) != -1) = true := bne_iff_ne.2 (by omega)
      clear hp hpp hpl hpr hpt UPW T e5
      (
        have HB := Lib.hid hb
        clear hat hok hx hxc hb h hk ih
        go_enter Try.func45, Try.ntmps45
        go_wp2
        have E0 := Ext.cell z0 BX.out.lt
        have E1 := Ext.cell z1 BX.out.lt
        have E5 := Ext.cell c5 HB.out
        have E7 := Ext.cell c7 HB.out
        have EI := Lib.hid (fun (x : Ext (w.alloc (forB (some ⟨b, off, none⟩) len cap m))) => IH.out x.v (BX.out.row.below x.below))
        refine wp_region_ext (by kernel_rfl) (by kernel_rfl) ?_
        repeat (go_big_quiet_step (first | (go_at_call 45; exact Ext.call_below (EI.out _))))
        refine wpQuiet_nil ?_
        intro w3 hw'
        obtain ⟨⟨w4, hb4⟩, hw''⟩ := hw'
        dsimp only at hw''
        subst hw''
        have BX := Lib.hid (BX.out.keep hb4)
        clear E0 E1 E5 E7 EI hb4
        go_wp2
        go_ret
        exact ⟨rfl, BX.out.below⟩)
theorem reftop_any (a : Option Addr) (len cap : Nat) (m : Int) (L : List NodeD) (n : Nat) (w : World) (hr : rightF m (coreL L) = true) (h : NodeRow w a len cap L) (hn : n < len) :
    Calls Try.prog 45 #[forV a len cap m, .int .i64 n] w fun e w' => e = .returned (.int .i64 (topF (coreL L) n : Nat)) ∧ Below w.heap.size w w' :=
  reftopR_any a len cap m L hr _ n w h hn (Nat.le_refl _)
set_option maxHeartbeats 4000000 in
set_option maxRecDepth 100000 in
theorem refconn_any (a : Option Addr) (len cap : Nat) (m : Int) (L : List NodeD) (n : Nat) (w : World) (hr : rightF m (coreL L) = true) (h : NodeRow w a len cap L) (hn : n < len) :
    Calls Try.prog 46 #[forV a len cap m, .int .i64 n] w fun e w' => e = .returned (.bool (kindK (coreL L) (topF (coreL L) n : Nat) == 0)) ∧ Below w.heap.size w w' := by
  have HCL : Hid ((coreL L).length = len) := Lib.hid (by rw [coreL_len, h.hlen])
  have hlen := h.len64
  have BX := Lib.hid (Box.start (m := m) h)
  have z0 := BX.out.c0
  have z1 := BX.out.c1
  obtain ⟨t, ht⟩ : ∃ t, topF (coreL L) n = t := ⟨_, rfl⟩
  have htl : t < len := by rw [← ht, ← HCL.out]; exact topF_lt hr (by rw [HCL.out]; exact hn)
  obtain ⟨b, off, y, rfl, hb, hy, hat, -⟩ := BX.out.row.get htl
  have c0 := hat.c0
  have HK : Hid (kindK (coreL L) (t : Int) = y.core.kind) := Lib.hid (by unfold kindK; rw [getC_nat, coreL_get hy])
  have CT : Hid (∀ W, NodeRow W (some ⟨b, off, none⟩) len cap L → Calls Try.prog 45 #[forV (some ⟨b, off, none⟩) len cap m, .int .i64 n] W fun e w' => e = .returned (.int .i64 t) ∧ Below W.heap.size W w') := Lib.hid (fun W hW => by
    rw [← ht]
    exact reftop_any _ len cap m L n W hr hW hn)
  rw [ht]
  have HB := Lib.hid hb
  clear ht hat hy hb h
  go_enter Try.func46, Try.ntmps46
  go_wp2
  have E0 := Ext.cell z0 BX.out.lt
  have E1 := Ext.cell z1 BX.out.lt
  have EK := Ext.cell c0 HB.out
  have EI := Lib.hid (fun (x : Ext (w.alloc (forB (some ⟨b, off, none⟩) len cap m))) => CT.out x.v (BX.out.row.below x.below))
  refine wp_region_ext (by kernel_rfl) (by kernel_rfl) ?_
  repeat (go_big_quiet_step (first | (go_at_call 45; exact Ext.call_below (EI.out _))))
  refine wpQuiet_nil ?_
  intro w3 hw'
  obtain ⟨⟨w4, hb4⟩, hw''⟩ := hw'
  dsimp only at hw''
  subst hw''
  have BX := Lib.hid (BX.out.keep hb4)
  clear E0 E1 EK EI hb4
  go_wp2
  go_ret
  exact ⟨ret_bool (by rw [HK.out]), BX.out.below⟩
end Go.Proofs.Ytllfkiifkkcinaa
