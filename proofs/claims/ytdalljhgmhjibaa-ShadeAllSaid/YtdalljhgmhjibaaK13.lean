/- Texts joined in build order: ShadeAll ShadeAll4. -/
import Derived.Test.YtdalljhgmhjibaaK10
import Derived.Test.YtdalljhgmhjibaaK01
import Derived.Deep.RegionHeld3
import Derived.Deep.RegionLaw
import Derived.IntWalk
import Derived.Test.YtdalljhgmhjibaaK11
/- The walk of the law ShadeAll, over the contracts of packages forest and shade. -/
namespace Go.Proofs.Ytdalljhgmhjibaa
open Go.RowKit
theorem allZ_len' {m : Int} {F : List Core} (h : rightF m F = true) {n : Nat} (hn : n < F.length) : (allZ m F (n : Int)).length ≤ F.length := by
  rw [allZ_eq h hn]
  exact allI_len h hn
/-- A node of zeroes, in a box. -/
abbrev zeroNB4 : Obj := .cells #[.int .i64 0, .string ⟨#[]⟩, .string ⟨#[]⟩, .string ⟨#[]⟩, .slice none 0 0, .int .i64 0, .slice none 0 0, .int .i64 0, .int .i64 0, .int .i64 0] 28
set_option maxHeartbeats 16000000 in
set_option maxRecDepth 100000 in
theorem shadeAll_walk (F : ForestFns) (S : ShadeFns) (a0 : Option Addr) (len0 cap0 : Nat) (m : Int) (L0 : List NodeD) (x : Int) (w : World)
    (h0 : NodeRow w a0 len0 cap0 L0) (hm : In64 m) (hx : 0 ≤ x ∧ x ≤ 255) :
    Calls Try.prog 8 #[forV a0 len0 cap0 m, .int .u8 x] w fun e w' => e = .returned (.bool true) ∧ Below w.heap.size w w' := by
  have AW := Lib.hid (fun W => awake4_any F S W)
  have HF := Lib.hid F
  have HS := Lib.hid S
  have BX := Lib.hid (Box.start (m := m) h0)
  have hl0 := h0.len64
  have HL := Lib.hid h0.hlen
  have HM := Lib.hid hm
  clear h0 F S hm
  cases c0 : shortF L0 with
  | false =>
    have C0 := Lib.hid c0
    go_enter Try.func8, Try.ntmps8
    go_wp2_with (first
                    | (go_at_call 34; (with_reducible refine (AW.out _).mono ?_); rintro e w1 ⟨rfl, hb⟩; have BX := Lib.hid (BX.out.keep hb); have z0 := BX.out.c0; have z1 := BX.out.c1; clear hb)
                    | (go_at_call 12; (with_reducible refine (refshortF_any _ _ _ _ _ _ BX.out.row).mono ?_); rintro e w1 ⟨rfl, hb⟩; have BX := Lib.hid (BX.out.keep hb); have z0 := BX.out.c0; have z1 := BX.out.c1; clear hb)
                    | (go_at_call 16; (with_reducible refine (HR.out _ BX.out.row).mono ?_); rintro e w1 ⟨rfl, hb⟩; have BX := Lib.hid (BX.out.keep hb); have z0 := BX.out.c0; have z1 := BX.out.c1; clear hb))
    go_ret
    exact ⟨rfl, BX.out.below⟩
  | true =>
    have SM := Lib.hid (small_of_short c0)
    cases c1 : rightF m (coreL L0) with
    | false =>
      have HR : Hid (∀ W, NodeRow W a0 len0 cap0 L0 → Calls Try.prog 16 #[forV a0 len0 cap0 m] W fun e w' => e = .returned (.bool false) ∧ Below W.heap.size W w') := Lib.hid (fun W h => by
        have := HF.out.right a0 len0 cap0 m L0 W h HM.out SM.out
        rwa [c1] at this)
      clear c1
      go_enter Try.func8, Try.ntmps8
      go_wp2_with (first
                      | (go_at_call 34; (with_reducible refine (AW.out _).mono ?_); rintro e w1 ⟨rfl, hb⟩; have BX := Lib.hid (BX.out.keep hb); have z0 := BX.out.c0; have z1 := BX.out.c1; clear hb)
                      | (go_at_call 12; (with_reducible refine (refshortF_any _ _ _ _ _ _ BX.out.row).mono ?_); rintro e w1 ⟨rfl, hb⟩; have BX := Lib.hid (BX.out.keep hb); have z0 := BX.out.c0; have z1 := BX.out.c1; clear hb)
                      | (go_at_call 16; (with_reducible refine (HR.out _ BX.out.row).mono ?_); rintro e w1 ⟨rfl, hb⟩; have BX := Lib.hid (BX.out.keep hb); have z0 := BX.out.c0; have z1 := BX.out.c1; clear hb))
      go_ret
      exact ⟨rfl, BX.out.below⟩
    | true =>
      have HR : Hid (∀ W, NodeRow W a0 len0 cap0 L0 → Calls Try.prog 16 #[forV a0 len0 cap0 m] W fun e w' => e = .returned (.bool true) ∧ Below W.heap.size W w') := Lib.hid (fun W h => by
        have := HF.out.right a0 len0 cap0 m L0 W h HM.out SM.out
        rwa [c1] at this)
      have C1 := Lib.hid c1
      have hlc : (coreL L0).length = len0 := by
        unfold coreL
        rw [List.length_map, HL.out]
      have HLC := Lib.hid hlc
      have hlp : 0 < len0 := by
        have := right_len c1
        rwa [hlc] at this
      have hlow : len0 ≤ 60 := by
        have h1 := c0
        unfold shortF at h1
        simp only [Bool.and_eq_true, decide_eq_true_eq] at h1
        have := HL.out
        omega
      clear c1
      obtain ⟨X, hX⟩ : ∃ X : Nat, x % (len0 : Int) = X := ⟨(x % (len0 : Int)).toNat, by have := Int.emod_nonneg x (show (len0 : Int) ≠ 0 by omega); omega⟩
      have hXl : X < len0 := by have := Int.emod_lt_of_pos x (show (0 : Int) < len0 by omega); omega
      have FX := Lib.hid (all_facts (x := X) C1.out (by omega))
      have in_nat : ∀ k : Nat, k < len0 → In64 (k : Int) := fun k hk => ⟨by omega, by omega⟩
      obtain ⟨l, hl⟩ : ∃ l, allZ m (coreL L0) (X : Int) = l := ⟨_, rfl⟩
      obtain ⟨o, ho⟩ : ∃ o, ordZ m (coreL L0) (X : Int) = o := ⟨_, rfl⟩
      have GL : Hid (∀ W, NodeRow W a0 len0 cap0 L0 → Calls Try.prog 38 #[forV a0 len0 cap0 m, .int .i64 X] W (OrdPost W l)) := Lib.hid (fun W h => by
        rw [← hl]
        exact HS.out.all a0 len0 cap0 m L0 X W h HM.out (in_nat X hXl) SM.out)
      have GD : Hid (∀ W, NodeRow W a0 len0 cap0 L0 → Calls Try.prog 20 #[forV a0 len0 cap0 m, .int .i64 X] W (OrdPost W o)) := Lib.hid (fun W h => by
        rw [← ho]
        exact HF.out.order a0 len0 cap0 m L0 X W h HM.out (in_nat X hXl) SM.out)
      rw [hl, ho] at FX
      clear hl ho
      have GA : Hid (∀ W (u : Nat) (q : List Int), NodeRow W a0 len0 cap0 L0 → u < len0 → allZ m (coreL L0) u = q → Calls Try.prog 38 #[forV a0 len0 cap0 m, .int .i64 u] W (OrdPost W q)) := Lib.hid (fun W u q h hu hq => by
        rw [← hq]
        exact HS.out.all a0 len0 cap0 m L0 u W h HM.out (in_nat u hu) SM.out)
      have GO : Hid (∀ W (u v : Nat) (b : Bool), NodeRow W a0 len0 cap0 L0 → u < len0 → v < len0 → overZ m (coreL L0) u v = b → Calls Try.prog 40 #[forV a0 len0 cap0 m, .int .i64 u, .int .i64 v] W fun e w' => e = .returned (.bool b) ∧ Below W.heap.size W w') := Lib.hid (fun W u v b h hu hv hb => by
        rw [← hb]
        exact HS.out.over a0 len0 cap0 m L0 u v W h HM.out (in_nat u hu) (in_nat v hv) SM.out)
      have GC : Hid (∀ W (u : Nat) (b : Bool), NodeRow W a0 len0 cap0 L0 → u < len0 → connZ m (coreL L0) u = b → Calls Try.prog 37 #[forV a0 len0 cap0 m, .int .i64 u] W fun e w' => e = .returned (.bool b) ∧ Below W.heap.size W w') := Lib.hid (fun W u b h hu hb => by
        rw [← hb]
        exact HS.out.conn a0 len0 cap0 m L0 u W h HM.out (in_nat u hu) SM.out)
      have GT : Hid (∀ W (u : Nat) (r : Int), NodeRow W a0 len0 cap0 L0 → u < len0 → topZ m (coreL L0) u = r → Calls Try.prog 36 #[forV a0 len0 cap0 m, .int .i64 u] W fun e w' => e = .returned (.int .i64 r) ∧ Below W.heap.size W w') := Lib.hid (fun W u r h hu hr => by
        rw [← hr]
        exact HS.out.top a0 len0 cap0 m L0 u W h HM.out (in_nat u hu) SM.out)
      clear SM HF HS in_nat hlc
      go_enter Try.func8, Try.ntmps8
      go_upto_region 6 with (first
                                | (go_at_call 34; (with_reducible refine (AW.out _).mono ?_); rintro e w1 ⟨rfl, hb⟩; have BX := Lib.hid (BX.out.keep hb); have z0 := BX.out.c0; have z1 := BX.out.c1; clear hb)
                                | (go_at_call 12; (with_reducible refine (refshortF_any _ _ _ _ _ _ BX.out.row).mono ?_); rintro e w1 ⟨rfl, hb⟩; have BX := Lib.hid (BX.out.keep hb); have z0 := BX.out.c0; have z1 := BX.out.c1; clear hb)
                                | (go_at_call 16; (with_reducible refine (HR.out _ BX.out.row).mono ?_); rintro e w1 ⟨rfl, hb⟩; have BX := Lib.hid (BX.out.keep hb); have z0 := BX.out.c0; have z1 := BX.out.c1; clear hb))
      rw [hX]
      clear hX
      go_wp2_with (first
                      | (go_at_call 38; ((with_reducible refine (GL.out _ BX.out.row).mono ?_); rintro e w1 ⟨al, lenl, capl, rfl, hrl, hb⟩; have BX := Lib.hid (BX.out.keep hb); have z0 := BX.out.c0; have z1 := BX.out.c1; have RL := Lib.hid hrl; clear hb hrl))
                      | (go_at_call 20; ((with_reducible refine (GD.out _ BX.out.row).mono ?_); rintro e w1 ⟨ao, leno, capo, rfl, hro, hb⟩; have BX := Lib.hid (BX.out.keep hb); have RL := Lib.hid (RL.out.below hb); have z0 := BX.out.c0; have z1 := BX.out.c1; have RO := Lib.hid hro; clear hb hro))
                      | (go_at_call 31; (refine (GN.out _ _ _ RL.out (by assumption)).mono ?_); rintro e w1 ⟨rfl, rfl⟩))
      have GN : Hid (∀ W (n r : Int), IntRow W al lenl capl l → ((hasZ l n : Nat) : Int) = r → Calls Try.prog 31 #[.slice al lenl capl, .int .i64 n] W fun e w' => e = .returned (.int .i64 r) ∧ W = w') := Lib.hid (fun W n r h hr => by
        rw [← hr]
        exact refhas_any al lenl capl l n W h)
      have GF : Hid (∀ W (n r : Int), IntRow W al lenl capl l → findZ l n = r → Calls Try.prog 32 #[.slice al lenl capl, .int .i64 n] W fun e w' => e = .returned (.int .i64 r) ∧ W = w') := Lib.hid (fun W n r h hr => by
        rw [← hr]
        exact reffind_any al lenl capl l n W h)
      go_loopw [7] (fun i wr => ∃ k : Nat, k ≤ len0 ∧ i = .int .i64 k ∧ Hid (Box w wr w.heap.size a0 len0 cap0 m L0 (coreL L0)) ∧ Hid (IntRow wr al lenl capl l)) (fun i _ => len0 - (intOf i).toNat)
      case atStart => exact ⟨0, Nat.zero_le _, rfl, BX, RL⟩
      case round =>
        clear BX RL z0 z1
        obtain ⟨k, hk, rfl, BX, RL⟩ := hrel
        have z0 := BX.out.c0
        have z1 := BX.out.c1
        by_cases hlt : k < len0
        · have hmy := FX.out.many k (by rw [HLC.out]; exact hlt)
          obtain ⟨T, -, hT1, hT2⟩ : ∃ T : Int, True ∧ topZ m (coreL L0) X = T ∧ (overZ m (coreL L0) X k = true → topZ m (coreL L0) k = T) := ⟨_, trivial, rfl, fun h => FX.out.tops k (by rw [HLC.out]; exact hlt) h⟩
          cases e1 : overZ m (coreL L0) X k with
          | true =>
            rw [e1, if_pos rfl] at hmy
            have hmy : ((hasZ l (k : Int) : Nat) : Int) = 1 := by rw [hmy]; rfl
            have hT2 := hT2 e1
            go_wp2_with (first
                            | (go_at_call 38; ((with_reducible refine (GL.out _ BX.out.row).mono ?_); rintro e w1 ⟨al, lenl, capl, rfl, hrl, hb⟩; have BX := Lib.hid (BX.out.keep hb); have z0 := BX.out.c0; have z1 := BX.out.c1; have RL := Lib.hid hrl; clear hb hrl))
                            | (go_at_call 20; ((with_reducible refine (GD.out _ BX.out.row).mono ?_); rintro e w1 ⟨ao, leno, capo, rfl, hro, hb⟩; have BX := Lib.hid (BX.out.keep hb); have RL := Lib.hid (RL.out.below hb); have z0 := BX.out.c0; have z1 := BX.out.c1; have RO := Lib.hid hro; clear hb hro))
                            | (go_at_call 31; (refine (GN.out _ _ _ RL.out (by assumption)).mono ?_); rintro e w1 ⟨rfl, rfl⟩))
            have eT : (T != T) = false := by simp
            have E0 := Ext.cell z0 BX.out.lt
            have E1 := Ext.cell z1 BX.out.lt
            have EO := Lib.hid (fun (x : Ext wr) u v b hu hv hb => GO.out x.v u v b (BX.out.row.below x.below) hu hv hb)
            have ET := Lib.hid (fun (x : Ext wr) u r hu hr => GT.out x.v u r (BX.out.row.below x.below) hu hr)
            refine wp_region_ext (by kernel_rfl) (by kernel_rfl) ?_
            repeat (go_big_quiet_step (first
              | (go_at_call 40; exact Ext.call_below (EO.out _ _ _ _ (by assumption) (by assumption) (by assumption)))
              | (go_at_call 36; exact Ext.call_below (ET.out _ _ _ (by assumption) (by assumption)))))
            refine wpQuiet_nil ?_
            intro w' hw'
            obtain ⟨⟨w2, hb2⟩, hw''⟩ := hw'
            dsimp only at hw''
            subst hw''
            have BX := Lib.hid (BX.out.keep hb2)
            have RL := Lib.hid (RL.out.below hb2)
            clear E0 E1 EO ET hmy hT1 hT2
            go_wp2
            go_roundw
            case rel => exact ⟨k + 1, hlt, by go_num, BX, RL⟩
            case measure => simp [intOf]; omega
          | false =>
            rw [e1, if_neg (by decide)] at hmy
            have hmy : ((hasZ l (k : Int) : Nat) : Int) = 0 := by rw [hmy]; rfl
            clear hT1 hT2
            go_wp2_with (first
                            | (go_at_call 38; ((with_reducible refine (GL.out _ BX.out.row).mono ?_); rintro e w1 ⟨al, lenl, capl, rfl, hrl, hb⟩; have BX := Lib.hid (BX.out.keep hb); have z0 := BX.out.c0; have z1 := BX.out.c1; have RL := Lib.hid hrl; clear hb hrl))
                            | (go_at_call 20; ((with_reducible refine (GD.out _ BX.out.row).mono ?_); rintro e w1 ⟨ao, leno, capo, rfl, hro, hb⟩; have BX := Lib.hid (BX.out.keep hb); have RL := Lib.hid (RL.out.below hb); have z0 := BX.out.c0; have z1 := BX.out.c1; have RO := Lib.hid hro; clear hb hro))
                            | (go_at_call 31; (refine (GN.out _ _ _ RL.out (by assumption)).mono ?_); rintro e w1 ⟨rfl, rfl⟩))
            have E0 := Ext.cell z0 BX.out.lt
            have E1 := Ext.cell z1 BX.out.lt
            have EO := Lib.hid (fun (x : Ext wr) u v b hu hv hb => GO.out x.v u v b (BX.out.row.below x.below) hu hv hb)
            refine wp_region_ext (by kernel_rfl) (by kernel_rfl) ?_
            repeat (go_big_quiet_step (first
              | (go_at_call 40; exact Ext.call_below (EO.out _ _ _ _ (by assumption) (by assumption) (by assumption)))))
            refine wpQuiet_nil ?_
            intro w' hw'
            obtain ⟨⟨w2, hb2⟩, hw''⟩ := hw'
            dsimp only at hw''
            subst hw''
            have BX := Lib.hid (BX.out.keep hb2)
            have RL := Lib.hid (RL.out.below hb2)
            clear E0 E1 EO hmy
            go_wp2
            go_roundw
            case rel => exact ⟨k + 1, hlt, by go_num, BX, RL⟩
            case measure => simp [intOf]; omega
        · go_wp2_with (first
                          | (go_at_call 38; ((with_reducible refine (GL.out _ BX.out.row).mono ?_); rintro e w1 ⟨al, lenl, capl, rfl, hrl, hb⟩; have BX := Lib.hid (BX.out.keep hb); have z0 := BX.out.c0; have z1 := BX.out.c1; have RL := Lib.hid hrl; clear hb hrl))
                          | (go_at_call 20; ((with_reducible refine (GD.out _ BX.out.row).mono ?_); rintro e w1 ⟨ao, leno, capo, rfl, hro, hb⟩; have BX := Lib.hid (BX.out.keep hb); have RL := Lib.hid (RL.out.below hb); have z0 := BX.out.c0; have z1 := BX.out.c1; have RO := Lib.hid hro; clear hb hro))
                          | (go_at_call 31; (refine (GN.out _ _ _ RL.out (by assumption)).mono ?_); rintro e w1 ⟨rfl, rfl⟩))
          have hlo := RO.out.len64
          have hll := RL.out.len64
          have hol : leno ≤ lenl := by
            have h1 := FX.out.olen
            have h2 := RO.out.hlen
            have h3 := RL.out.hlen
            omega
          have hl60 : lenl ≤ 60 := by
            have h1 := FX.out.len
            have h2 := RL.out.hlen
            rw [HLC.out] at h1
            omega
          have hlp2 : 0 < lenl := by
            have h1 := (List.getElem?_eq_some_iff.1 FX.out.pos).1
            have h3 := RL.out.hlen
            omega
          go_loopw [10] (fun i wr => ∃ k : Nat, 1 ≤ k ∧ i = .int .i64 k ∧ Hid (Box w wr w.heap.size a0 len0 cap0 m L0 (coreL L0)) ∧ Hid (IntRow wr al lenl capl l) ∧ Hid (IntRow wr ao leno capo o)) (fun i _ => leno - (intOf i).toNat)
          case atStart => exact ⟨1, Nat.le_refl _, rfl, BX, RL, RO⟩
          case round =>
            clear BX RL RO z0 z1
            obtain ⟨i, hi1, rfl, BX, RL, RO⟩ := hrel
            have z0 := BX.out.c0
            have z1 := BX.out.c1
            by_cases hlt2 : i < leno
            · obtain ⟨bo, oo, zb, hao, hbo, hzb, hcb, -⟩ := RO.out.get hlt2
              obtain ⟨bo', oo', za, hao', -, hza, hca, -⟩ := RO.out.get (show i - 1 < leno by omega)
              rw [hao] at hao'
              injection hao' with hao'
              injection hao' with e1 e2
              subst e1 e2
              subst hao
              have hinc := FX.out.inc (i - 1) za zb hza (by rw [show i - 1 + 1 = i by omega]; exact hzb)
              obtain ⟨fa, hfa⟩ : ∃ fa, findZ l za = fa := ⟨_, rfl⟩
              obtain ⟨fb, hfb⟩ : ∃ fb, findZ l zb = fb := ⟨_, rfl⟩
              rw [hfa, hfb] at hinc
              have q1 : decide (fb ≤ fa) = false := decide_eq_false (by omega)
              have q2 : IntKind.i64.wrap ((i : Int) - 1) = (i : Int) - 1 := IntWalk.i64_in _ (by omega)
              have q3 : ((i : Int) - 1).toNat = i - 1 := by omega
              have q4 : (0 : Int) ≤ (i : Int) - 1 := by omega
              have q5 : (1 : Int) ≤ (i : Int) := by omega
              have q6 : (i : Int) - 1 < (leno : Int) := by omega
              have q7 : ((i - 1 : Nat) : Int) = (i : Int) - 1 := by omega
              clear hza hzb hinc
              go_wp2_with fail
              have EA := Ext.cell hca hbo
              have EB := Ext.cell hcb hbo
              have EF := Lib.hid (fun (x : Ext wr) n r hr => GF.out x.v n r (RL.out.below x.below) hr)
              refine wp_region_ext (by kernel_rfl) (by kernel_rfl) ?_
              repeat (go_big_quiet_step ((go_at_call 32; exact Ext.call_same (EF.out _ _ _ (by assumption)))))
              refine wpQuiet_nil ?_
              intro w' hw'
              obtain ⟨⟨w2, hb2⟩, hw''⟩ := hw'
              dsimp only at hw''
              subst hw''
              have BX := Lib.hid (BX.out.keep hb2)
              have RL := Lib.hid (RL.out.below hb2)
              have RO := Lib.hid (RO.out.below hb2)
              clear EA EB EF hfa hfb hca hcb q2 q3 q7
              go_wp2
              go_roundw
              case rel => exact ⟨i + 1, by omega, by go_num, BX, RL, RO⟩
              case measure => simp [intOf]; omega
            · go_wp2_with fail
              go_loopw [11] (fun i wr => ∃ k : Nat, k ≤ lenl ∧ i = .int .i64 k ∧ Hid (Box w wr w.heap.size a0 len0 cap0 m L0 (coreL L0)) ∧ Hid (IntRow wr al lenl capl l) ∧ Hid (IntRow wr ao leno capo o)) (fun i _ => lenl - (intOf i).toNat)
              case atStart => exact ⟨0, Nat.zero_le _, rfl, BX, RL, RO⟩
              case round =>
                clear BX RL RO z0 z1
                obtain ⟨i, hi, rfl, BX, RL, RO⟩ := hrel
                have z0 := BX.out.c0
                have z1 := BX.out.c1
                by_cases hlt3 : i < lenl
                · obtain ⟨bl, ol, zi, rfl, hbl, hzi, hci, -⟩ := RL.out.get hlt3
                  obtain ⟨n, rfl, hn⟩ := FX.out.num i zi hzi
                  rw [HLC.out] at hn
                  obtain ⟨b, off, nx, rfl, hb, hnx, hat, hok⟩ := BX.out.row.get hn
                  have HNX := Lib.hid (coreL_get hnx)
                  have HZI := Lib.hid hzi
                  have OK := Lib.hid hok
                  obtain ⟨y0, y1, y2, y3, y4, y5, y6, y7, y8, y9⟩ := hat.below hb (below_box wr zeroNB4)
                  obtain ⟨x0, x1, x2, x3, x4, x5, x6, x7, x8, x9⟩ := hat
                  have z0a := (BX.out.keep (below_box wr zeroNB4)).c0
                  have hcia := ((below_box wr zeroNB4).cell (p := ⟨bl, ol + i, none⟩) hbl).trans hci
                  clear hnx hzi hok
                  go_upto_region 22 with fail
                  go_cut [12] (fun c wx => c = .pointer (some ⟨wr.heap.size, 0, none⟩) ∧ wx = (wr.alloc (nodB nx)).drew)
                  case first =>
                    go_region_law (fail)
                    all_goals
                      go_wp2
                      go_meet
                      exact ⟨rfl, rfl⟩
                  case rest =>
                    obtain ⟨rfl, rfl⟩ := hcut
                    clear x0 x1 x2 x3 x4 x5 x6 x7 x8 x9 y0 y1 y2 y3 y4 y5 y6 y7 y8 y9 z0a hcia z0 z1 hci hbl hb
                    obtain ⟨W, hW, NK⟩ : ∃ W, (wr.alloc (nodB nx)).drew = W ∧ NKeep wr W nx := ⟨_, rfl, (NKeep.start OK.out).keep (Below.refl _ _).drew⟩
                    rw [hW]
                    clear hW
                    have NK := Lib.hid NK
                    have BX := Lib.hid (BX.out.keep NK.out.below)
                    have RL := Lib.hid (RL.out.below NK.out.below)
                    have RO := Lib.hid (RO.out.below NK.out.below)
                    obtain ⟨b', off', nx', hab', hb, hnx, hat, -⟩ := BX.out.row.get hn
                    cases hab'
                    obtain ⟨bl', ol', zi, hal', hbl, hzi, hci, -⟩ := RL.out.get hlt3
                    cases hal'
                    obtain rfl : zi = (n : Int) := Option.some.inj (hzi.symm.trans HZI.out)
                    clear hnx hat hzi hb
                    have z0 := BX.out.c0
                    have z1 := BX.out.c1
                    have x6 := NK.out.box.c6
                    have x8 := NK.out.box.c8
                    have hkn := OK.out.kids.len64
                    by_cases hu : nx.core.under = -1
                    · have u1 : (nx.core.under != -1) = false := by rw [hu]; rfl
                      clear hu
                      go_wp2
                      have E8 := Ext.cell x8 NK.out.box.lt
                      refine wp_region_ext (by kernel_rfl) (by kernel_rfl) ?_
                      repeat (go_big_quiet_step (fail))
                      refine wpQuiet_nil ?_
                      intro w' hw'
                      obtain ⟨⟨w2, hb2⟩, hw''⟩ := hw'
                      dsimp only at hw''
                      subst hw''
                      clear E8 x6 x8
                      have NK := Lib.hid (NK.out.keep hb2)
                      have BX := Lib.hid (BX.out.keep hb2)
                      have RL := Lib.hid (RL.out.below hb2)
                      have RO := Lib.hid (RO.out.below hb2)
                      have x6 := NK.out.box.c6
                      have x8 := NK.out.box.c8
                      clear hb2
                      go_wp2
                      have E6 := Ext.cell x6 NK.out.box.lt
                      have E8 := Ext.cell x8 NK.out.box.lt
                      by_cases hk0 : 0 < nx.kN
                      · have k1 : decide ((0 : Int) < (nx.kN : Int)) = true := decide_eq_true (by omega)
                        refine wp_region_ext (by kernel_rfl) (by kernel_rfl) ?_
                        repeat (go_big_quiet_step (fail))
                        refine wpQuiet_nil ?_
                        intro w' hw'
                        obtain ⟨⟨w3, hb3⟩, hw''⟩ := hw'
                        dsimp only at hw''
                        subst hw''
                        clear E6 E8 x6 x8
                        have BX := Lib.hid (BX.out.keep hb3)
                        have RL := Lib.hid (RL.out.below hb3)
                        have RO := Lib.hid (RO.out.below hb3)
                        go_wp2
                        go_roundw
                        case rel => exact ⟨i + 1, hlt3, by go_num, BX, RL, RO⟩
                        case measure => simp [intOf]; omega
                      · have k1 : decide ((0 : Int) < (nx.kN : Int)) = false := decide_eq_false (by omega)
                        refine wp_region_ext (by kernel_rfl) (by kernel_rfl) ?_
                        repeat (go_big_quiet_step (fail))
                        refine wpQuiet_nil ?_
                        intro w' hw'
                        obtain ⟨⟨w3, hb3⟩, hw''⟩ := hw'
                        dsimp only at hw''
                        subst hw''
                        clear E6 E8 x6 x8
                        have BX := Lib.hid (BX.out.keep hb3)
                        have RL := Lib.hid (RL.out.below hb3)
                        have RO := Lib.hid (RO.out.below hb3)
                        go_wp2
                        go_roundw
                        case rel => exact ⟨i + 1, hlt3, by go_num, BX, RL, RO⟩
                        case measure => simp [intOf]; omega
                    · obtain ⟨s, hs, hsl, hls, hkid⟩ := FX.out.und i n nx.core HZI.out HNX.out hu
                      rw [HLC.out] at hsl
                      have hil : i + 1 < lenl := by
                        have h1 := (List.getElem?_eq_some_iff.1 hls).1
                        have h2 := RL.out.hlen
                        omega
                      obtain ⟨bl', ol', zs, hal', -, hzs, hcs, -⟩ := RL.out.get hil
                      cases hal'
                      obtain rfl : zs = (s : Int) := Option.some.inj (hzs.symm.trans hls)
                      rw [hs] at x8
                      have u1 : ((s : Int) != -1) = true := bne_iff_ne.2 (by omega)
                      have u2 : ((s : Int) != (s : Int)) = false := by simp
                      have q1 : IntKind.i64.wrap ((i : Int) + 1) = (i : Int) + 1 := IntWalk.i64_in _ (by omega)
                      have q2 : decide ((lenl : Int) ≤ (i : Int) + 1) = false := decide_eq_false (by omega)
                      have q3 : (0 : Int) ≤ (i : Int) + 1 := by omega
                      have q4 : ((i : Int) + 1).toNat = i + 1 := by omega
                      have q5 : (i : Int) + 1 < (lenl : Int) := by omega
                      have HU := Lib.hid hs
                      clear hu hzs hls hs
                      go_wp2
                      have E8 := Ext.cell x8 NK.out.box.lt
                      have ES := Ext.cell hcs hbl
                      refine wp_region_ext (by kernel_rfl) (by kernel_rfl) ?_
                      repeat (go_big_quiet_step (fail))
                      refine wpQuiet_nil ?_
                      intro w' hw'
                      obtain ⟨⟨w2, hb2⟩, hw''⟩ := hw'
                      dsimp only at hw''
                      subst hw''
                      clear E8 ES x6 x8 hcs hci z0 z1
                      have NK := Lib.hid (NK.out.keep hb2)
                      have BX := Lib.hid (BX.out.keep hb2)
                      have RL := Lib.hid (RL.out.below hb2)
                      have RO := Lib.hid (RO.out.below hb2)
                      have z0 := BX.out.c0
                      have z1 := BX.out.c1
                      have x6 := NK.out.box.c6
                      have x8 := NK.out.box.c8
                      rw [show nx.core.under = (s : Int) from HU.out] at x8
                      clear hb2
                      go_wp2
                      by_cases hk0 : 0 < nx.kN
                      · obtain ⟨bk, okk, k0, hka, hbk, hk00, hck, -⟩ := NK.out.box.ok.kids.get hk0
                        have hfk := hkid k0 hk00
                        obtain ⟨q, hq⟩ : ∃ q, allZ m (coreL L0) (s : Int) = q := ⟨_, rfl⟩
                        rw [hq] at hfk
                        have hqlen : q.length ≤ 60 := by
                          have h1 := allZ_len' (m := m) (F := coreL L0) C1.out (n := s) (by rw [HLC.out]; exact hsl)
                          rw [hq, HLC.out] at h1
                          omega
                        obtain ⟨ql, hql⟩ : ∃ ql, q.length = ql := ⟨_, rfl⟩
                        rw [hql] at hfk hqlen
                        rw [hka] at x6
                        rw [Nat.add_zero] at hck
                        have GQ : Hid (∀ W, NodeRow W (some ⟨b, off, none⟩) len0 cap0 L0 → Calls Try.prog 38 #[forV (some ⟨b, off, none⟩) len0 cap0 m, .int .i64 s] W (OrdPost W q)) := Lib.hid (fun W h => GA.out W s q h hsl hq)
                        have GK : Hid (∀ W, IntRow W (some ⟨bl, ol, none⟩) lenl capl l → Calls Try.prog 32 #[.slice (some ⟨bl, ol, none⟩) lenl capl, .int .i64 k0] W fun e w' => e = .returned (.int .i64 ((i : Int) + 1 + (ql : Int))) ∧ W = w') := Lib.hid (fun W h => GF.out W k0 _ h hfk)
                        have HQL := Lib.hid hql
                        have CK := Lib.hid (stays hck hbk)
                        have X6 := Lib.hid (stays x6 NK.out.box.lt)
                        have X8 := Lib.hid (stays x8 NK.out.box.lt)
                        have k1 : decide ((0 : Int) < (nx.kN : Int)) = true := decide_eq_true (by omega)
                        have q6 : IntKind.i64.wrap ((i : Int) + 1 + (ql : Int)) = (i : Int) + 1 + (ql : Int) := IntWalk.i64_in _ (by omega)
                        have q7 : (((i : Int) + 1 + (ql : Int)) != ((i : Int) + 1 + (ql : Int))) = false := by simp
                        clear hfk hk00 hka hq hql hkid
                        have HBW : Hid (Below w'.heap.size w' w') := Lib.hid (Below.refl _ _)
                        go_region_held3 (fun v => v.cell? ⟨w.heap.size, 0, none⟩ = some (.slice (some ⟨b, off, none⟩) len0 cap0) ∧ v.cell? ⟨w.heap.size, 1, none⟩ = some (.int .i64 m) ∧ v.cell? ⟨wr.heap.size, 6, none⟩ = some (.slice (some ⟨bk, okk, none⟩) nx.kN nx.kC) ∧ v.cell? ⟨wr.heap.size, 8, none⟩ = some (.int .i64 (s : Int)) ∧ v.cell? ⟨bk, okk, none⟩ = some (.int .i64 k0)) (go_keep)
                          (first
                            | (go_at_call 32; refine (GK.out _ (by first | exact RL.out | exact RL.out.below (Below.refl _ _).drew)).mono ?_; rintro e w2 ⟨rfl, rfl⟩)
                            | (go_at_call 38; refine (GQ.out _ (by first | exact BX.out.row | exact BX.out.row.below (Below.refl _ _).drew)).mono ?_; intro e w2 hp; obtain ⟨aq, lenq, cq, rfl, hrq, hb⟩ := hp; obtain rfl : ql = lenq := HQL.out.symm.trans hrq.hlen; have hb : Below w'.heap.size w' w2 := (by first | exact hb | exact (Below.refl _ _).drew.trans hb); have BX : Hid (Box w w2 w.heap.size (some ⟨b, off, none⟩) len0 cap0 m L0 (coreL L0)) := Lib.hid (BX.out.keep hb); have NK := Lib.hid (NK.out.keep hb); have RL := Lib.hid (RL.out.below hb); have RO := Lib.hid (RO.out.below hb); clear z0 z1 x6 x8 hck; have z0 := BX.out.c0; have z1 := BX.out.c1; have x6 := X6.out _ hb; have x8 := X8.out _ hb; have hck := CK.out _ hb; clear hrq hb))
                        go_wp2
                        go_roundw
                        case rel => exact ⟨i + 1, hlt3, by go_num, BX, RL, RO⟩
                        case measure => simp [intOf]; omega
                      · have k1 : decide ((0 : Int) < (nx.kN : Int)) = false := decide_eq_false (by omega)
                        have E6 := Ext.cell x6 NK.out.box.lt
                        have E8 := Ext.cell x8 NK.out.box.lt
                        refine wp_region_ext (by kernel_rfl) (by kernel_rfl) ?_
                        repeat (go_big_quiet_step (fail))
                        refine wpQuiet_nil ?_
                        intro w'' hw'
                        obtain ⟨⟨w3, hb3⟩, hw''⟩ := hw'
                        dsimp only at hw''
                        subst hw''
                        clear E6 E8 x6 x8
                        have BX := Lib.hid (BX.out.keep hb3)
                        have RL := Lib.hid (RL.out.below hb3)
                        have RO := Lib.hid (RO.out.below hb3)
                        go_wp2
                        go_roundw
                        case rel => exact ⟨i + 1, hlt3, by go_num, BX, RL, RO⟩
                        case measure => simp [intOf]; omega
                · obtain ⟨t, ht, htl⟩ := FX.out.top
                  rw [HLC.out] at htl
                  obtain ⟨bl, ol, zp, rfl, hbl, hzp, hcp, -⟩ := RL.out.get hlp2
                  obtain rfl : zp = (X : Int) := Option.some.inj (hzp.symm.trans FX.out.pos)
                  rw [Nat.add_zero] at hcp
                  obtain ⟨b, off, nt, rfl, hb, hnt, hat, -⟩ := BX.out.row.get htl
                  have x0 := hat.c0
                  have hconn : connZ m (coreL L0) X = (nt.core.kind == 0) := by
                    rw [FX.out.conn, ht]
                    unfold kindK
                    rw [getC_nat, coreL_get hnt]
                  have g1 : decide ((leno : Int) ≤ (lenl : Int)) = true := decide_eq_true (by omega)
                  have g2 : decide (leno ≤ lenl) = true := decide_eq_true hol
                  have g3 : ((X : Int) == (X : Int)) = true := by simp
                  clear hnt hat hzp
                  go_wp2
                  cases hkd : (nt.core.kind == 0)
                  all_goals
                    rw [hkd] at hconn
                    have E0 := Ext.cell z0 BX.out.lt
                    have E1 := Ext.cell z1 BX.out.lt
                    have EP := Ext.cell hcp hbl
                    have EK := Ext.cell x0 hb
                    have EC := Lib.hid (fun (x : Ext wr) u b hu hb => GC.out x.v u b (BX.out.row.below x.below) hu hb)
                    have ET := Lib.hid (fun (x : Ext wr) u r hu hr => GT.out x.v u r (BX.out.row.below x.below) hu hr)
                    refine wp_region_ext (by kernel_rfl) (by kernel_rfl) ?_
                    repeat (go_big_quiet_step (first
                      | (go_at_call 37; exact Ext.call_below (EC.out _ _ _ (by assumption) (by assumption)))
                      | (go_at_call 36; exact Ext.call_below (ET.out _ _ _ (by assumption) (by assumption)))))
                    refine wpQuiet_nil ?_
                    intro w' hw'
                    obtain ⟨⟨w2, hb2⟩, hw''⟩ := hw'
                    dsimp only at hw''
                    subst hw''
                    have BX := Lib.hid (BX.out.keep hb2)
                    clear E0 E1 EP EK EC ET
                    go_wp2
                    go_ret
                    exact ⟨rfl, BX.out.below⟩
end Go.Proofs.Ytdalljhgmhjibaa
/- ShadeAll's walk, over both packages' contracts as one. -/
namespace Go.Proofs.Ytdalljhgmhjibaa
open Go.RowKit
theorem shadeAll_walk4 (P : Lay4) (a0 : Option Addr) (len0 cap0 : Nat) (m : Int) (L0 : List NodeD) (x : Int) (w : World)
    (h0 : NodeRow w a0 len0 cap0 L0) (hm : In64 m) (hx : 0 ≤ x ∧ x ≤ 255) :
    Calls Try.prog 8 #[forV a0 len0 cap0 m, .int .u8 x] w fun e w' => e = .returned (.bool true) ∧ Below w.heap.size w w' :=
  shadeAll_walk P.f P.s a0 len0 cap0 m L0 x w h0 hm hx
end Go.Proofs.Ytdalljhgmhjibaa
