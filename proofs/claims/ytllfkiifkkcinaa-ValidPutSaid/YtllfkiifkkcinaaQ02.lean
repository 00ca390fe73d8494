/- Texts joined in build order: ValidPut. -/
import Derived.Test.YtllfkiifkkcinaaP21
import Derived.Test.YtllfkiifkkcinaaQ01
/- The walk of the law ValidPut, over the contracts of packages forest, shade and valid. -/
namespace Go.Proofs.Ytllfkiifkkcinaa
open Go.RowKit
/-- Under whom a child is, or none. -/
def ChildOf (F : List Core) (Y : Nat) (C : Int) : Prop := C = -1 ∨ ∃ k : Nat, C = k ∧ k < F.length ∧ parentK F k = (Y : Int)
theorem may_child {m : Int} {F : List Core} (h : rightF m F = true) {X Y : Nat} {C : Int} (hX : X < F.length) (hY : Y < F.length) (hC : ChildOf F Y C) : mayZ m F X Y C = refuseE m F X Y true (-1) := by
  rcases hC with rfl | ⟨k, rfl, h1, h2⟩
  · exact may_none h hX hY
  · exact may_is h hX hY h1 h2
theorem refuse_vals {m : Int} {F : List Core} {n p g : Int} : refuseE m F n p true g = 0 ∨ refuseE m F n p true g = 5 := by
  unfold refuseE
  split
  · exact .inr rfl
  · split
    · next h => cases h
    · split
      · exact .inr rfl
      · split
        · exact .inr rfl
        · exact .inl rfl
theorem refuse_doc {m : Int} {F : List Core} {n p : Int} (h : refuseE m F n p true (-1) = 5) (h1 : overZ m F n p = false) (h2 : kindK F n ≠ 0) (h3 : kindK F n ≠ 4) (h4 : kindK F p ≠ 2) : kindK F p = 0 ∧ docTakesB F n p (-1) = false := by
  have hne : ¬ refuseE m F n p true (-1) = 0 := by rw [h]; decide
  rw [refuse_zero] at hne
  by_cases e : kindK F p = 0
  · refine ⟨e, ?_⟩
    cases hd : docTakesB F n p (-1) with
    | false => rfl
    | true => exact absurd ⟨h4, h1, h2, h3, fun _ => hd⟩ hne
  · exact absurd ⟨h4, h1, h2, h3, fun e2 => absurd e2 e⟩ hne
theorem parts_kinds {m : Int} {F : List Core} (h : rightF m F = true) {n : Nat} {x : Core} (hn : F[n]? = some x) (h0 : x.kind ≠ 0) (h4 : x.kind ≠ 4) : ∀ z ∈ partsZ F n, ∃ (q : Nat) (c : Core), z = q ∧ F[q]? = some c ∧ (c.kind = 1 ∨ c.kind = 2) := fun z hz => by
  have NN := right_node h hn
  have hk := NN.kind
  rw [parts_at hn] at hz
  split at hz
  · obtain ⟨c1, g1, g2, _, _⟩ := NN.kids z hz
    obtain ⟨g3, _, g4⟩ := getC_some g1
    exact ⟨z.toNat, c1, by omega, g4, g2⟩
  · rw [List.mem_singleton] at hz
    exact ⟨n, x, hz, hn, by omega⟩
theorem step_wp {P : Program} {ops : Array Oper} {o : Oper} {a : Act} {w : World} {K : Act → World → Prop} {Q : Exit → Act → World → Prop} {E : Prop} (hg : o.guard = none) (h : Oper.wp P o a w K Q) : if Region.wanted o (yielded ops a.tmps) = true then Oper.wp P o a w K Q else E := by
  have hw : Region.wanted o (yielded ops a.tmps) = true := by simp [Region.wanted, hg]
  rw [if_pos hw]
  exact h
def cntK (F : List Core) (k : Int) (l : List Int) : Nat := l.countP (fun z => kindK F z == k)
theorem cntK_next {F : List Core} {k z : Int} {l : List Int} {r : Nat} (h : l[r]? = some z) : cntK F k (l.take (r + 1)) = cntK F k (l.take r) + if kindK F z == k then 1 else 0 := by
  obtain ⟨hl, hg⟩ := List.getElem?_eq_some_iff.1 h
  unfold cntK
  rw [List.take_succ_eq_append_getElem hl, hg, List.countP_append]
  simp [List.countP_cons]
theorem doc_counts {m : Int} {F : List Core} (h : rightF m F = true) {X Y : Nat} {x y : Core} (hx : F[X]? = some x) (hy : F[Y]? = some y) (hk : y.kind = 0) (h0 : x.kind ≠ 0) (h4 : x.kind ≠ 4) (hd : docTakesB F X Y (-1) = false) : 0 < cntK F 2 (y.kids ++ partsZ F X) ∨ 1 < cntK F 1 (y.kids ++ partsZ F X) := by
  unfold docTakesB at hd
  rw [kidsK_get hy, countNe_all (kids_nat h hy)] at hd
  cases ha : (partsZ F X).any (fun k => kindK F k == 2) with
  | true =>
    obtain ⟨z, hz, h2⟩ := List.any_eq_true.1 ha
    exact .inl (List.countP_pos_iff.2 ⟨z, List.mem_append_right _ hz, h2⟩)
  | false =>
    rw [ha] at hd
    have hd2 : ¬ y.kids.length + (partsZ F X).length ≤ 1 := by simpa using hd
    right
    have : cntK F 1 (y.kids ++ partsZ F X) = (y.kids ++ partsZ F X).length := by
      refine List.countP_eq_length.2 (fun z hz => beq_iff_eq.2 ?_)
      rcases List.mem_append.1 hz with hz | hz
      · exact ((right_node h hy).root hk).2 z hz
      · obtain ⟨q, c, rfl, h1, h2⟩ := parts_kinds h hx h0 h4 z hz
        have := List.any_eq_false.1 ha _ hz
        rw [kindK_at h1] at this ⊢
        rcases h2 with h2 | h2
        · exact h2
        · simp [h2] at this
    rw [this, List.length_append]
    omega
set_option maxHeartbeats 32000000 in
set_option maxRecDepth 100000 in
theorem validPut_walk (P : Lay5) (a0 : Option Addr) (len0 cap0 : Nat) (m : Int) (L0 : List NodeD) (x y z : Int) (last : Bool) (w : World)
    (h0 : NodeRow w a0 len0 cap0 L0) (hm : In64 m) (hx : 0 ≤ x ∧ x ≤ 255) (hy : 0 ≤ y ∧ y ≤ 255) (hz : 0 ≤ z ∧ z ≤ 255) :
    Calls Try.prog 11 #[forV a0 len0 cap0 m, .int .u8 x, .int .u8 y, .int .u8 z, .bool last] w fun e w' => e = .returned (.bool true) ∧ Below w.heap.size w w' := by
  have LP := Lib.hid P
  obtain ⟨F, S, V⟩ := P
  have AW := Lib.hid (fun W => awake5_any F V W)
  have HF := Lib.hid F
  have HS := Lib.hid S
  have HV := Lib.hid V
  have BX := Lib.hid (Box.start (m := m) h0)
  have hl0 := h0.len64
  have HL := Lib.hid h0.hlen
  have HM := Lib.hid hm
  have H00 := Lib.hid h0
  clear h0 F S V hm
  cases c0 : shortF L0 with
  | false =>
    have C0 := Lib.hid c0
    go_enter Try.func11, Try.ntmps11
    go_wp2_with (first
                    | (go_at_call 50; (with_reducible refine (AW.out _).mono ?_); rintro e w1 ⟨rfl, hb⟩; have BX := Lib.hid (BX.out.keep hb); have z0 := BX.out.c0; have z1 := BX.out.c1; clear hb)
                    | (go_at_call 15; (with_reducible refine (refshortF_any _ _ _ _ _ _ BX.out.row).mono ?_); rintro e w1 ⟨rfl, hb⟩; have BX := Lib.hid (BX.out.keep hb); have z0 := BX.out.c0; have z1 := BX.out.c1; clear hb)
                    | (go_at_call 19; (with_reducible refine (HR.out _ BX.out.row).mono ?_); rintro e w1 ⟨rfl, hb⟩; have BX := Lib.hid (BX.out.keep hb); have z0 := BX.out.c0; have z1 := BX.out.c1; clear hb))
    go_ret
    exact ⟨rfl, BX.out.below⟩
  | true =>
    have SM := Lib.hid (small_of_short c0)
    have HK60 : Hid (kidsLe L0 60 ∧ L0.length ≤ 60) := Lib.hid (by
      have h1 := c0
      unfold shortF at h1
      simp only [Bool.and_eq_true, decide_eq_true_eq, List.all_eq_true] at h1
      refine ⟨fun q hq => ?_, by omega⟩
      have := h1.2 q hq
      unfold shortN at this
      simp only [Bool.and_eq_true, decide_eq_true_eq] at this
      omega)
    cases c1 : rightF m (coreL L0) with
    | false =>
      have HR : Hid (∀ W, NodeRow W a0 len0 cap0 L0 → Calls Try.prog 19 #[forV a0 len0 cap0 m] W fun e w' => e = .returned (.bool false) ∧ Below W.heap.size W w') := Lib.hid (fun W h => by
        have := HF.out.right a0 len0 cap0 m L0 W h HM.out SM.out
        rwa [c1] at this)
      clear c1
      go_enter Try.func11, Try.ntmps11
      go_wp2_with (first
                      | (go_at_call 50; (with_reducible refine (AW.out _).mono ?_); rintro e w1 ⟨rfl, hb⟩; have BX := Lib.hid (BX.out.keep hb); have z0 := BX.out.c0; have z1 := BX.out.c1; clear hb)
                      | (go_at_call 15; (with_reducible refine (refshortF_any _ _ _ _ _ _ BX.out.row).mono ?_); rintro e w1 ⟨rfl, hb⟩; have BX := Lib.hid (BX.out.keep hb); have z0 := BX.out.c0; have z1 := BX.out.c1; clear hb)
                      | (go_at_call 19; (with_reducible refine (HR.out _ BX.out.row).mono ?_); rintro e w1 ⟨rfl, hb⟩; have BX := Lib.hid (BX.out.keep hb); have z0 := BX.out.c0; have z1 := BX.out.c1; clear hb))
      go_ret
      exact ⟨rfl, BX.out.below⟩
    | true =>
      have HR : Hid (∀ W, NodeRow W a0 len0 cap0 L0 → Calls Try.prog 19 #[forV a0 len0 cap0 m] W fun e w' => e = .returned (.bool true) ∧ Below W.heap.size W w') := Lib.hid (fun W h => by
        have := HF.out.right a0 len0 cap0 m L0 W h HM.out SM.out
        rwa [c1] at this)
      have C1 := Lib.hid c1
      have hlc : (coreL L0).length = len0 := by
        unfold coreL
        rw [List.length_map, HL.out]
      have HLC := Lib.hid hlc
      have hlp : 0 < len0 := by
        have := right_len c1
        rwa [hlc] at this
      clear c1 hlc
      obtain ⟨X, hX⟩ : ∃ X : Nat, x % (len0 : Int) = X := ⟨(x % (len0 : Int)).toNat, by have := Int.emod_nonneg x (show (len0 : Int) ≠ 0 by omega); omega⟩
      obtain ⟨Y, hY⟩ : ∃ Y : Nat, y % (len0 : Int) = Y := ⟨(y % (len0 : Int)).toNat, by have := Int.emod_nonneg y (show (len0 : Int) ≠ 0 by omega); omega⟩
      have hXl : X < len0 := by have := Int.emod_lt_of_pos x (show (0 : Int) < len0 by omega); omega
      have hYl : Y < len0 := by have := Int.emod_lt_of_pos y (show (0 : Int) < len0 by omega); omega
      obtain ⟨b, off, ny, rfl, hblt, hgy, hat2, hoky⟩ := H00.out.get hYl
      obtain ⟨b2, off2, nx, hab, -, hgx, hatx, -⟩ := H00.out.get hXl
      obtain ⟨rfl, rfl⟩ : b = b2 ∧ off = off2 := by injection hab with h1; injection h1 with h2 h3; exact ⟨h2, h3⟩
      have CY := Lib.hid (stays hat2.c6 hblt)
      have CYK := Lib.hid (stays hat2.c0 hblt)
      have CXK := Lib.hid (stays hatx.c0 hblt)
      have KR := Lib.hid hoky.kids
      have hk64 := KR.out.len64
      have HYC := Lib.hid (coreL_get hgy)
      have HXC := Lib.hid (coreL_get hgx)
      have hkl : ny.kN ≤ 60 := by
        rw [← KR.out.hlen]
        exact HK60.out.1 ny (List.mem_of_getElem? hgy)
      clear hgy hgx hat2 hatx hoky hab
      go_enter Try.func11, Try.ntmps11
      go_upto_region 5 with (first
                                | (go_at_call 50; (with_reducible refine (AW.out _).mono ?_); rintro e w1 ⟨rfl, hb⟩; have BX := Lib.hid (BX.out.keep hb); have z0 := BX.out.c0; have z1 := BX.out.c1; clear hb)
                                | (go_at_call 15; (with_reducible refine (refshortF_any _ _ _ _ _ _ BX.out.row).mono ?_); rintro e w1 ⟨rfl, hb⟩; have BX := Lib.hid (BX.out.keep hb); have z0 := BX.out.c0; have z1 := BX.out.c1; clear hb)
                                | (go_at_call 19; (with_reducible refine (HR.out _ BX.out.row).mono ?_); rintro e w1 ⟨rfl, hb⟩; have BX := Lib.hid (BX.out.keep hb); have z0 := BX.out.c0; have z1 := BX.out.c1; clear hb))
      (have E0 := Ext.cell z0 BX.out.lt; have E1 := Ext.cell z1 BX.out.lt; refine wp_region_ext (by kernel_rfl) (by kernel_rfl) ?_; (repeat (go_big_quiet_step (fail))); refine wpQuiet_nil ?_; intro w' hw'; obtain ⟨⟨w2, hb2⟩, hw''⟩ := hw'; dsimp only at hw''; subst hw''; clear E0 E1; rw [hX, hY]; clear hX hY z0 z1; have BX := Lib.hid (BX.out.keep hb2); have z0 := BX.out.c0; have z1 := BX.out.c1; clear hb2)
      have cy := CY.out _ BX.out.below
      go_upto_region 8 with fail
      go_cut [54] (fun c wx => c = .bool (decide (0 < (ny.kN : Int)) && !last) ∧ wx = w')
      case first =>
        by_cases hk0 : 0 < (ny.kN : Int)
        · cases last
          all_goals
            go_wp2
            go_meet
            exact ⟨by rw [decide_eq_true hk0]; rfl, rfl⟩
        · go_wp2
          go_meet
          exact ⟨by rw [decide_eq_false (show ¬ 0 < (ny.kN : Int) by omega)]; rfl, rfl⟩
      case rest =>
        obtain ⟨rfl, rfl⟩ := hcut
        generalize hB : (decide (0 < (ny.kN : Int)) && !last) = B
        have HBB := Lib.hid hB
        clear hB
        go_upto_if 54 with fail
        go_cut [13, 14] (fun c s wx => wx = wc ∧ s = .slice ny.kA ny.kN ny.kC ∧ ∃ C : Int, c = .int .i64 C ∧ ChildOf (coreL L0) Y C)
        case first =>
          cases B with
          | false =>
            go_wp2
            go_meet
            exact ⟨rfl, rfl, -1, rfl, .inl rfl⟩
          | true =>
            have hkp : 0 < ny.kN := by
              have h1 := HBB.out
              rw [Bool.and_eq_true, decide_eq_true_eq] at h1
              omega
            obtain ⟨K, hK⟩ : ∃ K : Nat, z % (ny.kN : Int) = K := ⟨(z % (ny.kN : Int)).toNat, by have := Int.emod_nonneg z (show (ny.kN : Int) ≠ 0 by omega); omega⟩
            have hKl : K < ny.kN := by have := Int.emod_lt_of_pos z (show (0 : Int) < ny.kN by omega); omega
            obtain ⟨bk, ok, zc, hka, hbk, hzc, hcc, -⟩ := KR.out.get hKl
            rw [hka] at CY
            rw [hka]
            have cy := CY.out _ BX.out.below
            have c5 := stays hcc hbk _ BX.out.below
            obtain ⟨cc, hcc1, -, hcc3, -⟩ := (right_node C1.out HYC.out).kids zc (List.mem_of_getElem? hzc)
            obtain ⟨hz0, hz1, hcc4⟩ := getC_some hcc1
            have HCH : Hid (ChildOf (coreL L0) Y zc) := Lib.hid (.inr ⟨zc.toNat, by omega, hz1, by rw [parentK_at hcc4]; exact hcc3⟩)
            have ek : ((ny.kN : Int) == 0) = false := beq_eq_false_iff_ne.2 (by omega)
            have HKA := Lib.hid hka
            clear hzc hcc hcc1 hcc3 hcc4 hz0 hz1 hka hkp
            go_wp2
            go_meet
            exact ⟨rfl, by rw [HKA.out], zc, rfl, HCH.out⟩
        case rest =>
          obtain ⟨rfl, rfl, C, rfl, hch⟩ := hcut
          have HCH := Lib.hid hch
          have hc64 : In64 C := by
            rcases hch with rfl | ⟨k, rfl, h1, _⟩
            · exact inM1
            · rw [HLC.out] at h1
              exact ⟨by omega, by omega⟩
          have hXF : X < (coreL L0).length := by rw [HLC.out]; exact hXl
          have hYF : Y < (coreL L0).length := by rw [HLC.out]; exact hYl
          have HMY := Lib.hid (may_child C1.out hXF hYF hch)
          obtain ⟨E, hE⟩ : ∃ E, mayZ m (coreL L0) X Y C = E := ⟨_, rfl⟩
          have HE := Lib.hid hE
          have HRE : Hid (refuseE m (coreL L0) X Y true (-1) = E) := Lib.hid (HMY.out.symm.trans hE)
          have hEv : E = 0 ∨ E = 5 := by rw [← HRE.out]; exact refuse_vals
          have in_nat : ∀ k : Nat, k < len0 → In64 (k : Int) := fun k hk => ⟨by omega, by omega⟩
          have GM : Hid (∀ W, NodeRow W (some ⟨b, off, none⟩) len0 cap0 L0 → Calls Try.prog 51 #[forV (some ⟨b, off, none⟩) len0 cap0 m, .int .i64 X, .int .i64 Y, .int .i64 C] W fun e w' => e = .returned (.int .i64 E) ∧ Below W.heap.size W w') := Lib.hid (fun W h => by
            rw [← HE.out]
            exact HV.out.may _ len0 cap0 m L0 X Y C W h HM.out (in_nat X hXl) (in_nat Y hYl) hc64 SM.out)
          obtain ⟨O, hO⟩ : ∃ O, overZ m (coreL L0) X Y = O := ⟨_, rfl⟩
          have GO : Hid (∀ W, NodeRow W (some ⟨b, off, none⟩) len0 cap0 L0 → Calls Try.prog 43 #[forV (some ⟨b, off, none⟩) len0 cap0 m, .int .i64 X, .int .i64 Y] W fun e w' => e = .returned (.bool O) ∧ Below W.heap.size W w') := Lib.hid (fun W h => by
            rw [← hO]
            exact HS.out.over _ len0 cap0 m L0 X Y W h HM.out (in_nat X hXl) (in_nat Y hYl) SM.out)
          have GP : Hid (∀ W, NodeRow W (some ⟨b, off, none⟩) len0 cap0 L0 → Calls Try.prog 53 #[forV (some ⟨b, off, none⟩) len0 cap0 m, .int .i64 X] W (OrdPost W (partsZ (coreL L0) X))) := Lib.hid (fun W h => HV.out.parts _ len0 cap0 m L0 X W h HM.out (in_nat X hXl) SM.out)
          have HOO := Lib.hid hO
          clear hch hE hO in_nat cy
          rcases hEv with h5 | h5
          · subst h5
            have PC : Hid (∀ W, NodeRow W (some ⟨b, off, none⟩) len0 cap0 L0 → Calls Try.prog 52 #[forV (some ⟨b, off, none⟩) len0 cap0 m, .int .i64 X, .int .i64 Y, .int .i64 C] W fun e w' => ∃ g cap2 M, e = .returned (forV (some ⟨g, 0, none⟩) len0 cap2 m) ∧ NodeRow w' (some ⟨g, 0, none⟩) len0 cap2 M ∧ rightF m (coreL M) = true ∧ smallF M ∧ Below W.heap.size W w') := Lib.hid (fun W h => vput_any LP.out _ len0 cap0 m L0 X Y C W h HM.out hc64 SM.out HK60.out.1 hXl hYl HE.out)
            have RC : Hid (∀ W g cap2 M, NodeRow W (some ⟨g, 0, none⟩) len0 cap2 M → rightF m (coreL M) = true → smallF M → Calls Try.prog 19 #[forV (some ⟨g, 0, none⟩) len0 cap2 m] W fun e w' => e = .returned (.bool true) ∧ Below W.heap.size W w') := Lib.hid (fun W g cap2 M h1 h2 h3 => by
              have := HF.out.right _ len0 cap2 m M W h1 HM.out h3
              rwa [h2] at this)
            go_wp2_with (first
              | (go_at_call 51; (with_reducible refine (GM.out _ BX.out.row).mono ?_); rintro e w3 ⟨rfl, hb⟩; (have BX := Lib.hid (BX.out.keep hb); have z0 := BX.out.c0; have z1 := BX.out.c1; clear hb))
              | (go_at_call 52; (with_reducible refine (PC.out _ BX.out.row).mono ?_); rintro e w3 ⟨g, cap2, M, rfl, hrw, hrr, hsm, hb⟩; have RW := Lib.hid hrw; have HRG := Lib.hid hrr; have HSG := Lib.hid hsm; clear hrw hrr hsm; (have BX := Lib.hid (BX.out.keep hb); have z0 := BX.out.c0; have z1 := BX.out.c1; clear hb))
              | (go_at_call 19; (with_reducible refine (RC.out _ _ _ _ RW.out HRG.out HSG.out).mono ?_); rintro e w3 ⟨rfl, hb⟩; (have BX := Lib.hid (BX.out.keep hb); have z0 := BX.out.c0; have z1 := BX.out.c1; clear hb)))
            go_ret
            exact ⟨rfl, BX.out.below⟩
          · subst h5
            cases hOv : O with
            | true =>
              subst hOv
              go_wp2_with (first
                              | (go_at_call 51; (with_reducible refine (GM.out _ BX.out.row).mono ?_); rintro e w3 ⟨rfl, hb⟩; (have BX := Lib.hid (BX.out.keep hb); have z0 := BX.out.c0; have z1 := BX.out.c1; clear hb); have cx := CXK.out _ BX.out.below; have cyk := CYK.out _ BX.out.below; have cy := CY.out _ BX.out.below)
                              | (go_at_call 43; (with_reducible refine (GO.out _ BX.out.row).mono ?_); rintro e w3 ⟨rfl, hb⟩; (have BX := Lib.hid (BX.out.keep hb); have z0 := BX.out.c0; have z1 := BX.out.c1; clear hb); have cx := CXK.out _ BX.out.below; have cyk := CYK.out _ BX.out.below; have cy := CY.out _ BX.out.below))
              go_ret
              exact ⟨rfl, BX.out.below⟩
            | false =>
              subst hOv
              by_cases kx0 : nx.core.kind = 0
              · have f0 : (nx.core.kind == 0) = true := beq_iff_eq.2 kx0
                clear kx0
                go_wp2_with (first
                                | (go_at_call 51; (with_reducible refine (GM.out _ BX.out.row).mono ?_); rintro e w3 ⟨rfl, hb⟩; (have BX := Lib.hid (BX.out.keep hb); have z0 := BX.out.c0; have z1 := BX.out.c1; clear hb); have cx := CXK.out _ BX.out.below; have cyk := CYK.out _ BX.out.below; have cy := CY.out _ BX.out.below)
                                | (go_at_call 43; (with_reducible refine (GO.out _ BX.out.row).mono ?_); rintro e w3 ⟨rfl, hb⟩; (have BX := Lib.hid (BX.out.keep hb); have z0 := BX.out.c0; have z1 := BX.out.c1; clear hb); have cx := CXK.out _ BX.out.below; have cyk := CYK.out _ BX.out.below; have cy := CY.out _ BX.out.below))
                go_ret
                exact ⟨rfl, BX.out.below⟩
              have f0 : (nx.core.kind == 0) = false := beq_eq_false_iff_ne.2 kx0
              by_cases kx4 : nx.core.kind = 4
              · have f4 : (nx.core.kind == 4) = true := beq_iff_eq.2 kx4
                clear kx0 kx4
                go_wp2_with (first
                                | (go_at_call 51; (with_reducible refine (GM.out _ BX.out.row).mono ?_); rintro e w3 ⟨rfl, hb⟩; (have BX := Lib.hid (BX.out.keep hb); have z0 := BX.out.c0; have z1 := BX.out.c1; clear hb); have cx := CXK.out _ BX.out.below; have cyk := CYK.out _ BX.out.below; have cy := CY.out _ BX.out.below)
                                | (go_at_call 43; (with_reducible refine (GO.out _ BX.out.row).mono ?_); rintro e w3 ⟨rfl, hb⟩; (have BX := Lib.hid (BX.out.keep hb); have z0 := BX.out.c0; have z1 := BX.out.c1; clear hb); have cx := CXK.out _ BX.out.below; have cyk := CYK.out _ BX.out.below; have cy := CY.out _ BX.out.below))
                go_ret
                exact ⟨rfl, BX.out.below⟩
              have f4 : (nx.core.kind == 4) = false := beq_eq_false_iff_ne.2 kx4
              by_cases ky2 : ny.core.kind = 2
              · have f2 : (ny.core.kind == 2) = true := beq_iff_eq.2 ky2
                clear kx0 kx4 ky2
                go_wp2_with (first
                                | (go_at_call 51; (with_reducible refine (GM.out _ BX.out.row).mono ?_); rintro e w3 ⟨rfl, hb⟩; (have BX := Lib.hid (BX.out.keep hb); have z0 := BX.out.c0; have z1 := BX.out.c1; clear hb); have cx := CXK.out _ BX.out.below; have cyk := CYK.out _ BX.out.below; have cy := CY.out _ BX.out.below)
                                | (go_at_call 43; (with_reducible refine (GO.out _ BX.out.row).mono ?_); rintro e w3 ⟨rfl, hb⟩; (have BX := Lib.hid (BX.out.keep hb); have z0 := BX.out.c0; have z1 := BX.out.c1; clear hb); have cx := CXK.out _ BX.out.below; have cyk := CYK.out _ BX.out.below; have cy := CY.out _ BX.out.below))
                go_ret
                exact ⟨rfl, BX.out.below⟩
              have f2 : (ny.core.kind == 2) = false := beq_eq_false_iff_ne.2 ky2
              obtain ⟨ky0, hdt⟩ := refuse_doc HRE.out HOO.out (by rw [kindK_at HXC.out]; exact kx0) (by rw [kindK_at HXC.out]; exact kx4) (by rw [kindK_at HYC.out]; exact ky2)
              rw [kindK_at HYC.out] at ky0
              have g0' : (ny.core.kind == 0) = true := beq_iff_eq.2 ky0
              obtain ⟨lst, hlst⟩ : ∃ lst, ny.core.kids ++ partsZ (coreL L0) X = lst := ⟨_, rfl⟩
              have HLST := Lib.hid hlst
              have HD : Hid (0 < cntK (coreL L0) 2 lst ∨ 1 < cntK (coreL L0) 1 lst) := Lib.hid (by
                rw [← hlst]
                exact doc_counts C1.out HXC.out HYC.out ky0 kx0 kx4 hdt)
              have HLS : Hid (∀ z ∈ lst, ∃ q : Nat, z = q ∧ q < len0 ∧ ∃ c : Core, (coreL L0)[q]? = some c ∧ (c.kind = 1 ∨ c.kind = 2)) := Lib.hid (fun z hz => by
                rw [← hlst] at hz
                rcases List.mem_append.1 hz with hz | hz
                · obtain ⟨c1, g1, g2, _, _⟩ := (right_node C1.out HYC.out).kids z hz
                  obtain ⟨g3, g5, g4⟩ := getC_some g1
                  rw [HLC.out] at g5
                  exact ⟨z.toNat, by omega, g5, c1, g4, g2⟩
                · obtain ⟨q, c1, e1, g1, g2⟩ := parts_kinds C1.out HXC.out kx0 kx4 z hz
                  have := (List.getElem?_eq_some_iff.1 g1).1
                  rw [HLC.out] at this
                  exact ⟨q, e1, this, c1, g1, g2⟩)
              have HPN : Hid ((partsZ (coreL L0) X).length ≤ 60) := Lib.hid (by
                rw [parts_at HXC.out]
                split
                · obtain ⟨x1, hx1, e1⟩ : ∃ x ∈ L0, x.core = nx.core := by
                    have := List.mem_of_getElem? HXC.out
                    unfold coreL at this
                    obtain ⟨x, h1, h2⟩ := List.mem_map.1 this
                    exact ⟨x, h1, h2⟩
                  rw [← e1]
                  exact HK60.out.1 x1 hx1
                · simp)
              have HI64 : Hid (∀ z ∈ lst, In64 z) := Lib.hid (fun z hz => by
                obtain ⟨q, rfl, h1, _⟩ := HLS.out z hz
                exact ⟨by omega, by omega⟩)
              clear kx0 kx4 ky2 ky0 hdt hlst
              obtain ⟨i0, hi0, hq0, hq1, hq2⟩ := info_parts int_info
              go_upto_region 18 with (first
                                         | (go_at_call 51; (with_reducible refine (GM.out _ BX.out.row).mono ?_); rintro e w3 ⟨rfl, hb⟩; (have BX := Lib.hid (BX.out.keep hb); have z0 := BX.out.c0; have z1 := BX.out.c1; clear hb); have cx := CXK.out _ BX.out.below; have cyk := CYK.out _ BX.out.below; have cy := CY.out _ BX.out.below)
                                         | (go_at_call 43; (with_reducible refine (GO.out _ BX.out.row).mono ?_); rintro e w3 ⟨rfl, hb⟩; (have BX := Lib.hid (BX.out.keep hb); have z0 := BX.out.c0; have z1 := BX.out.c1; clear hb); have cx := CXK.out _ BX.out.below; have cyk := CYK.out _ BX.out.below; have cy := CY.out _ BX.out.below))
              go_cut [16] (fun c wx => True ∧ ∃ (al : Option Addr) (ll cl : Nat), c = .slice al ll cl ∧ Hid (IntRow wx al ll cl lst) ∧ Hid (Box w wx w.heap.size (some ⟨b, off, none⟩) len0 cap0 m L0 (coreL L0)))
              case first =>
                have za := fun o => (BX.out.keep (below_box w3 o)).c0
                have zb := fun o => (BX.out.keep (below_box w3 o)).c1
                have cya := fun o => CY.out _ (BX.out.keep (below_box w3 o)).below
                have KW := Lib.hid (KR.out.row.below (BX.out.below.drew.alloc (BX.out.below.size) (.cells #[] 3)))
                go_region_law (first
                  | (refine step_append_rows rfl (.tmp 105) (.tmp 111) _ rfl 3 i0 _ 1 8 Try.underlying26 hi0 hq0 hq1 hq2 rfl (by decide) w3.heap.size _ 0 [] ny.core.kids rfl (own_empty w3.drew w3.heap.size _ (Nat.le_refl _)) _ _ _ rfl KW.out (fun x _ => encZ_one x) (by unfold maxLen; omega) (by omega) (by simp) KR.out.hnil ?_; intro v6 w6 hown6 hg6 hat6; have HB6 := Lib.hid (below_new (Below.refl w3.heap.size w3).drew hg6); have HO6 : Hid (w6.ownsRow w3.heap.size 3 1 v6 ny.kN (ny.core.kids.flatMap encZ)) := Lib.hid (by rw [Nat.zero_add] at hown6; exact hown6); have BX6 := Lib.hid (BX.out.keep HB6.out); have z0 := BX6.out.c0; have z1 := BX6.out.c1; clear hown6 hg6 hat6)
                  | (refine step_append_rows rfl (.tmp 112) (.tmp 115) _ rfl 3 i0 _ 1 8 Try.underlying26 hi0 hq0 hq1 hq2 rfl (by decide) w3.heap.size _ ny.kN ny.core.kids (partsZ (coreL L0) X) rfl HO7.out _ _ _ rfl HRP.out.row (fun x _ => encZ_one x) (by unfold maxLen; omega) (by omega) HB7.out.size HRP.out.hnil ?_; intro v8 w8 hown8 hg8 hat8; have HB8 := Lib.hid (HB7.out.grown hg8 HB7.out.size (fun j hj => (HO7.out.lt j hj).1)); rw [HLST.out] at hown8; obtain ⟨a8, cap8, rfl, hr8, -⟩ := IntRow.of_own_new (M := lst) (n := ny.kN + lp) (by rw [← HLST.out, List.length_append, KR.out.hlen, HRP.out.hlen]) hown8 HI64.out; have HR8 := Lib.hid hr8; clear hown8 hg8 hat8 hr8)
                  | (refine step_wp rfl ?_; go_simp; go_at_call 53; (with_reducible refine (GP.out _ BX6.out.row).mono ?_); rintro e w7 ⟨ap, lp, cp7, rfl, hrp, hb⟩; have HRP := Lib.hid hrp; have HB7 := Lib.hid (HB6.out.trans (hb.mono HB6.out.size)); have HO7 := Lib.hid (own_below HO6.out hb); have hlp7 : lp ≤ 60 := (by have h1 := HRP.out.hlen; have h2 := HPN.out; omega); clear hb hrp))
                all_goals go_wp2
                all_goals
                  go_meet
                  exact ⟨trivial, a8, ny.kN + lp, cap8, rfl, HR8, Lib.hid (BX.out.keep HB8.out)⟩
              case rest =>
                obtain ⟨-, al, ll, cl, rfl, AL, BX⟩ := hcut
                have HLL : Hid (lst.length = ll) := Lib.hid AL.out.hlen
                have hll64 := AL.out.len64
                clear cx cyk cy z0 z1
                go_wp2
                go_loopw [17, 18, 19] (fun tx el i wr => ∃ r : Nat, r ≤ ll ∧ tx = .int .i64 (cntK (coreL L0) 2 (lst.take r) : Nat) ∧ el = .int .i64 (cntK (coreL L0) 1 (lst.take r) : Nat) ∧ i = .int .i64 r ∧ Hid (IntRow wr al ll cl lst) ∧ Hid (Box w wr w.heap.size (some ⟨b, off, none⟩) len0 cap0 m L0 (coreL L0))) (fun _ _ i _ => ll - (intOf i).toNat)
                case atStart => exact ⟨0, Nat.zero_le _, rfl, rfl, rfl, AL, BX⟩
                case round =>
                  clear AL BX
                  obtain ⟨r, hr, rfl, rfl, rfl, AL, BX⟩ := hrel
                  have z0 := BX.out.c0
                  by_cases hlt : r < ll
                  · obtain ⟨bl, ol, z9, hal, hbl, hz9, hcz, -⟩ := AL.out.get hlt
                    obtain ⟨q, rfl, hql, c9, hc9, hk9⟩ := HLS.out z9 (List.mem_of_getElem? hz9)
                    subst hal
                    obtain ⟨b3, off3, nq, hab3, hblq0, hgq, hatq, -⟩ := H00.out.get hql
                    obtain ⟨rfl, rfl⟩ : b = b3 ∧ off = off3 := by injection hab3 with h1; injection h1 with h2 h3; exact ⟨h2, h3⟩
                    obtain rfl : nq.core = c9 := Option.some.inj ((coreL_get hgq).symm.trans hc9)
                    have CQ := Lib.hid (stays hatq.c0 hblq0)
                    have hblq : b < wr.heap.size := Nat.lt_of_lt_of_le hblq0 BX.out.below.size
                    have cq := CQ.out _ BX.out.below
                    have cz := hcz
                    have CZ0 := Lib.hid hcz
                    have HN2 := Lib.hid (cntK_next (F := coreL L0) (k := 2) hz9)
                    have HN1 := Lib.hid (cntK_next (F := coreL L0) (k := 1) hz9)
                    have HKQ : Hid (kindK (coreL L0) (q : Int) = nq.core.kind) := Lib.hid (kindK_at hc9)
                    obtain ⟨n2, hn2⟩ : ∃ n2, cntK (coreL L0) 2 (lst.take r) = n2 := ⟨_, rfl⟩
                    obtain ⟨n1, hn1⟩ : ∃ n1, cntK (coreL L0) 1 (lst.take r) = n1 := ⟨_, rfl⟩
                    have hb2 : n2 ≤ r := by rw [← hn2]; exact Nat.le_trans List.countP_le_length (List.length_take_le _ _)
                    have hb1 : n1 ≤ r := by rw [← hn1]; exact Nat.le_trans List.countP_le_length (List.length_take_le _ _)
                    rw [hn2] at HN2
                    rw [hn1] at HN1
                    rw [hn2, hn1]
                    clear hz9 hcz hgq hatq hc9 hab3 hn2 hn1
                    rcases hk9 with hk9 | hk9
                    · have e1 : (nq.core.kind == 1) = true := beq_iff_eq.2 hk9
                      have e2 : (nq.core.kind == 2) = false := beq_eq_false_iff_ne.2 (by omega)
                      have HR2 : Hid (cntK (coreL L0) 2 (lst.take (r + 1)) = n2) := Lib.hid (by rw [HN2.out, HKQ.out, hk9]; rfl)
                      have HR1 : Hid (cntK (coreL L0) 1 (lst.take (r + 1)) = n1 + 1) := Lib.hid (by rw [HN1.out, HKQ.out, hk9]; rfl)
                      clear hk9
                      go_upto_region 23 with fail
                      (have E0 := Ext.cell z0 BX.out.lt; have EC := Ext.cell cz hbl; have EQ := Ext.cell cq hblq; refine wp_region_ext (by kernel_rfl) (by kernel_rfl) ?_; (repeat (go_big_quiet_step (fail))); refine wpQuiet_nil ?_; intro w' hw'; obtain ⟨⟨w2, hb2⟩, hw''⟩ := hw'; dsimp only at hw''; subst hw''; clear E0 EC EQ z0 cz cq; have BX := Lib.hid (BX.out.keep hb2); have AL := Lib.hid (AL.out.below hb2); have z0 := BX.out.c0; have cz := (hb2.cell (p := ⟨bl, ol + r, none⟩) hbl).trans CZ0.out; have CZ0 := Lib.hid cz; have hbl := Nat.lt_of_lt_of_le hbl hb2.size; have hblq := Nat.lt_of_lt_of_le hblq hb2.size; have cq := CQ.out _ BX.out.below; clear hb2)
                      go_upto_region 25 with fail
                      (have E0 := Ext.cell z0 BX.out.lt; have EC := Ext.cell cz hbl; have EQ := Ext.cell cq hblq; refine wp_region_ext (by kernel_rfl) (by kernel_rfl) ?_; (repeat (go_big_quiet_step (fail))); refine wpQuiet_nil ?_; intro w' hw'; obtain ⟨⟨w2, hb2⟩, hw''⟩ := hw'; dsimp only at hw''; subst hw''; clear E0 EC EQ z0 cz cq; have BX := Lib.hid (BX.out.keep hb2); have AL := Lib.hid (AL.out.below hb2); have z0 := BX.out.c0; have cz := (hb2.cell (p := ⟨bl, ol + r, none⟩) hbl).trans CZ0.out; have CZ0 := Lib.hid cz; have hbl := Nat.lt_of_lt_of_le hbl hb2.size; have hblq := Nat.lt_of_lt_of_le hblq hb2.size; have cq := CQ.out _ BX.out.below; clear hb2)
                      go_wp2
                      go_roundw
                      case rel => exact ⟨r + 1, by omega, by rw [HR2.out], by rw [HR1.out]; go_num, by go_num, AL, BX⟩
                      case measure => simp [intOf]; omega
                    · have e1 : (nq.core.kind == 1) = false := beq_eq_false_iff_ne.2 (by omega)
                      have e2 : (nq.core.kind == 2) = true := beq_iff_eq.2 hk9
                      have HR2 : Hid (cntK (coreL L0) 2 (lst.take (r + 1)) = n2 + 1) := Lib.hid (by rw [HN2.out, HKQ.out, hk9]; rfl)
                      have HR1 : Hid (cntK (coreL L0) 1 (lst.take (r + 1)) = n1) := Lib.hid (by rw [HN1.out, HKQ.out, hk9]; rfl)
                      clear hk9
                      go_upto_region 23 with fail
                      (have E0 := Ext.cell z0 BX.out.lt; have EC := Ext.cell cz hbl; have EQ := Ext.cell cq hblq; refine wp_region_ext (by kernel_rfl) (by kernel_rfl) ?_; (repeat (go_big_quiet_step (fail))); refine wpQuiet_nil ?_; intro w' hw'; obtain ⟨⟨w2, hb2⟩, hw''⟩ := hw'; dsimp only at hw''; subst hw''; clear E0 EC EQ z0 cz cq; have BX := Lib.hid (BX.out.keep hb2); have AL := Lib.hid (AL.out.below hb2); have z0 := BX.out.c0; have cz := (hb2.cell (p := ⟨bl, ol + r, none⟩) hbl).trans CZ0.out; have CZ0 := Lib.hid cz; have hbl := Nat.lt_of_lt_of_le hbl hb2.size; have hblq := Nat.lt_of_lt_of_le hblq hb2.size; have cq := CQ.out _ BX.out.below; clear hb2)
                      go_upto_region 25 with fail
                      (have E0 := Ext.cell z0 BX.out.lt; have EC := Ext.cell cz hbl; have EQ := Ext.cell cq hblq; refine wp_region_ext (by kernel_rfl) (by kernel_rfl) ?_; (repeat (go_big_quiet_step (fail))); refine wpQuiet_nil ?_; intro w' hw'; obtain ⟨⟨w2, hb2⟩, hw''⟩ := hw'; dsimp only at hw''; subst hw''; clear E0 EC EQ z0 cz cq; have BX := Lib.hid (BX.out.keep hb2); have AL := Lib.hid (AL.out.below hb2); have z0 := BX.out.c0; have cz := (hb2.cell (p := ⟨bl, ol + r, none⟩) hbl).trans CZ0.out; have CZ0 := Lib.hid cz; have hbl := Nat.lt_of_lt_of_le hbl hb2.size; have hblq := Nat.lt_of_lt_of_le hblq hb2.size; have cq := CQ.out _ BX.out.below; clear hb2)
                      go_wp2
                      go_roundw
                      case rel => exact ⟨r + 1, by omega, by rw [HR2.out]; go_num, by rw [HR1.out], by go_num, AL, BX⟩
                      case measure => simp [intOf]; omega
                  · have hrl : r = ll := by omega
                    subst hrl
                    have HTA : Hid (lst.take r = lst) := Lib.hid (List.take_of_length_le (by rw [HLL.out]; exact Nat.le_refl _))
                    rw [HTA.out]
                    obtain ⟨n2, hn2⟩ : ∃ n2, cntK (coreL L0) 2 lst = n2 := ⟨_, rfl⟩
                    obtain ⟨n1, hn1⟩ : ∃ n1, cntK (coreL L0) 1 lst = n1 := ⟨_, rfl⟩
                    have hd := HD.out
                    rw [hn2, hn1] at hd ⊢
                    have cyk := CYK.out _ BX.out.below
                    clear hn2 hn1 hlt
                    by_cases k2 : 0 < (n2 : Int)
                    · clear hd
                      go_wp2
                      go_ret
                      exact ⟨rfl, BX.out.below⟩
                    · have k1 : 1 < (n1 : Int) := by omega
                      clear hd
                      go_wp2
                      go_ret
                      exact ⟨rfl, BX.out.below⟩
end Go.Proofs.Ytllfkiifkkcinaa
