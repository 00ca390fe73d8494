/- Texts joined in build order: Ref3Node. -/
import Derived.Test.YtnjoimedilonnaaGreatC27
import Derived.Test.YtnjoimedilonnaaGreatC16
import Derived.Test.YtnjoimedilonnaaGreatC12
import Derived.Test.YtnjoimedilonnaaGreatC29
import Derived.Deep.DeepCutAuto
namespace Go.Proofs.YtnjoimedilonnaaGreat
open Go.RowKit
theorem refcustom_long (s : ByteArray) (w : World) (hs : s.size ≤ maxLen) :
    Calls Tryz.prog 33 #[.string s] w fun e w' => e = .returned (.bool (customL s.toList)) ∧ Below w.heap.size w w' := by
  by_cases h : s.size ≤ 1000000
  · exact refcustom_any s w h
  · have hr : rightL s.toList = false := rightL_ends _ (.inr (by rw [tl_len]; omega))
    have HC := Lib.hid (customL_no _ hr)
    have HQ : Hid (∀ W, Calls Tryz.prog 31 #[.string s] W fun e w' => e = .returned (.bool false) ∧ W = w') := Lib.hid (fun W => by
      have := refright_any s W hs
      rwa [hr] at this)
    clear h hr hs
    go_enter Tryz.func33, Tryz.ntmps33
    go_wp2_with (go_at_call 31; refine (HQ.out _).mono ?_; rintro e w' ⟨rfl, rfl⟩)
    go_ret
    exact ⟨ret_bool HC.out.symm, Below.refl _ _⟩
theorem countK_step {F : List Core} {l : List Int} {k : Nat} {z : Int} (h : l[k]? = some z) : (l.take (k + 1)).countP (fun y => kindK F y == 1) = (l.take k).countP (fun y => kindK F y == 1) + (if kindK F z == 1 then 1 else 0) := by
  obtain ⟨hl, hg⟩ := List.getElem?_eq_some_iff.1 h
  rw [List.take_succ_eq_append_getElem hl, hg, List.countP_append]
  simp [List.countP_cons]
theorem all_take_not {α : Type} {l : List α} {f : α → Bool} {k : Nat} {z : α} (h : l[k]? = some z) (hz : f z = false) : l.all f = false := by
  rw [List.all_eq_false]
  exact ⟨z, List.mem_of_getElem? h, by simp [hz]⟩
theorem has_ext {W : World} {a : Option Addr} {ln cp : Nat} {l : List Int} {z r : Int} (h : IntRow W a ln cp l) (hr : ((hasZ l z : Nat) : Int) = r) : ∀ x : Ext W, Calls Tryz.prog 30 #[.slice a ln cp, .int .i64 z] x.v fun e w' => e = .returned (.int .i64 r) ∧ x.v = w' := fun x => by
  rw [← hr]
  exact refhas_any a ln cp l z x.v (h.below x.below)
theorem attr_ext {W : World} {a : Option Addr} {ln cp : Nat} {l : AL} {r : Bool} (h : AttrRow W a ln cp l) (hr : rightA l = r) : ∀ x : Ext W, Calls Tryz.prog 34 #[.slice a ln cp] x.v fun e w' => e = .returned (.bool r) ∧ Below x.v.heap.size x.v w' := fun x => by
  rw [← hr]
  exact refrightA_any a ln cp l x.v (h.below x.below)
set_option maxHeartbeats 32000000 in
set_option maxRecDepth 100000 in
theorem refnode_any (a : Option Addr) (len cap : Nat) (m : Int) (L : List NodeD) (n : Nat) (x : NodeD) (w : World) (h : NodeRow w a len cap L) (hx : L[n]? = some x) :
    Calls Tryz.prog 17 #[forV a len cap m, .int .i64 n] w fun e w' => e = .returned (.bool (nodeOk (coreL L) n x.core)) ∧ Below w.heap.size w w' := by
  have hn : n < len := by rw [← h.hlen]; exact (List.getElem?_eq_some_iff.1 hx).1
  have HCL : Hid ((coreL L).length = len) := Lib.hid (by rw [coreL_len, h.hlen])
  have hlen := h.len64
  have hok := h.ok x (List.mem_of_getElem? hx)
  have BX0 := Lib.hid (Box.start (m := m) h)
  obtain ⟨W, hW, BX, NB⟩ : ∃ W, (w.alloc (forB a len cap m)).alloc (nodB x) = W ∧ Box w W w.heap.size a len cap m L (coreL L) ∧ NBox w W (w.heap.size + 1) x := ⟨_, rfl, BX0.out.keep (below_box _ _), NBox.next hok⟩
  have BX := Lib.hid BX
  have NB := Lib.hid NB
  have HW := Lib.hid hW
  have z0a := BX0.out.c0
  have z1a := BX0.out.c1
  obtain ⟨b, off, x', rfl, hb, hx', hat, -⟩ := BX0.out.row.get hn
  obtain rfl : x = x' := Option.some.inj (hx.symm.trans hx')
  obtain ⟨y0, y1, y2, y3, y4, y5, y6, y7, y8, y9⟩ := hat
  have GET : Hid (∀ (W2 : World) (z : Int) (c : Core), NodeRow W2 (some ⟨b, off, none⟩) len cap L → getC (coreL L) z = some c → ∃ (d : Nat) (nd : NodeD), z = d ∧ d < len ∧ nd.core = c ∧ NodeAt W2 b (off + d * 10) nd ∧ NodeOk W2 nd ∧ b < W2.heap.size) := Lib.hid (fun W2 z c hr hc => by
    obtain ⟨h1, h2, h3⟩ := getC_some hc
    rw [HCL.out] at h2
    obtain ⟨b', off', nd, hab, hlt, hnd, hat, hok⟩ := hr.get h2
    injection hab with hab
    injection hab with e1 e2
    subst e1 e2
    exact ⟨z.toNat, nd, by omega, h2, Option.some.inj ((coreL_get hnd).symm.trans h3), hat, hok, hlt⟩)
  have NOT : Hid (∀ z : Int, (z < 0 ∨ (len : Int) ≤ z) → getC (coreL L) z = none) := Lib.hid (fun z hz => getC_not (by
    rcases hz with hz | hz
    · exact .inl hz
    · exact .inr (by rw [HCL.out]; exact hz)))
  have YES : Hid (∀ z : Int, 0 ≤ z → z < (len : Int) → ∃ c, getC (coreL L) z = some c) := Lib.hid (fun z h0 h1 => by
    obtain ⟨j, rfl⟩ : ∃ j : Nat, z = j := ⟨z.toNat, by omega⟩
    exact ⟨_, by rw [getC_nat]; exact List.getElem?_eq_getElem (by rw [HCL.out]; omega)⟩)
  obtain ⟨⟨kind, name, is, data, attrs, parent, kids, host, under, doc⟩, aA, aN, aC, kA, kN, kC⟩ := x
  have HNO : Hid (nodeOk (coreL L) n ⟨kind, name, is, data, attrs, parent, kids, host, under, doc⟩ = (docOk (coreL L) n ⟨kind, name, is, data, attrs, parent, kids, host, under, doc⟩ && parOk (coreL L) n ⟨kind, name, is, data, attrs, parent, kids, host, under, doc⟩ && kids.all (kidOk (coreL L) n ⟨kind, name, is, data, attrs, parent, kids, host, under, doc⟩) && shapeOk (coreL L) ⟨kind, name, is, data, attrs, parent, kids, host, under, doc⟩ && hostOk (coreL L) n ⟨kind, name, is, data, attrs, parent, kids, host, under, doc⟩ && underOk (coreL L) n ⟨kind, name, is, data, attrs, parent, kids, host, under, doc⟩ && textOk ⟨kind, name, is, data, attrs, parent, kids, host, under, doc⟩)) := Lib.hid rfl
  dsimp only at y0 y1 y2 y3 y4 y5 y6 y7 y8 y9
  have HDX : Hid (∀ W2, NBox w W2 (w.heap.size + 1) ⟨⟨kind, name, is, data, attrs, parent, kids, host, under, doc⟩, aA, aN, aC, kA, kN, kC⟩ → data.size ≤ maxLen ∧ name.size ≤ maxLen ∧ is.size ≤ maxLen) := Lib.hid (fun W2 h => ⟨h.ok.data, h.ok.name, h.ok.is⟩)
  clear h hx hx' hW hok hb
  go_enter Tryz.func17, Tryz.ntmps17
  go_upto_region 3 with fail
  have HW2 := HW.out
  dsimp only [nodB] at HW2
  rw [HW2]
  clear HW2 HW y0 y1 y2 y3 y4 y5 y6 y7 y8 y9 z0a z1a BX0
  obtain ⟨E, hE⟩ : ∃ E, (!docOk (coreL L) n ⟨kind, name, is, data, attrs, parent, kids, host, under, doc⟩) = E := ⟨_, rfl⟩
  refine wp_region_in 7 11 47 (fun s => ∃ v7 v8 v9 v10 v11 v12 v13 v14 v15 v16 v17 v18 v19 v20 v21 v22 v23 v24 v25 v26 v27 v28 v29 v30 v31 v32 v33 v34 v35 v36 v37 v38 v39 v40 v41 v42 v43 v44 v45 : Value, s = ⟨#[forV (some ⟨b, off, none⟩) len cap m, .int .i64 n, .pointer (some ⟨w.heap.size, 0, none⟩), undef, .bool false, .pointer (some ⟨w.heap.size + 1, 0, none⟩), .int .i64 len, v7, v8, v9, v10, v11, v12, v13, v14, v15, v16, v17, v18, v19, v20, v21, v22, v23, v24, v25, v26, v27, v28, v29, v30, v31, v32, v33, v34, v35, v36, v37, v38, v39, v40, v41, v42, v43, v44, v45, .bool E], []⟩) (.inl rfl) (by kernel_rfl) (by decide) (Nat.le_of_ble_eq_true (by kernel_rfl)) ?_ ?_
  · as_aux_lemma =>
    (simp only [smallOf, List.map_cons, List.map_nil, sh, shO, shX, shT, Option.map_some, List.take_succ_cons, List.take_zero, List.drop_succ_cons, List.drop_zero, List.cons_append, List.nil_append, Nat.reduceAdd, Nat.reduceSub, Nat.reduceLT, reduceIte])
    have z0 := BX.out.c0
    have E0 := Ext.cell z0 BX.out.lt
    have hbx := NB.out.lt
    have x0 := NB.out.c0
    dsimp only at x0
    have EX0 := Ext.cell x0 hbx
    have x9 := NB.out.c9
    dsimp only at x9
    have EX9 := Ext.cell x9 hbx
    clear z0 x0 x9
    by_cases k1 : kind < 0
    · have f1 : decide (kind < 0) = true := decide_eq_true k1
      obtain rfl : E = true := by rw [← hE]; unfold docOk; simp; omega
      clear hE k1
      repeat (go_big_quiet_step (fail))
      exact wpQuiet_nil ⟨_, _, _, _, _, _, _, _, _, _, _, _, _, _, _, _, _, _, _, _, _, _, _, _, _, _, _, _, _, _, _, _, _, _, _, _, _, _, _, rfl⟩
    have f1 : decide (kind < 0) = false := decide_eq_false k1
    by_cases k2 : 4 < kind
    · have f2 : decide (4 < kind) = true := decide_eq_true k2
      obtain rfl : E = true := by rw [← hE]; unfold docOk; simp; omega
      clear hE k1 k2
      repeat (go_big_quiet_step (fail))
      exact wpQuiet_nil ⟨_, _, _, _, _, _, _, _, _, _, _, _, _, _, _, _, _, _, _, _, _, _, _, _, _, _, _, _, _, _, _, _, _, _, _, _, _, _, _, rfl⟩
    have f2 : decide (4 < kind) = false := decide_eq_false k2
    by_cases k3 : doc < 0
    · have f3 : decide (doc < 0) = true := decide_eq_true k3
      obtain rfl : E = true := by rw [← hE]; unfold docOk; rw [NOT.out doc (.inl k3)]; simp
      clear hE k1 k2 k3
      repeat (go_big_quiet_step (fail))
      exact wpQuiet_nil ⟨_, _, _, _, _, _, _, _, _, _, _, _, _, _, _, _, _, _, _, _, _, _, _, _, _, _, _, _, _, _, _, _, _, _, _, _, _, _, _, rfl⟩
    by_cases k4 : (len : Int) ≤ doc
    · have f3 : decide (doc < 0) = false := decide_eq_false k3
      have f4 : decide ((len : Int) ≤ doc) = true := decide_eq_true k4
      obtain rfl : E = true := by rw [← hE]; unfold docOk; rw [NOT.out doc (.inr k4)]; simp
      clear hE k1 k2 k3 k4
      repeat (go_big_quiet_step (fail))
      exact wpQuiet_nil ⟨_, _, _, _, _, _, _, _, _, _, _, _, _, _, _, _, _, _, _, _, _, _, _, _, _, _, _, _, _, _, _, _, _, _, _, _, _, _, _, rfl⟩
    obtain ⟨c, hc⟩ := YES.out doc (by omega) (by omega)
    obtain ⟨d, nd, rfl, hd, hnd, hat, -, hbw⟩ := GET.out W doc c BX.out.row hc
    have q0 := hat.c0
    rw [hnd] at q0
    have EQ0 := Ext.cell q0 hbw
    have f3 : decide ((d : Int) < 0) = false := decide_eq_false k3
    have f4 : decide ((len : Int) ≤ (d : Int)) = false := decide_eq_false k4
    have f5 : decide (len ≤ d) = false := decide_eq_false (by omega)
    clear hat q0
    by_cases k5 : c.kind = 0
    · have e1 : (c.kind != 0) = false := by rw [k5]; rfl
      by_cases k6 : kind = 0
      · have e2 : (kind == 0) = true := beq_iff_eq.2 k6
        by_cases k7 : (d : Int) = n
        · have e3 : ((d : Int) != (n : Int)) = false := by rw [k7]; simp
          obtain rfl : E = false := by rw [← hE]; unfold docOk; rw [hc]; simp [k5, k7]; omega
          clear hE hc k1 k2 k3 k4 k5 k6 k7
          repeat (go_big_quiet_step (fail))
          exact wpQuiet_nil ⟨_, _, _, _, _, _, _, _, _, _, _, _, _, _, _, _, _, _, _, _, _, _, _, _, _, _, _, _, _, _, _, _, _, _, _, _, _, _, _, rfl⟩
        · have e3 : ((d : Int) != (n : Int)) = true := bne_iff_ne.2 k7
          obtain rfl : E = true := by rw [← hE]; unfold docOk; rw [hc]; simp [k5, k6, k7]
          clear hE hc k1 k2 k3 k4 k5 k6 k7
          repeat (go_big_quiet_step (fail))
          exact wpQuiet_nil ⟨_, _, _, _, _, _, _, _, _, _, _, _, _, _, _, _, _, _, _, _, _, _, _, _, _, _, _, _, _, _, _, _, _, _, _, _, _, _, _, rfl⟩
      · have e2 : (kind == 0) = false := beq_eq_false_iff_ne.2 k6
        obtain rfl : E = false := by rw [← hE]; unfold docOk; rw [hc]; simp [k5, k6]; omega
        clear hE hc k1 k2 k3 k4 k5 k6
        repeat (go_big_quiet_step (fail))
        exact wpQuiet_nil ⟨_, _, _, _, _, _, _, _, _, _, _, _, _, _, _, _, _, _, _, _, _, _, _, _, _, _, _, _, _, _, _, _, _, _, _, _, _, _, _, rfl⟩
    · have e1 : (c.kind != 0) = true := bne_iff_ne.2 k5
      obtain rfl : E = true := by rw [← hE]; unfold docOk; rw [hc]; simp [k5]
      clear hE hc k1 k2 k3 k4 k5
      repeat (go_big_quiet_step (fail))
      exact wpQuiet_nil ⟨_, _, _, _, _, _, _, _, _, _, _, _, _, _, _, _, _, _, _, _, _, _, _, _, _, _, _, _, _, _, _, _, _, _, _, _, _, _, _, rfl⟩
  · rintro s' - ⟨v7, v8, v9, v10, v11, v12, v13, v14, v15, v16, v17, v18, v19, v20, v21, v22, v23, v24, v25, v26, v27, v28, v29, v30, v31, v32, v33, v34, v35, v36, v37, v38, v39, v40, v41, v42, v43, v44, v45, rfl⟩ w' ⟨⟨w2, hb2⟩, hw2⟩
    (subst hw2; simp only [joined, List.take_succ_cons, List.take_zero, List.drop_succ_cons, List.drop_zero, List.cons_append, List.nil_append, Nat.reduceAdd])
    have BX := Lib.hid (BX.out.keep hb2)
    have NB := Lib.hid (NB.out.keep hb2)
    cases E with
    | true => as_aux_lemma =>
      go_wp2
      go_ret
      exact ⟨ret_bool (by rw [HNO.out, show docOk (coreL L) n ⟨kind, name, is, data, attrs, parent, kids, host, under, doc⟩ = false by simpa using hE]; rfl), BX.out.below⟩
    | false => as_aux_lemma =>
      have HD : Hid (docOk (coreL L) n ⟨kind, name, is, data, attrs, parent, kids, host, under, doc⟩ = true) := Lib.hid (by simpa using hE)
      clear hE hb2
      obtain ⟨PA, hPA⟩ : ∃ PA, parOk (coreL L) n ⟨kind, name, is, data, attrs, parent, kids, host, under, doc⟩ = PA := ⟨_, rfl⟩
      have x5 := NB.out.c5
      dsimp only at x5
      go_upto_if 60 with fail
      go_cut [] (fun wx => PA = true ∧ Hid (Box w wx w.heap.size (some ⟨b, off, none⟩) len cap m L (coreL L)) ∧ Hid (NBox w wx (w.heap.size + 1) ⟨⟨kind, name, is, data, attrs, parent, kids, host, under, doc⟩, aA, aN, aC, kA, kN, kC⟩))
      case first => as_aux_lemma =>
        by_cases k1 : parent = -1
        · have e1 : (parent != -1) = false := by rw [k1]; rfl
          obtain rfl : PA = true := by rw [← hPA]; unfold parOk; rw [k1]; rfl
          clear hPA k1
          go_wp2
          go_meet
          exact ⟨rfl, BX, NB⟩
        have e1 : (parent != -1) = true := bne_iff_ne.2 k1
        have HPE : Hid (PA = ((kind == 1 || kind == 2) && match getC (coreL L) parent with | some p => p.kind != 2 && hasZ p.kids n == 1 | none => false)) := Lib.hid (by
          rw [← hPA]
          unfold parOk
          dsimp only
          rw [beq_eq_false_iff_ne.2 k1, Bool.false_or]
          rfl)
        have HPA := Lib.hid hPA
        clear k1 hPA
        go_upto_region 6 with fail
        obtain ⟨E, hE⟩ : ∃ E, (!PA) = E := ⟨_, rfl⟩
        have HEP : Hid (PA = !E) := Lib.hid (by rw [← hE, Bool.not_not])
        rw [HPE.out] at hE
        refine wp_region_in 7 54 48 (fun s => ∃ v7 v8 v9 v10 v11 v12 v13 v14 v15 v16 v17 v18 v19 v20 v21 v22 v23 v24 v25 v26 v27 v28 v29 v30 v31 v32 v33 v34 v35 v36 v37 v38 v39 v40 v41 v42 v43 v44 v45 v46 : Value, s = ⟨#[forV (some ⟨b, off, none⟩) len cap m, .int .i64 n, .pointer (some ⟨w.heap.size, 0, none⟩), undef, .bool false, .pointer (some ⟨w.heap.size + 1, 0, none⟩), .int .i64 len, v7, v8, v9, v10, v11, v12, v13, v14, v15, v16, v17, v18, v19, v20, v21, v22, v23, v24, v25, v26, v27, v28, v29, v30, v31, v32, v33, v34, v35, v36, v37, v38, v39, v40, v41, v42, v43, v44, v45, v46, .bool E], []⟩) (.inl rfl) (by kernel_rfl) (by decide) (Nat.le_of_ble_eq_true (by kernel_rfl)) ?_ ?_
        · as_aux_lemma =>
          (simp only [smallOf, List.map_cons, List.map_nil, List.map_toArray, sh, shO, shX, shE, shT, Option.map_some, List.take_succ_cons, List.take_zero, List.drop_succ_cons, List.drop_zero, List.cons_append, List.nil_append, Nat.reduceAdd, Nat.reduceSub, Nat.reduceLT, reduceIte])
          have z0 := BX.out.c0
          have E0 := Ext.cell z0 BX.out.lt
          have hbx := NB.out.lt
          have x0 := NB.out.c0
          dsimp only at x0
          have EX0 := Ext.cell x0 hbx
          have x5 := NB.out.c5
          dsimp only at x5
          have EX5 := Ext.cell x5 hbx
          clear z0 x0 x5 e1
          by_cases kk : kind = 1 ∨ kind = 2
          rotate_left
          · have g1 : (kind != 1) = true := bne_iff_ne.2 (fun e => kk (.inl e))
            have g2 : (kind != 2) = true := bne_iff_ne.2 (fun e => kk (.inr e))
            obtain rfl : E = true := by rw [← hE, beq_eq_false_iff_ne.2 (fun e => kk (.inl e)), beq_eq_false_iff_ne.2 (fun e => kk (.inr e))]; rfl
            clear hE kk
            repeat (go_big_quiet_step ((go_at_call 30; exact Ext.call_same (EH.out _))))
            exact wpQuiet_nil ⟨_, _, _, _, _, _, _, _, _, _, _, _, _, _, _, _, _, _, _, _, _, _, _, _, _, _, _, _, _, _, _, _, _, _, _, _, _, _, _, _, rfl⟩
          have hkk : (kind == 1 || kind == 2) = true := by rcases kk with e | e <;> rw [e] <;> rfl
          rw [hkk, Bool.true_and] at hE
          have gk : ((kind != 1) = false) ∨ ((kind != 1) = true ∧ (kind != 2) = false) := by
            rcases kk with e | e
            · exact .inl (by rw [e]; rfl)
            · exact .inr ⟨by rw [e]; rfl, by rw [e]; rfl⟩
          clear kk hkk
          rcases gk with g1 | ⟨g1, g2⟩
          all_goals
            by_cases k3 : parent < 0
            · have f3 : decide (parent < 0) = true := decide_eq_true k3
              obtain rfl : E = true := by rw [← hE]; rw [NOT.out parent (.inl k3)]; rfl
              clear hE k3
              repeat (go_big_quiet_step ((go_at_call 30; exact Ext.call_same (EH.out _))))
              exact wpQuiet_nil ⟨_, _, _, _, _, _, _, _, _, _, _, _, _, _, _, _, _, _, _, _, _, _, _, _, _, _, _, _, _, _, _, _, _, _, _, _, _, _, _, _, rfl⟩
            by_cases k4 : (len : Int) ≤ parent
            · have f3 : decide (parent < 0) = false := decide_eq_false k3
              have f4 : decide ((len : Int) ≤ parent) = true := decide_eq_true k4
              obtain rfl : E = true := by rw [← hE]; rw [NOT.out parent (.inr k4)]; rfl
              clear hE k3 k4
              repeat (go_big_quiet_step ((go_at_call 30; exact Ext.call_same (EH.out _))))
              exact wpQuiet_nil ⟨_, _, _, _, _, _, _, _, _, _, _, _, _, _, _, _, _, _, _, _, _, _, _, _, _, _, _, _, _, _, _, _, _, _, _, _, _, _, _, _, rfl⟩
            obtain ⟨c, hc⟩ := YES.out parent (by omega) (by omega)
            obtain ⟨d, nd, rfl, hd, hnd, hat, hokd, hbw⟩ := GET.out _ parent c BX.out.row hc
            have f3 : decide ((d : Int) < 0) = false := decide_eq_false k3
            have f4 : decide ((len : Int) ≤ (d : Int)) = false := decide_eq_false k4
            have f5 : decide (len ≤ d) = false := decide_eq_false (by omega)
            have q0 := hat.c0
            rw [hnd] at q0
            have EQ0 := Ext.cell q0 hbw
            have q6 := hat.c6
            have EQ6 := Ext.cell q6 hbw
            rw [hc] at hE
            dsimp only at hE
            clear hat q0 q6 k3 k4
            have hkc : nd.core.kids = c.kids := by rw [hnd]
            by_cases k5 : c.kind = 2
            · have e5 : (c.kind == 2) = true := beq_iff_eq.2 k5
              obtain rfl : E = true := by rw [← hE, k5]; rfl
              clear hE k5 hc
              repeat (go_big_quiet_step ((go_at_call 30; exact Ext.call_same (EH.out _))))
              exact wpQuiet_nil ⟨_, _, _, _, _, _, _, _, _, _, _, _, _, _, _, _, _, _, _, _, _, _, _, _, _, _, _, _, _, _, _, _, _, _, _, _, _, _, _, _, rfl⟩
            have e5 : (c.kind == 2) = false := beq_eq_false_iff_ne.2 k5
            by_cases k6 : hasZ c.kids n = 1
            · have EH := Lib.hid (has_ext (z := (n : Int)) (r := 1) hokd.kids (by rw [hkc, k6]; rfl))
              obtain rfl : E = false := by rw [← hE, k6]; simp [k5]
              clear hE k5 k6 hc
              repeat (go_big_quiet_step ((go_at_call 30; exact Ext.call_same (EH.out _))))
              exact wpQuiet_nil ⟨_, _, _, _, _, _, _, _, _, _, _, _, _, _, _, _, _, _, _, _, _, _, _, _, _, _, _, _, _, _, _, _, _, _, _, _, _, _, _, _, rfl⟩
            · obtain ⟨r, hr⟩ : ∃ r : Int, ((hasZ c.kids n : Nat) : Int) = r := ⟨_, rfl⟩
              have EH := Lib.hid (has_ext (z := (n : Int)) (r := r) hokd.kids (by rw [hkc, hr]))
              have e6 : (r != 1) = true := bne_iff_ne.2 (by omega)
              obtain rfl : E = true := by rw [← hE]; simp [k6]
              clear hE k5 k6 hc hr
              repeat (go_big_quiet_step ((go_at_call 30; exact Ext.call_same (EH.out _))))
              exact wpQuiet_nil ⟨_, _, _, _, _, _, _, _, _, _, _, _, _, _, _, _, _, _, _, _, _, _, _, _, _, _, _, _, _, _, _, _, _, _, _, _, _, _, _, _, rfl⟩
        · rintro s' - ⟨v7, v8, v9, v10, v11, v12, v13, v14, v15, v16, v17, v18, v19, v20, v21, v22, v23, v24, v25, v26, v27, v28, v29, v30, v31, v32, v33, v34, v35, v36, v37, v38, v39, v40, v41, v42, v43, v44, v45, v46, rfl⟩ w' ⟨⟨w2, hb2⟩, hw2⟩
          (subst hw2; simp only [joined, List.take_succ_cons, List.take_zero, List.drop_succ_cons, List.drop_zero, List.cons_append, List.nil_append, Nat.reduceAdd])
          have BX := Lib.hid (BX.out.keep hb2)
          have NB := Lib.hid (NB.out.keep hb2)
          clear hb2
          cases E with
          | true => as_aux_lemma =>
            go_wp2
            go_ret
            exact ⟨ret_bool (by rw [HNO.out, HPA.out, HEP.out]; simp), BX.out.below⟩
          | false => as_aux_lemma =>
            go_wp2
            go_meet
            exact ⟨HEP.out, BX, NB⟩
      case rest => as_aux_lemma =>
        obtain ⟨hpa, BX, NB⟩ := hcut
        have HP : Hid (parOk (coreL L) n ⟨kind, name, is, data, attrs, parent, kids, host, under, doc⟩ = true) := Lib.hid (by rw [hPA, hpa])
        clear hpa hPA x5
        go_wp2
        go_loopw [7, 8] (fun e i wr => ∃ k cn : Nat, k ≤ kN ∧ cn ≤ k ∧ i = .int .i64 k ∧ e = .int .i64 cn ∧ Hid (cn = List.countP (fun y => kindK (coreL L) y == 1) (kids.take k)) ∧ Hid (∀ z ∈ kids.take k, kidOk (coreL L) n ⟨kind, name, is, data, attrs, parent, kids, host, under, doc⟩ z = true) ∧ Hid (Box w wr w.heap.size (some ⟨b, off, none⟩) len cap m L (coreL L)) ∧ Hid (NBox w wr (w.heap.size + 1) ⟨⟨kind, name, is, data, attrs, parent, kids, host, under, doc⟩, aA, aN, aC, kA, kN, kC⟩)) (fun _ i _ => kN - (intOf i).toNat)
        case atStart => exact ⟨0, 0, Nat.zero_le _, Nat.zero_le _, rfl, rfl, Lib.hid (by simp), Lib.hid (by simp), BX, NB⟩
        case round => as_aux_lemma =>
          clear BX NB
          obtain ⟨k, cn, hk, hcn, rfl, rfl, HCN, HAL, BX, NB⟩ := hrel
          have hkids : IntRow _ kA kN kC kids := NB.out.ok.kids
          have hkl := hkids.len64
          have hkn := Lib.hid hkids.hlen
          have x6 := NB.out.c6
          dsimp only at x6
          by_cases hlt : k < kN
          · as_aux_lemma =>
            obtain ⟨kb, ko, z, hka, hkb, hz, hk1, -⟩ := hkids.get hlt
            subst hka
            have HZ := Lib.hid hz
            clear hz
            obtain ⟨E, hE⟩ : ∃ E, (!kidOk (coreL L) n ⟨kind, name, is, data, attrs, parent, kids, host, under, doc⟩ z) = E := ⟨_, rfl⟩
            have HEK : Hid (kidOk (coreL L) n ⟨kind, name, is, data, attrs, parent, kids, host, under, doc⟩ z = !E) := Lib.hid (by rw [← hE, Bool.not_not])
            unfold kidOk at hE
            dsimp only at hE
            go_upto_region 13 with fail
            refine wp_region_in 10 104 63 (fun s => ∃ v10 v11 v12 v13 v14 v15 v16 v17 v18 v19 v20 v21 v22 v23 v24 v25 v26 v27 v28 v29 v30 v31 v32 v33 v34 v35 v36 v37 v38 v39 v40 v41 v42 v43 v44 v45 v46 v47 v48 v49 v50 v51 v52 v53 v54 v55 v56 v57 v58 v59 v60 v61 : Value, s = ⟨#[forV (some ⟨b, off, none⟩) len cap m, .int .i64 n, .pointer (some ⟨w.heap.size, 0, none⟩), undef, u4, .pointer (some ⟨w.heap.size + 1, 0, none⟩), .int .i64 len, .int .i64 cn, .int .i64 k, .int .i64 z, v10, v11, v12, v13, v14, v15, v16, v17, v18, v19, v20, v21, v22, v23, v24, v25, v26, v27, v28, v29, v30, v31, v32, v33, v34, v35, v36, v37, v38, v39, v40, v41, v42, v43, v44, v45, v46, v47, v48, v49, v50, v51, v52, v53, v54, v55, v56, v57, v58, v59, v60, v61, .bool E], []⟩) (.inr ⟨by kernel_rfl, by kernel_rfl⟩) (by kernel_rfl) (by decide) (Nat.le_of_ble_eq_true (by kernel_rfl)) ?_ ?_
            · as_aux_lemma =>
              (simp only [smallOf, List.map_cons, List.map_nil, List.map_toArray, sh, shO, shX, shE, shT, Option.map_some, List.take_succ_cons, List.take_zero, List.drop_succ_cons, List.drop_zero, List.cons_append, List.nil_append, Nat.reduceAdd, Nat.reduceSub, Nat.reduceLT, reduceIte])
              have z0 := BX.out.c0
              have E0 := Ext.cell z0 BX.out.lt
              have hbx := NB.out.lt
              have x6 := NB.out.c6
              dsimp only at x6
              have EX6 := Ext.cell x6 hbx
              have x9 := NB.out.c9
              dsimp only at x9
              have EX9 := Ext.cell x9 hbx
              clear z0 x6 x9 hk1
              by_cases k3 : z < 0
              · have f3 : decide (z < 0) = true := decide_eq_true k3
                obtain rfl : E = true := by rw [← hE]; rw [NOT.out z (.inl k3)]; simp
                clear hE k3
                repeat (go_big_quiet_step ((go_at_call 30; exact Ext.call_same (EH.out _))))
                exact wpQuiet_nil ⟨_, _, _, _, _, _, _, _, _, _, _, _, _, _, _, _, _, _, _, _, _, _, _, _, _, _, _, _, _, _, _, _, _, _, _, _, _, _, _, _, _, _, _, _, _, _, _, _, _, _, _, _, rfl⟩
              by_cases k4 : (len : Int) ≤ z
              · have f3 : decide (z < 0) = false := decide_eq_false k3
                have f4 : decide ((len : Int) ≤ z) = true := decide_eq_true k4
                obtain rfl : E = true := by rw [← hE]; rw [NOT.out z (.inr k4)]; simp
                clear hE k3 k4
                repeat (go_big_quiet_step ((go_at_call 30; exact Ext.call_same (EH.out _))))
                exact wpQuiet_nil ⟨_, _, _, _, _, _, _, _, _, _, _, _, _, _, _, _, _, _, _, _, _, _, _, _, _, _, _, _, _, _, _, _, _, _, _, _, _, _, _, _, _, _, _, _, _, _, _, _, _, _, _, _, rfl⟩
              obtain ⟨c, hc⟩ := YES.out z (by omega) (by omega)
              obtain ⟨d, nd, rfl, hd, hnd, hat, -, hbw⟩ := GET.out _ z c BX.out.row hc
              have f3 : decide ((d : Int) < 0) = false := decide_eq_false k3
              have f4 : decide ((len : Int) ≤ (d : Int)) = false := decide_eq_false k4
              have f5 : decide (len ≤ d) = false := decide_eq_false (by omega)
              have q0 := hat.c0
              rw [hnd] at q0
              have EQ0 := Ext.cell q0 hbw
              have q5 := hat.c5
              rw [hnd] at q5
              have EQ5 := Ext.cell q5 hbw
              have q9 := hat.c9
              rw [hnd] at q9
              have EQ9 := Ext.cell q9 hbw
              rw [hc] at hE
              dsimp only at hE
              clear hat q0 q5 q9 k3 k4
              by_cases k6 : hasZ kids (d : Int) = 1
              rotate_left
              · obtain ⟨r, hr⟩ : ∃ r : Int, ((hasZ kids (d : Int) : Nat) : Int) = r := ⟨_, rfl⟩
                have EH := Lib.hid (has_ext (z := (d : Int)) (r := r) hkids hr)
                have e6 : (r != 1) = true := bne_iff_ne.2 (by omega)
                obtain rfl : E = true := by rw [← hE]; simp [k6]
                clear hE k6 hc hr
                repeat (go_big_quiet_step ((go_at_call 30; exact Ext.call_same (EH.out _))))
                exact wpQuiet_nil ⟨_, _, _, _, _, _, _, _, _, _, _, _, _, _, _, _, _, _, _, _, _, _, _, _, _, _, _, _, _, _, _, _, _, _, _, _, _, _, _, _, _, _, _, _, _, _, _, _, _, _, _, _, rfl⟩
              have EH := Lib.hid (has_ext (z := (d : Int)) (r := 1) hkids (by rw [k6]; rfl))
              rw [k6] at hE
              by_cases kk : c.kind = 1 ∨ c.kind = 2
              rotate_left
              · have g1 : (c.kind != 1) = true := bne_iff_ne.2 (fun e => kk (.inl e))
                have g2 : (c.kind != 2) = true := bne_iff_ne.2 (fun e => kk (.inr e))
                obtain rfl : E = true := by rw [← hE, beq_eq_false_iff_ne.2 (fun e => kk (.inl e)), beq_eq_false_iff_ne.2 (fun e => kk (.inr e))]; rfl
                clear hE k6 kk hc
                repeat (go_big_quiet_step ((go_at_call 30; exact Ext.call_same (EH.out _))))
                exact wpQuiet_nil ⟨_, _, _, _, _, _, _, _, _, _, _, _, _, _, _, _, _, _, _, _, _, _, _, _, _, _, _, _, _, _, _, _, _, _, _, _, _, _, _, _, _, _, _, _, _, _, _, _, _, _, _, _, rfl⟩
              have hkk : (c.kind == 1 || c.kind == 2) = true := by rcases kk with e | e <;> rw [e] <;> rfl
              rw [hkk] at hE
              have gk : ((c.kind != 1) = false) ∨ ((c.kind != 1) = true ∧ (c.kind != 2) = false) := by
                rcases kk with e | e
                · exact .inl (by rw [e]; rfl)
                · exact .inr ⟨by rw [e]; rfl, by rw [e]; rfl⟩
              clear kk hkk k6
              rcases gk with g1 | ⟨g1, g2⟩
              all_goals
                by_cases k7 : c.parent = (n : Int)
                rotate_left
                · have e7 : (c.parent != (n : Int)) = true := bne_iff_ne.2 k7
                  obtain rfl : E = true := by rw [← hE]; simp [k7]
                  clear hE k7 hc
                  repeat (go_big_quiet_step ((go_at_call 30; exact Ext.call_same (EH.out _))))
                  exact wpQuiet_nil ⟨_, _, _, _, _, _, _, _, _, _, _, _, _, _, _, _, _, _, _, _, _, _, _, _, _, _, _, _, _, _, _, _, _, _, _, _, _, _, _, _, _, _, _, _, _, _, _, _, _, _, _, _, rfl⟩
                have e7 : (c.parent != (n : Int)) = false := by rw [k7]; simp
                by_cases k8 : c.doc = doc
                · have e8 : (c.doc != doc) = false := by rw [k8]; simp
                  obtain rfl : E = false := by rw [← hE]; simp [k7, k8]
                  clear hE k7 k8 hc
                  repeat (go_big_quiet_step ((go_at_call 30; exact Ext.call_same (EH.out _))))
                  exact wpQuiet_nil ⟨_, _, _, _, _, _, _, _, _, _, _, _, _, _, _, _, _, _, _, _, _, _, _, _, _, _, _, _, _, _, _, _, _, _, _, _, _, _, _, _, _, _, _, _, _, _, _, _, _, _, _, _, rfl⟩
                · have e8 : (c.doc != doc) = true := bne_iff_ne.2 k8
                  obtain rfl : E = true := by rw [← hE]; simp [k8]
                  clear hE k7 k8 hc
                  repeat (go_big_quiet_step ((go_at_call 30; exact Ext.call_same (EH.out _))))
                  exact wpQuiet_nil ⟨_, _, _, _, _, _, _, _, _, _, _, _, _, _, _, _, _, _, _, _, _, _, _, _, _, _, _, _, _, _, _, _, _, _, _, _, _, _, _, _, _, _, _, _, _, _, _, _, _, _, _, _, rfl⟩
            · rintro s' - ⟨v10, v11, v12, v13, v14, v15, v16, v17, v18, v19, v20, v21, v22, v23, v24, v25, v26, v27, v28, v29, v30, v31, v32, v33, v34, v35, v36, v37, v38, v39, v40, v41, v42, v43, v44, v45, v46, v47, v48, v49, v50, v51, v52, v53, v54, v55, v56, v57, v58, v59, v60, v61, rfl⟩ w' ⟨⟨w2, hb2⟩, hw2⟩
              (subst hw2; simp only [joined, List.take_succ_cons, List.take_zero, List.drop_succ_cons, List.drop_zero, List.cons_append, List.nil_append, Nat.reduceAdd])
              have BX := Lib.hid (BX.out.keep hb2)
              have NB := Lib.hid (NB.out.keep hb2)
              clear hb2
              clear hE hkids x6 hk1
              cases E with
              | true => as_aux_lemma =>
                go_wp2
                go_ret
                exact ⟨ret_bool (by rw [HNO.out, all_take_not HZ.out (by rw [HEK.out]; rfl)]; simp), BX.out.below⟩
              | false => as_aux_lemma =>
                obtain ⟨c, hc⟩ : ∃ c, getC (coreL L) z = some c := by
                  cases hq : getC (coreL L) z with
                  | some c => exact ⟨c, rfl⟩
                  | none =>
                    have hko := HEK.out
                    unfold kidOk at hko
                    rw [hq] at hko
                    simp at hko
                obtain ⟨d, nd, rfl, hd, hnd, hat, -, hbw⟩ := GET.out _ z c BX.out.row hc
                have q0 := hat.c0
                rw [hnd] at q0
                have HKK : Hid (kindK (coreL L) d = c.kind) := Lib.hid (by unfold kindK; rw [hc])
                have HST := Lib.hid (countK_step (F := coreL L) HZ.out)
                have HAX : Hid (∀ y ∈ kids.take (k + 1), kidOk (coreL L) n ⟨kind, name, is, data, attrs, parent, kids, host, under, doc⟩ y = true) := Lib.hid (fun y hy => by
                  obtain ⟨hl, hg⟩ := List.getElem?_eq_some_iff.1 HZ.out
                  rw [List.take_succ_eq_append_getElem hl, hg] at hy
                  rcases List.mem_append.1 hy with h1 | h1
                  · exact HAL.out y h1
                  · rw [List.mem_singleton.1 h1, HEK.out]; rfl)
                have f3 : decide ((d : Int) < 0) = false := decide_eq_false (by omega)
                have f4 : decide ((len : Int) ≤ (d : Int)) = false := decide_eq_false (by omega)
                have f5 : decide (len ≤ d) = false := decide_eq_false (by omega)
                have z0 := BX.out.c0
                clear hat hc hnd
                by_cases k1 : c.kind = 1
                · have e1 : (c.kind == 1) = true := beq_iff_eq.2 k1
                  have HNX : Hid (cn + 1 = List.countP (fun y => kindK (coreL L) y == 1) (kids.take (k + 1))) := Lib.hid (by rw [HST.out, HKK.out, e1, ← HCN.out]; rfl)
                  clear k1
                  go_wp2
                  go_roundw
                  case rel => exact ⟨k + 1, cn + 1, by omega, by omega, by go_num, by go_num, HNX, HAX, BX, NB⟩
                  case measure => simp [intOf]; omega
                · have e1 : (c.kind == 1) = false := beq_eq_false_iff_ne.2 k1
                  have HNX : Hid (cn = List.countP (fun y => kindK (coreL L) y == 1) (kids.take (k + 1))) := Lib.hid (by rw [HST.out, HKK.out, e1, ← HCN.out]; rfl)
                  clear k1
                  go_wp2
                  go_roundw
                  case rel => exact ⟨k + 1, cn, by omega, by omega, by go_num, rfl, HNX, HAX, BX, NB⟩
                  case measure => simp [intOf]; omega
          as_aux_lemma =>
            have HKA : Hid (kids.all (kidOk (coreL L) n ⟨kind, name, is, data, attrs, parent, kids, host, under, doc⟩) = true) := Lib.hid (by
              have h1 := HAL.out
              have h2 := hkn.out
              rw [List.take_of_length_le (by omega)] at h1
              exact List.all_eq_true.2 h1)
            have HCE : Hid (elemsK (coreL L) ⟨kind, name, is, data, attrs, parent, kids, host, under, doc⟩ = cn) := Lib.hid (by
              have h1 := HCN.out
              have h2 := hkn.out
              rw [List.take_of_length_le (by omega)] at h1
              exact h1.symm)
            clear HCN HAL hkids
            go_upto_region 17 with fail
            obtain ⟨E, hE⟩ : ∃ E, (!shapeOk (coreL L) ⟨kind, name, is, data, attrs, parent, kids, host, under, doc⟩) = E := ⟨_, rfl⟩
            have HES : Hid (shapeOk (coreL L) ⟨kind, name, is, data, attrs, parent, kids, host, under, doc⟩ = !E) := Lib.hid (by rw [← hE, Bool.not_not])
            unfold shapeOk at hE
            rw [HCE.out] at hE
            dsimp only at hE
            rw [hkn.out] at hE
            clear hlt hkl
            have z0 := BX.out.c0
            clear z0
            refine wp_region_in 8 168 33 (fun s => ∃ v8 v9 v10 v11 v12 v13 v14 v15 v16 v17 v18 v19 v20 v21 v22 v23 v24 v25 v26 v27 v28 v29 v30 v31 : Value, s = ⟨#[forV (some ⟨b, off, none⟩) len cap m, .int .i64 n, .pointer (some ⟨w.heap.size, 0, none⟩), undef, u4, .pointer (some ⟨w.heap.size + 1, 0, none⟩), .int .i64 len, .int .i64 cn, v8, v9, v10, v11, v12, v13, v14, v15, v16, v17, v18, v19, v20, v21, v22, v23, v24, v25, v26, v27, v28, v29, v30, v31, .bool E], []⟩) (.inl rfl) (by kernel_rfl) (by decide) (Nat.le_of_ble_eq_true (by kernel_rfl)) ?_ ?_
            · as_aux_lemma =>
              (simp only [smallOf, List.map_cons, List.map_nil, List.map_toArray, sh, shO, shX, shE, shT, Option.map_some, List.take_succ_cons, List.take_zero, List.drop_succ_cons, List.drop_zero, List.cons_append, List.nil_append, Nat.reduceAdd, Nat.reduceSub, Nat.reduceLT, reduceIte])
              have z0 := BX.out.c0
              have E0 := Ext.cell z0 BX.out.lt
              have hbx := NB.out.lt
              have x0 := NB.out.c0
              dsimp only at x0
              have EX0 := Ext.cell x0 hbx
              have x6 := NB.out.c6
              dsimp only at x6
              have EX6 := Ext.cell x6 hbx
              clear z0 x0 x6
              by_cases k1 : kind = 2
              · have e1 : (kind == 2) = true := beq_iff_eq.2 k1
                have e2 : (kind == 0) = false := by rw [k1]; rfl
                rw [e1, e2] at hE
                by_cases k2 : 0 < kN
                · have f1 : decide ((0 : Int) < (kN : Int)) = true := decide_eq_true (by omega)
                  have f2 : decide (0 < kN) = true := decide_eq_true k2
                  obtain rfl : E = true := by rw [← hE, f2]; rfl
                  clear hE k1 k2
                  repeat (go_big_quiet_step (fail))
                  exact wpQuiet_nil ⟨_, _, _, _, _, _, _, _, _, _, _, _, _, _, _, _, _, _, _, _, _, _, _, _, rfl⟩
                · have f1 : decide ((0 : Int) < (kN : Int)) = false := decide_eq_false (by omega)
                  have f2 : decide (0 < kN) = false := decide_eq_false k2
                  obtain rfl : E = false := by rw [← hE, f2]; rfl
                  clear hE k1 k2
                  repeat (go_big_quiet_step (fail))
                  exact wpQuiet_nil ⟨_, _, _, _, _, _, _, _, _, _, _, _, _, _, _, _, _, _, _, _, _, _, _, _, rfl⟩
              have e1 : (kind == 2) = false := beq_eq_false_iff_ne.2 k1
              by_cases k3 : kind = 0
              · have e2 : (kind == 0) = true := beq_iff_eq.2 k3
                rw [e1, e2] at hE
                by_cases k4 : 1 < cn
                · have f1 : decide ((1 : Int) < (cn : Int)) = true := decide_eq_true (by omega)
                  have f2 : decide (1 < cn) = true := decide_eq_true k4
                  obtain rfl : E = true := by rw [← hE, f2]; rfl
                  clear hE k1 k3 k4
                  repeat (go_big_quiet_step (fail))
                  exact wpQuiet_nil ⟨_, _, _, _, _, _, _, _, _, _, _, _, _, _, _, _, _, _, _, _, _, _, _, _, rfl⟩
                have f1 : decide ((1 : Int) < (cn : Int)) = false := decide_eq_false (by omega)
                have f2 : decide (1 < cn) = false := decide_eq_false k4
                by_cases k5 : cn < kN
                · have f3 : decide ((cn : Int) < (kN : Int)) = true := decide_eq_true (by omega)
                  have f4 : decide (cn < kN) = true := decide_eq_true k5
                  obtain rfl : E = true := by rw [← hE, f2, f4]; rfl
                  clear hE k1 k3 k4 k5
                  repeat (go_big_quiet_step (fail))
                  exact wpQuiet_nil ⟨_, _, _, _, _, _, _, _, _, _, _, _, _, _, _, _, _, _, _, _, _, _, _, _, rfl⟩
                · have f3 : decide ((cn : Int) < (kN : Int)) = false := decide_eq_false (by omega)
                  have f4 : decide (cn < kN) = false := decide_eq_false k5
                  obtain rfl : E = false := by rw [← hE, f2, f4]; rfl
                  clear hE k1 k3 k4 k5
                  repeat (go_big_quiet_step (fail))
                  exact wpQuiet_nil ⟨_, _, _, _, _, _, _, _, _, _, _, _, _, _, _, _, _, _, _, _, _, _, _, _, rfl⟩
              · have e2 : (kind == 0) = false := beq_eq_false_iff_ne.2 k3
                obtain rfl : E = false := by rw [← hE, e1, e2]; rfl
                clear hE k1 k3
                repeat (go_big_quiet_step (fail))
                exact wpQuiet_nil ⟨_, _, _, _, _, _, _, _, _, _, _, _, _, _, _, _, _, _, _, _, _, _, _, _, rfl⟩
            · rintro s' - ⟨v8, v9, v10, v11, v12, v13, v14, v15, v16, v17, v18, v19, v20, v21, v22, v23, v24, v25, v26, v27, v28, v29, v30, v31, rfl⟩ w' ⟨⟨w2, hb2⟩, hw2⟩
              (subst hw2; simp only [joined, List.take_succ_cons, List.take_zero, List.drop_succ_cons, List.drop_zero, List.cons_append, List.nil_append, Nat.reduceAdd])
              have BX := Lib.hid (BX.out.keep hb2)
              have NB := Lib.hid (NB.out.keep hb2)
              clear hb2
              cases E with
              | true => as_aux_lemma =>
                go_wp2
                go_ret
                exact ⟨ret_bool (by rw [HNO.out, HES.out]; simp), BX.out.below⟩
              | false => as_aux_lemma =>
                have HS : Hid (shapeOk (coreL L) ⟨kind, name, is, data, attrs, parent, kids, host, under, doc⟩ = true) := Lib.hid HES.out
                clear hE x6
                have x0 := NB.out.c0
                dsimp only at x0
                obtain ⟨HO, hHO⟩ : ∃ HO, hostOk (coreL L) n ⟨kind, name, is, data, attrs, parent, kids, host, under, doc⟩ = HO := ⟨_, rfl⟩
                go_upto_if 203 with fail
                go_cut [] (fun wx => HO = true ∧ Hid (Box w wx w.heap.size (some ⟨b, off, none⟩) len cap m L (coreL L)) ∧ Hid (NBox w wx (w.heap.size + 1) ⟨⟨kind, name, is, data, attrs, parent, kids, host, under, doc⟩, aA, aN, aC, kA, kN, kC⟩))
                case first => as_aux_lemma =>
                  have HHO := Lib.hid hHO
                  unfold hostOk at hHO
                  dsimp only at hHO
                  by_cases k1 : kind = 4
                  rotate_left
                  · rw [if_neg k1] at hHO
                    have e1 : (kind == 4) = false := beq_eq_false_iff_ne.2 k1
                    have x7 := NB.out.c7
                    dsimp only at x7
                    by_cases k2 : host = -1
                    · have e2 : (host != -1) = false := by rw [k2]; rfl
                      obtain rfl : HO = true := by rw [← hHO, k2]; rfl
                      clear k1 k2 hHO
                      go_wp2
                      go_meet
                      exact ⟨rfl, BX, NB⟩
                    · have e2 : (host != -1) = true := bne_iff_ne.2 k2
                      obtain rfl : HO = false := by rw [← hHO]; exact beq_eq_false_iff_ne.2 k2
                      clear k1 k2 hHO
                      go_wp2
                      go_ret
                      exact ⟨ret_bool (by rw [HNO.out, HHO.out]; simp), BX.out.below⟩
                  rw [if_pos k1] at hHO
                  have e1 : (kind == 4) = true := beq_iff_eq.2 k1
                  have HHE := Lib.hid hHO
                  clear k1 hHO
                  go_upto_region 20 with fail
                  obtain ⟨E, hE⟩ : ∃ E, (!HO) = E := ⟨_, rfl⟩
                  have HEP : Hid (HO = !E) := Lib.hid (by rw [← hE, Bool.not_not])
                  rw [← HHE.out] at hE
                  clear x0 e1
                  refine wp_region_in 7 197 49 (fun s => ∃ v7 v8 v9 v10 v11 v12 v13 v14 v15 v16 v17 v18 v19 v20 v21 v22 v23 v24 v25 v26 v27 v28 v29 v30 v31 v32 v33 v34 v35 v36 v37 v38 v39 v40 v41 v42 v43 v44 v45 v46 v47 : Value, s = ⟨#[forV (some ⟨b, off, none⟩) len cap m, .int .i64 n, .pointer (some ⟨w.heap.size, 0, none⟩), undef, u4, .pointer (some ⟨w.heap.size + 1, 0, none⟩), .int .i64 len, v7, v8, v9, v10, v11, v12, v13, v14, v15, v16, v17, v18, v19, v20, v21, v22, v23, v24, v25, v26, v27, v28, v29, v30, v31, v32, v33, v34, v35, v36, v37, v38, v39, v40, v41, v42, v43, v44, v45, v46, v47, .bool E], []⟩) (.inr ⟨by kernel_rfl, by kernel_rfl⟩) (by kernel_rfl) (by decide) (Nat.le_of_ble_eq_true (by kernel_rfl)) ?_ ?_
                  · as_aux_lemma =>
                    (simp only [smallOf, List.map_cons, List.map_nil, sh, shO, shX, shT, Option.map_some, List.take_succ_cons, List.take_zero, List.drop_succ_cons, List.drop_zero, List.cons_append, List.nil_append, Nat.reduceAdd, Nat.reduceSub, Nat.reduceLT, reduceIte])
                    have z0 := BX.out.c0
                    have E0 := Ext.cell z0 BX.out.lt
                    have hbx := NB.out.lt
                    have x7 := NB.out.c7
                    dsimp only at x7
                    have EX7 := Ext.cell x7 hbx
                    have x9 := NB.out.c9
                    dsimp only at x9
                    have EX9 := Ext.cell x9 hbx
                    clear z0 x7 x9
                    by_cases k3 : host < 0
                    · have f3 : decide (host < 0) = true := decide_eq_true k3
                      obtain rfl : E = true := by rw [← hE]; rw [NOT.out host (.inl k3)]; rfl
                      clear hE k3
                      repeat (go_big_quiet_step (fail))
                      exact wpQuiet_nil ⟨_, _, _, _, _, _, _, _, _, _, _, _, _, _, _, _, _, _, _, _, _, _, _, _, _, _, _, _, _, _, _, _, _, _, _, _, _, _, _, _, _, rfl⟩
                    by_cases k4 : (len : Int) ≤ host
                    · have f3 : decide (host < 0) = false := decide_eq_false k3
                      have f4 : decide ((len : Int) ≤ host) = true := decide_eq_true k4
                      obtain rfl : E = true := by rw [← hE]; rw [NOT.out host (.inr k4)]; rfl
                      clear hE k3 k4
                      repeat (go_big_quiet_step (fail))
                      exact wpQuiet_nil ⟨_, _, _, _, _, _, _, _, _, _, _, _, _, _, _, _, _, _, _, _, _, _, _, _, _, _, _, _, _, _, _, _, _, _, _, _, _, _, _, _, _, rfl⟩
                    obtain ⟨c, hc⟩ := YES.out host (by omega) (by omega)
                    obtain ⟨d, nd, rfl, hd, hnd, hat, hokd, hbw⟩ := GET.out _ host c BX.out.row hc
                    have f3 : decide ((d : Int) < 0) = false := decide_eq_false k3
                    have f4 : decide ((len : Int) ≤ (d : Int)) = false := decide_eq_false k4
                    have f5 : decide (len ≤ d) = false := decide_eq_false (by omega)
                    have q0 := hat.c0
                    rw [hnd] at q0
                    have EQ0 := Ext.cell q0 hbw
                    have q8 := hat.c8
                    rw [hnd] at q8
                    have EQ8 := Ext.cell q8 hbw
                    have q9 := hat.c9
                    rw [hnd] at q9
                    have EQ9 := Ext.cell q9 hbw
                    rw [hc] at hE
                    dsimp only at hE
                    clear hat q0 q8 q9 k3 k4
                    by_cases k5 : c.kind = 1
                    rotate_left
                    · have e5 : (c.kind != 1) = true := bne_iff_ne.2 k5
                      obtain rfl : E = true := by rw [← hE, beq_eq_false_iff_ne.2 k5]; rfl
                      clear hE k5 hc
                      repeat (go_big_quiet_step (fail))
                      exact wpQuiet_nil ⟨_, _, _, _, _, _, _, _, _, _, _, _, _, _, _, _, _, _, _, _, _, _, _, _, _, _, _, _, _, _, _, _, _, _, _, _, _, _, _, _, _, rfl⟩
                    have e5 : (c.kind != 1) = false := by rw [k5]; rfl
                    by_cases k6 : c.under = (n : Int)
                    rotate_left
                    · have e6 : (c.under != (n : Int)) = true := bne_iff_ne.2 k6
                      obtain rfl : E = true := by rw [← hE]; simp [k6]
                      clear hE k5 k6 hc
                      repeat (go_big_quiet_step (fail))
                      exact wpQuiet_nil ⟨_, _, _, _, _, _, _, _, _, _, _, _, _, _, _, _, _, _, _, _, _, _, _, _, _, _, _, _, _, _, _, _, _, _, _, _, _, _, _, _, _, rfl⟩
                    have e6 : (c.under != (n : Int)) = false := by rw [k6]; simp
                    by_cases k7 : c.doc = doc
                    · have e7 : (c.doc != doc) = false := by rw [k7]; simp
                      obtain rfl : E = false := by rw [← hE]; simp [k5, k6, k7]
                      clear hE k5 k6 k7 hc
                      repeat (go_big_quiet_step (fail))
                      exact wpQuiet_nil ⟨_, _, _, _, _, _, _, _, _, _, _, _, _, _, _, _, _, _, _, _, _, _, _, _, _, _, _, _, _, _, _, _, _, _, _, _, _, _, _, _, _, rfl⟩
                    · have e7 : (c.doc != doc) = true := bne_iff_ne.2 k7
                      obtain rfl : E = true := by rw [← hE]; simp [k7]
                      clear hE k5 k6 k7 hc
                      repeat (go_big_quiet_step (fail))
                      exact wpQuiet_nil ⟨_, _, _, _, _, _, _, _, _, _, _, _, _, _, _, _, _, _, _, _, _, _, _, _, _, _, _, _, _, _, _, _, _, _, _, _, _, _, _, _, _, rfl⟩
                  · rintro s' - ⟨v7, v8, v9, v10, v11, v12, v13, v14, v15, v16, v17, v18, v19, v20, v21, v22, v23, v24, v25, v26, v27, v28, v29, v30, v31, v32, v33, v34, v35, v36, v37, v38, v39, v40, v41, v42, v43, v44, v45, v46, v47, rfl⟩ w' ⟨⟨w2, hb2⟩, hw2⟩
                    (subst hw2; simp only [joined, List.take_succ_cons, List.take_zero, List.drop_succ_cons, List.drop_zero, List.cons_append, List.nil_append, Nat.reduceAdd])
                    have BX := Lib.hid (BX.out.keep hb2)
                    have NB := Lib.hid (NB.out.keep hb2)
                    clear hb2
                    cases E with
                    | true => as_aux_lemma =>
                      go_wp2
                      go_ret
                      exact ⟨ret_bool (by rw [HNO.out, HHO.out, HEP.out]; simp), BX.out.below⟩
                    | false => as_aux_lemma =>
                      go_wp2
                      go_meet
                      exact ⟨HEP.out, BX, NB⟩
                case rest => as_aux_lemma =>
                  obtain ⟨hho, BX, NB⟩ := hcut
                  have HH : Hid (hostOk (coreL L) n ⟨kind, name, is, data, attrs, parent, kids, host, under, doc⟩ = true) := Lib.hid (by rw [hHO, hho])
                  clear hho hHO x0
                  go_upto_region 24 with fail
                  obtain ⟨E, hE⟩ : ∃ E, (!underOk (coreL L) n ⟨kind, name, is, data, attrs, parent, kids, host, under, doc⟩) = E := ⟨_, rfl⟩
                  have HEU : Hid (underOk (coreL L) n ⟨kind, name, is, data, attrs, parent, kids, host, under, doc⟩ = !E) := Lib.hid (by rw [← hE, Bool.not_not])
                  unfold underOk at hE
                  dsimp only at hE
                  refine wp_region_in 7 242 47 (fun s => ∃ v7 v8 v9 v10 v11 v12 v13 v14 v15 v16 v17 v18 v19 v20 v21 v22 v23 v24 v25 v26 v27 v28 v29 v30 v31 v32 v33 v34 v35 v36 v37 v38 v39 v40 v41 v42 v43 v44 v45 : Value, s = ⟨#[forV (some ⟨b, off, none⟩) len cap m, .int .i64 n, .pointer (some ⟨w.heap.size, 0, none⟩), undef, u4, .pointer (some ⟨w.heap.size + 1, 0, none⟩), .int .i64 len, v7, v8, v9, v10, v11, v12, v13, v14, v15, v16, v17, v18, v19, v20, v21, v22, v23, v24, v25, v26, v27, v28, v29, v30, v31, v32, v33, v34, v35, v36, v37, v38, v39, v40, v41, v42, v43, v44, v45, .bool E], []⟩) (.inl rfl) (by kernel_rfl) (by decide) (Nat.le_of_ble_eq_true (by kernel_rfl)) ?_ ?_
                  · as_aux_lemma =>
                    (simp only [smallOf, List.map_cons, List.map_nil, sh, shO, shX, shT, Option.map_some, List.take_succ_cons, List.take_zero, List.drop_succ_cons, List.drop_zero, List.cons_append, List.nil_append, Nat.reduceAdd, Nat.reduceSub, Nat.reduceLT, reduceIte])
                    have z0 := BX.out.c0
                    have E0 := Ext.cell z0 BX.out.lt
                    have hbx := NB.out.lt
                    have x0 := NB.out.c0
                    dsimp only at x0
                    have EX0 := Ext.cell x0 hbx
                    have x8 := NB.out.c8
                    dsimp only at x8
                    have EX8 := Ext.cell x8 hbx
                    clear z0 x0 x8
                    by_cases k1 : under = -1
                    · have e1 : (under != -1) = false := by rw [k1]; rfl
                      obtain rfl : E = false := by rw [← hE, k1]; rfl
                      clear hE k1
                      repeat (go_big_quiet_step (fail))
                      exact wpQuiet_nil ⟨_, _, _, _, _, _, _, _, _, _, _, _, _, _, _, _, _, _, _, _, _, _, _, _, _, _, _, _, _, _, _, _, _, _, _, _, _, _, _, rfl⟩
                    have e1 : (under != -1) = true := bne_iff_ne.2 k1
                    rw [beq_eq_false_iff_ne.2 k1, Bool.false_or] at hE
                    clear k1
                    by_cases k2 : kind = 1
                    rotate_left
                    · have e2 : (kind != 1) = true := bne_iff_ne.2 k2
                      obtain rfl : E = true := by rw [← hE, beq_eq_false_iff_ne.2 k2]; rfl
                      clear hE k2
                      repeat (go_big_quiet_step (fail))
                      exact wpQuiet_nil ⟨_, _, _, _, _, _, _, _, _, _, _, _, _, _, _, _, _, _, _, _, _, _, _, _, _, _, _, _, _, _, _, _, _, _, _, _, _, _, _, rfl⟩
                    have e2 : (kind != 1) = false := by rw [k2]; rfl
                    rw [beq_iff_eq.2 k2, Bool.true_and] at hE
                    clear k2
                    by_cases k3 : under < 0
                    · have f3 : decide (under < 0) = true := decide_eq_true k3
                      obtain rfl : E = true := by rw [← hE]; rw [NOT.out under (.inl k3)]; rfl
                      clear hE k3
                      repeat (go_big_quiet_step (fail))
                      exact wpQuiet_nil ⟨_, _, _, _, _, _, _, _, _, _, _, _, _, _, _, _, _, _, _, _, _, _, _, _, _, _, _, _, _, _, _, _, _, _, _, _, _, _, _, rfl⟩
                    by_cases k4 : (len : Int) ≤ under
                    · have f3 : decide (under < 0) = false := decide_eq_false k3
                      have f4 : decide ((len : Int) ≤ under) = true := decide_eq_true k4
                      obtain rfl : E = true := by rw [← hE]; rw [NOT.out under (.inr k4)]; rfl
                      clear hE k3 k4
                      repeat (go_big_quiet_step (fail))
                      exact wpQuiet_nil ⟨_, _, _, _, _, _, _, _, _, _, _, _, _, _, _, _, _, _, _, _, _, _, _, _, _, _, _, _, _, _, _, _, _, _, _, _, _, _, _, rfl⟩
                    obtain ⟨c, hc⟩ := YES.out under (by omega) (by omega)
                    obtain ⟨d, nd, rfl, hd, hnd, hat, hokd, hbw⟩ := GET.out _ under c BX.out.row hc
                    have f3 : decide ((d : Int) < 0) = false := decide_eq_false k3
                    have f4 : decide ((len : Int) ≤ (d : Int)) = false := decide_eq_false k4
                    have f5 : decide (len ≤ d) = false := decide_eq_false (by omega)
                    have q0 := hat.c0
                    rw [hnd] at q0
                    have EQ0 := Ext.cell q0 hbw
                    have q7 := hat.c7
                    rw [hnd] at q7
                    have EQ7 := Ext.cell q7 hbw
                    rw [hc] at hE
                    dsimp only at hE
                    clear hat q0 q7 k3 k4
                    by_cases k5 : c.kind = 4
                    rotate_left
                    · have e5 : (c.kind != 4) = true := bne_iff_ne.2 k5
                      obtain rfl : E = true := by rw [← hE, beq_eq_false_iff_ne.2 k5]; rfl
                      clear hE k5 hc
                      repeat (go_big_quiet_step (fail))
                      exact wpQuiet_nil ⟨_, _, _, _, _, _, _, _, _, _, _, _, _, _, _, _, _, _, _, _, _, _, _, _, _, _, _, _, _, _, _, _, _, _, _, _, _, _, _, rfl⟩
                    have e5 : (c.kind != 4) = false := by rw [k5]; rfl
                    by_cases k6 : c.host = (n : Int)
                    · have e6 : (c.host != (n : Int)) = false := by rw [k6]; simp
                      obtain rfl : E = false := by rw [← hE]; simp [k5, k6]
                      clear hE k5 k6 hc
                      repeat (go_big_quiet_step (fail))
                      exact wpQuiet_nil ⟨_, _, _, _, _, _, _, _, _, _, _, _, _, _, _, _, _, _, _, _, _, _, _, _, _, _, _, _, _, _, _, _, _, _, _, _, _, _, _, rfl⟩
                    · have e6 : (c.host != (n : Int)) = true := bne_iff_ne.2 k6
                      obtain rfl : E = true := by rw [← hE]; simp [k6]
                      clear hE k5 k6 hc
                      repeat (go_big_quiet_step (fail))
                      exact wpQuiet_nil ⟨_, _, _, _, _, _, _, _, _, _, _, _, _, _, _, _, _, _, _, _, _, _, _, _, _, _, _, _, _, _, _, _, _, _, _, _, _, _, _, rfl⟩
                  · rintro s' - ⟨v7, v8, v9, v10, v11, v12, v13, v14, v15, v16, v17, v18, v19, v20, v21, v22, v23, v24, v25, v26, v27, v28, v29, v30, v31, v32, v33, v34, v35, v36, v37, v38, v39, v40, v41, v42, v43, v44, v45, rfl⟩ w' ⟨⟨w2, hb2⟩, hw2⟩
                    (subst hw2; simp only [joined, List.take_succ_cons, List.take_zero, List.drop_succ_cons, List.drop_zero, List.cons_append, List.nil_append, Nat.reduceAdd])
                    have BX := Lib.hid (BX.out.keep hb2)
                    have NB := Lib.hid (NB.out.keep hb2)
                    clear hb2
                    cases E with
                    | true => as_aux_lemma =>
                      go_wp2
                      go_ret
                      exact ⟨ret_bool (by rw [HNO.out, HEU.out]; simp), BX.out.below⟩
                    | false => as_aux_lemma =>
                      have HU : Hid (underOk (coreL L) n ⟨kind, name, is, data, attrs, parent, kids, host, under, doc⟩ = true) := Lib.hid HEU.out
                      clear hE
                      have HOK := Lib.hid NB.out.ok
                      obtain ⟨E, hE⟩ : ∃ E, textOk ⟨kind, name, is, data, attrs, parent, kids, host, under, doc⟩ = E := ⟨_, rfl⟩
                      have HTX := Lib.hid hE
                      unfold textOk at hE
                      dsimp only at hE
                      have x0 := NB.out.c0
                      dsimp only at x0
                      by_cases k1 : kind = 1
                      · rw [if_pos k1] at hE
                        have e1 : (kind == 1) = true := beq_iff_eq.2 k1
                        clear k1
                        go_upto_region 27 with fail
                        clear x0 e1
                        refine wp_region_in 7 285 38 (fun s => ∃ v7 v8 v9 v10 v11 v12 v13 v14 v15 v16 v17 v18 v19 v20 v21 v22 v23 v24 v25 v26 v27 v28 v29 v30 v31 v32 v33 v34 v35 v36 v37 : Value, s = ⟨#[forV (some ⟨b, off, none⟩) len cap m, .int .i64 n, .pointer (some ⟨w.heap.size, 0, none⟩), undef, .bool E, .pointer (some ⟨w.heap.size + 1, 0, none⟩), .int .i64 len, v7, v8, v9, v10, v11, v12, v13, v14, v15, v16, v17, v18, v19, v20, v21, v22, v23, v24, v25, v26, v27, v28, v29, v30, v31, v32, v33, v34, v35, v36, v37], []⟩) (.inr ⟨by kernel_rfl, by kernel_rfl⟩) (by kernel_rfl) (by decide) (Nat.le_of_ble_eq_true (by kernel_rfl)) ?_ ?_
                        · as_aux_lemma =>
                          (simp only [smallOf, List.map_cons, List.map_nil, List.map_toArray, sh, shO, shX, shE, shT, Option.map_some, List.take_succ_cons, List.take_zero, List.drop_succ_cons, List.drop_zero, List.cons_append, List.nil_append, Nat.reduceAdd, Nat.reduceSub, Nat.reduceLT, reduceIte])
                          have z0 := BX.out.c0
                          have E0 := Ext.cell z0 BX.out.lt
                          have hbx := NB.out.lt
                          have x1 := NB.out.c1
                          dsimp only at x1
                          have EX1 := Ext.cell x1 hbx
                          have x2 := NB.out.c2
                          dsimp only at x2
                          have EX2 := Ext.cell x2 hbx
                          have x3 := NB.out.c3
                          dsimp only at x3
                          have EX3 := Ext.cell x3 hbx
                          have x4 := NB.out.c4
                          dsimp only at x4
                          have EX4 := Ext.cell x4 hbx
                          clear z0 x1 x2 x3 x4
                          have C4 := Lib.hid (fun (W : World) => refcustom_long is W (HDX.out _ NB.out).2.2)
                          obtain ⟨r1, hr1⟩ : ∃ r1, rightL name.toList = r1 := ⟨_, rfl⟩
                          have C1 : Hid (∀ W, Calls Tryz.prog 31 #[.string name] W fun e w' => e = .returned (.bool r1) ∧ W = w') := Lib.hid (fun W => by
                            have := refright_any name W (HDX.out _ NB.out).2.1
                            rwa [hr1] at this)
                          rw [hr1] at hE
                          cases r1 with
                          | false =>
                            obtain rfl : E = false := by rw [← hE]; rfl
                            clear hE hr1
                            repeat (go_big_quiet_step ((first   | (go_at_call 31; exact Ext.call_same (C1.out _))   | (go_at_call 32; exact Ext.call_below (C2.out _))   | (go_at_call 33; exact Ext.call_below (C4.out _))   | (go_at_call 34; exact Ext.call_below (C5.out _)))))
                            exact wpQuiet_nil ⟨_, _, _, _, _, _, _, _, _, _, _, _, _, _, _, _, _, _, _, _, _, _, _, _, _, _, _, _, _, _, _, rfl⟩
                          | true =>
                            have C2 : Hid (∀ W, Calls Tryz.prog 32 #[.string name] W fun e w' => e = .returned (.string (ofL (smallL name.toList))) ∧ Below W.heap.size W w') := Lib.hid (fun W => by
                              have h40' : name.toList.length ≤ 40 := rightL_len hr1
                              rw [tl_len] at h40'
                              exact refsmall_any name W (by omega))
                            clear hr1
                            obtain ⟨s1, hs1⟩ : ∃ s1, (smallL name.toList == name.toList) = s1 := ⟨_, rfl⟩
                            rw [hs1] at hE
                            cases s1 with
                            | false =>
                              obtain rfl : E = false := by rw [← hE]; rfl
                              clear hE
                              repeat (go_big_quiet_step ((first   | (go_at_call 31; exact Ext.call_same (C1.out _))   | (go_at_call 32; exact Ext.call_below (C2.out _))   | (go_at_call 33; exact Ext.call_below (C4.out _))   | (go_at_call 34; exact Ext.call_below (C5.out _)))))
                              exact wpQuiet_nil ⟨_, _, _, _, _, _, _, _, _, _, _, _, _, _, _, _, _, _, _, _, _, _, _, _, _, _, _, _, _, _, _, rfl⟩
                            | true =>
                              have HI : (is.toList == []) = true ∨ ((is.toList == []) = false ∧ customL is.toList = true) ∨ ((is.toList == []) = false ∧ customL is.toList = false) := by
                                cases is.toList == [] <;> cases customL is.toList <;> simp
                              rcases HI with i1 | ⟨i1, hc1⟩ | ⟨i1, hc1⟩
                              rotate_left 2
                              · rw [hc1] at C4
                                obtain rfl : E = false := by rw [← hE, i1, hc1]; rfl
                                clear hE hc1
                                repeat (go_big_quiet_step ((first   | (go_at_call 31; exact Ext.call_same (C1.out _))   | (go_at_call 32; exact Ext.call_below (C2.out _))   | (go_at_call 33; exact Ext.call_below (C4.out _))   | (go_at_call 34; exact Ext.call_below (C5.out _)))))
                                exact wpQuiet_nil ⟨_, _, _, _, _, _, _, _, _, _, _, _, _, _, _, _, _, _, _, _, _, _, _, _, _, _, _, _, _, _, _, rfl⟩
                              all_goals
                                first | rw [i1, hc1] at hE | rw [i1] at hE
                                try rw [hc1] at C4
                                try clear hc1
                                obtain ⟨d1, hd1⟩ : ∃ d1, (data.toList == []) = d1 := ⟨_, rfl⟩
                                rw [hd1] at hE
                                cases d1 with
                                | false =>
                                  obtain rfl : E = false := by rw [← hE]; rfl
                                  clear hE
                                  repeat (go_big_quiet_step ((first   | (go_at_call 31; exact Ext.call_same (C1.out _))   | (go_at_call 32; exact Ext.call_below (C2.out _))   | (go_at_call 33; exact Ext.call_below (C4.out _))   | (go_at_call 34; exact Ext.call_below (C5.out _)))))
                                  exact wpQuiet_nil ⟨_, _, _, _, _, _, _, _, _, _, _, _, _, _, _, _, _, _, _, _, _, _, _, _, _, _, _, _, _, _, _, rfl⟩
                                | true =>
                                  obtain ⟨r5, hr5⟩ : ∃ r5, rightA attrs = r5 := ⟨_, rfl⟩
                                  have C5 := Lib.hid (attr_ext (r := r5) HOK.out.attrs hr5)
                                  obtain rfl : E = r5 := by rw [← hE, hr5]; rfl
                                  clear hE hr5
                                  cases E with
                                  | false => as_aux_lemma =>
                                    repeat (go_big_quiet_step ((first   | (go_at_call 31; exact Ext.call_same (C1.out _))   | (go_at_call 32; exact Ext.call_below (C2.out _))   | (go_at_call 33; exact Ext.call_below (C4.out _))   | (go_at_call 34; exact Ext.call_below (C5.out _)))))
                                    exact wpQuiet_nil ⟨_, _, _, _, _, _, _, _, _, _, _, _, _, _, _, _, _, _, _, _, _, _, _, _, _, _, _, _, _, _, _, rfl⟩
                                  | true => as_aux_lemma =>
                                    repeat (go_big_quiet_step ((first   | (go_at_call 31; exact Ext.call_same (C1.out _))   | (go_at_call 32; exact Ext.call_below (C2.out _))   | (go_at_call 33; exact Ext.call_below (C4.out _))   | (go_at_call 34; exact Ext.call_below (C5.out _)))))
                                    exact wpQuiet_nil ⟨_, _, _, _, _, _, _, _, _, _, _, _, _, _, _, _, _, _, _, _, _, _, _, _, _, _, _, _, _, _, _, rfl⟩
                        · rintro s' - ⟨v7, v8, v9, v10, v11, v12, v13, v14, v15, v16, v17, v18, v19, v20, v21, v22, v23, v24, v25, v26, v27, v28, v29, v30, v31, v32, v33, v34, v35, v36, v37, rfl⟩ w' ⟨⟨w2, hb2⟩, hw2⟩
                          (subst hw2; simp only [joined, List.take_succ_cons, List.take_zero, List.drop_succ_cons, List.drop_zero, List.cons_append, List.nil_append, Nat.reduceAdd])
                          have BX := Lib.hid (BX.out.keep hb2)
                          have NB := Lib.hid (NB.out.keep hb2)
                          clear hb2
                          go_wp2
                          go_ret
                          exact ⟨ret_bool (by rw [HNO.out, HD.out, HP.out, HKA.out, HS.out, HH.out, HU.out, HTX.out]; rfl), BX.out.below⟩
                      · rw [if_neg k1] at hE
                        have e1 : (kind == 1) = false := beq_eq_false_iff_ne.2 k1
                        clear k1
                        go_upto_region 28 with fail
                        clear e1 x0
                        have hal : Hid (attrs.length = aN) := Lib.hid HOK.out.attrs.row.hlen
                        refine wp_region_in 7 316 37 (fun s => ∃ v7 v8 v9 v10 v11 v12 v13 v14 v15 v16 v17 v18 v19 v20 v21 v22 v23 v24 v25 v26 v27 v28 v29 v30 v31 v32 v33 v34 v35 v36 : Value, s = ⟨#[forV (some ⟨b, off, none⟩) len cap m, .int .i64 n, .pointer (some ⟨w.heap.size, 0, none⟩), undef, .bool E, .pointer (some ⟨w.heap.size + 1, 0, none⟩), .int .i64 len, v7, v8, v9, v10, v11, v12, v13, v14, v15, v16, v17, v18, v19, v20, v21, v22, v23, v24, v25, v26, v27, v28, v29, v30, v31, v32, v33, v34, v35, v36], []⟩) (.inl rfl) (by kernel_rfl) (by decide) (Nat.le_of_ble_eq_true (by kernel_rfl)) ?_ ?_
                        · as_aux_lemma =>
                          (simp only [smallOf, List.map_cons, List.map_nil, List.map_toArray, sh, shO, shX, shE, shT, Option.map_some, List.take_succ_cons, List.take_zero, List.drop_succ_cons, List.drop_zero, List.cons_append, List.nil_append, Nat.reduceAdd, Nat.reduceSub, Nat.reduceLT, reduceIte])
                          have z0 := BX.out.c0
                          have E0 := Ext.cell z0 BX.out.lt
                          have hbx := NB.out.lt
                          have x0 := NB.out.c0
                          dsimp only at x0
                          have EX0 := Ext.cell x0 hbx
                          have x1 := NB.out.c1
                          dsimp only at x1
                          have EX1 := Ext.cell x1 hbx
                          have x2 := NB.out.c2
                          dsimp only at x2
                          have EX2 := Ext.cell x2 hbx
                          have x3 := NB.out.c3
                          dsimp only at x3
                          have EX3 := Ext.cell x3 hbx
                          have x4 := NB.out.c4
                          dsimp only at x4
                          have EX4 := Ext.cell x4 hbx
                          clear z0 x0 x1 x2 x3 x4
                          obtain ⟨n1, hn1⟩ : ∃ n1, (name.toList == []) = n1 := ⟨_, rfl⟩
                          rw [hn1] at hE
                          cases n1 with
                          | false =>
                            obtain rfl : E = false := by rw [← hE]; rfl
                            clear hE
                            repeat (go_big_quiet_step (fail))
                            exact wpQuiet_nil ⟨_, _, _, _, _, _, _, _, _, _, _, _, _, _, _, _, _, _, _, _, _, _, _, _, _, _, _, _, _, _, rfl⟩
                          | true =>
                            obtain ⟨i1, hi1⟩ : ∃ i1, (is.toList == []) = i1 := ⟨_, rfl⟩
                            rw [hi1] at hE
                            cases i1 with
                            | false =>
                              obtain rfl : E = false := by rw [← hE]; rfl
                              clear hE
                              repeat (go_big_quiet_step (fail))
                              exact wpQuiet_nil ⟨_, _, _, _, _, _, _, _, _, _, _, _, _, _, _, _, _, _, _, _, _, _, _, _, _, _, _, _, _, _, rfl⟩
                            | true =>
                              by_cases k2 : attrs.length = 0
                              rotate_left
                              · rw [decide_eq_false k2] at hE
                                have hal2 := hal.out
                                have a1 : ((aN : Int) == 0) = false := beq_eq_false_iff_ne.2 (by omega)
                                obtain rfl : E = false := by rw [← hE]; rfl
                                clear hE k2 hal2
                                repeat (go_big_quiet_step (fail))
                                exact wpQuiet_nil ⟨_, _, _, _, _, _, _, _, _, _, _, _, _, _, _, _, _, _, _, _, _, _, _, _, _, _, _, _, _, _, rfl⟩
                              rw [decide_eq_true k2] at hE
                              have hal2 := hal.out
                              obtain rfl : aN = 0 := by omega
                              clear k2 hal2
                              obtain ⟨d1, hd1⟩ : ∃ d1, (data.toList == []) = d1 := ⟨_, rfl⟩
                              rw [hd1] at hE
                              cases d1 with
                              | true =>
                                obtain rfl : E = true := by rw [← hE]; rfl
                                clear hE
                                repeat (go_big_quiet_step (fail))
                                exact wpQuiet_nil ⟨_, _, _, _, _, _, _, _, _, _, _, _, _, _, _, _, _, _, _, _, _, _, _, _, _, _, _, _, _, _, rfl⟩
                              | false =>
                                obtain ⟨t1, ht1⟩ : ∃ t1, (kind == 2) = t1 := ⟨_, rfl⟩
                                rw [ht1] at hE
                                cases t1 with
                                | false =>
                                  obtain rfl : E = false := by rw [← hE]; rfl
                                  clear hE
                                  repeat (go_big_quiet_step (fail))
                                  exact wpQuiet_nil ⟨_, _, _, _, _, _, _, _, _, _, _, _, _, _, _, _, _, _, _, _, _, _, _, _, _, _, _, _, _, _, rfl⟩
                                | true =>
                                  by_cases k3 : data.size ≤ 200
                                  · have v1 : decide ((data.size : Int) ≤ 200) = true := decide_eq_true (by omega)
                                    obtain rfl : E = true := by rw [← hE, decide_eq_true k3]; rfl
                                    clear hE k3
                                    repeat (go_big_quiet_step (fail))
                                    exact wpQuiet_nil ⟨_, _, _, _, _, _, _, _, _, _, _, _, _, _, _, _, _, _, _, _, _, _, _, _, _, _, _, _, _, _, rfl⟩
                                  · have v1 : decide ((data.size : Int) ≤ 200) = false := decide_eq_false (by omega)
                                    obtain rfl : E = false := by rw [← hE, decide_eq_false k3]; rfl
                                    clear hE k3
                                    repeat (go_big_quiet_step (fail))
                                    exact wpQuiet_nil ⟨_, _, _, _, _, _, _, _, _, _, _, _, _, _, _, _, _, _, _, _, _, _, _, _, _, _, _, _, _, _, rfl⟩
                        · rintro s' - ⟨v7, v8, v9, v10, v11, v12, v13, v14, v15, v16, v17, v18, v19, v20, v21, v22, v23, v24, v25, v26, v27, v28, v29, v30, v31, v32, v33, v34, v35, v36, rfl⟩ w' ⟨⟨w2, hb2⟩, hw2⟩
                          (subst hw2; simp only [joined, List.take_succ_cons, List.take_zero, List.drop_succ_cons, List.drop_zero, List.cons_append, List.nil_append, Nat.reduceAdd])
                          have BX := Lib.hid (BX.out.keep hb2)
                          have NB := Lib.hid (NB.out.keep hb2)
                          clear hb2
                          go_wp2
                          go_ret
                          exact ⟨ret_bool (by rw [HNO.out, HD.out, HP.out, HKA.out, HS.out, HH.out, HU.out, HTX.out]; rfl), BX.out.below⟩
end Go.Proofs.YtnjoimedilonnaaGreat
