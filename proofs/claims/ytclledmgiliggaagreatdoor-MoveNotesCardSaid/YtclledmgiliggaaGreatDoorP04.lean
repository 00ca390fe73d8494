/- Texts joined in build order: ForestSame ForestSameF ForestNBox ForestEnds. -/
import Derived.Test.YtclledmgiliggaaGreatDoorP03
import Derived.Test.YtclledmgiliggaaGreatDoorP01
namespace Go.Proofs.YtclledmgiliggaaGreatDoor
open Go.RowKit
abbrev nodV (x : NodeD) : Value := .agg #[.int .i64 x.core.kind, .string x.core.name, .string x.core.is, .string x.core.data, .slice x.aA x.aN x.aC, .int .i64 x.core.parent, .slice x.kA x.kN x.kC, .int .i64 x.core.host, .int .i64 x.core.under, .int .i64 x.core.doc]
set_option maxHeartbeats 8000000 in
set_option maxRecDepth 100000 in
theorem refone_any (x y : NodeD) (w : World) (hx : NodeOk w x) (hy : NodeOk w y) :
    Calls Tryz.prog 39 #[nodV x, nodV y] w fun e w' => e = .returned (.bool (decide (x.core = y.core))) ∧ Below w.heap.size w w' := by
  have BX : Hid (∀ B C, Below w.heap.size w ((w.alloc B).alloc C)) := Lib.hid (fun B C => (below_box w B).alloc (by simp) C)
  have S1 : Hid (∀ B C, Calls Tryz.prog 85 #[.slice x.aA x.aN x.aC, .slice y.aA y.aN y.aC] ((w.alloc B).alloc C) fun e w' => e = .returned (.bool (decide (x.core.attrs = y.core.attrs))) ∧ ∃ n, w' = ((w.alloc B).alloc C).drewN n) := Lib.hid (fun B C => refsame_any _ _ _ _ _ _ _ _ _ (hx.attrs.below (BX.out B C)) (hy.attrs.below (BX.out B C)))
  have S2 : Hid (∀ B C n, Calls Tryz.prog 41 #[.slice x.kA x.kN x.kC, .slice y.kA y.kN y.kC] (((w.alloc B).alloc C).drewN n) fun e w' => e = .returned (.bool (decide (x.core.kids = y.core.kids))) ∧ ∃ n, Below w.heap.size w w' ∧ ((w.alloc B).alloc C).drewN n = w') := Lib.hid (fun B C n =>
    (refints_any _ _ _ _ _ _ _ _ _ ((hx.kids.below (BX.out B C)).drewN n) ((hy.kids.below (BX.out B C)).drewN n)).mono fun e w' ⟨he, m, hw⟩ => ⟨he, n + m, by rw [hw]; exact below_drewN (below_drewN (BX.out B C) n) m, by rw [hw, World.drewN_drewN]⟩)
  clear hx hy
  obtain ⟨⟨k1, n1, i1, d1, A1, p1, K1, h1, u1, o1⟩, aA, aN, aC, kA, kN, kC⟩ := x
  obtain ⟨⟨k2, n2, i2, d2, A2, p2, K2, h2, u2, o2⟩, bA, bN, bC, lA, lN, lC⟩ := y
  dsimp only at S1 S2 ⊢
  obtain ⟨r, hr⟩ : ∃ r, decide ((⟨k1, n1, i1, d1, A1, p1, K1, h1, u1, o1⟩ : Core) = ⟨k2, n2, i2, d2, A2, p2, K2, h2, u2, o2⟩) = r := ⟨_, rfl⟩
  rw [hr]
  have HR : Hid (r = (k1 == k2 && n1.toList == n2.toList && i1.toList == i2.toList && d1.toList == d2.toList && decide (A1 = A2) && p1 == p2 && decide (K1 = K2) && h1 == h2 && u1 == u2 && o1 == o2)) := Lib.hid (by
    rw [← hr, Bool.eq_iff_iff, decide_eq_true_eq, Core.mk.injEq]
    simp only [Bool.and_eq_true, beq_iff_eq, decide_eq_true_eq]
    constructor
    · rintro ⟨rfl, rfl, rfl, rfl, rfl, rfl, rfl, rfl, rfl, rfl⟩
      simp
    · rintro ⟨⟨⟨⟨⟨⟨⟨⟨⟨e1, e2⟩, e3⟩, e4⟩, e5⟩, e6⟩, e7⟩, e8⟩, e9⟩, e10⟩
      exact ⟨e1, toList_inj e2, toList_inj e3, toList_inj e4, e5, e6, e7, e8, e9, e10⟩)
  clear hr
  obtain ⟨sa, hsa⟩ : ∃ z, decide (A1 = A2) = z := ⟨_, rfl⟩
  obtain ⟨sk, hsk⟩ : ∃ z, decide (K1 = K2) = z := ⟨_, rfl⟩
  rw [hsa] at S1 HR
  rw [hsk] at S2 HR
  clear hsa hsk
  cases ek : (k1 == k2)
  · have HZ : Hid (r = false) := Lib.hid (by rw [HR.out, ek]; simp)
    clear HR
    go_enter Tryz.func39, Tryz.ntmps39
    go_wp2_with (first
      | (go_at_call 85; refine (S1.out _ _).mono ?_; rintro e w' ⟨rfl, m, rfl⟩)
      | (go_at_call 41; refine (S2.out _ _ _).mono ?_; rintro e w' ⟨rfl, m, hb, rfl⟩; clear hb))
    go_ret
    exact ⟨ret_bool HZ.out.symm, by first | exact BX.out _ _ | exact below_drewN (BX.out _ _) _⟩
  cases en : (n1.toList == n2.toList)
  · have HZ : Hid (r = false) := Lib.hid (by rw [HR.out, ek, en]; simp)
    clear HR
    go_enter Tryz.func39, Tryz.ntmps39
    go_wp2_with (first
      | (go_at_call 85; refine (S1.out _ _).mono ?_; rintro e w' ⟨rfl, m, rfl⟩)
      | (go_at_call 41; refine (S2.out _ _ _).mono ?_; rintro e w' ⟨rfl, m, hb, rfl⟩; clear hb))
    go_ret
    exact ⟨ret_bool HZ.out.symm, by first | exact BX.out _ _ | exact below_drewN (BX.out _ _) _⟩
  cases ei : (i1.toList == i2.toList)
  · have HZ : Hid (r = false) := Lib.hid (by rw [HR.out, ek, en, ei]; simp)
    clear HR
    go_enter Tryz.func39, Tryz.ntmps39
    go_wp2_with (first
      | (go_at_call 85; refine (S1.out _ _).mono ?_; rintro e w' ⟨rfl, m, rfl⟩)
      | (go_at_call 41; refine (S2.out _ _ _).mono ?_; rintro e w' ⟨rfl, m, hb, rfl⟩; clear hb))
    go_ret
    exact ⟨ret_bool HZ.out.symm, by first | exact BX.out _ _ | exact below_drewN (BX.out _ _) _⟩
  cases ed : (d1.toList == d2.toList)
  · have HZ : Hid (r = false) := Lib.hid (by rw [HR.out, ek, en, ei, ed]; simp)
    clear HR
    go_enter Tryz.func39, Tryz.ntmps39
    go_wp2_with (first
      | (go_at_call 85; refine (S1.out _ _).mono ?_; rintro e w' ⟨rfl, m, rfl⟩)
      | (go_at_call 41; refine (S2.out _ _ _).mono ?_; rintro e w' ⟨rfl, m, hb, rfl⟩; clear hb))
    go_ret
    exact ⟨ret_bool HZ.out.symm, by first | exact BX.out _ _ | exact below_drewN (BX.out _ _) _⟩
  cases sa
  · have HZ : Hid (r = false) := Lib.hid (by rw [HR.out, ek, en, ei, ed]; simp)
    clear HR
    go_enter Tryz.func39, Tryz.ntmps39
    go_wp2_with (first
      | (go_at_call 85; refine (S1.out _ _).mono ?_; rintro e w' ⟨rfl, m, rfl⟩)
      | (go_at_call 41; refine (S2.out _ _ _).mono ?_; rintro e w' ⟨rfl, m, hb, rfl⟩; clear hb))
    go_ret
    exact ⟨ret_bool HZ.out.symm, by first | exact BX.out _ _ | exact below_drewN (BX.out _ _) _⟩
  cases ep : (p1 == p2)
  · have HZ : Hid (r = false) := Lib.hid (by rw [HR.out, ek, en, ei, ed, ep]; simp)
    clear HR
    go_enter Tryz.func39, Tryz.ntmps39
    go_wp2_with (first
      | (go_at_call 85; refine (S1.out _ _).mono ?_; rintro e w' ⟨rfl, m, rfl⟩)
      | (go_at_call 41; refine (S2.out _ _ _).mono ?_; rintro e w' ⟨rfl, m, hb, rfl⟩; clear hb))
    go_ret
    exact ⟨ret_bool HZ.out.symm, by first | exact BX.out _ _ | exact below_drewN (BX.out _ _) _⟩
  cases sk
  · have HZ : Hid (r = false) := Lib.hid (by rw [HR.out, ek, en, ei, ed, ep]; simp)
    clear HR
    go_enter Tryz.func39, Tryz.ntmps39
    go_wp2_with (first
      | (go_at_call 85; refine (S1.out _ _).mono ?_; rintro e w' ⟨rfl, m, rfl⟩)
      | (go_at_call 41; refine (S2.out _ _ _).mono ?_; rintro e w' ⟨rfl, m, hb, rfl⟩; clear hb))
    go_ret
    exact ⟨ret_bool HZ.out.symm, by first | exact BX.out _ _ | exact below_drewN (BX.out _ _) _⟩
  cases eh : (h1 == h2)
  · have HZ : Hid (r = false) := Lib.hid (by rw [HR.out, ek, en, ei, ed, ep, eh]; simp)
    clear HR
    go_enter Tryz.func39, Tryz.ntmps39
    go_wp2_with (first
      | (go_at_call 85; refine (S1.out _ _).mono ?_; rintro e w' ⟨rfl, m, rfl⟩)
      | (go_at_call 41; refine (S2.out _ _ _).mono ?_; rintro e w' ⟨rfl, m, hb, rfl⟩; clear hb))
    go_ret
    exact ⟨ret_bool HZ.out.symm, by first | exact BX.out _ _ | exact below_drewN (BX.out _ _) _⟩
  cases eu : (u1 == u2)
  · have HZ : Hid (r = false) := Lib.hid (by rw [HR.out, ek, en, ei, ed, ep, eh, eu]; simp)
    clear HR
    go_enter Tryz.func39, Tryz.ntmps39
    go_wp2_with (first
      | (go_at_call 85; refine (S1.out _ _).mono ?_; rintro e w' ⟨rfl, m, rfl⟩)
      | (go_at_call 41; refine (S2.out _ _ _).mono ?_; rintro e w' ⟨rfl, m, hb, rfl⟩; clear hb))
    go_ret
    exact ⟨ret_bool HZ.out.symm, by first | exact BX.out _ _ | exact below_drewN (BX.out _ _) _⟩
  cases eo : (o1 == o2)
  · have HZ : Hid (r = false) := Lib.hid (by rw [HR.out, ek, en, ei, ed, ep, eh, eu, eo]; simp)
    clear HR
    go_enter Tryz.func39, Tryz.ntmps39
    go_wp2_with (first
      | (go_at_call 85; refine (S1.out _ _).mono ?_; rintro e w' ⟨rfl, m, rfl⟩)
      | (go_at_call 41; refine (S2.out _ _ _).mono ?_; rintro e w' ⟨rfl, m, hb, rfl⟩; clear hb))
    go_ret
    exact ⟨ret_bool HZ.out.symm, by first | exact BX.out _ _ | exact below_drewN (BX.out _ _) _⟩
  have HZ : Hid (r = true) := Lib.hid (by rw [HR.out, ek, en, ei, ed, ep, eh, eu, eo]; rfl)
  clear HR
  go_enter Tryz.func39, Tryz.ntmps39
  go_wp2_with (first
    | (go_at_call 85; refine (S1.out _ _).mono ?_; rintro e w' ⟨rfl, m, rfl⟩)
    | (go_at_call 41; refine (S2.out _ _ _).mono ?_; rintro e w' ⟨rfl, m, hb, rfl⟩; clear hb))
  go_ret
  exact ⟨ret_bool HZ.out.symm, by first | exact BX.out _ _ | exact below_drewN (BX.out _ _) _⟩
end Go.Proofs.YtclledmgiliggaaGreatDoor
namespace Go.Proofs.YtclledmgiliggaaGreatDoor
open Go.RowKit
theorem Box.next {w : World} {B : Obj} {a : Option Addr} {len cap : Nat} {m : Int} {L : List NodeD} (h : NodeRow w a len cap L) : Box w ((w.alloc B).alloc (forB a len cap m)) (w.heap.size + 1) a len cap m L (coreL L) := by
  have hs : (w.alloc B).heap.size = w.heap.size + 1 := by simp
  have h1 := Box.start (w := w.alloc B) (m := m) (h.below (below_box w B))
  refine ⟨h1.row, rfl, by omega, by simp, ?_, ?_, (below_box w B).alloc (by simp) _⟩
  · have := h1.c0
    rwa [hs] at this
  · have := h1.c1
    rwa [hs] at this
set_option maxHeartbeats 8000000 in
set_option maxRecDepth 100000 in
theorem refsameF_any (a b : Option Addr) (la ca lb cb : Nat) (m n : Int) (L M : List NodeD) (w : World) (hL : NodeRow w a la ca L) (hM : NodeRow w b lb cb M) :
    Calls Tryz.prog 23 #[forV a la ca m, forV b lb cb n] w fun e w' => e = .returned (.bool (decide (m = n) && decide (coreL L = coreL M))) ∧ Below w.heap.size w w' := by
  have BA := Lib.hid ((Box.start (m := m) hL).keep (below_box _ (forB b lb cb n)))
  have BB := Lib.hid (Box.next (B := forB a la ca m) (m := n) hM)
  have hla := hL.len64
  have hlb := hM.len64
  have HLL := Lib.hid hL.hlen
  have HML := Lib.hid hM.hlen
  clear hL hM
  have z0 := BA.out.c0
  have z1 := BA.out.c1
  have y0 := BB.out.c0
  have y1 := BB.out.c1
  by_cases hm : m = n
  rotate_left
  · rw [decide_eq_false hm]
    have e1 : (m != n) = true := bne_iff_ne.2 hm
    have e2 : (m == n) = false := beq_eq_false_iff_ne.2 hm
    go_enter Tryz.func23, Tryz.ntmps23
    go_wp2
    go_ret
    exact ⟨rfl, BA.out.below⟩
  subst hm
  have R0 : ∀ X : Bool, (decide (m = m) && X) = X := fun X => by rw [decide_eq_true rfl, Bool.true_and]
  rw [R0]
  clear R0
  have e1 : (m != m) = false := by simp
  by_cases hn : (la : Int) = lb
  rotate_left
  · have HR : Hid (decide (coreL L = coreL M) = false) := Lib.hid (decide_eq_false (fun e => hn (by
      have := congrArg List.length e
      unfold coreL at this
      rw [List.length_map, List.length_map, HLL.out, HML.out] at this
      rw [this])))
    have e2 : ((la : Int) != lb) = true := bne_iff_ne.2 hn
    have e3 : ((la : Int) == lb) = false := beq_eq_false_iff_ne.2 hn
    go_enter Tryz.func23, Tryz.ntmps23
    go_wp2
    go_ret
    exact ⟨ret_bool HR.out.symm, BA.out.below⟩
  obtain rfl : la = lb := Int.ofNat.inj hn
  clear hn
  have e2 : ((la : Int) != la) = false := by simp
  have GO : Hid (∀ W x y, NodeOk W x → NodeOk W y → Calls Tryz.prog 39 #[nodV x, nodV y] W fun e w' => e = .returned (.bool (decide (x.core = y.core))) ∧ Below W.heap.size W w') := Lib.hid (fun W x y h1 h2 => refone_any x y W h1 h2)
  go_enter Tryz.func23, Tryz.ntmps23
  go_wp2
  go_loopw [5] (fun i wr => ∃ k : Nat, k ≤ la ∧ i = .int .i64 k ∧ Hid (Box w wr w.heap.size a la ca m L (coreL L)) ∧ Hid (Box w wr (w.heap.size + 1) b la cb m M (coreL M)) ∧ Hid ((coreL L).take k = (coreL M).take k)) (fun i _ => la - (intOf i).toNat)
  case atStart => exact ⟨0, Nat.zero_le _, rfl, BA, BB, Lib.hid rfl⟩
  case round =>
    clear BA BB z0 z1 y0 y1
    obtain ⟨k, hk, rfl, BA, BB, HT⟩ := hrel
    have z0 := BA.out.c0
    have z1 := BA.out.c1
    have y0 := BB.out.c0
    have y1 := BB.out.c1
    by_cases hlt : k < la
    · obtain ⟨ba, oa, nx, rfl, hba, hgx, hatx, hokx⟩ := BA.out.row.get hlt
      obtain ⟨bb, ob, ny, rfl, hbb, hgy, haty, hoky⟩ := BB.out.row.get hlt
      have GX := Lib.hid hgx
      have GY := Lib.hid hgy
      have OX := Lib.hid hokx
      have OY := Lib.hid hoky
      obtain ⟨x0, x1, x2, x3, x4, x5, x6, x7, x8, x9⟩ := hatx
      obtain ⟨v0, v1, v2, v3, v4, v5, v6, v7, v8, v9⟩ := haty
      clear hgx hgy hokx hoky
      have E0 := Ext.cell z0 BA.out.lt
      have E1 := Ext.cell y0 BB.out.lt
      have EX0 := Ext.cell x0 hba
      have EY0 := Ext.cell v0 hbb
      have EX1 := Ext.cell x1 hba
      have EY1 := Ext.cell v1 hbb
      have EX2 := Ext.cell x2 hba
      have EY2 := Ext.cell v2 hbb
      have EX3 := Ext.cell x3 hba
      have EY3 := Ext.cell v3 hbb
      have EX4 := Ext.cell x4 hba
      have EY4 := Ext.cell v4 hbb
      have EX5 := Ext.cell x5 hba
      have EY5 := Ext.cell v5 hbb
      have EX6 := Ext.cell x6 hba
      have EY6 := Ext.cell v6 hbb
      have EX7 := Ext.cell x7 hba
      have EY7 := Ext.cell v7 hbb
      have EX8 := Ext.cell x8 hba
      have EY8 := Ext.cell v8 hbb
      have EX9 := Ext.cell x9 hba
      have EY9 := Ext.cell v9 hbb
      clear x0 x1 x2 x3 x4 x5 x6 x7 x8 x9 v0 v1 v2 v3 v4 v5 v6 v7 v8 v9
      have NX : Hid ((coreL L)[k]? = some nx.core) := Lib.hid (by unfold coreL; rw [List.getElem?_map, GX.out]; rfl)
      have NY : Hid ((coreL M)[k]? = some ny.core) := Lib.hid (by unfold coreL; rw [List.getElem?_map, GY.out]; rfl)
      cases hc : decide (nx.core = ny.core) with
      | false =>
        have EO : Hid (∀ x : Ext wr, Calls Tryz.prog 39 #[nodV nx, nodV ny] x.v fun e w' => e = .returned (.bool false) ∧ Below x.v.heap.size x.v w') := Lib.hid (fun x => by
          have := GO.out x.v nx ny (OX.out.below x.below) (OY.out.below x.below)
          rwa [hc] at this)
        have HR : Hid (decide (coreL L = coreL M) = false) := Lib.hid (decide_eq_false (fun e => by
          have h1 := NX.out
          rw [e, NY.out] at h1
          injection h1 with h1
          exact of_decide_eq_false hc h1.symm))
        clear hc
        go_wp2
        refine wp_region_ext (by kernel_rfl) (by kernel_rfl) ?_
        repeat (go_big_quiet_step ((go_at_call 39; exact Ext.call_below (EO.out _))))
        refine wpQuiet_nil ?_
        intro w' hw'
        obtain ⟨⟨w2, hb2⟩, hw''⟩ := hw'
        dsimp only at hw''
        subst hw''
        have BA := Lib.hid (BA.out.keep hb2)
        clear E0 E1
        go_wp2
        go_ret
        exact ⟨ret_bool HR.out.symm, BA.out.below⟩
      | true =>
        have EO : Hid (∀ x : Ext wr, Calls Tryz.prog 39 #[nodV nx, nodV ny] x.v fun e w' => e = .returned (.bool true) ∧ Below x.v.heap.size x.v w') := Lib.hid (fun x => by
          have := GO.out x.v nx ny (OX.out.below x.below) (OY.out.below x.below)
          rwa [hc] at this)
        have HT2 : Hid ((coreL L).take (k + 1) = (coreL M).take (k + 1)) := Lib.hid (by
          rw [List.take_add_one, List.take_add_one, HT.out, NX.out, NY.out, of_decide_eq_true hc])
        clear hc
        go_wp2
        refine wp_region_ext (by kernel_rfl) (by kernel_rfl) ?_
        repeat (go_big_quiet_step ((go_at_call 39; exact Ext.call_below (EO.out _))))
        refine wpQuiet_nil ?_
        intro w' hw'
        obtain ⟨⟨w2, hb2⟩, hw''⟩ := hw'
        dsimp only at hw''
        subst hw''
        have BA := Lib.hid (BA.out.keep hb2)
        have BB := Lib.hid (BB.out.keep hb2)
        clear E0 E1
        go_wp2
        go_roundw
        case rel => exact ⟨k + 1, hlt, by go_num, BA, BB, HT2⟩
        case measure => simp [intOf]; omega
    · have HR : Hid (decide (coreL L = coreL M) = true) := Lib.hid (decide_eq_true (by
        have h1 : (coreL L).length ≤ k := by unfold coreL; rw [List.length_map, HLL.out]; omega
        have h2 : (coreL M).length ≤ k := by unfold coreL; rw [List.length_map, HML.out]; omega
        have h3 := HT.out
        rwa [List.take_of_length_le h1, List.take_of_length_le h2] at h3))
      go_wp2
      go_ret
      exact ⟨ret_bool HR.out.symm, BA.out.below⟩
end Go.Proofs.YtclledmgiliggaaGreatDoor
namespace Go.Proofs.YtclledmgiliggaaGreatDoor
open Go.RowKit
structure NBox (w W : World) (g : Nat) (x : NodeD) : Prop where
  lt : g < W.heap.size
  c0 : W.cell? ⟨g, 0, none⟩ = some (.int .i64 x.core.kind)
  c1 : W.cell? ⟨g, 1, none⟩ = some (.string x.core.name)
  c2 : W.cell? ⟨g, 2, none⟩ = some (.string x.core.is)
  c3 : W.cell? ⟨g, 3, none⟩ = some (.string x.core.data)
  c4 : W.cell? ⟨g, 4, none⟩ = some (.slice x.aA x.aN x.aC)
  c5 : W.cell? ⟨g, 5, none⟩ = some (.int .i64 x.core.parent)
  c6 : W.cell? ⟨g, 6, none⟩ = some (.slice x.kA x.kN x.kC)
  c7 : W.cell? ⟨g, 7, none⟩ = some (.int .i64 x.core.host)
  c8 : W.cell? ⟨g, 8, none⟩ = some (.int .i64 x.core.under)
  c9 : W.cell? ⟨g, 9, none⟩ = some (.int .i64 x.core.doc)
  ok : NodeOk W x
theorem NBox.keep {w W W2 : World} {g : Nat} {x : NodeD} (h : NBox w W g x) (hb : Below W.heap.size W W2) : NBox w W2 g x := by
  have e : ∀ o, W2.cell? ⟨g, o, none⟩ = W.cell? ⟨g, o, none⟩ := fun o => hb.cell (p := ⟨g, o, none⟩) h.lt
  exact ⟨Nat.lt_of_lt_of_le h.lt hb.size, (e _).trans h.c0, (e _).trans h.c1, (e _).trans h.c2, (e _).trans h.c3, (e _).trans h.c4, (e _).trans h.c5, (e _).trans h.c6, (e _).trans h.c7, (e _).trans h.c8, (e _).trans h.c9, h.ok.below hb⟩
abbrev nodB (x : NodeD) : Obj := .cells #[.int .i64 x.core.kind, .string x.core.name, .string x.core.is, .string x.core.data, .slice x.aA x.aN x.aC, .int .i64 x.core.parent, .slice x.kA x.kN x.kC, .int .i64 x.core.host, .int .i64 x.core.under, .int .i64 x.core.doc] 46
theorem NBox.next {w : World} {B : Obj} {x : NodeD} (h : NodeOk w x) : NBox w ((w.alloc B).alloc (nodB x)) (w.heap.size + 1) x := by
  have hs : (w.alloc B).heap.size = w.heap.size + 1 := by simp
  have c : ∀ (j : Nat), ((w.alloc B).alloc (nodB x)).cell? ⟨w.heap.size + 1, j, none⟩ = (#[.int .i64 x.core.kind, .string x.core.name, .string x.core.is, .string x.core.data, .slice x.aA x.aN x.aC, .int .i64 x.core.parent, .slice x.kA x.kN x.kC, .int .i64 x.core.host, .int .i64 x.core.under, .int .i64 x.core.doc] : Array Value)[j]? := fun j => by
    have := cell_of_row ((w.alloc B).alloc (nodB x)) (w.alloc B).heap.size j _ 46 (0, 0) (heap_alloc_new _ _)
    rwa [hs] at this
  exact ⟨by simp, c 0, c 1, c 2, c 3, c 4, c 5, c 6, c 7, c 8, c 9, h.below ((below_box w B).alloc (by simp) _)⟩
end Go.Proofs.YtclledmgiliggaaGreatDoor
namespace Go.Proofs.YtclledmgiliggaaGreatDoor
theorem nodup_lt : ∀ (n : Nat) (l : List Nat), l.Nodup → (∀ x ∈ l, x < n) → l.length ≤ n
  | 0, l, _, h => by
    cases l with
    | nil => exact Nat.le_refl _
    | cons a r => exact absurd (h a (by simp)) (by omega)
  | n + 1, l, hn, h => by
    have h1 := nodup_lt n (l.filter (fun x => decide (x ≠ n))) (hn.filter _) (fun x hx => by
      have := List.mem_filter.1 hx
      have h2 := h x this.1
      have h3 := of_decide_eq_true this.2
      omega)
    have h2 : l.countP (fun x => decide (x ≠ n)) + l.countP (fun x => ! decide (x ≠ n)) = l.length := by
      have := List.length_eq_countP_add_countP (fun x => decide (x ≠ n)) (l := l)
      rw [this]
      congr 1
      refine List.countP_congr fun x _ => ?_
      simp
    have h3 : l.countP (fun x => ! decide (x ≠ n)) ≤ 1 := by
      have h4 : l.countP (fun x => ! decide (x ≠ n)) = l.count n := by
        unfold List.count
        refine List.countP_congr fun x _ => ?_
        simp
      rw [h4]
      exact List.nodup_iff_count.1 hn n
    rw [← List.countP_eq_length_filter] at h1
    omega
section
variable {nxt : Int → Int}
def exZ (nxt : Int → Int) (r : Nat) (i : Int) : Prop := endsZ nxt r i = true ∧ ∀ s, s < r → endsZ nxt s i = false
theorem exZ_of : ∀ (m : Nat) (i : Int), endsZ nxt m i = true → ∃ r, r ≤ m ∧ exZ nxt r i
  | m, i, h => by
    by_cases hs : ∃ s, s < m ∧ endsZ nxt s i = true
    · obtain ⟨s, hs, he⟩ := hs
      obtain ⟨r, hr, hx⟩ := exZ_of s i he
      exact ⟨r, by omega, hx⟩
    · exact ⟨m, Nat.le_refl _, h, fun s hl => by
        cases hq : endsZ nxt s i with
        | false => rfl
        | true => exact absurd ⟨s, hl, hq⟩ hs⟩
termination_by m => m
theorem exZ_one {r s : Nat} {i : Int} (h1 : exZ nxt r i) (h2 : exZ nxt s i) : r = s := by
  rcases Nat.lt_trichotomy r s with h | h | h
  · have := h2.2 r h
    rw [h1.1] at this
    cases this
  · exact h
  · have := h1.2 s h
    rw [h2.1] at this
    cases this
def chainZ (nxt : Int → Int) : Nat → Int → List Int
  | 0, _ => []
  | s + 1, i => i :: chainZ nxt s (nxt i)
theorem exZ_next {r : Nat} {i : Int} (h : exZ nxt (r + 1) i) : i ≠ -1 ∧ exZ nxt r (nxt i) := by
  have h0 := h.2 0 (by omega)
  have hi : i ≠ -1 := fun e => by
    rw [e] at h0
    cases h0
  refine ⟨hi, by rw [← endsZ_step hi]; exact h.1, fun s hs => ?_⟩
  rw [← endsZ_step hi]
  exact h.2 (s + 1) (by omega)
theorem chain_facts {n : Nat} (hr : ∀ i : Int, 0 ≤ i → i < n → nxt i = -1 ∨ (0 ≤ nxt i ∧ nxt i < n)) :
    ∀ (r : Nat) (i : Int), exZ nxt r i → (i = -1 ∨ (0 ≤ i ∧ i < (n : Int))) → (chainZ nxt r i).length = r ∧ (chainZ nxt r i).Nodup ∧ ∀ y ∈ chainZ nxt r i, (0 ≤ y ∧ y < (n : Int)) ∧ ∃ s, 0 < s ∧ s ≤ r ∧ exZ nxt s y
  | 0, i, _, _ => ⟨rfl, List.nodup_nil, fun y hy => by cases hy⟩
  | r + 1, i, h, hi => by
    obtain ⟨hne, hx⟩ := exZ_next h
    have hi2 : 0 ≤ i ∧ i < (n : Int) := by
      rcases hi with h | h
      · exact absurd h hne
      · exact h
    obtain ⟨h1, h2, h3⟩ := chain_facts hr r (nxt i) hx (hr i hi2.1 hi2.2)
    refine ⟨by unfold chainZ; rw [List.length_cons, h1], ?_, fun y hy => ?_⟩
    · unfold chainZ
      rw [List.nodup_cons]
      refine ⟨fun hm => ?_, h2⟩
      obtain ⟨_, s, _, hs2, hs3⟩ := h3 i hm
      have := exZ_one h hs3
      omega
    · unfold chainZ at hy
      rcases List.mem_cons.1 hy with rfl | hy
      · exact ⟨hi2, r + 1, by omega, Nat.le_refl _, h⟩
      · obtain ⟨h4, s, h5, h6, h7⟩ := h3 y hy
        exact ⟨h4, s, h5, by omega, h7⟩
theorem endsZ_le {r n : Nat} (h : r ≤ n) {i : Int} (he : endsZ nxt r i = true) : endsZ nxt n i = true := by
  obtain ⟨d, rfl⟩ : ∃ d, n = r + d := ⟨n - r, by omega⟩
  clear h
  induction d with
  | zero => exact he
  | succ d ih => exact endsZ_more _ _ ih
theorem ends_small {n : Nat} (hr : ∀ i : Int, 0 ≤ i → i < n → nxt i = -1 ∨ (0 ≤ nxt i ∧ nxt i < n)) {m : Nat} {i : Int} (hi : i = -1 ∨ (0 ≤ i ∧ i < (n : Int))) (h : endsZ nxt m i = true) : endsZ nxt n i = true := by
  obtain ⟨r, _, hx⟩ := exZ_of m i h
  obtain ⟨h1, h2, h3⟩ := chain_facts hr r i hx hi
  have h4 : ((chainZ nxt r i).map Int.toNat).Nodup := by
    have key : ∀ l : List Int, l.Nodup → (∀ z ∈ l, 0 ≤ z) → (l.map Int.toNat).Nodup := by
      intro l
      induction l with
      | nil => intro _ _; simp
      | cons a r ih =>
        intro hl hp
        rw [List.nodup_cons] at hl
        rw [List.map_cons, List.nodup_cons]
        refine ⟨fun hm => ?_, ih hl.2 (fun z hz => hp z (by simp [hz]))⟩
        obtain ⟨z, hz, e⟩ := List.mem_map.1 hm
        have h1 := hp a (by simp)
        have h2 := hp z (by simp [hz])
        have : z = a := by omega
        exact hl.1 (this ▸ hz)
    exact key _ h2 (fun z hz => (h3 z hz).1.1)
  have h5 := nodup_lt n _ h4 (fun y hy => by
    obtain ⟨z, hz, rfl⟩ := List.mem_map.1 hy
    have := (h3 z hz).1
    omega)
  rw [List.length_map, h1] at h5
  exact endsZ_le h5 hx.1
end
end Go.Proofs.YtclledmgiliggaaGreatDoor
