/- Texts joined in build order: ForestHoldsMath ForestHolds ForestSameF ForestNBox NameBytes NameText NameSmall NameFit NameWords NameKinds AttrStand AttrPlaces AttrRightFn ForestFit1 ForestFit2 ForestFit3. -/
import Derived.Test.YtiffhlncnpppoaaGreatDoorM01
import Derived.Test.YtiffhlncnpppoaaGreatDoorChecked
import Derived.WalkKit
import Derived.WalkLawsBesides
import Derived.Lib.Hide
import Derived.Lib.Strings
import Derived.Laws.IdiomStrings
import Derived.Below
import Derived.WideShapes
import Derived.Lib.Slices
import Derived.Lib.Walk
import Derived.Maps.OwnSet
namespace Go.Proofs.YtiffhlncnpppoaaGreatDoor
open Go.RowKit
theorem thereF_of {m : Int} {F : List Core} (h : rightF m F = true) {n : Nat} (hn : n < F.length) : thereF m F (n : Int) = true := by
  unfold thereF
  rw [h, decide_eq_true (by omega), decide_eq_true (by omega)]
  rfl
theorem rootZ_eq {m : Int} {F : List Core} (h : rightF m F = true) {a : Nat} (ha : a < F.length) : rootZ m F (a : Int) = (rootF F a : Nat) := by
  unfold rootZ
  rw [thereF_of h ha]
  rfl
theorem right_len {m : Int} {F : List Core} (h : rightF m F = true) : 0 < F.length := by
  have := ((rightF_iff m F).1 h).1.2.2.2
  cases F with
  | nil => unfold headDoc at this; cases this
  | cons _ _ => simp
theorem right_most {m : Int} {F : List Core} (h : rightF m F = true) : 1 ≤ m ∧ m ≤ 400 ∧ (F.length : Int) ≤ m := by
  have := ((rightF_iff m F).1 h).1
  exact ⟨this.1, this.2.1, this.2.2.1⟩
theorem find_at {L : List Int} {n : Int} (h : n ∈ L) : ∃ k : Nat, findZ L n = (k : Int) ∧ L[k]? = some n := by
  have hl : findN L n < L.length := List.findIdx_lt_length_of_exists ⟨n, h, by simp⟩
  refine ⟨findN L n, ?_, ?_⟩
  · unfold findZ
    rw [if_pos hl]
  · have := List.findIdx_getElem (w := hl)
    rw [List.getElem?_eq_getElem hl]
    congr 1
    exact beq_iff_eq.1 this
end Go.Proofs.YtiffhlncnpppoaaGreatDoor
namespace Go.Proofs.YtiffhlncnpppoaaGreatDoor
open Go.RowKit
theorem Box.start {w : World} {a : Option Addr} {len cap : Nat} {m : Int} {L : List NodeD} (h : NodeRow w a len cap L) : Box w (w.alloc (forB a len cap m)) w.heap.size a len cap m L (coreL L) :=
  ⟨h.below (below_box _ _), rfl, Nat.le_refl _, by simp, cell_of_row (w.alloc (forB a len cap m)) w.heap.size 0 _ 24 (0, 0) (heap_alloc_new w _), cell_of_row (w.alloc (forB a len cap m)) w.heap.size 1 _ 24 (0, 0) (heap_alloc_new w _), below_box _ _⟩
end Go.Proofs.YtiffhlncnpppoaaGreatDoor
namespace Go.Proofs.YtiffhlncnpppoaaGreatDoor
open Go.RowKit
theorem Box.next {w : World} {B : Obj} {a : Option Addr} {len cap : Nat} {m : Int} {L : List NodeD} (h : NodeRow w a len cap L) : Box w ((w.alloc B).alloc (forB a len cap m)) (w.heap.size + 1) a len cap m L (coreL L) := by
  have hs : (w.alloc B).heap.size = w.heap.size + 1 := by simp
  have h1 := Box.start (w := w.alloc B) (m := m) (h.below (below_box w B))
  refine ⟨h1.row, rfl, by omega, by simp, ?_, ?_, (below_box w B).alloc (by simp) _⟩
  · have := h1.c0
    rwa [hs] at this
  · have := h1.c1
    rwa [hs] at this
set_option maxHeartbeats 8000000 in
set_option maxRecDepth 100000 in
theorem refsameF_any (a b : Option Addr) (la ca lb cb : Nat) (m n : Int) (L M : List NodeD) (w : World) (hL : NodeRow w a la ca L) (hM : NodeRow w b lb cb M) :
    Calls Tryz.prog 31 #[forV a la ca m, forV b lb cb n] w fun e w' => e = .returned (.bool (decide (m = n) && decide (coreL L = coreL M))) ∧ Below w.heap.size w w' := by
  have BA := Lib.hid ((Box.start (m := m) hL).keep (below_box _ (forB b lb cb n)))
  have BB := Lib.hid (Box.next (B := forB a la ca m) (m := n) hM)
  have hla := hL.len64
  have hlb := hM.len64
  have HLL := Lib.hid hL.hlen
  have HML := Lib.hid hM.hlen
  clear hL hM
  have z0 := BA.out.c0
  have z1 := BA.out.c1
  have y0 := BB.out.c0
  have y1 := BB.out.c1
  by_cases hm : m = n
  rotate_left
  · rw [decide_eq_false hm]
    have e1 : (m != n) = true := bne_iff_ne.2 hm
    have e2 : (m == n) = false := beq_eq_false_iff_ne.2 hm
    go_enter Tryz.func31, Tryz.ntmps31
    go_wp2
    go_ret
    exact ⟨rfl, BA.out.below⟩
  subst hm
  have R0 : ∀ X : Bool, (decide (m = m) && X) = X := fun X => by rw [decide_eq_true rfl, Bool.true_and]
  rw [R0]
  clear R0
  have e1 : (m != m) = false := by simp
  by_cases hn : (la : Int) = lb
  rotate_left
  · have HR : Hid (decide (coreL L = coreL M) = false) := Lib.hid (decide_eq_false (fun e => hn (by
      have := congrArg List.length e
      unfold coreL at this
      rw [List.length_map, List.length_map, HLL.out, HML.out] at this
      rw [this])))
    have e2 : ((la : Int) != lb) = true := bne_iff_ne.2 hn
    have e3 : ((la : Int) == lb) = false := beq_eq_false_iff_ne.2 hn
    go_enter Tryz.func31, Tryz.ntmps31
    go_wp2
    go_ret
    exact ⟨ret_bool HR.out.symm, BA.out.below⟩
  obtain rfl : la = lb := Int.ofNat.inj hn
  clear hn
  have e2 : ((la : Int) != la) = false := by simp
  have GO : Hid (∀ W x y, NodeOk W x → NodeOk W y → Calls Tryz.prog 53 #[nodV x, nodV y] W fun e w' => e = .returned (.bool (decide (x.core = y.core))) ∧ Below W.heap.size W w') := Lib.hid (fun W x y h1 h2 => refone_any x y W h1 h2)
  go_enter Tryz.func31, Tryz.ntmps31
  go_wp2
  go_loopw [5] (fun i wr => ∃ k : Nat, k ≤ la ∧ i = .int .i64 k ∧ Hid (Box w wr w.heap.size a la ca m L (coreL L)) ∧ Hid (Box w wr (w.heap.size + 1) b la cb m M (coreL M)) ∧ Hid ((coreL L).take k = (coreL M).take k)) (fun i _ => la - (intOf i).toNat)
  case atStart => exact ⟨0, Nat.zero_le _, rfl, BA, BB, Lib.hid rfl⟩
  case round =>
    clear BA BB z0 z1 y0 y1
    obtain ⟨k, hk, rfl, BA, BB, HT⟩ := hrel
    have z0 := BA.out.c0
    have z1 := BA.out.c1
    have y0 := BB.out.c0
    have y1 := BB.out.c1
    by_cases hlt : k < la
    · obtain ⟨ba, oa, nx, rfl, hba, hgx, hatx, hokx⟩ := BA.out.row.get hlt
      obtain ⟨bb, ob, ny, rfl, hbb, hgy, haty, hoky⟩ := BB.out.row.get hlt
      have GX := Lib.hid hgx
      have GY := Lib.hid hgy
      have OX := Lib.hid hokx
      have OY := Lib.hid hoky
      obtain ⟨x0, x1, x2, x3, x4, x5, x6, x7, x8, x9⟩ := hatx
      obtain ⟨v0, v1, v2, v3, v4, v5, v6, v7, v8, v9⟩ := haty
      clear hgx hgy hokx hoky
      have E0 := Ext.cell z0 BA.out.lt
      have E1 := Ext.cell y0 BB.out.lt
      have EX0 := Ext.cell x0 hba
      have EY0 := Ext.cell v0 hbb
      have EX1 := Ext.cell x1 hba
      have EY1 := Ext.cell v1 hbb
      have EX2 := Ext.cell x2 hba
      have EY2 := Ext.cell v2 hbb
      have EX3 := Ext.cell x3 hba
      have EY3 := Ext.cell v3 hbb
      have EX4 := Ext.cell x4 hba
      have EY4 := Ext.cell v4 hbb
      have EX5 := Ext.cell x5 hba
      have EY5 := Ext.cell v5 hbb
      have EX6 := Ext.cell x6 hba
      have EY6 := Ext.cell v6 hbb
      have EX7 := Ext.cell x7 hba
      have EY7 := Ext.cell v7 hbb
      have EX8 := Ext.cell x8 hba
      have EY8 := Ext.cell v8 hbb
      have EX9 := Ext.cell x9 hba
      have EY9 := Ext.cell v9 hbb
      clear x0 x1 x2 x3 x4 x5 x6 x7 x8 x9 v0 v1 v2 v3 v4 v5 v6 v7 v8 v9
      have NX : Hid ((coreL L)[k]? = some nx.core) := Lib.hid (by unfold coreL; rw [List.getElem?_map, GX.out]; rfl)
      have NY : Hid ((coreL M)[k]? = some ny.core) := Lib.hid (by unfold coreL; rw [List.getElem?_map, GY.out]; rfl)
      cases hc : decide (nx.core = ny.core) with
      | false =>
        have EO : Hid (∀ x : Ext wr, Calls Tryz.prog 53 #[nodV nx, nodV ny] x.v fun e w' => e = .returned (.bool false) ∧ Below x.v.heap.size x.v w') := Lib.hid (fun x => by
          have := GO.out x.v nx ny (OX.out.below x.below) (OY.out.below x.below)
          rwa [hc] at this)
        have HR : Hid (decide (coreL L = coreL M) = false) := Lib.hid (decide_eq_false (fun e => by
          have h1 := NX.out
          rw [e, NY.out] at h1
          injection h1 with h1
          exact of_decide_eq_false hc h1.symm))
        clear hc
        go_wp2
        refine wp_region_ext (by kernel_rfl) (by kernel_rfl) ?_
        repeat (go_big_quiet_step ((go_at_call 53; exact Ext.call_below (EO.out _))))
        refine wpQuiet_nil ?_
        intro w' hw'
        obtain ⟨⟨w2, hb2⟩, hw''⟩ := hw'
        dsimp only at hw''
        subst hw''
        have BA := Lib.hid (BA.out.keep hb2)
        clear E0 E1
        go_wp2
        go_ret
        exact ⟨ret_bool HR.out.symm, BA.out.below⟩
      | true =>
        have EO : Hid (∀ x : Ext wr, Calls Tryz.prog 53 #[nodV nx, nodV ny] x.v fun e w' => e = .returned (.bool true) ∧ Below x.v.heap.size x.v w') := Lib.hid (fun x => by
          have := GO.out x.v nx ny (OX.out.below x.below) (OY.out.below x.below)
          rwa [hc] at this)
        have HT2 : Hid ((coreL L).take (k + 1) = (coreL M).take (k + 1)) := Lib.hid (by
          rw [List.take_add_one, List.take_add_one, HT.out, NX.out, NY.out, of_decide_eq_true hc])
        clear hc
        go_wp2
        refine wp_region_ext (by kernel_rfl) (by kernel_rfl) ?_
        repeat (go_big_quiet_step ((go_at_call 53; exact Ext.call_below (EO.out _))))
        refine wpQuiet_nil ?_
        intro w' hw'
        obtain ⟨⟨w2, hb2⟩, hw''⟩ := hw'
        dsimp only at hw''
        subst hw''
        have BA := Lib.hid (BA.out.keep hb2)
        have BB := Lib.hid (BB.out.keep hb2)
        clear E0 E1
        go_wp2
        go_roundw
        case rel => exact ⟨k + 1, hlt, by go_num, BA, BB, HT2⟩
        case measure => simp [intOf]; omega
    · have HR : Hid (decide (coreL L = coreL M) = true) := Lib.hid (decide_eq_true (by
        have h1 : (coreL L).length ≤ k := by unfold coreL; rw [List.length_map, HLL.out]; omega
        have h2 : (coreL M).length ≤ k := by unfold coreL; rw [List.length_map, HML.out]; omega
        have h3 := HT.out
        rwa [List.take_of_length_le h1, List.take_of_length_le h2] at h3))
      go_wp2
      go_ret
      exact ⟨ret_bool HR.out.symm, BA.out.below⟩
end Go.Proofs.YtiffhlncnpppoaaGreatDoor
namespace Go.Proofs.YtiffhlncnpppoaaGreatDoor
open Go.RowKit
structure NBox (w W : World) (g : Nat) (x : NodeD) : Prop where
  lt : g < W.heap.size
  c0 : W.cell? ⟨g, 0, none⟩ = some (.int .i64 x.core.kind)
  c1 : W.cell? ⟨g, 1, none⟩ = some (.string x.core.name)
  c2 : W.cell? ⟨g, 2, none⟩ = some (.string x.core.is)
  c3 : W.cell? ⟨g, 3, none⟩ = some (.string x.core.data)
  c4 : W.cell? ⟨g, 4, none⟩ = some (.slice x.aA x.aN x.aC)
  c5 : W.cell? ⟨g, 5, none⟩ = some (.int .i64 x.core.parent)
  c6 : W.cell? ⟨g, 6, none⟩ = some (.slice x.kA x.kN x.kC)
  c7 : W.cell? ⟨g, 7, none⟩ = some (.int .i64 x.core.host)
  c8 : W.cell? ⟨g, 8, none⟩ = some (.int .i64 x.core.under)
  c9 : W.cell? ⟨g, 9, none⟩ = some (.int .i64 x.core.doc)
  ok : NodeOk W x
theorem NBox.keep {w W W2 : World} {g : Nat} {x : NodeD} (h : NBox w W g x) (hb : Below W.heap.size W W2) : NBox w W2 g x := by
  have e : ∀ o, W2.cell? ⟨g, o, none⟩ = W.cell? ⟨g, o, none⟩ := fun o => hb.cell (p := ⟨g, o, none⟩) h.lt
  exact ⟨Nat.lt_of_lt_of_le h.lt hb.size, (e _).trans h.c0, (e _).trans h.c1, (e _).trans h.c2, (e _).trans h.c3, (e _).trans h.c4, (e _).trans h.c5, (e _).trans h.c6, (e _).trans h.c7, (e _).trans h.c8, (e _).trans h.c9, h.ok.below hb⟩
abbrev nodB (x : NodeD) : Obj := .cells #[.int .i64 x.core.kind, .string x.core.name, .string x.core.is, .string x.core.data, .slice x.aA x.aN x.aC, .int .i64 x.core.parent, .slice x.kA x.kN x.kC, .int .i64 x.core.host, .int .i64 x.core.under, .int .i64 x.core.doc] 53
theorem NBox.next {w : World} {B : Obj} {x : NodeD} (h : NodeOk w x) : NBox w ((w.alloc B).alloc (nodB x)) (w.heap.size + 1) x := by
  have hs : (w.alloc B).heap.size = w.heap.size + 1 := by simp
  have c : ∀ (j : Nat), ((w.alloc B).alloc (nodB x)).cell? ⟨w.heap.size + 1, j, none⟩ = (#[.int .i64 x.core.kind, .string x.core.name, .string x.core.is, .string x.core.data, .slice x.aA x.aN x.aC, .int .i64 x.core.parent, .slice x.kA x.kN x.kC, .int .i64 x.core.host, .int .i64 x.core.under, .int .i64 x.core.doc] : Array Value)[j]? := fun j => by
    have := cell_of_row ((w.alloc B).alloc (nodB x)) (w.alloc B).heap.size j _ 53 (0, 0) (heap_alloc_new _ _)
    rwa [hs] at this
  exact ⟨by simp, c 0, c 1, c 2, c 3, c 4, c 5, c 6, c 7, c 8, c 9, h.below ((below_box w B).alloc (by simp) _)⟩
end Go.Proofs.YtiffhlncnpppoaaGreatDoor
namespace Go.Proofs.YtiffhlncnpppoaaGreatDoor
open Go.RowKit
theorem isSmall_any (n : Int) (w : World) : Calls Tryz.prog 174 #[.int .u8 n] w fun e w' => e = .returned (.bool (lowI n)) ∧ w = w' := by
  go_enter Tryz.func174, Tryz.ntmps174
  go_wp2
  all_goals (go_ret; exact ⟨ret_bool (by unfold lowI; rw [Bool.eq_iff_iff]; simp <;> omega), rfl⟩)
theorem isCapital_any (n : Int) (w : World) : Calls Tryz.prog 159 #[.int .u8 n] w fun e w' => e = .returned (.bool (capI n)) ∧ w = w' := by
  go_enter Tryz.func159, Tryz.ntmps159
  go_wp2
  all_goals (go_ret; exact ⟨ret_bool (by unfold capI; rw [Bool.eq_iff_iff]; simp <;> omega), rfl⟩)
theorem isSign_any (n : Int) (w : World) : Calls Tryz.prog 161 #[.int .u8 n] w fun e w' => e = .returned (.bool (signI n)) ∧ w = w' := by
  go_enter Tryz.func161, Tryz.ntmps161
  go_wp2
  all_goals (go_ret; exact ⟨ret_bool (by unfold signI alphI lowI capI digI; rw [Bool.eq_iff_iff]; simp <;> omega), rfl⟩)
theorem mayBegin_any (n : Int) (w : World) : Calls Tryz.prog 160 #[.int .u8 n] w fun e w' => e = .returned (.bool (headI n)) ∧ w = w' := by
  go_enter Tryz.func160, Tryz.ntmps160
  go_wp2
  all_goals (go_ret; exact ⟨ret_bool (by unfold headI alphI lowI capI; rw [Bool.eq_iff_iff]; simp <;> omega), rfl⟩)
end Go.Proofs.YtiffhlncnpppoaaGreatDoor
namespace Go.Proofs.YtiffhlncnpppoaaGreatDoor
open Go.RowKit
set_option maxHeartbeats 1000000 in
theorem right_any (s : ByteArray) (w : World) (hs : s.size ≤ maxLen) :
    Calls Tryz.prog 136 #[.string s] w fun e w' => e = .returned (.bool (rightL s.toList)) ∧ w = w' := by
  unfold maxLen at hs
  have hlen := tl_len s
  by_cases h0 : s.size < 1
  · have H := Lib.hid (rightL_ends s.toList (by omega))
    clear hlen
    go_enter Tryz.func136, Tryz.ntmps136
    go_wp2
    go_ret
    exact ⟨ret_bool H.out.symm, rfl⟩
  by_cases h1 : 40 < s.size
  · have H := Lib.hid (rightL_ends s.toList (by omega))
    clear hlen
    go_enter Tryz.func136, Tryz.ntmps136
    go_wp2
    go_ret
    exact ⟨ret_bool H.out.symm, rfl⟩
  have hp : 0 < s.size := by omega
  have hg0 := tl_get s 0 hp
  by_cases hh : headB (s[0]'hp) = true
  · have HL := Lib.hid hlen
    have HG := Lib.hid hg0
    have hh' : headI ((s[0]'hp).toNat : Int) = true := hh
    have HH := Lib.hid hh
    have HS := Lib.hid (sign_of_head _ hh)
    clear hlen hg0 hh
    go_enter Tryz.func136, Tryz.ntmps136
    go_wp2_with (go_at_call 160; refine (mayBegin_any _ _).mono ?_; rintro e w' ⟨rfl, rfl⟩)
    go_loop [3] (fun i => ∃ k : Nat, 1 ≤ k ∧ k ≤ s.size ∧ i = .int .i64 k ∧ Hid ((s.toList.take k).all signB = true)) (fun i => s.size - (intOf i).toNat)
    case atStart =>
      refine ⟨1, by omega, by omega, rfl, ?_⟩
      have := all_take_succ s.toList 0 _ HG.out rfl
      exact Lib.hid (this.trans HS.out)
    case round =>
      obtain ⟨k, hk1, hk2, rfl, HA⟩ := hrel
      by_cases hlt : k < s.size
      · have HK := Lib.hid (tl_get s k hlt)
        go_wp2_with (go_at_call 161; refine (isSign_any _ _).mono ?_; rintro e w' ⟨rfl, rfl⟩)
        · have hb : signI (s[k].toNat : Int) = false := by first | assumption | (simpa using ‹(!signI (s[k].toNat : Int)) = true›)
          go_ret
          exact ⟨ret_bool (rightL_stop _ k _ HK.out hb).symm, rfl⟩
        · have hb : signI (s[k].toNat : Int) = true := by first | assumption | (simpa using ‹(!signI (s[k].toNat : Int)) = false›)
          go_round
          case rel => exact ⟨k + 1, by omega, by omega, by go_num, Lib.hid ((all_take_succ _ k _ HK.out HA.out).trans hb)⟩
          case measure => simp [intOf]; omega
      · go_wp2
        go_ret
        refine ⟨ret_bool ?_, rfl⟩
        have e : k = s.toList.length := by rw [HL.out]; omega
        have h2 := HA.out
        rw [e] at h2
        exact (rightL_full s.toList _ (by rw [HL.out]; omega) (by rw [HL.out]; omega) HG.out HH.out h2).symm
  · have hh2 : headB (s[0]'hp) = false := by simpa using hh
    have hh' : headI ((s[0]'hp).toNat : Int) = false := hh2
    have HR := Lib.hid (rightL_head _ _ hg0 hh2)
    clear hlen hg0 hh hh2
    go_enter Tryz.func136, Tryz.ntmps136
    go_wp2_with (go_at_call 160; refine (mayBegin_any _ _).mono ?_; rintro e w' ⟨rfl, rfl⟩)
    go_ret
    exact ⟨ret_bool HR.out.symm, rfl⟩
end Go.Proofs.YtiffhlncnpppoaaGreatDoor
namespace Go.Proofs.YtiffhlncnpppoaaGreatDoor
open Go.RowKit
theorem bytes_made (s : ByteArray) (w : World) : ∃ (cap : Nat) (C : Array Value) (mk : Nat × Nat),
    (convert 9 54 (.string s)).run Tryz.prog w = .ok (.slice (some ⟨w.heap.size, 0, none⟩) s.size cap) (w.drew.alloc (.cells C 5 mk)) ∧
    (∀ j (h : j < s.size), (w.alloc (.cells C 5 mk)).cell? ⟨w.heap.size, j, none⟩ = some (.int .u8 (s[j].toNat : Int))) ∧
    ∀ j, j < s.size → (w.alloc (.cells C 5 mk)).frozen? ⟨w.heap.size, j, none⟩ = false := by
  refine ⟨_, _, _, run_bytes_of_string w 9 54 5 s Tryz.underlying9 Tryz.underlying54 Tryz.underlying5, ?_, ?_⟩
  · intro j h
    rw [World.cell?_alloc_mark]
    exact bytesRow_at s _ j h
  · intro j h
    rw [World.frozen?_alloc_mark]
    have : s.size ≤ (bytesRow s (grownCap w s.size 0 5)).size := by
      simp [bytesRow]
    simp
    omega
structure SmallRow (s : ByteArray) (w wr : World) (k : Nat) : Prop where
  cells : ∀ j (h : j < s.size), wr.cell? ⟨w.heap.size, j, none⟩ = some (.int .u8 ((if j < k then smallB s[j] else s[j]).toNat : Int))
  free : ∀ j, j < s.size → wr.frozen? ⟨w.heap.size, j, none⟩ = false
  below : Below w.heap.size w wr
theorem SmallRow.keep {s : ByteArray} {w wr : World} {k : Nat} (h : SmallRow s w wr k) (hk : k < s.size) (hc : capI (s[k].toNat : Int) = false) : SmallRow s w wr (k + 1) := by
  refine ⟨fun j hj => ?_, h.free, h.below⟩
  rw [h.cells j hj]
  by_cases e : j = k
  · subst e
    rw [if_neg (by omega), if_pos (by omega)]
    unfold smallB
    rw [hc]
    rfl
  · by_cases e2 : j < k
    · rw [if_pos e2, if_pos (by omega)]
    · rw [if_neg e2, if_neg (by omega)]
theorem SmallRow.store {s : ByteArray} {w wr : World} {k : Nat} (h : SmallRow s w wr k) (hk : k < s.size) :
    SmallRow s w (wr.setCell ⟨w.heap.size, k, none⟩ (.int .u8 ((smallB s[k]).toNat : Int))) (k + 1) := by
  refine ⟨fun j hj => ?_, fun j hj => ?_, h.below.setCell (Nat.le_refl _) _⟩
  · by_cases e : j = k
    · subst e
      rw [World.cell?_setCell_same _ _ _ (h.cells j hj), if_pos (by omega)]
    · rw [World.cell?_setCell_other _ _ _ _ (by intro h; injection h; omega), h.cells j hj]
      by_cases e2 : j < k
      · rw [if_pos e2, if_pos (by omega)]
      · rw [if_neg e2, if_neg (by omega)]
  · rw [World.frozen?_setCell]
    exact h.free j hj
theorem smallL_len (l : List UInt8) : (smallL l).length = l.length := by simp [smallL]
theorem smallB_cap (c : UInt8) (h : capI (c.toNat : Int) = true) : ((smallB c).toNat : Int) = (c.toNat : Int) + 32 := by
  have hb := of_decide_eq_true h
  unfold smallB
  rw [h]
  simp [UInt8.toNat_add]
  omega
theorem SmallRow.back {s : ByteArray} {w wr : World} {k : Nat} (h : SmallRow s w wr k) (hk : k = s.size) (cap : Nat) :
    (convert 54 9 (.slice (some ⟨w.heap.size, 0, none⟩) s.size cap)).run Tryz.prog wr = .ok (.string (ofL (smallL s.toList))) wr := by
  have hl : (smallL s.toList).length = s.size := by rw [smallL_len, tl_len]
  have := run_convert_bytes_back (P := Tryz.prog) wr 54 9 5 ⟨w.heap.size, 0, none⟩ cap (smallL s.toList) Tryz.underlying54 Tryz.underlying5 Tryz.underlying9 (fun j hj => by
    have hj' : j < s.size := by omega
    have hg := tl_get s j hj'
    have e : (smallL s.toList)[j] = smallB s[j] := by
      have h1 : (smallL s.toList)[j]? = some (smallB s[j]) := by
        unfold smallL
        rw [List.getElem?_map, hg]
        rfl
      exact (List.getElem?_eq_some_iff.1 h1).2
    have hc := h.cells j hj'
    rw [if_pos (by omega)] at hc
    rw [e]
    have ha : (⟨w.heap.size, 0, none⟩ : Addr).add j = ⟨w.heap.size, j, none⟩ := by rw [Go.WideShapes.add_plain, Nat.zero_add]
    rw [ha]
    exact hc)
  rw [hl] at this
  exact this
set_option maxHeartbeats 2000000 in
set_option maxRecDepth 100000 in
theorem small_any (s : ByteArray) (w : World) (hs : s.size ≤ maxLen) :
    Calls Tryz.prog 135 #[.string s] w fun e w' => e = .returned (.string (ofL (smallL s.toList))) ∧ Below w.heap.size w w' := by
  unfold maxLen at hs
  obtain ⟨cap, C, mk, hconv, hcell, hfree⟩ := bytes_made s w
  have H1 := Lib.hid hcell
  have H2 := Lib.hid hfree
  clear hcell hfree
  go_enter Tryz.func135, Tryz.ntmps135
  go_wp2
  clear hconv
  go_loopw [10] (fun i wr => ∃ k : Nat, k ≤ s.size ∧ i = .int .i64 k ∧ Hid (SmallRow s w wr k)) (fun i _ => s.size - (intOf i).toNat)
  case atStart =>
    refine ⟨0, Nat.zero_le _, rfl, Lib.hid ⟨fun j h => ?_, fun j h => ?_, ((Below.refl _ _).alloc (Nat.le_refl _) _).drew⟩⟩
    · rw [if_neg (by omega)]
      exact H1.out j h
    · exact H2.out j h
  case round =>
    obtain ⟨k, hk, rfl, HR⟩ := hrel
    by_cases hlt : k < s.size
    · have hcell : wr.cell? ⟨w.heap.size, k, none⟩ = some (.int .u8 (s[k].toNat : Int)) := by
        have := HR.out.cells k hlt
        rwa [if_neg (by omega)] at this
      have hfree := HR.out.free k hlt
      by_cases hc : capI (s[k].toNat : Int) = true
      · have hb := of_decide_eq_true hc
        have hb1 : (65 : Int) ≤ (s[k].toNat : Int) := hb.1
        have hb2 : (s[k].toNat : Int) ≤ 90 := hb.2
        have HE := Lib.hid (smallB_cap _ hc)
        clear hb
        go_wp2_with (go_at_call 159; refine (isCapital_any _ _).mono ?_; rintro e w' ⟨rfl, rfl⟩)
        go_roundw
        case rel =>
          refine ⟨k + 1, by omega, by go_num, ?_⟩
          have := HR.out.store hlt
          rw [HE.out] at this
          have e : (s[k].toNat : Int) - 65 + 97 = (s[k].toNat : Int) + 32 := by omega
          first | exact Lib.hid this | (rw [e]; exact Lib.hid this)
        case measure => simp [intOf]; omega
      · have hc' : capI (s[k].toNat : Int) = false := by simpa using hc
        clear hc
        go_wp2_with (go_at_call 159; refine (isCapital_any _ _).mono ?_; rintro e w' ⟨rfl, rfl⟩)
        go_roundw
        case rel => exact ⟨k + 1, by omega, by go_num, Lib.hid (HR.out.keep hlt hc')⟩
        case measure => simp [intOf]; omega
    · have hback := HR.out.back (by omega) cap
      go_wp2
      go_ret
      exact ⟨rfl, HR.out.below⟩
end Go.Proofs.YtiffhlncnpppoaaGreatDoor
namespace Go.Proofs.YtiffhlncnpppoaaGreatDoor
open Go.RowKit
def fitL (l : List UInt8) : List UInt8 := if rightL l then smallL l else []
def fitE (l : List UInt8) : Int := if rightL l then 0 else 4
set_option maxHeartbeats 2000000 in
theorem fit_any (s : ByteArray) (w : World) (hs : s.size ≤ maxLen) :
    Calls Tryz.prog 75 #[.string s] w fun e w' => e = .returned (.tuple #[.string (ofL (fitL s.toList)), .int .i64 (fitE s.toList)]) ∧ Below w.heap.size w w' := by
  have HB : Below w.heap.size w w := Below.refl _ _
  by_cases hr : rightL s.toList = true
  · have e1 := Lib.hid (show fitL s.toList = smallL s.toList by unfold fitL; rw [if_pos hr])
    have e2 := Lib.hid (show fitE s.toList = 0 by unfold fitE; rw [if_pos hr])
    go_enter Tryz.func75, Tryz.ntmps75
    go_wp2_with (first
      | (go_at_call 136; refine (right_any _ _ hs).mono ?_; rintro e w' ⟨rfl, rfl⟩)
      | (go_at_call 135; refine (small_any _ _ hs).mono ?_; rintro e w' ⟨rfl, hb⟩; have HB := HB.trans (hb.mono HB.size); clear hb))
    go_ret2
    exact ⟨by rw [e1.out, e2.out]; rfl, by assumption⟩
  · have hr' : rightL s.toList = false := by simpa using hr
    have e1 := Lib.hid (show fitL s.toList = [] by unfold fitL; rw [if_neg hr])
    have e2 := Lib.hid (show fitE s.toList = 4 by unfold fitE; rw [if_neg hr])
    clear hr
    go_enter Tryz.func75, Tryz.ntmps75
    go_wp2_with (first
      | (go_at_call 136; refine (right_any _ _ hs).mono ?_; rintro e w' ⟨rfl, rfl⟩))
    go_ret2
    exact ⟨by rw [e1.out, e2.out]; rfl, by assumption⟩
end Go.Proofs.YtiffhlncnpppoaaGreatDoor
namespace Go.Proofs.YtiffhlncnpppoaaGreatDoor
open Go.RowKit
set_option maxHeartbeats 1000000 in
set_option maxRecDepth 100000 in
theorem indexByte_any (s : ByteArray) (c : Int) (w : World) :
    Calls Tryz.prog 187 #[.string s, .int .u8 c] w fun e w' => e = .returned (.int .i64 (Lib.indexByte s.data.toList c.toNat.toUInt8)) ∧ w' = w := by
  go_enter Tryz.func187, Tryz.ntmps187
  go_wp2
  rw [run_callFunc_extern Tryz.func191 (by kernel_rfl) (by kernel_rfl) (by kernel_rfl) (e := Extern.BytealgIndexByte.indexByte) (by kernel_rfl), Lib.run_indexByteString]
  simp only [Result.andThen]
  rw [Oper.upon_value]
  go_wp2
  go_ret
  exact ⟨rfl, rfl⟩
theorem has_indexByte (c : UInt8) : ∀ l : List UInt8, l.contains c = decide (0 ≤ Lib.indexByte l c)
  | [] => by simp [Lib.indexByte]
  | b :: l => by
    have ih := has_indexByte c l
    have hg := Lib.indexByte_ge l c
    unfold Lib.indexByte
    rw [List.contains_cons, ih]
    by_cases h : b = c
    · subst h; simp
    · have h1 : (c == b) = false := by simp; exact fun e => h e.symm
      have h2 : (b == c) = false := by simp [h]
      rw [h1, h2]
      by_cases h3 : Lib.indexByte l c = -1
      · simp [h3]
      · have h4 : (Lib.indexByte l c == -1) = false := by simp [h3]
        simp only [h4, Bool.false_or, Bool.false_eq_true, if_false]
        rw [decide_eq_decide]
        omega
set_option maxHeartbeats 2000000 in
set_option maxRecDepth 100000 in
theorem dash_any (s : ByteArray) (w : World) :
    Calls Tryz.prog 175 #[.string s, .string ⟨#[45]⟩] w fun e w' => e = .returned (.bool (dashL s.toList)) ∧ w = w' := by
  go_enter Tryz.func175, Tryz.ntmps175
  go_wp2_with (first | (go_at_call 187; refine (indexByte_any _ _ _).mono ?_; rintro e w' ⟨rfl, rfl⟩) | go_in)
  · have h : ([45] == s.toList) = true := by assumption
    go_ret
    refine ⟨ret_bool ?_, rfl⟩
    have e : s.toList = [45] := (beq_iff_eq.1 h).symm
    rw [e]; rfl
  · go_ret
    refine ⟨ret_bool ?_, rfl⟩
    unfold dashL
    rw [has_indexByte, tl]
    rfl
set_option maxHeartbeats 1000000 in
theorem reserved_any (s : ByteArray) (w : World) :
    Calls Tryz.prog 176 #[.string s] w fun e w' => e = .returned (.bool (reservedL s.toList)) ∧ w = w' := by
  go_enter Tryz.func176, Tryz.ntmps176
  go_wp2
  all_goals (go_ret; exact ⟨ret_bool (by unfold reservedL; simp_all), rfl⟩)
end Go.Proofs.YtiffhlncnpppoaaGreatDoor
namespace Go.Proofs.YtiffhlncnpppoaaGreatDoor
open Go.RowKit
theorem headD_get (s : ByteArray) (h : 0 < s.size) : s.toList.headD 0 = s[0] := by
  have := tl_get s 0 h
  cases e : s.toList with
  | nil => rw [e] at this; simp at this
  | cons b r => rw [e] at this; simpa using this
theorem rightL_pos (s : ByteArray) (h : rightL s.toList = true) : 0 < s.size := by
  by_cases h0 : 0 < s.size
  · exact h0
  · rw [rightL_ends _ (by rw [tl_len]; omega)] at h
    cases h
theorem customL_no (l : List UInt8) (h : rightL l = false) : customL l = false := by unfold customL; rw [h]; rfl
theorem customL_eq (s : ByteArray) (h : rightL s.toList = true) (hp : 0 < s.size) :
    customL s.toList = ((smallL s.toList == s.toList) && lowI (s[0].toNat : Int) && dashL s.toList && !reservedL s.toList) := by
  unfold customL
  rw [h, headD_get s hp, Bool.true_and]
set_option maxHeartbeats 2000000 in
theorem custom_any (s : ByteArray) (w : World) (hs : s.size ≤ maxLen) :
    Calls Tryz.prog 163 #[.string s] w fun e w' => e = .returned (.bool (customL s.toList)) ∧ Below w.heap.size w w' := by
  have HB : Below w.heap.size w w := Below.refl _ _
  by_cases hr : rightL s.toList = true
  · have hp := rightL_pos s hr
    have HC := Lib.hid (customL_eq s hr hp)
    go_enter Tryz.func163, Tryz.ntmps163
    go_wp2_with (first
      | (go_at_call 136; refine (right_any _ _ hs).mono ?_; rintro e w' ⟨rfl, rfl⟩)
      | (go_at_call 135; refine (small_any _ _ hs).mono ?_; rintro e w' ⟨rfl, hb⟩; have HB := HB.trans (hb.mono HB.size); clear hb)
      | (go_at_call 174; refine (isSmall_any _ _).mono ?_; rintro e w' ⟨rfl, rfl⟩)
      | (go_at_call 175; refine (dash_any _ _).mono ?_; rintro e w' ⟨rfl, rfl⟩)
      | (go_at_call 176; refine (reserved_any _ _).mono ?_; rintro e w' ⟨rfl, rfl⟩))
    all_goals (go_ret; exact ⟨ret_bool (by rw [HC.out]; simp [*]), by assumption⟩)
  · have hr' : rightL s.toList = false := by simpa using hr
    have HC := Lib.hid (customL_no _ hr')
    clear hr
    go_enter Tryz.func163, Tryz.ntmps163
    go_wp2_with (go_at_call 136; refine (right_any _ _ hs).mono ?_; rintro e w' ⟨rfl, rfl⟩)
    go_ret
    exact ⟨ret_bool HC.out.symm, HB⟩
end Go.Proofs.YtiffhlncnpppoaaGreatDoor
namespace Go.Proofs.YtiffhlncnpppoaaGreatDoor
open Go.RowKit
def standB (x : ByteArray × ByteArray) : Bool := rightL x.1.toList && (smallL x.1.toList == x.1.toList) && decide (x.2.size ≤ 200)
theorem box2 {w w' : World} {x y : Value} {t : TypeId} (hb : Below (w.alloc (.cells #[x, y] t)).heap.size (w.alloc (.cells #[x, y] t)) w') :
    w'.cell? ⟨w.heap.size, 0, none⟩ = some x ∧ w'.cell? ⟨w.heap.size, 1, none⟩ = some y ∧ Below w.heap.size w w' := by
  refine ⟨?_, ?_, ((Below.refl _ _).alloc (Nat.le_refl _) _).trans (hb.mono (by simp))⟩
  · rw [hb.cell (p := ⟨w.heap.size, 0, none⟩) (by simp), cell_of_row (w.alloc (.cells #[x, y] t)) w.heap.size 0 _ t (0, 0) (heap_alloc_new w _)]
    rfl
  · rw [hb.cell (p := ⟨w.heap.size, 1, none⟩) (by simp), cell_of_row (w.alloc (.cells #[x, y] t)) w.heap.size 1 _ t (0, 0) (heap_alloc_new w _)]
    rfl
set_option maxHeartbeats 2000000 in
theorem stand_any (xn xv : ByteArray) (w : World) (h1 : xn.size ≤ maxLen) (h2 : xv.size ≤ maxLen) :
    Calls Tryz.prog 171 #[.agg #[.string xn, .string xv]] w fun e w' => e = .returned (.bool (standB (xn, xv))) ∧ Below w.heap.size w w' := by
  have hv64 : xv.size ≤ 9223372036854775807 := by unfold maxLen at h2; omega
  have HN := Lib.hid h1
  clear h1 h2
  by_cases hr : rightL xn.toList = true
  rotate_left
  · have hr : rightL xn.toList = false := by simpa using hr
    have HR : Hid (standB (xn, xv) = false) := Lib.hid (by unfold standB; rw [hr]; rfl)
    have e1 : fitE xn.toList = 4 := by unfold fitE; rw [hr]; rfl
    have C1 : Hid (∀ W, Calls Tryz.prog 75 #[.string xn] W fun e w' => e = .returned (.tuple #[.string (ofL (fitL xn.toList)), .int .i64 4]) ∧ Below W.heap.size W w') := Lib.hid (fun W => by
      have := fit_any xn W HN.out
      rwa [e1] at this)
    clear hr e1
    go_enter Tryz.func171, Tryz.ntmps171
    go_wp2_with (first
      | (go_at_call 75; refine (C1.out _).mono ?_; rintro e w' ⟨rfl, hb⟩; obtain ⟨c1, c2, HB⟩ := box2 hb))
    go_ret
    exact ⟨ret_bool HR.out.symm, by assumption⟩
  have e1 : fitE xn.toList = 0 := by unfold fitE; rw [hr]; rfl
  have e2 : fitL xn.toList = smallL xn.toList := by unfold fitL; rw [hr]; rfl
  have C1 : Hid (∀ W, Calls Tryz.prog 75 #[.string xn] W fun e w' => e = .returned (.tuple #[.string (ofL (smallL xn.toList)), .int .i64 0]) ∧ Below W.heap.size W w') := Lib.hid (fun W => by
    have := fit_any xn W HN.out
    rwa [e1, e2] at this)
  have HRT := Lib.hid hr
  clear hr e1 e2
  by_cases hsm : smallL xn.toList = xn.toList
  rotate_left
  · have s1 : (smallL xn.toList == xn.toList) = false := beq_eq_false_iff_ne.2 hsm
    have HR : Hid (standB (xn, xv) = false) := Lib.hid (by unfold standB; rw [s1]; simp)
    clear hsm
    go_enter Tryz.func171, Tryz.ntmps171
    go_wp2_with (first
      | (go_at_call 75; refine (C1.out _).mono ?_; rintro e w' ⟨rfl, hb⟩; obtain ⟨c1, c2, HB⟩ := box2 hb))
    go_ret
    exact ⟨ret_bool HR.out.symm, by assumption⟩
  have s1 : (smallL xn.toList == xn.toList) = true := beq_iff_eq.2 hsm
  have HR : Hid (standB (xn, xv) = decide ((xv.size : Int) ≤ 200)) := Lib.hid (by unfold standB; rw [s1, HRT.out]; simp; omega)
  clear hsm
  go_enter Tryz.func171, Tryz.ntmps171
  go_wp2_with (first
    | (go_at_call 75; refine (C1.out _).mono ?_; rintro e w' ⟨rfl, hb⟩; obtain ⟨c1, c2, HB⟩ := box2 hb))
  go_ret
  exact ⟨ret_bool HR.out.symm, by assumption⟩
end Go.Proofs.YtiffhlncnpppoaaGreatDoor
namespace Go.Proofs.YtiffhlncnpppoaaGreatDoor
open Go.RowKit Go.Maps Go.WideMaps
theorem isK (l : List UInt8) : WideAt.IsKeyLit (.string l) := trivial
theorem makeMap_len (n : Nat) (w : World) : (Instr.makeMap 173 (some (.int .i64 (n : Int)))).run Tryz.prog w = .ok (.map (some w.heap.size)) (w.alloc (.map #[] 0)) := by
  simp [Instr.makeMap, run_underlying Tryz.underlying173, asInt, newObj, Result.andThen]
  rfl
def plD (L : AL) : Nat → DataW Unit
  | 0 => .map []
  | k + 1 => match L[k]? with
    | some x => (plD L k).put (.string x.1.data.toList) (.lit (.int .i64 k))
    | none => plD L k
theorem plD_succ {L : AL} {k : Nat} {x : ByteArray × ByteArray} (h : L[k]? = some x) : plD L (k + 1) = (plD L k).put (.string x.1.data.toList) (.lit (.int .i64 k)) := by
  show (match L[k]? with | some x => _ | none => _) = _
  rw [h]
theorem plD_tidy (L : AL) : ∀ k, Tidy (plD L k)
  | 0 => tidy_empty
  | k + 1 => by
    show Tidy (match L[k]? with | some x => _ | none => _)
    cases L[k]? with
    | none => exact plD_tidy L k
    | some x => exact (plD_tidy L k).put (isK _) _
theorem str_ne {a b : List UInt8} (h : a ≠ b) : (Lit.string a) ≠ Lit.string b := fun e => h (by injection e)
theorem plD_has {L : AL} (n : List UInt8) : ∀ k, k ≤ L.length → Maps.has (plD L k) (.string n) = decide (atN L n < k)
  | 0, _ => by rw [decide_eq_false (by omega)]; rfl
  | k + 1, hk => by
    have hkl : k < L.length := by omega
    have hx : L[k]? = some (L[k]'hkl) := List.getElem?_eq_getElem hkl
    have ih := plD_has (L := L) n k (by omega)
    rw [plD_succ hx]
    by_cases e : (L[k]'hkl).1.toList = n
    · rw [← e, tl, has_put_same (plD_tidy L k).isMap (isK _)]
      symm
      rw [decide_eq_true_eq]
      rcases Nat.lt_or_ge k (atN L (L[k]'hkl).1.data.toList) with h | h
      · have := atN_here (L := L) (n := (L[k]'hkl).1.data.toList) (Nat.le_of_lt h) hx (show keyIs _ (L[k]'hkl) = true by unfold keyIs; rw [tl]; simp)
        omega
      · omega
    · rw [has_put_other (str_ne (fun h => e (by rw [tl, ← h]))), ih]
      have hf : keyIs n (L[k]'hkl) = false := by unfold keyIs; exact beq_eq_false_iff_ne.2 e
      rcases Nat.lt_or_ge (atN L n) k with h | h
      · rw [decide_eq_true h, decide_eq_true (by omega)]
      · have := atN_step h hx hf
        rw [decide_eq_false (by omega), decide_eq_false (by omega)]
def firstK (L : AL) (k : Nat) : Prop := ∀ (j : Nat) x, j < k → L[j]? = some x → atN L x.1.toList = j
theorem plD_at {L : AL} (n : List UInt8) (z : DataW Unit) : ∀ k, k ≤ L.length → firstK L k → atN L n < k → (plD L k).atKey (.string n) z = .lit (.int .i64 (atN L n))
  | 0, _, _, h => absurd h (by omega)
  | k + 1, hk, hf, h => by
    have hkl : k < L.length := by omega
    have hx : L[k]? = some (L[k]'hkl) := List.getElem?_eq_getElem hkl
    rw [plD_succ hx]
    by_cases e : (L[k]'hkl).1.toList = n
    · have h1 := hf k _ (by omega) hx
      rw [e] at h1
      rw [h1, ← e, tl, atKey_put_same (plD_tidy L k).isMap (isK _)]
    · rw [atKey_put_other (str_ne (fun h => e (by rw [tl, ← h])))]
      refine plD_at n z k (by omega) (fun j x hj hx => hf j x (by omega) hx) ?_
      have hff : keyIs n (L[k]'hkl) = false := by unfold keyIs; exact beq_eq_false_iff_ne.2 e
      rcases Nat.lt_or_ge (atN L n) k with h1 | h1
      · exact h1
      · have := atN_step h1 hx hff
        omega
theorem okAt_eq (L : AL) (k : Nat) (x : ByteArray × ByteArray) : okAt L k x = (standB x && decide (atN L x.1.toList = k)) := rfl
theorem atN_here_le {L : AL} {k : Nat} {x : ByteArray × ByteArray} (h : L[k]? = some x) : atN L x.1.toList ≤ k := by
  rcases Nat.lt_or_ge k (atN L x.1.toList) with h1 | h1
  · have := atN_here (Nat.le_of_lt h1) h (show keyIs x.1.toList x = true by unfold keyIs; simp)
    omega
  · exact h1
theorem lawS : Keyed Tryz.prog 9 := string_keyed Tryz.underlying9
theorem zeroI (w : World) : (zeroValue 3).run Tryz.prog w = .ok (.int .i64 0) w := by kernel_rfl
abbrev ownsPl (w : World) (b n : Nat) (D : DataW Unit) : Prop := w.ownsMap Tryz.prog 9 (plainElem Tryz.prog 3) b n D
def PlacesPost (w : World) (L : AL) (e : Ending) (w' : World) : Prop :=
  if rightA L then ∃ b, e = .returned (.tuple #[.map (some b), .bool true]) ∧ w.heap.size ≤ b ∧ ownsPl w' b L.length (plD L L.length) ∧ Below w.heap.size w w'
  else e = .returned (.tuple #[.map none, .bool false]) ∧ Below w.heap.size w w'
theorem PlacesPost.no {w w' : World} {L : AL} (h : rightA L = false) (hb : Below w.heap.size w w') : PlacesPost w L (.returned (.tuple #[.map none, .bool false])) w' := by
  unfold PlacesPost
  rw [h]
  exact ⟨rfl, hb⟩
theorem PlacesPost.yes {w w' : World} {L : AL} {b : Nat} (h : rightA L = true) (h1 : w.heap.size ≤ b) (h2 : ownsPl w' b L.length (plD L L.length)) (hb : Below w.heap.size w w') : PlacesPost w L (.returned (.tuple #[.map (some b), .bool true])) w' := by
  unfold PlacesPost
  rw [h]
  exact ⟨b, rfl, h1, h2, hb⟩
theorem keyS {s : ByteArray} (h : s.size ≤ maxLen) : keyOf Tryz.prog 9 (.string s) = some (.string s.data.toList) := keyOf_string_mk Tryz.underlying9 h
theorem own_belowM {w w' : World} {b n : Nat} {D : DataW Unit} (h : ownsPl w b n D) (hb : Below w.heap.size w w') : ownsPl w' b n D := by
  have hlt := h.lt
  obtain ⟨es, clock, h1, F, hs, hD⟩ := h
  exact ⟨es, clock, (hb.block b hlt).trans h1, F, hs, hD⟩
set_option maxHeartbeats 16000000 in
set_option maxRecDepth 100000 in
theorem places_any (a : Option Addr) (len cap : Nat) (L : AL) (w : World) (h : AttrRow w a len cap L) :
    Calls Tryz.prog 158 #[.slice a len cap] w (PlacesPost w L) := by
  have hmm := makeMap_len
  have hl := h.len64
  have HL := Lib.hid h.hlen
  by_cases h40 : 40 < len
  · have HR := Lib.hid (rightA_long (L := L) (by rw [h.hlen]; exact h40))
    go_enter Tryz.func158, Tryz.ntmps158
    go_wp2
    go_ret2
    exact PlacesPost.no HR.out (Below.refl _ _)
  go_enter Tryz.func158, Tryz.ntmps158
  go_wp2
  go_loopw [17] (fun i wr => ∃ k : Nat, k ≤ len ∧ i = .int .i64 k ∧ Below w.heap.size w wr ∧ Hid (ownsPl wr w.heap.size k (plD L k)) ∧ Hid (∀ (j : Nat) x, j < k → L[j]? = some x → okAt L j x = true)) (fun i _ => len - (intOf i).toNat)
  case atStart => exact ⟨0, Nat.zero_le _, rfl, (Below.refl _ _).alloc (Nat.le_refl _) _, Lib.hid (World.ownsMap_made _ _ _ _), Lib.hid (fun j x hj _ => absurd hj (by omega))⟩
  case round =>
    obtain ⟨k, hk, rfl, HB, HM, HA⟩ := hrel
    by_cases hlt : k < len
    · have h2 := h.below HB
      obtain ⟨b, off, xn, xv, rfl, hblt, hx, hc1, hc2, hn1, hn2⟩ := h2.get hlt
      have HX := Lib.hid hx
      have HN1 := Lib.hid hn1
      have HN2 := Lib.hid hn2
      have HB2 := Lib.hid HB
      have HF : Hid (firstK L k) := Lib.hid (fun j x hj hx => by
        have := HA.out j x hj hx
        rw [okAt_eq] at this
        simp at this
        exact this.2)
      have HH : Hid (Maps.has (plD L k) (.string xn.data.toList) = decide (atN L xn.toList < k)) := Lib.hid (by
        have := plD_has (L := L) xn.toList k (by rw [HL.out]; omega)
        rw [← tl]; exact this)
      have hkey := Lib.hid (keyS hn1)
      have hlt0 := HM.out.lt
      clear hx hn1 hn2
      by_cases htw : atN L xn.toList < k
      · have HHt : Hid (Maps.has (plD L k) (.string xn.data.toList) = true) := Lib.hid (by rw [HH.out, decide_eq_true htw])
        have HR := Lib.hid (rightA_stop HX.out (show okAt L k (xn, xv) = false by rw [okAt_eq, decide_eq_false (by show ¬ atN L xn.toList = k; omega)]; simp))
        clear htw
        go_wp2_with (first
          | (at_lookup; refine wpList_lookup_own_ok_int _ rfl _ _ 173 rfl 9 3 .i64 lawS Tryz.underlying173 Tryz.underlying3 (zeroI _) w.heap.size k (plD L k) rfl (HM.out.alloc _) _ _ rfl hkey.out ?_; intro c hat hwc; simp only [HHt.out]; clear hat hwc))
        go_ret2
        exact PlacesPost.no HR.out (HB.alloc HB.size _)
      · have HHt : Hid (Maps.has (plD L k) (.string xn.data.toList) = false) := Lib.hid (by rw [HH.out, decide_eq_false htw])
        have HAT : Hid (atN L xn.toList = k) := Lib.hid (by have := atN_here_le HX.out; dsimp only at this; omega)
        clear htw
        by_cases hs : standB (xn, xv) = true
        · have C1 : Hid (∀ W, Calls Tryz.prog 171 #[.agg #[.string xn, .string xv]] W fun e w' => e = .returned (.bool true) ∧ Below W.heap.size W w') := Lib.hid (fun W => by
            have := stand_any xn xv W HN1.out HN2.out
            rwa [hs] at this)
          have HO : Hid (okAt L k (xn, xv) = true) := Lib.hid (by rw [okAt_eq, hs, decide_eq_true (show atN L (xn, xv).1.toList = k from HAT.out)]; rfl)
          clear hs
          go_wp2_with (first
            | (at_lookup; refine wpList_lookup_own_ok_int _ rfl _ _ 173 rfl 9 3 .i64 lawS Tryz.underlying173 Tryz.underlying3 (zeroI _) w.heap.size k (plD L k) rfl (HM.out.alloc _) _ _ rfl hkey.out ?_; intro c hat hwc; simp only [HHt.out]; clear hat hwc)
            | (go_at_call 171; refine (C1.out _).mono ?_; rintro e w1 ⟨rfl, hb⟩; obtain ⟨d1, d2, hb1⟩ := box2 hb; clear hb; have HM1 := Lib.hid (own_belowM HM.out hb1); have hz1 : wr.heap.size ≤ w1.heap.size := hb1.size; have HB1 := Lib.hid hb1; clear hb1)
            | (at_mapUpdate; refine wpList_mapUpdate_own _ rfl _ _ _ 173 rfl 9 3 lawS Tryz.underlying173 _ w.heap.size k _ rfl HM1.out (by unfold maxLen; omega) _ _ _ rfl rfl hkey.out _ [] (plainElem_int Tryz.underlying3 (WalkArith.wf_i64 (by omega))) ?_; intro w2 hown2 hgrow2; have HM2 := Lib.hid hown2; have HG2 := Lib.hid hgrow2; clear hown2 hgrow2))
          have HB2 := HB.trans (HB1.out.mono HB.size)
          have hz0 := HB.size
          go_roundw
          case rel =>
            refine ⟨k + 1, by omega, by go_num, HB2.grown HG2.out HB2.size (fun j hj => by injection hj with hj; omega), Lib.hid ?_, Lib.hid (fun j x hj hx => ?_)⟩
            · rw [plD_succ HX.out]
              exact HM2.out
            · by_cases e : j = k
              · subst e
                rw [HX.out] at hx
                rw [← Option.some.inj hx]
                exact HO.out
              · exact HA.out j x (by omega) hx
          case measure => simp [intOf]; omega
        · have hs : standB (xn, xv) = false := by simpa using hs
          have C1 : Hid (∀ W, Calls Tryz.prog 171 #[.agg #[.string xn, .string xv]] W fun e w' => e = .returned (.bool false) ∧ Below W.heap.size W w') := Lib.hid (fun W => by
            have := stand_any xn xv W HN1.out HN2.out
            rwa [hs] at this)
          have HR := Lib.hid (rightA_stop HX.out (show okAt L k (xn, xv) = false by rw [okAt_eq, hs]; rfl))
          clear hs
          go_wp2_with (first
            | (at_lookup; refine wpList_lookup_own_ok_int _ rfl _ _ 173 rfl 9 3 .i64 lawS Tryz.underlying173 Tryz.underlying3 (zeroI _) w.heap.size k (plD L k) rfl (HM.out.alloc _) _ _ rfl hkey.out ?_; intro c hat hwc; simp only [HHt.out]; clear hat hwc)
            | (go_at_call 171; refine (C1.out _).mono ?_; rintro e w1 ⟨rfl, hb⟩; obtain ⟨d1, d2, hb1⟩ := box2 hb; clear hb; have HB1 := Lib.hid hb1; clear hb1))
          go_ret2
          exact PlacesPost.no HR.out (HB.trans (HB1.out.mono HB.size))
    · have HR := Lib.hid ((rightA_iff L).2 ⟨by rw [h.hlen]; omega, fun j x hx => HA.out j x (by
        obtain ⟨hl1, _⟩ := List.getElem?_eq_some_iff.1 hx
        have := h.hlen
        omega) hx⟩)
      have hkl : k = len := by omega
      have HM2 : Hid (ownsPl wr w.heap.size L.length (plD L L.length)) := Lib.hid (by
        rw [HL.out, ← hkl]
        exact HM.out)
      clear hkl
      go_wp2
      go_ret2
      exact PlacesPost.yes HR.out (Nat.le_refl _) HM2.out HB
end Go.Proofs.YtiffhlncnpppoaaGreatDoor
namespace Go.Proofs.YtiffhlncnpppoaaGreatDoor
open Go.RowKit Go.Maps Go.WideMaps
theorem right_first {L : AL} (h : rightA L = true) : firstK L L.length := fun j x _ hx => by
  have := ((rightA_iff L).1 h).2 j x hx
  rw [okAt_eq] at this
  simp at this
  exact this.2
theorem placesRight_any (a : Option Addr) (len cap : Nat) (L : AL) (w : World) (h : AttrRow w a len cap L) (hr : rightA L = true) :
    Calls Tryz.prog 158 #[.slice a len cap] w fun e w' => ∃ b, e = .returned (.tuple #[.map (some b), .bool true]) ∧ w.heap.size ≤ b ∧ ownsPl w' b L.length (plD L L.length) ∧ Below w.heap.size w w' :=
  (places_any a len cap L w h).mono fun e w' hp => by
    unfold PlacesPost at hp
    rw [hr] at hp
    exact hp
theorem placesWrong_any (a : Option Addr) (len cap : Nat) (L : AL) (w : World) (h : AttrRow w a len cap L) (hr : rightA L = false) :
    Calls Tryz.prog 158 #[.slice a len cap] w fun e w' => e = .returned (.tuple #[.map none, .bool false]) ∧ Below w.heap.size w w' :=
  (places_any a len cap L w h).mono fun e w' hp => by
    unfold PlacesPost at hp
    rw [hr] at hp
    exact hp
theorem right_any' (a : Option Addr) (len cap : Nat) (L : AL) (w : World) (h : AttrRow w a len cap L) :
    Calls Tryz.prog 164 #[.slice a len cap] w fun e w' => e = .returned (.bool (rightA L)) ∧ Below w.heap.size w w' := by
  by_cases hr : rightA L = true
  · have C1 := Lib.hid (placesRight_any a len cap L w h hr)
    rw [hr]
    clear h hr
    go_enter Tryz.func164, Tryz.ntmps164
    go_wp2_with (first
      | (go_at_call 158; refine C1.out.mono ?_; rintro e w' ⟨b, rfl, _, _, HB⟩))
    go_ret
    exact ⟨rfl, HB⟩
  · have hr : rightA L = false := by simpa using hr
    have C1 := Lib.hid (placesWrong_any a len cap L w h hr)
    rw [hr]
    clear h hr
    go_enter Tryz.func164, Tryz.ntmps164
    go_wp2_with (first
      | (go_at_call 158; refine C1.out.mono ?_; rintro e w' ⟨rfl, HB⟩))
    go_ret
    exact ⟨rfl, HB⟩
end Go.Proofs.YtiffhlncnpppoaaGreatDoor
namespace Go.Proofs.YtiffhlncnpppoaaGreatDoor
open Go.RowKit
def isKd (F : List Core) (n k : Int) : Bool := match getC F n with | some c => c.kind == k | none => false
theorem getC_not {F : List Core} {n : Int} (h : n < 0 ∨ (F.length : Int) ≤ n) : getC F n = none := by
  unfold getC
  by_cases h0 : 0 ≤ n
  · rw [if_pos h0]
    exact List.getElem?_eq_none_iff.2 (by omega)
  · rw [if_neg h0]
theorem coreL_len (L : List NodeD) : (coreL L).length = L.length := by unfold coreL; rw [List.length_map]
theorem coreL_get {L : List NodeD} {k : Nat} {x : NodeD} (h : L[k]? = some x) : (coreL L)[k]? = some x.core := by unfold coreL; rw [List.getElem?_map, h]; rfl
set_option maxHeartbeats 2000000 in
theorem is_any (a : Option Addr) (len cap : Nat) (L : List NodeD) (n k : Int) (w : World) (h : NodeRow w a len cap L) (hn : In64 n) :
    Calls Tryz.prog 85 #[.slice a len cap, .int .i64 n, .int .i64 k] w fun e w' => e = .returned (.bool (isKd (coreL L) n k)) ∧ w = w' := by
  have hl := h.len64
  have HL := Lib.hid h.hlen
  by_cases h0 : 0 ≤ n
  rotate_left
  · have HR : Hid (isKd (coreL L) n k = false) := Lib.hid (by unfold isKd; rw [getC_not (.inl (by omega))])
    clear h
    go_enter Tryz.func85, Tryz.ntmps85
    go_wp2
    go_ret
    exact ⟨ret_bool HR.out.symm, rfl⟩
  by_cases h1 : n < len
  rotate_left
  · have HR : Hid (isKd (coreL L) n k = false) := Lib.hid (by unfold isKd; rw [getC_not (.inr (by rw [coreL_len, HL.out]; omega))])
    clear h
    go_enter Tryz.func85, Tryz.ntmps85
    go_wp2
    go_ret
    exact ⟨ret_bool HR.out.symm, rfl⟩
  obtain ⟨m, rfl⟩ : ∃ m : Nat, n = m := ⟨n.toNat, by omega⟩
  obtain ⟨b, off, x, rfl, hb, hx, hc, hok⟩ := h.get (show m < len by omega)
  have HR : Hid (isKd (coreL L) (m : Int) k = (x.core.kind == k)) := Lib.hid (by unfold isKd; rw [getC_nat, coreL_get hx])
  have c0 := hc.c0
  clear h hc hok hx
  go_enter Tryz.func85, Tryz.ntmps85
  go_wp2
  go_ret
  exact ⟨ret_bool HR.out.symm, rfl⟩
def docB (F : List Core) (i : Int) (x : Core) : Bool := isKd F x.doc 0 && (x.kind != 0 || x.doc == i)
set_option maxHeartbeats 2000000 in
theorem docFits_any (a : Option Addr) (len cap : Nat) (L : List NodeD) (n : Nat) (x : NodeD) (w : World) (h : NodeRow w a len cap L) (hx : L[n]? = some x) :
    Calls Tryz.prog 140 #[.slice a len cap, .int .i64 n] w fun e w' => e = .returned (.bool (docB (coreL L) n x.core)) ∧ w = w' := by
  have hl := h.len64
  have hnl : n < len := by rw [← h.hlen]; exact (List.getElem?_eq_some_iff.1 hx).1
  obtain ⟨b, off, x', rfl, hb, hx', hc, hok⟩ := h.get hnl
  obtain rfl : x = x' := Option.some.inj (hx.symm.trans hx')
  have c0 := hc.c0
  have c9 := hc.c9
  have C1 := Lib.hid (is_any (some ⟨b, off, none⟩) len cap L x.core.doc 0 w h hok.doc)
  have HX := Lib.hid hx
  clear h hc hx hx' hok
  by_cases q1 : isKd (coreL L) x.core.doc 0 = true
  rotate_left
  · have q1 : isKd (coreL L) x.core.doc 0 = false := by simpa using q1
    have HR : Hid (docB (coreL L) n x.core = false) := Lib.hid (by unfold docB; rw [q1]; rfl)
    rw [q1] at C1
    clear q1
    go_enter Tryz.func140, Tryz.ntmps140
    go_wp2_with (go_at_call 85; refine C1.out.mono ?_; rintro e w' ⟨rfl, rfl⟩)
    go_ret
    exact ⟨ret_bool HR.out.symm, rfl⟩
  have HR : Hid (docB (coreL L) n x.core = (x.core.kind != 0 || x.core.doc == (n : Int))) := Lib.hid (by unfold docB; rw [q1]; rfl)
  rw [q1] at C1
  clear q1
  by_cases q2 : x.core.kind = 0
  · have e1 : (x.core.kind != 0) = false := by rw [q2]; rfl
    have HR : Hid (docB (coreL L) n x.core = (x.core.doc == (n : Int))) := Lib.hid (by rw [HR.out, e1]; rfl)
    clear q2
    go_enter Tryz.func140, Tryz.ntmps140
    go_wp2_with (go_at_call 85; refine C1.out.mono ?_; rintro e w' ⟨rfl, rfl⟩)
    go_ret
    exact ⟨ret_bool HR.out.symm, rfl⟩
  · have e1 : (x.core.kind != 0) = true := bne_iff_ne.2 q2
    have HR : Hid (docB (coreL L) n x.core = true) := Lib.hid (by rw [HR.out, e1]; rfl)
    clear q2
    go_enter Tryz.func140, Tryz.ntmps140
    go_wp2_with (go_at_call 85; refine C1.out.mono ?_; rintro e w' ⟨rfl, rfl⟩)
    go_ret
    exact ⟨ret_bool HR.out.symm, rfl⟩
end Go.Proofs.YtiffhlncnpppoaaGreatDoor
namespace Go.Proofs.YtiffhlncnpppoaaGreatDoor
open Go.RowKit
def kidB (F : List Core) (i d k : Int) : Bool := (isKd F k 1 || isKd F k 2) && match getC F k with | some c => c.parent == i && c.doc == d | none => false
def elemsB (F : List Core) (l : List Int) : Nat := l.countP (fun z => isKd F z 1)
def textsB (F : List Core) (l : List Int) : Nat := l.countP (fun z => isKd F z 2)
def shapeB (F : List Core) (x : Core) : Bool := if x.kind = 0 then decide (elemsB F x.kids ≤ 1) && decide (textsB F x.kids = 0) else if x.kind = 2 then decide (elemsB F x.kids + textsB F x.kids = 0) else true
def kidsB (F : List Core) (i : Int) (x : Core) : Bool := x.kids.all (kidB F i x.doc) && shapeB F x
theorem isKd_get {L : List NodeD} {z k : Int} (h : isKd (coreL L) z k = true) : ∃ (j : Nat) (y : NodeD), z = j ∧ L[j]? = some y ∧ y.core.kind = k := by
  unfold isKd at h
  cases hg : getC (coreL L) z with
  | none => rw [hg] at h; cases h
  | some c =>
    rw [hg] at h
    obtain ⟨h1, h2, h3⟩ := getC_some hg
    have h4 := beq_iff_eq.1 h
    unfold coreL at h3
    rw [List.getElem?_map] at h3
    cases hy : L[z.toNat]? with
    | none => rw [hy] at h3; cases h3
    | some y =>
      rw [hy] at h3
      injection h3 with h3
      exact ⟨z.toNat, y, by omega, hy, by rw [← h4, ← h3]⟩
theorem elemsB_step {F : List Core} {l : List Int} {k : Nat} {z : Int} (h : l[k]? = some z) : elemsB F (l.take (k + 1)) = elemsB F (l.take k) + (if isKd F z 1 then 1 else 0) := by
  obtain ⟨hl, hg⟩ := List.getElem?_eq_some_iff.1 h
  unfold elemsB
  rw [List.take_succ_eq_append_getElem hl, hg, List.countP_append]
  simp [List.countP_cons]
theorem textsB_step {F : List Core} {l : List Int} {k : Nat} {z : Int} (h : l[k]? = some z) : textsB F (l.take (k + 1)) = textsB F (l.take k) + (if isKd F z 2 then 1 else 0) := by
  obtain ⟨hl, hg⟩ := List.getElem?_eq_some_iff.1 h
  unfold textsB
  rw [List.take_succ_eq_append_getElem hl, hg, List.countP_append]
  simp [List.countP_cons]
theorem isKd_apart {F : List Core} {z j k : Int} (h : isKd F z j = true) (hn : j ≠ k) : isKd F z k = false := by
  unfold isKd at h ⊢
  cases hg : getC F z with
  | none => rfl
  | some c =>
    rw [hg] at h
    have := beq_iff_eq.1 h
    exact beq_eq_false_iff_ne.2 (by rw [this]; exact hn)
theorem both_le (F : List Core) (k : Nat) : ∀ l : List Int, elemsB F (l.take k) + textsB F (l.take k) ≤ k := fun l => by
  have key : ∀ l : List Int, elemsB F l + textsB F l ≤ l.length := by
    intro l
    induction l with
    | nil => exact Nat.le_refl _
    | cons a r ih =>
      have h1 : elemsB F (a :: r) = elemsB F r + (if isKd F a 1 then 1 else 0) := by unfold elemsB; rw [List.countP_cons]
      have h2 : textsB F (a :: r) = textsB F r + (if isKd F a 2 then 1 else 0) := by unfold textsB; rw [List.countP_cons]
      rw [h1, h2, List.length_cons]
      cases q1 : isKd F a 1 with
      | true =>
        rw [isKd_apart q1 (show (1 : Int) ≠ 2 by decide)]
        simp
        omega
      | false =>
        cases isKd F a 2 <;> simp <;> omega
  exact Nat.le_trans (key _) (List.length_take_le _ _)
set_option maxHeartbeats 8000000 in
set_option maxRecDepth 100000 in
theorem kidsFit_any (a : Option Addr) (len cap : Nat) (L : List NodeD) (n : Nat) (x : NodeD) (w : World) (h : NodeRow w a len cap L) (hx : L[n]? = some x) :
    Calls Tryz.prog 141 #[.slice a len cap, .int .i64 n] w fun e w' => e = .returned (.bool (kidsB (coreL L) n x.core)) ∧ Below w.heap.size w w' := by
  have hl := h.len64
  have hnl : n < len := by rw [← h.hlen]; exact (List.getElem?_eq_some_iff.1 hx).1
  have HL := Lib.hid h.hlen
  obtain ⟨b, off, x', rfl, hb, hx', hc, hok⟩ := h.get hnl
  obtain rfl : x = x' := Option.some.inj (hx.symm.trans hx')
  have c0 := hc.c0
  have c6 := hc.c6
  have c9 := hc.c9
  have hk0 := hok.kids
  obtain ⟨kA, hkA⟩ : ∃ q, x.kA = q := ⟨_, rfl⟩
  rw [hkA] at c6 hk0
  have HK := Lib.hid hk0
  have hkl := hok.kids.len64
  have HKL := Lib.hid hok.kids.hlen
  have CI : Hid (∀ m z k, In64 z → Calls Tryz.prog 85 #[.slice (some ⟨b, off, none⟩) len cap, .int .i64 z, .int .i64 k] (w.drewN m) fun e w' => e = .returned (.bool (isKd (coreL L) z k)) ∧ w.drewN m = w') :=
    Lib.hid (fun m z k hz => is_any _ len cap L z k _ (h.drewN m) hz)
  have HX := Lib.hid hx
  clear hc hx hx' hok hb hk0 hkA
  go_enter Tryz.func141, Tryz.ntmps141
  go_wp2
  go_loopw [5, 6, 15] (fun e t i wr => ∃ k m : Nat, k ≤ x.kN ∧ i = .int .i64 k ∧ e = .int .i64 (elemsB (coreL L) (x.core.kids.take k) : Nat) ∧ t = .int .i64 (textsB (coreL L) (x.core.kids.take k) : Nat) ∧ wr = w.drewN m ∧ Hid (∀ j z, j < k → x.core.kids[j]? = some z → kidB (coreL L) n x.core.doc z = true)) (fun _ _ i _ => x.kN - (intOf i).toNat)
  case atStart => exact ⟨0, 0, Nat.zero_le _, rfl, rfl, rfl, rfl, Lib.hid (fun j z hj _ => absurd hj (by omega))⟩
  case round =>
    obtain ⟨k, m, hk, rfl, rfl, rfl, rfl, HA⟩ := hrel
    have hle := both_le (coreL L) k x.core.kids
    obtain ⟨el, hel⟩ : ∃ el, elemsB (coreL L) (x.core.kids.take k) = el := ⟨_, rfl⟩
    obtain ⟨tx, htx⟩ : ∃ tx, textsB (coreL L) (x.core.kids.take k) = tx := ⟨_, rfl⟩
    rw [hel, htx] at hle ⊢
    by_cases hlt : k < x.kN
    · obtain ⟨bk, ok, z, rfl, hbk, hz, hcz, hin⟩ := HK.out.get hlt
      have HES := elemsB_step (F := coreL L) hz
      have HTS := textsB_step (F := coreL L) hz
      rw [hel] at HES
      rw [htx] at HTS
      have STOP : Hid (kidB (coreL L) n x.core.doc z = false → kidsB (coreL L) n x.core = false) := Lib.hid (fun hs => by
        unfold kidsB
        have : x.core.kids.all (kidB (coreL L) n x.core.doc) = false := by rw [List.all_eq_false]; exact ⟨z, List.mem_of_getElem? hz, by simp [hs]⟩
        rw [this, Bool.false_and])
      have MORE : Hid (kidB (coreL L) n x.core.doc z = true → ∀ j y, j < k + 1 → x.core.kids[j]? = some y → kidB (coreL L) n x.core.doc y = true) := Lib.hid (fun hs j y hj hy => by
        by_cases e : j = k
        · subst e
          rw [hz] at hy
          rw [← Option.some.inj hy]
          exact hs
        · exact HA.out j y (by omega) hy)
      clear hz hel htx
      have CI1 := Lib.hid (fun m => CI.out m z 1 hin)
      have CI2 := Lib.hid (fun m => CI.out m z 2 hin)
      cases q1 : isKd (coreL L) z 1 with
      | true =>
        have q2 := isKd_apart q1 (show (1 : Int) ≠ 2 by decide)
        have HE : Hid (elemsB (coreL L) (x.core.kids.take (k + 1)) = el + 1) := Lib.hid (by rw [HES, q1]; rfl)
        have HT : Hid (textsB (coreL L) (x.core.kids.take (k + 1)) = tx) := Lib.hid (by rw [HTS, q2]; rfl)
        rw [q1] at CI1
        rw [q2] at CI2
        clear HES HTS
        (
          obtain ⟨j, y, rfl, hy, hyk⟩ := isKd_get (by assumption)
          have hjl : j < len := by rw [← HL.out]; exact (List.getElem?_eq_some_iff.1 hy).1
          obtain ⟨b2, off2, y', hab, hb2, hy', hcy, hoky⟩ := h.get hjl
          obtain rfl : y = y' := Option.some.inj (hy.symm.trans hy')
          injection hab with hab
          injection hab with e1 e2
          subst e1 e2
          have d5 := hcy.c5
          have d9 := hcy.c9
          have HB : Hid (kidB (coreL L) n x.core.doc (j : Int) = (y.core.parent == (n : Int) && y.core.doc == x.core.doc)) := Lib.hid (by
            unfold kidB
            rw [getC_nat, coreL_get hy]
            simp [*])
          clear hy hyk hcy hoky hy' h hb2
          by_cases p1 : y.core.parent = (n : Int)
          rotate_left
          · have e1 : (y.core.parent != (n : Int)) = true := bne_iff_ne.2 p1
            have e2 : (y.core.parent == (n : Int)) = false := beq_eq_false_iff_ne.2 p1
            have HR : Hid (kidsB (coreL L) n x.core = false) := Lib.hid (STOP.out (by rw [HB.out, e2]; rfl))
            clear p1
            (go_wp2_with (first
                | (go_at_call 85; ((with_reducible refine (CI1.out _).mono ?_); rintro e w' ⟨rfl, rfl⟩))
                | (go_at_call 85; ((with_reducible refine (CI2.out _).mono ?_); rintro e w' ⟨rfl, rfl⟩))))
            go_quiet (fail)
            go_wp2
            go_ret
            exact ⟨ret_bool HR.out.symm, below_drewN (below_drewN (Below.refl _ _) _) _⟩
          by_cases p2 : y.core.doc = x.core.doc
          rotate_left
          · have e1 : (y.core.parent != (n : Int)) = false := by rw [p1]; simp
            have e2 : (y.core.doc != x.core.doc) = true := bne_iff_ne.2 p2
            have e3 : (y.core.doc == x.core.doc) = false := beq_eq_false_iff_ne.2 p2
            have HR : Hid (kidsB (coreL L) n x.core = false) := Lib.hid (STOP.out (by rw [HB.out, e3, Bool.and_false]))
            rw [p1] at d5
            have e4 : ((n : Int) != (n : Int)) = false := by simp
            clear p1 p2
            (go_wp2_with (first
                | (go_at_call 85; ((with_reducible refine (CI1.out _).mono ?_); rintro e w' ⟨rfl, rfl⟩))
                | (go_at_call 85; ((with_reducible refine (CI2.out _).mono ?_); rintro e w' ⟨rfl, rfl⟩))))
            go_quiet (fail)
            go_wp2
            go_ret
            exact ⟨ret_bool HR.out.symm, below_drewN (below_drewN (Below.refl _ _) _) _⟩
          have HB : Hid (kidB (coreL L) n x.core.doc (j : Int) = true) := Lib.hid (by rw [HB.out, p1, p2]; simp)
          rw [p1] at d5
          rw [p2] at d9
          have e4 : ((n : Int) != (n : Int)) = false := by simp
          have e5 : (x.core.doc != x.core.doc) = false := by simp
          clear p1 p2
          (go_wp2_with (first
              | (go_at_call 85; ((with_reducible refine (CI1.out _).mono ?_); rintro e w' ⟨rfl, rfl⟩))
              | (go_at_call 85; ((with_reducible refine (CI2.out _).mono ?_); rintro e w' ⟨rfl, rfl⟩))))
          go_quiet (fail)
          go_wp2
          go_roundw
          case rel => exact ⟨k + 1, _, by omega, by go_num, by first | (rw [HE.out]; done) | (rw [HE.out]; go_num), by first | (rw [HT.out]; done) | (rw [HT.out]; go_num), by first | rfl | exact World.drewN_drewN _ _ _, Lib.hid (MORE.out HB.out)⟩
          case measure => simp [intOf]; omega)
      | false =>
        rw [q1] at CI1
        cases q2 : isKd (coreL L) z 2 with
        | true =>
          have HE : Hid (elemsB (coreL L) (x.core.kids.take (k + 1)) = el) := Lib.hid (by rw [HES, q1]; rfl)
          have HT : Hid (textsB (coreL L) (x.core.kids.take (k + 1)) = tx + 1) := Lib.hid (by rw [HTS, q2]; rfl)
          rw [q2] at CI2
          clear HES HTS
          (
            obtain ⟨j, y, rfl, hy, hyk⟩ := isKd_get (by assumption)
            have hjl : j < len := by rw [← HL.out]; exact (List.getElem?_eq_some_iff.1 hy).1
            obtain ⟨b2, off2, y', hab, hb2, hy', hcy, hoky⟩ := h.get hjl
            obtain rfl : y = y' := Option.some.inj (hy.symm.trans hy')
            injection hab with hab
            injection hab with e1 e2
            subst e1 e2
            have d5 := hcy.c5
            have d9 := hcy.c9
            have HB : Hid (kidB (coreL L) n x.core.doc (j : Int) = (y.core.parent == (n : Int) && y.core.doc == x.core.doc)) := Lib.hid (by
              unfold kidB
              rw [getC_nat, coreL_get hy]
              simp [*])
            clear hy hyk hcy hoky hy' h hb2
            by_cases p1 : y.core.parent = (n : Int)
            rotate_left
            · have e1 : (y.core.parent != (n : Int)) = true := bne_iff_ne.2 p1
              have e2 : (y.core.parent == (n : Int)) = false := beq_eq_false_iff_ne.2 p1
              have HR : Hid (kidsB (coreL L) n x.core = false) := Lib.hid (STOP.out (by rw [HB.out, e2]; rfl))
              clear p1
              (go_wp2_with (first
                  | (go_at_call 85; ((with_reducible refine (CI1.out _).mono ?_); rintro e w' ⟨rfl, rfl⟩))
                  | (go_at_call 85; ((with_reducible refine (CI2.out _).mono ?_); rintro e w' ⟨rfl, rfl⟩))))
              go_quiet (fail)
              go_wp2
              go_ret
              exact ⟨ret_bool HR.out.symm, below_drewN (below_drewN (Below.refl _ _) _) _⟩
            by_cases p2 : y.core.doc = x.core.doc
            rotate_left
            · have e1 : (y.core.parent != (n : Int)) = false := by rw [p1]; simp
              have e2 : (y.core.doc != x.core.doc) = true := bne_iff_ne.2 p2
              have e3 : (y.core.doc == x.core.doc) = false := beq_eq_false_iff_ne.2 p2
              have HR : Hid (kidsB (coreL L) n x.core = false) := Lib.hid (STOP.out (by rw [HB.out, e3, Bool.and_false]))
              rw [p1] at d5
              have e4 : ((n : Int) != (n : Int)) = false := by simp
              clear p1 p2
              (go_wp2_with (first
                  | (go_at_call 85; ((with_reducible refine (CI1.out _).mono ?_); rintro e w' ⟨rfl, rfl⟩))
                  | (go_at_call 85; ((with_reducible refine (CI2.out _).mono ?_); rintro e w' ⟨rfl, rfl⟩))))
              go_quiet (fail)
              go_wp2
              go_ret
              exact ⟨ret_bool HR.out.symm, below_drewN (below_drewN (Below.refl _ _) _) _⟩
            have HB : Hid (kidB (coreL L) n x.core.doc (j : Int) = true) := Lib.hid (by rw [HB.out, p1, p2]; simp)
            rw [p1] at d5
            rw [p2] at d9
            have e4 : ((n : Int) != (n : Int)) = false := by simp
            have e5 : (x.core.doc != x.core.doc) = false := by simp
            clear p1 p2
            (go_wp2_with (first
                | (go_at_call 85; ((with_reducible refine (CI1.out _).mono ?_); rintro e w' ⟨rfl, rfl⟩))
                | (go_at_call 85; ((with_reducible refine (CI2.out _).mono ?_); rintro e w' ⟨rfl, rfl⟩))))
            go_quiet (fail)
            go_wp2
            go_roundw
            case rel => exact ⟨k + 1, _, by omega, by go_num, by first | (rw [HE.out]; done) | (rw [HE.out]; go_num), by first | (rw [HT.out]; done) | (rw [HT.out]; go_num), by first | rfl | exact World.drewN_drewN _ _ _, Lib.hid (MORE.out HB.out)⟩
            case measure => simp [intOf]; omega)
        | false =>
          have HR : Hid (kidsB (coreL L) n x.core = false) := Lib.hid (STOP.out (by unfold kidB; rw [q1, q2]; rfl))
          rw [q2] at CI2
          clear HES HTS q1 q2
          (go_wp2_with (first
              | (go_at_call 85; ((with_reducible refine (CI1.out _).mono ?_); rintro e w' ⟨rfl, rfl⟩))
              | (go_at_call 85; ((with_reducible refine (CI2.out _).mono ?_); rintro e w' ⟨rfl, rfl⟩))))
          go_ret
          exact ⟨ret_bool HR.out.symm, below_drewN (Below.refl _ _) _⟩
    · have hkk : k = x.kN := by omega
      subst hkk
      have e1 : x.core.kids.take x.kN = x.core.kids := List.take_of_length_le (by rw [HKL.out]; omega)
      have HALL : Hid (kidsB (coreL L) n x.core = shapeB (coreL L) x.core) := Lib.hid (by
        unfold kidsB
        have : x.core.kids.all (kidB (coreL L) n x.core.doc) = true := by
          rw [List.all_eq_true]
          intro z hz
          obtain ⟨j, hj, he⟩ := List.mem_iff_getElem.1 hz
          exact HA.out j z (by rw [HKL.out] at hj; omega) (by rw [List.getElem?_eq_getElem hj, he])
        rw [this, Bool.true_and])
      rw [e1] at hel htx
      by_cases k0 : x.core.kind = 0
      · have HR : Hid (kidsB (coreL L) n x.core = (decide ((el : Int) ≤ 1) && ((tx : Int) == 0))) := Lib.hid (by rw [HALL.out]; unfold shapeB; rw [if_pos k0, hel, htx, Bool.eq_iff_iff]; simp; omega)
        rw [k0] at c0
        clear hel htx e1 k0 CI HA HALL
        by_cases t0 : (el : Int) ≤ 1
        · rw [decide_eq_true t0, Bool.true_and] at HR
          go_wp2
          go_ret
          exact ⟨ret_bool HR.out.symm, below_drewN (Below.refl _ _) _⟩
        · rw [decide_eq_false t0, Bool.false_and] at HR
          go_wp2
          go_ret
          exact ⟨ret_bool HR.out.symm, below_drewN (Below.refl _ _) _⟩
      by_cases k2 : x.core.kind = 2
      · have HR : Hid (kidsB (coreL L) n x.core = ((el : Int) + tx == 0)) := Lib.hid (by rw [HALL.out]; unfold shapeB; rw [if_neg k0, if_pos k2, hel, htx, Bool.eq_iff_iff]; simp; omega)
        rw [k2] at c0
        clear hel htx e1 k0 k2 CI HA HALL
        go_wp2
        go_ret
        exact ⟨ret_bool HR.out.symm, below_drewN (Below.refl _ _) _⟩
      have HR : Hid (kidsB (coreL L) n x.core = true) := Lib.hid (by rw [HALL.out]; unfold shapeB; rw [if_neg k0, if_neg k2])
      have f0 : (x.core.kind == 0) = false := beq_eq_false_iff_ne.2 k0
      have f2 : (x.core.kind == 2) = false := beq_eq_false_iff_ne.2 k2
      clear hel htx e1 k0 k2 CI HA HALL
      go_wp2
      go_ret
      exact ⟨ret_bool HR.out.symm, below_drewN (Below.refl _ _) _⟩
end Go.Proofs.YtiffhlncnpppoaaGreatDoor
namespace Go.Proofs.YtiffhlncnpppoaaGreatDoor
open Go.RowKit
def hostB (F : List Core) (i : Int) (x : Core) : Bool := match getC F x.host with | some h => h.kind == 1 && h.under == i && h.doc == x.doc | none => false
def underB (F : List Core) (i : Int) (x : Core) : Bool := match getC F x.under with | some u => u.kind == 4 && u.host == i | none => false
def shadowB (F : List Core) (i : Int) (x : Core) : Bool :=
  if x.kind = 4 then hostB F i x && x.under == -1 else if x.kind = 1 then x.host == -1 && (x.under == -1 || underB F i x) else x.host == -1 && x.under == -1
theorem hostB_no {F : List Core} {i : Int} {x : Core} (h : isKd F x.host 1 = false) : hostB F i x = false := by
  unfold isKd at h
  unfold hostB
  cases hg : getC F x.host with
  | none => rfl
  | some c => rw [hg] at h; dsimp only at h ⊢; rw [h]; rfl
theorem underB_no {F : List Core} {i : Int} {x : Core} (h : isKd F x.under 4 = false) : underB F i x = false := by
  unfold isKd at h
  unfold underB
  cases hg : getC F x.under with
  | none => rfl
  | some c => rw [hg] at h; dsimp only at h ⊢; rw [h]; rfl
theorem stays {w : World} {p : Addr} {v : Value} (h : w.cell? p = some v) (hp : p.block < w.heap.size) : ∀ W, Below w.heap.size w W → W.cell? p = some v := fun _ hb => (hb.cell hp).trans h
theorem Ext.stays {w w1 : World} {p : Addr} {v : Value} (h : ∀ W, Below w.heap.size w W → W.cell? p = some v) (hb : Below w.heap.size w w1) : ∀ x : Ext w1, x.v.cell? p = some v := fun x => h _ (hb.trans (x.below.mono hb.size))
set_option maxHeartbeats 8000000 in
set_option maxRecDepth 100000 in
theorem shadowFits_any (a : Option Addr) (len cap : Nat) (L : List NodeD) (n : Nat) (x : NodeD) (w : World) (h : NodeRow w a len cap L) (hx : L[n]? = some x) :
    Calls Tryz.prog 142 #[.slice a len cap, .int .i64 n] w fun e w' => e = .returned (.bool (shadowB (coreL L) n x.core)) ∧ Below w.heap.size w w' := by
  have hl := h.len64
  have hnl : n < len := by rw [← h.hlen]; exact (List.getElem?_eq_some_iff.1 hx).1
  have HL := Lib.hid h.hlen
  obtain ⟨b, off, x', rfl, hb, hx', hc, hok⟩ := h.get hnl
  obtain rfl : x = x' := Option.some.inj (hx.symm.trans hx')
  have c0 := hc.c0
  have C7 := Lib.hid (stays hc.c7 hb)
  have C8 := Lib.hid (stays hc.c8 hb)
  have C9 := Lib.hid (stays hc.c9 hb)
  have D7 := C9
  have D8 := C9
  have D9 := C9
  have CJ : Hid (∀ z k, In64 z → ∀ W, Below w.heap.size w W → Calls Tryz.prog 85 #[.slice (some ⟨b, off, none⟩) len cap, .int .i64 z, .int .i64 k] W fun e w' => e = .returned (.bool (isKd (coreL L) z k)) ∧ W = w') :=
    Lib.hid (fun z k hz W hb => is_any _ len cap L z k _ (h.below hb) hz)
  have HH := Lib.hid h
  have IH := Lib.hid hok.host
  have IU := Lib.hid hok.under
  have HB := Lib.hid hb
  clear hc hx hx' hok hb h
  by_cases k4 : x.core.kind = 4
  · have CI := Lib.hid (CJ.out x.core.host 1 IH.out)
    have HR : Hid (shadowB (coreL L) n x.core = (hostB (coreL L) n x.core && x.core.under == -1)) := Lib.hid (by unfold shadowB; rw [if_pos k4])
    rw [k4] at c0
    have C0 := Lib.hid (stays c0 HB.out)
    clear c0 k4 CJ IH IU
    cases q1 : isKd (coreL L) x.core.host 1 with
    | false =>
      have HR : Hid (shadowB (coreL L) n x.core = false) := Lib.hid (by rw [HR.out, hostB_no q1, Bool.false_and])
      rw [q1] at CI
      clear q1
      (
        go_enter Tryz.func142, Tryz.ntmps142
        go_wp2
        have E7 := Ext.stays C7.out (Below.refl _ _)
        have E8 := Ext.stays C8.out (Below.refl _ _)
        refine wp_region_ext (by kernel_rfl) (by kernel_rfl) ?_
        repeat (go_big_quiet_step (fail))
        refine wpQuiet_nil ?_
        intro w' hw'
        obtain ⟨⟨w2, hb2⟩, hw''⟩ := hw'
        dsimp only at hw''
        subst hw''
        clear E7 E8
        have c0 := C0.out _ hb2
        have c7 := C7.out _ hb2
        have c8 := C8.out _ hb2
        have c9 := C9.out _ hb2
        have d7 := D7.out _ hb2
        go_wp2_with (go_at_call 85; ((with_reducible refine (CI.out _ hb2).mono ?_); rintro e w' ⟨rfl, rfl⟩)))
      (
        have E0 := Ext.stays C0.out hb2
        have E7 := Ext.stays C7.out hb2
        have E8 := Ext.stays C8.out hb2
        have E9 := Ext.stays C9.out hb2
        have F8 := Ext.stays D8.out hb2
        have F9 := Ext.stays D9.out hb2
        have EI := Lib.hid (fun (x : Ext w') => CI.out _ (hb2.trans (x.below.mono hb2.size)))
        refine wp_region_ext (by kernel_rfl) (by kernel_rfl) ?_
        repeat (go_big_quiet_step (first | (go_at_call 85; exact Ext.call_same (EI.out _))))
        refine wpQuiet_nil ?_
        intro w3 hw'
        obtain ⟨⟨w4, hb4⟩, hw''⟩ := hw'
        dsimp only at hw''
        subst hw''
        have hb3 := hb2.trans (hb4.mono hb2.size)
        clear E0 E7 E8 E9 F8 F9 EI hb2
        go_wp2)
      (go_ret; exact ⟨ret_bool HR.out.symm, by assumption⟩)
    | true =>
      rw [q1] at CI
      obtain ⟨j, y, hj, hy, hyk⟩ := isKd_get q1
      have HH2 : Hid (hostB (coreL L) n x.core = (y.core.under == (n : Int) && y.core.doc == x.core.doc)) := Lib.hid (by
        unfold hostB
        rw [hj, getC_nat, coreL_get hy]
        dsimp only
        rw [hyk]
        rfl)
      have hjl : j < len := by rw [← HL.out]; exact (List.getElem?_eq_some_iff.1 hy).1
      obtain ⟨b2, off2, y', hab, hb2, hy', hcy, hoky⟩ := HH.out.get hjl
      obtain rfl : y = y' := Option.some.inj (hy.symm.trans hy')
      injection hab with hab
      injection hab with e1 e2
      subst e1 e2
      have d8 := hcy.c8
      have d9 := hcy.c9
      rw [hj] at C7 CI
      have HB2 := Lib.hid hb2
      clear q1 hj hy hyk hcy hoky hy' hb2
      have D9 := Lib.hid (stays d9 HB2.out)
      by_cases p1 : y.core.under = (n : Int)
      rotate_left
      · have f1 : (y.core.under == (n : Int)) = false := beq_eq_false_iff_ne.2 p1
        have HR : Hid (shadowB (coreL L) n x.core = false) := Lib.hid (by rw [HR.out, HH2.out, f1]; rfl)
        have D8 := Lib.hid (stays d8 HB2.out)
        clear p1 d8 d9
        (
          go_enter Tryz.func142, Tryz.ntmps142
          go_wp2
          have E7 := Ext.stays C7.out (Below.refl _ _)
          have E8 := Ext.stays C8.out (Below.refl _ _)
          refine wp_region_ext (by kernel_rfl) (by kernel_rfl) ?_
          repeat (go_big_quiet_step (fail))
          refine wpQuiet_nil ?_
          intro w' hw'
          obtain ⟨⟨w2, hb2⟩, hw''⟩ := hw'
          dsimp only at hw''
          subst hw''
          clear E7 E8
          have c0 := C0.out _ hb2
          have c7 := C7.out _ hb2
          have c8 := C8.out _ hb2
          have c9 := C9.out _ hb2
          have d7 := D7.out _ hb2
          go_wp2_with (go_at_call 85; ((with_reducible refine (CI.out _ hb2).mono ?_); rintro e w' ⟨rfl, rfl⟩)))
        (
          have E0 := Ext.stays C0.out hb2
          have E7 := Ext.stays C7.out hb2
          have E8 := Ext.stays C8.out hb2
          have E9 := Ext.stays C9.out hb2
          have F8 := Ext.stays D8.out hb2
          have F9 := Ext.stays D9.out hb2
          have EI := Lib.hid (fun (x : Ext w') => CI.out _ (hb2.trans (x.below.mono hb2.size)))
          refine wp_region_ext (by kernel_rfl) (by kernel_rfl) ?_
          repeat (go_big_quiet_step (first | (go_at_call 85; exact Ext.call_same (EI.out _))))
          refine wpQuiet_nil ?_
          intro w3 hw'
          obtain ⟨⟨w4, hb4⟩, hw''⟩ := hw'
          dsimp only at hw''
          subst hw''
          have hb3 := hb2.trans (hb4.mono hb2.size)
          clear E0 E7 E8 E9 F8 F9 EI hb2
          go_wp2)
        (go_ret; exact ⟨ret_bool HR.out.symm, by assumption⟩)
      rw [p1] at d8
      have D8 := Lib.hid (stays d8 HB2.out)
      clear d8
      have f1 : ((n : Int) == (n : Int)) = true := by simp
      by_cases p2 : y.core.doc = x.core.doc
      rotate_left
      · have f2 : (y.core.doc == x.core.doc) = false := beq_eq_false_iff_ne.2 p2
        have HR : Hid (shadowB (coreL L) n x.core = false) := Lib.hid (by rw [HR.out, HH2.out, f2]; simp)
        clear p1 p2 d9
        (
          go_enter Tryz.func142, Tryz.ntmps142
          go_wp2
          have E7 := Ext.stays C7.out (Below.refl _ _)
          have E8 := Ext.stays C8.out (Below.refl _ _)
          refine wp_region_ext (by kernel_rfl) (by kernel_rfl) ?_
          repeat (go_big_quiet_step (fail))
          refine wpQuiet_nil ?_
          intro w' hw'
          obtain ⟨⟨w2, hb2⟩, hw''⟩ := hw'
          dsimp only at hw''
          subst hw''
          clear E7 E8
          have c0 := C0.out _ hb2
          have c7 := C7.out _ hb2
          have c8 := C8.out _ hb2
          have c9 := C9.out _ hb2
          have d7 := D7.out _ hb2
          go_wp2_with (go_at_call 85; ((with_reducible refine (CI.out _ hb2).mono ?_); rintro e w' ⟨rfl, rfl⟩)))
        (
          have E0 := Ext.stays C0.out hb2
          have E7 := Ext.stays C7.out hb2
          have E8 := Ext.stays C8.out hb2
          have E9 := Ext.stays C9.out hb2
          have F8 := Ext.stays D8.out hb2
          have F9 := Ext.stays D9.out hb2
          have EI := Lib.hid (fun (x : Ext w') => CI.out _ (hb2.trans (x.below.mono hb2.size)))
          refine wp_region_ext (by kernel_rfl) (by kernel_rfl) ?_
          repeat (go_big_quiet_step (first | (go_at_call 85; exact Ext.call_same (EI.out _))))
          refine wpQuiet_nil ?_
          intro w3 hw'
          obtain ⟨⟨w4, hb4⟩, hw''⟩ := hw'
          dsimp only at hw''
          subst hw''
          have hb3 := hb2.trans (hb4.mono hb2.size)
          clear E0 E7 E8 E9 F8 F9 EI hb2
          go_wp2)
        (go_ret; exact ⟨ret_bool HR.out.symm, by assumption⟩)
      rw [p2] at d9
      have D9 := Lib.hid (stays d9 HB2.out)
      clear d9
      have f2 : (x.core.doc == x.core.doc) = true := by simp
      have HR : Hid (shadowB (coreL L) n x.core = (x.core.under == -1)) := Lib.hid (by rw [HR.out, HH2.out, p1, p2]; simp)
      clear p1 p2
      (
        go_enter Tryz.func142, Tryz.ntmps142
        go_wp2
        have E7 := Ext.stays C7.out (Below.refl _ _)
        have E8 := Ext.stays C8.out (Below.refl _ _)
        refine wp_region_ext (by kernel_rfl) (by kernel_rfl) ?_
        repeat (go_big_quiet_step (fail))
        refine wpQuiet_nil ?_
        intro w' hw'
        obtain ⟨⟨w2, hb2⟩, hw''⟩ := hw'
        dsimp only at hw''
        subst hw''
        clear E7 E8
        have c0 := C0.out _ hb2
        have c7 := C7.out _ hb2
        have c8 := C8.out _ hb2
        have c9 := C9.out _ hb2
        have d7 := D7.out _ hb2
        go_wp2_with (go_at_call 85; ((with_reducible refine (CI.out _ hb2).mono ?_); rintro e w' ⟨rfl, rfl⟩)))
      (
        have E0 := Ext.stays C0.out hb2
        have E7 := Ext.stays C7.out hb2
        have E8 := Ext.stays C8.out hb2
        have E9 := Ext.stays C9.out hb2
        have F8 := Ext.stays D8.out hb2
        have F9 := Ext.stays D9.out hb2
        have EI := Lib.hid (fun (x : Ext w') => CI.out _ (hb2.trans (x.below.mono hb2.size)))
        refine wp_region_ext (by kernel_rfl) (by kernel_rfl) ?_
        repeat (go_big_quiet_step (first | (go_at_call 85; exact Ext.call_same (EI.out _))))
        refine wpQuiet_nil ?_
        intro w3 hw'
        obtain ⟨⟨w4, hb4⟩, hw''⟩ := hw'
        dsimp only at hw''
        subst hw''
        have hb3 := hb2.trans (hb4.mono hb2.size)
        clear E0 E7 E8 E9 F8 F9 EI hb2
        go_wp2)
      (go_ret; exact ⟨ret_bool HR.out.symm, by assumption⟩)
  have f4 : (x.core.kind == 4) = false := beq_eq_false_iff_ne.2 k4
  by_cases k1 : x.core.kind = 1
  rotate_left
  · have f1 : (x.core.kind == 1) = false := beq_eq_false_iff_ne.2 k1
    have HR : Hid (shadowB (coreL L) n x.core = (x.core.host == -1 && x.core.under == -1)) := Lib.hid (by unfold shadowB; rw [if_neg k4, if_neg k1])
    have C0 := Lib.hid (stays c0 HB.out)
    have CI := Lib.hid (CJ.out x.core.under 4 IU.out)
    clear c0 k4 k1 CJ IH IU HH
    cases p1 : (x.core.host == -1) with
    | false =>
      rw [p1, Bool.false_and] at HR
      (
        go_enter Tryz.func142, Tryz.ntmps142
        go_wp2
        have E7 := Ext.stays C7.out (Below.refl _ _)
        have E8 := Ext.stays C8.out (Below.refl _ _)
        refine wp_region_ext (by kernel_rfl) (by kernel_rfl) ?_
        repeat (go_big_quiet_step (fail))
        refine wpQuiet_nil ?_
        intro w' hw'
        obtain ⟨⟨w2, hb2⟩, hw''⟩ := hw'
        dsimp only at hw''
        subst hw''
        clear E7 E8
        have c0 := C0.out _ hb2
        have c7 := C7.out _ hb2
        have c8 := C8.out _ hb2
        have c9 := C9.out _ hb2
        have d7 := D7.out _ hb2
        go_wp2_with (go_at_call 85; ((with_reducible refine (CI.out _ hb2).mono ?_); rintro e w' ⟨rfl, rfl⟩)))
      (go_ret; exact ⟨ret_bool HR.out.symm, by assumption⟩)
    | true =>
      rw [p1, Bool.true_and] at HR
      (
        go_enter Tryz.func142, Tryz.ntmps142
        go_wp2
        have E7 := Ext.stays C7.out (Below.refl _ _)
        have E8 := Ext.stays C8.out (Below.refl _ _)
        refine wp_region_ext (by kernel_rfl) (by kernel_rfl) ?_
        repeat (go_big_quiet_step (fail))
        refine wpQuiet_nil ?_
        intro w' hw'
        obtain ⟨⟨w2, hb2⟩, hw''⟩ := hw'
        dsimp only at hw''
        subst hw''
        clear E7 E8
        have c0 := C0.out _ hb2
        have c7 := C7.out _ hb2
        have c8 := C8.out _ hb2
        have c9 := C9.out _ hb2
        have d7 := D7.out _ hb2
        go_wp2_with (go_at_call 85; ((with_reducible refine (CI.out _ hb2).mono ?_); rintro e w' ⟨rfl, rfl⟩)))
      (go_ret; exact ⟨ret_bool HR.out.symm, by assumption⟩)
  have CI := Lib.hid (CJ.out x.core.under 4 IU.out)
  have HR : Hid (shadowB (coreL L) n x.core = (x.core.host == -1 && (x.core.under == -1 || underB (coreL L) n x.core))) := Lib.hid (by unfold shadowB; rw [if_neg k4, if_pos k1])
  rw [k1] at c0
  have C0 := Lib.hid (stays c0 HB.out)
  clear c0 k4 k1 f4 CJ IH IU
  cases p1 : (x.core.host == -1) with
  | false =>
    rw [p1, Bool.false_and] at HR
    (
      go_enter Tryz.func142, Tryz.ntmps142
      go_wp2
      have E7 := Ext.stays C7.out (Below.refl _ _)
      have E8 := Ext.stays C8.out (Below.refl _ _)
      refine wp_region_ext (by kernel_rfl) (by kernel_rfl) ?_
      repeat (go_big_quiet_step (fail))
      refine wpQuiet_nil ?_
      intro w' hw'
      obtain ⟨⟨w2, hb2⟩, hw''⟩ := hw'
      dsimp only at hw''
      subst hw''
      clear E7 E8
      have c0 := C0.out _ hb2
      have c7 := C7.out _ hb2
      have c8 := C8.out _ hb2
      have c9 := C9.out _ hb2
      have d7 := D7.out _ hb2
      go_wp2_with (go_at_call 85; ((with_reducible refine (CI.out _ hb2).mono ?_); rintro e w' ⟨rfl, rfl⟩)))
    (go_ret; exact ⟨ret_bool HR.out.symm, by assumption⟩)
  | true =>
    rw [p1, Bool.true_and] at HR
    cases p2 : (x.core.under == -1) with
    | true =>
      rw [p2, Bool.true_or] at HR
      (
        go_enter Tryz.func142, Tryz.ntmps142
        go_wp2
        have E7 := Ext.stays C7.out (Below.refl _ _)
        have E8 := Ext.stays C8.out (Below.refl _ _)
        refine wp_region_ext (by kernel_rfl) (by kernel_rfl) ?_
        repeat (go_big_quiet_step (fail))
        refine wpQuiet_nil ?_
        intro w' hw'
        obtain ⟨⟨w2, hb2⟩, hw''⟩ := hw'
        dsimp only at hw''
        subst hw''
        clear E7 E8
        have c0 := C0.out _ hb2
        have c7 := C7.out _ hb2
        have c8 := C8.out _ hb2
        have c9 := C9.out _ hb2
        have d7 := D7.out _ hb2
        go_wp2_with (go_at_call 85; ((with_reducible refine (CI.out _ hb2).mono ?_); rintro e w' ⟨rfl, rfl⟩)))
      (go_ret; exact ⟨ret_bool HR.out.symm, by assumption⟩)
    | false =>
      rw [p2, Bool.false_or] at HR
      cases q1 : isKd (coreL L) x.core.under 4 with
      | false =>
        have HR : Hid (shadowB (coreL L) n x.core = false) := Lib.hid (by rw [HR.out, underB_no q1])
        rw [q1] at CI
        clear q1
        (
          go_enter Tryz.func142, Tryz.ntmps142
          go_wp2
          have E7 := Ext.stays C7.out (Below.refl _ _)
          have E8 := Ext.stays C8.out (Below.refl _ _)
          refine wp_region_ext (by kernel_rfl) (by kernel_rfl) ?_
          repeat (go_big_quiet_step (fail))
          refine wpQuiet_nil ?_
          intro w' hw'
          obtain ⟨⟨w2, hb2⟩, hw''⟩ := hw'
          dsimp only at hw''
          subst hw''
          clear E7 E8
          have c0 := C0.out _ hb2
          have c7 := C7.out _ hb2
          have c8 := C8.out _ hb2
          have c9 := C9.out _ hb2
          have d7 := D7.out _ hb2
          go_wp2_with (go_at_call 85; ((with_reducible refine (CI.out _ hb2).mono ?_); rintro e w' ⟨rfl, rfl⟩)))
        (go_ret; exact ⟨ret_bool HR.out.symm, by assumption⟩)
      | true =>
        rw [q1] at CI
        obtain ⟨j, y, hj, hy, hyk⟩ := isKd_get q1
        have HR : Hid (shadowB (coreL L) n x.core = (y.core.host == (n : Int))) := Lib.hid (by
          rw [HR.out]
          unfold underB
          rw [hj, getC_nat, coreL_get hy]
          dsimp only
          rw [hyk]
          rfl)
        have hjl : j < len := by rw [← HL.out]; exact (List.getElem?_eq_some_iff.1 hy).1
        obtain ⟨b2, off2, y', hab, hb2, hy', hcy, hoky⟩ := HH.out.get hjl
        obtain rfl : y = y' := Option.some.inj (hy.symm.trans hy')
        injection hab with hab
        injection hab with e1 e2
        subst e1 e2
        have D7 := Lib.hid (stays hcy.c7 hb2)
        rw [hj] at C8 CI p2
        clear q1 hj hy hyk hcy hoky hy' hb2
        (
          go_enter Tryz.func142, Tryz.ntmps142
          go_wp2
          have E7 := Ext.stays C7.out (Below.refl _ _)
          have E8 := Ext.stays C8.out (Below.refl _ _)
          refine wp_region_ext (by kernel_rfl) (by kernel_rfl) ?_
          repeat (go_big_quiet_step (fail))
          refine wpQuiet_nil ?_
          intro w' hw'
          obtain ⟨⟨w2, hb2⟩, hw''⟩ := hw'
          dsimp only at hw''
          subst hw''
          clear E7 E8
          have c0 := C0.out _ hb2
          have c7 := C7.out _ hb2
          have c8 := C8.out _ hb2
          have c9 := C9.out _ hb2
          have d7 := D7.out _ hb2
          go_wp2_with (go_at_call 85; ((with_reducible refine (CI.out _ hb2).mono ?_); rintro e w' ⟨rfl, rfl⟩)))
        (go_ret; exact ⟨ret_bool HR.out.symm, by assumption⟩)
end Go.Proofs.YtiffhlncnpppoaaGreatDoor
