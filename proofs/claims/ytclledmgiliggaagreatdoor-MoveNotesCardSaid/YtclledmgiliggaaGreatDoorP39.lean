/- Texts joined in build order: MoveAwake MoveAwake6 MoveBack MoveAgainMath3 MoveAgain Ref6Attrs Tied. -/
import Derived.Test.YtclledmgiliggaaGreatDoorP36
import Derived.Test.YtclledmgiliggaaGreatDoorP03
import Derived.Test.YtclledmgiliggaaGreatDoorP17
import Derived.Test.YtclledmgiliggaaGreatDoorP16
import Derived.Test.YtclledmgiliggaaGreatDoorP04
import Derived.Test.YtclledmgiliggaaGreatDoorP22
import Derived.Test.YtclledmgiliggaaGreatDoorP38
import Derived.Test.YtclledmgiliggaaGreatDoorP34
import Derived.Test.YtclledmgiliggaaGreatDoorP28
import Derived.Test.YtclledmgiliggaaGreatDoorP20
import Derived.Test.YtclledmgiliggaaGreatDoorRows
import Derived.WalkKit
import Derived.ProofKit
import Derived.OpenShut
import Derived.ShutString
import Derived.ChangeOld
import Derived.ChangeSame
import Derived.ChangeVars
import Derived.JoinedOf
import Derived.RowKit
import Derived.RowKitTokens
import Derived.LaidLaws
import Derived.LaidHandle
import Derived.Stop.Joined
namespace Go.Proofs.YtclledmgiliggaaGreatDoor
open Go.RowKit
def mv1 : List Core := [docC]
def mvF3 : List Core := (insZ 5 f2 1 0 (-1)).1
def mvF4 : List Core := (setZ 5 mvF3 1 [66] ⟨#[49]⟩).1
def mvF5 : List Core := (remZ 5 mvF4 1).1
def mvN1 : List NoteD := [⟨1, 1, 0, 0, ⟨#[]⟩, false, false, ⟨#[]⟩, ⟨#[]⟩⟩]
def mvN2 : List NoteD := [⟨4, 1, 0, 0, ⟨#[98]⟩, false, true, ⟨#[]⟩, ⟨#[49]⟩⟩]
def mvN3 : List NoteD := [⟨2, 1, 0, 0, ⟨#[]⟩, false, false, ⟨#[]⟩, ⟨#[]⟩⟩]
theorem mva1 : insZ 5 f2 1 0 (-1) = (mvF3, mvN1, 0) := by decide +kernel
theorem mva2 : setZ 5 mvF3 1 [66] ⟨#[49]⟩ = (mvF4, mvN2, 0) := by decide +kernel
theorem mva3 : remZ 5 mvF4 1 = (mvF5, mvN3, 0) := by decide +kernel
theorem mva4 : remZ 5 mvF5 1 = (mvF5, [], 6) := by decide +kernel
theorem mva5 : newL 5 = mv1 ∧ newM 5 = 5 ∧ newE 5 = 0 := by decide +kernel
theorem mva6 : makeE 5 mv1 (pC 112) = 0 ∧ makeN 5 mv1 (pC 112) = 1 ∧ makeL 5 mv1 (pC 112) = f2 := fa2
structure MBox (w W : World) (g : Nat) (a : Option Addr) (len cap : Nat) (m : Int) (L : List NodeD) (F : List Core) : Prop where
  box : Box w W g a len cap m L F
  free : ∀ o, W.frozen? ⟨g, o, none⟩ = false
  nt : ∀ j s, W.cell? ⟨g, j, none⟩ ≠ some (.string s)
theorem MBox.new {w W : World} {a : Option Addr} {len cap : Nat} {m : Int} {L : List NodeD} {F : List Core} (hb : Below w.heap.size w W) (h : NodeRow W a len cap L) (hc : coreL L = F) : MBox w (W.alloc (forB a len cap m)) W.heap.size a len cap m L F := by
  refine ⟨⟨h.below (below_box _ _), hc, hb.size, by simp, cell_of_row (W.alloc (forB a len cap m)) W.heap.size 0 _ 24 (0, 0) (heap_alloc_new W _), cell_of_row (W.alloc (forB a len cap m)) W.heap.size 1 _ 24 (0, 0) (heap_alloc_new W _), hb.alloc hb.size _⟩, fun o => row_free (heap_alloc_new W _) o, fun j s => ?_⟩
  exact box_notext (Below.refl _ _)
theorem MBox.keep {w W W2 : World} {g : Nat} {a : Option Addr} {len cap : Nat} {m : Int} {L : List NodeD} {F : List Core} (h : MBox w W g a len cap m L F) (hb : Below W.heap.size W W2) : MBox w W2 g a len cap m L F :=
  ⟨h.box.keep hb, fun o => (hb.frozen (p := ⟨g, o, none⟩) h.box.lt).trans (h.free o), fun j s => by rw [hb.cell (p := ⟨g, j, none⟩) h.box.lt]; exact h.nt j s⟩
theorem MBox.put {w W : World} {g : Nat} {a a2 : Option Addr} {len cap len2 cap2 : Nat} {m m2 : Int} {L L2 : List NodeD} {F F2 : List Core} (h : MBox w W g a len cap m L F) (hr : NodeRow ((W.setCell ⟨g, 0, none⟩ (.slice a2 len2 cap2)).setCell ⟨g, 1, none⟩ (.int .i64 m2)) a2 len2 cap2 L2) (hc : coreL L2 = F2) :
    MBox w ((W.setCell ⟨g, 0, none⟩ (.slice a2 len2 cap2)).setCell ⟨g, 1, none⟩ (.int .i64 m2)) g a2 len2 cap2 m2 L2 F2 := by
  have n1 := notext_set (o := 0) (u := .slice a2 len2 cap2) h.nt h.box.c0 (fun s e => by cases e)
  have c1 : (W.setCell ⟨g, 0, none⟩ (.slice a2 len2 cap2)).cell? ⟨g, 1, none⟩ = some (.int .i64 m) := (World.cell?_setCell_other _ _ _ _ (fun e => by injection e with _ e; omega)).trans h.box.c1
  refine ⟨⟨hr, hc, h.box.low, by simpa [World.setCell] using h.box.lt, ?_, World.cell?_setCell_same _ _ _ c1, (h.box.below.setCell (p := ⟨g, 0, none⟩) h.box.low _).setCell (p := ⟨g, 1, none⟩) h.box.low _⟩, fun o => by rw [World.frozen?_setCell, World.frozen?_setCell]; exact h.free o, notext_set n1 c1 (fun s e => by cases e)⟩
  exact (World.cell?_setCell_other _ _ _ _ (fun e => by injection e with _ e; omega)).trans (World.cell?_setCell_same _ _ _ h.box.c0)
theorem MBox.set {w W : World} {g : Nat} {a a2 : Option Addr} {len cap len2 cap2 : Nat} {m m2 : Int} {L L2 : List NodeD} {F F2 : List Core} (h : MBox w W g a len cap m L F) (h2 : NodeRow W a2 len2 cap2 L2) (hc : coreL L2 = F2) (hk : ∀ x ∈ L2, x.core.kids = [] ∧ x.core.attrs = []) :
    MBox w ((W.setCell ⟨g, 0, none⟩ (.slice a2 len2 cap2)).setCell ⟨g, 1, none⟩ (.int .i64 m2)) g a2 len2 cap2 m2 L2 F2 :=
  h.put ((h2.setBox h.nt hk _).setBox (notext_set (o := 0) (u := .slice a2 len2 cap2) h.nt h.box.c0 (fun s e => by cases e)) hk _) hc
theorem MBox.mv {w W W2 : World} {g : Nat} {a a2 va : Option Addr} {len cap len2 cap2 : Nat} {m m2 : Int} {L L2 : List NodeD} {F F2 : List Core} (h : MBox w W g a len cap m L F) (hb : Below W.heap.size W W2) (h2 : NodeRow W2 a2 len2 cap2 L2) (hc : coreL L2 = F2) (hn : MvNew W.heap.size a2 va L2) :
    MBox w ((W2.setCell ⟨g, 0, none⟩ (.slice a2 len2 cap2)).setCell ⟨g, 1, none⟩ (.int .i64 m2)) g a2 len2 cap2 m2 L2 F2 :=
  (h.keep hb).put ((h2.far (hn g h.box.lt).1 (hn g h.box.lt).2.1 0 _).far (hn g h.box.lt).1 (hn g h.box.lt).2.1 1 _) hc
theorem NoteRow.far {W : World} {a : Option Addr} {len cap q : Nat} {N : List NoteD} (h : NoteRow W a len cap N) (ha : ∀ b off, a = some ⟨b, off, none⟩ → b ≠ q) (o : Nat) (u : Value) : NoteRow (W.setCell ⟨q, o, none⟩ u) a len cap N :=
  ⟨h.row.keep (by simp [World.setCell]) (fun b off he _ o' => World.cell?_setCell_other _ _ _ _ (fun e => by injection e with e _; exact ha b off he e.symm)), h.ok, h.hnil⟩
theorem NoteRow.one {W : World} {a : Option Addr} {len cap : Nat} {x : NoteD} (h : NoteRow W a len cap [x]) : len = 1 ∧ ∃ b off, a = some ⟨b, off, none⟩ ∧ b < W.heap.size ∧ ∀ j v, (encO x)[j]? = some v → W.cell? ⟨b, off + j, none⟩ = some v := by
  have hl : 1 = len := h.row.hlen
  subst hl
  obtain ⟨b, off, y, h1, h2, h3, _, h5⟩ := h.row.get (k := 0) (by decide)
  obtain rfl : x = y := Option.some.inj h3
  exact ⟨rfl, b, off, h1, h2, fun j v hv => by have := h5 j v hv; rwa [Nat.zero_mul, Nat.add_zero] at this⟩
theorem mvSmall {L : List NodeD} {F : List Core} (h : coreL L = F) (hd : decide (F.length ≤ 1000 ∧ ∀ c ∈ F, c.kids.length ≤ 1000 ∧ c.attrs.length ≤ 1000 ∧ c.name.size ≤ 1000) = true) : smallF L := by
  have hd := of_decide_eq_true hd
  refine ⟨by rw [← coreL_len, h]; exact hd.1, fun x hx => ?_⟩
  have hm : x.core ∈ F := by rw [← h]; exact List.mem_map.2 ⟨x, hx, rfl⟩
  exact hd.2 _ hm
end Go.Proofs.YtclledmgiliggaaGreatDoor
namespace Go.Proofs.YtclledmgiliggaaGreatDoor
open Go.RowKit
set_option maxHeartbeats 8000000 in
set_option maxRecDepth 100000 in
theorem awake6_any (w : World) (hg : ErrVar w) : Calls Tryz.prog 9 #[] w fun e w' => e = .returned (.bool true) ∧ Below w.heap.size w w' := by
  have inm : In64 (-1) := ⟨by decide, by decide⟩
  have HG := Lib.hid hg
  have C0 : Hid (∀ W, Calls Tryz.prog 44 #[.int .i64 5] W (ForPost W mv1 5 [.int .i64 0])) := Lib.hid (fun W => by
    have := newFn_any 5 W in5
    rwa [mva5.1, mva5.2.1, mva5.2.2] at this)
  have C1 : Hid (∀ W a len cap L, NodeRow W a len cap L → coreL L = mv1 → Calls Tryz.prog 45 #[forV a len cap 5, pV 112] W (ForPost W f2 5 [.int .i64 1, .int .i64 0])) := Lib.hid (fun W a len cap L h hc => by
    have := makeFn_any a len cap 5 L (pD 112) W h (pD_ok _ _) in5 (mvSmall hc (by decide +kernel)) (pD_small _)
    rw [hc, show (pD 112).core = pC 112 from rfl, mva6.1, mva6.2.1, mva6.2.2] at this
    exact this)
  have C2 : Hid (∀ W a len cap L, NodeRow W a len cap L → coreL L = f2 → ErrVar W → Calls Tryz.prog 11 #[forV a len cap 5, .int .i64 1, .int .i64 0, .int .i64 (-1)] W (MvPost W 5 (mvF3, mvN1, 0))) := Lib.hid (fun W a len cap L h hc hg => by
    have := minsert_any a len cap 5 L 1 0 (-1) W h in5 in1 in0 inm (small2 hc) hg
    rwa [hc, mva1] at this)
  have C3 : Hid (∀ W a len cap L, NodeRow W a len cap L → coreL L = mvF3 → ErrVar W → Calls Tryz.prog 21 #[forV a len cap 5, .int .i64 1, .string ⟨#[66]⟩, .string ⟨#[49]⟩] W (MvPost W 5 (mvF4, mvN2, 0))) := Lib.hid (fun W a len cap L h hc hg => by
    have := mset_any a len cap 5 L 1 ⟨#[66]⟩ ⟨#[49]⟩ W h in5 in1 (by decide) (by decide) (mvSmall hc (by decide +kernel)) hg
    rw [show (⟨#[66]⟩ : ByteArray).toList = [66] from toList_ofL [66], hc, mva2] at this
    exact this)
  have C4 : Hid (∀ W a len cap L, NodeRow W a len cap L → coreL L = mvF4 → ErrVar W → Calls Tryz.prog 12 #[forV a len cap 5, .int .i64 1] W (MvPost W 5 (mvF5, mvN3, 0))) := Lib.hid (fun W a len cap L h hc hg => by
    have := mremove_any a len cap 5 L 1 W h in5 in1 (mvSmall hc (by decide +kernel)) hg
    rwa [hc, mva3] at this)
  have C5 : Hid (∀ W a len cap L, NodeRow W a len cap L → coreL L = mvF5 → ErrVar W → Calls Tryz.prog 12 #[forV a len cap 5, .int .i64 1] W (MvPost W 5 (mvF5, [], 6))) := Lib.hid (fun W a len cap L h hc hg => by
    have := mremove_any a len cap 5 L 1 W h in5 in1 (mvSmall hc (by decide +kernel)) hg
    rwa [hc, mva4] at this)
  clear inm hg
  go_enter Tryz.func9, Tryz.ntmps9
  go_wp2_with (first
    | (go_at_call 44; refine (C0.out _).mono ?_; rintro e w1 ⟨a1, len1, cap1, L1, rfl, hr1, hc1, hb1⟩; have B1 := Lib.hid (MBox.new (m := 5) hb1 hr1 hc1); (have z0 := (B1).out.box.c0; have z1 := (B1).out.box.c1; have xf0 := (B1).out.free 0; have xf1 := (B1).out.free 1); clear hr1 hc1 hb1)
    | (go_at_call 45; ((with_reducible refine (C1.out _ _ _ _ _ B1.out.box.row B1.out.box.core).mono ?_); rintro e w2 ⟨a2, len2, cap2, L2, rfl, hr2, hc2, hb2⟩)
       have BX := Lib.hid (B1.out.keep hb2)
       clear z0 z1 xf0 xf1
       (have z0 := (BX).out.box.c0; have z1 := (BX).out.box.c1; have xf0 := (BX).out.free 0; have xf1 := (BX).out.free 1)
       have B2 := Lib.hid (BX.out.set (m2 := 5) hr2 hc2 (bare2 hc2))
       clear hr2 hc2 hb2)
    | (go_at_call 11; ((with_reducible refine (C2.out _ _ _ _ _ B2.out.box.row B2.out.box.core (HG.out.keep B2.out.box.below)).mono ?_); rintro e w3 ⟨a3, len3, cap3, L3, va3, vl3, vc3, rfl, hr3, hc3, -, hn3, hb3, hf3⟩)
       have BX := Lib.hid (B2.out.keep hb3)
       clear z0 z1 xf0 xf1
       (have z0 := (BX).out.box.c0; have z1 := (BX).out.box.c1; have xf0 := (BX).out.free 0; have xf1 := (BX).out.free 1)
       have B3 := Lib.hid (B2.out.mv (m2 := 5) hb3 hr3 hc3 hf3)
       have N1 := Lib.hid ((hn3.far (hf3 _ B2.out.box.lt).2.2 0 (.slice a3 len3 cap3)).far (hf3 _ B2.out.box.lt).2.2 1 (.int .i64 5))
       have A1 := Lib.hid ((hf3 _ B2.out.box.lt).2.2)
       clear hr3 hc3 hn3 hb3 hf3)
    | (go_at_call 21; ((with_reducible refine (C3.out _ _ _ _ _ B3.out.box.row B3.out.box.core (HG.out.keep B3.out.box.below)).mono ?_); rintro e w4 ⟨a4, len4, cap4, L4, va4, vl4, vc4, rfl, hr4, hc4, -, hn4, hb4, hf4⟩)
       have BX := Lib.hid (B3.out.keep hb4)
       clear z0 z1 xf0 xf1
       (have z0 := (BX).out.box.c0; have z1 := (BX).out.box.c1; have xf0 := (BX).out.free 0; have xf1 := (BX).out.free 1)
       have B4 := Lib.hid (B3.out.mv (m2 := 5) hb4 hr4 hc4 hf4)
       have N2 := Lib.hid ((hn4.far (hf4 _ B3.out.box.lt).2.2 0 (.slice a4 len4 cap4)).far (hf4 _ B3.out.box.lt).2.2 1 (.int .i64 5))
       have N1 := Lib.hid (((N1.out.below hb4).far A1.out 0 (.slice a4 len4 cap4)).far A1.out 1 (.int .i64 5))
       have A2 := Lib.hid ((hf4 _ B3.out.box.lt).2.2)
       clear hr4 hc4 hn4 hb4 hf4)
    | (go_at_call 12; ((with_reducible refine (C4.out _ _ _ _ _ B4.out.box.row B4.out.box.core (HG.out.keep B4.out.box.below)).mono ?_); rintro e w5 ⟨a5, len5, cap5, L5, va5, vl5, vc5, rfl, hr5, hc5, -, hn5, hb5, hf5⟩)
       have BX := Lib.hid (B4.out.keep hb5)
       clear z0 z1 xf0 xf1
       (have z0 := (BX).out.box.c0; have z1 := (BX).out.box.c1; have xf0 := (BX).out.free 0; have xf1 := (BX).out.free 1)
       have B5 := Lib.hid (B4.out.mv (m2 := 5) hb5 hr5 hc5 hf5)
       have N3 := Lib.hid ((hn5.far (hf5 _ B4.out.box.lt).2.2 0 (.slice a5 len5 cap5)).far (hf5 _ B4.out.box.lt).2.2 1 (.int .i64 5))
       have N2 := Lib.hid (((N2.out.below hb5).far A2.out 0 (.slice a5 len5 cap5)).far A2.out 1 (.int .i64 5))
       have N1 := Lib.hid (((N1.out.below hb5).far A1.out 0 (.slice a5 len5 cap5)).far A1.out 1 (.int .i64 5))
       clear hr5 hc5 hn5 hb5 hf5)
    | (go_at_call 12; ((with_reducible refine (C5.out _ _ _ _ _ B5.out.box.row B5.out.box.core (HG.out.keep B5.out.box.below)).mono ?_); rintro e w6 ⟨a6, len6, cap6, L6, va6, vl6, vc6, rfl, -, -, -, -, hb6, -⟩)
       have HX := Lib.hid (hb6.trans ((below_box w6 (forB a6 len6 cap6 5)).mono hb6.size))
       have BE := Lib.hid (B5.out.box.below.trans (HX.out.mono B5.out.box.below.size))
       obtain ⟨rfl, b1, o1, rfl, -, k1⟩ := (N1.out.below HX.out).one
       obtain ⟨rfl, b2, o2, rfl, -, k2⟩ := (N2.out.below HX.out).one
       obtain ⟨rfl, b3, o3, rfl, -, k3⟩ := (N3.out.below HX.out).one
       have p0 := k1 0 _ rfl
       have p1 := k1 1 _ rfl
       have p2 := k1 2 _ rfl
       have p3 := k1 3 _ rfl
       have p4 := k1 4 _ rfl
       have p5 := k1 5 _ rfl
       have p6 := k1 6 _ rfl
       have p7 := k1 7 _ rfl
       have p8 := k1 8 _ rfl
       have q0 := k2 0 _ rfl
       have q1 := k2 1 _ rfl
       have q2 := k2 2 _ rfl
       have q3 := k2 3 _ rfl
       have q4 := k2 4 _ rfl
       have q5 := k2 5 _ rfl
       have q6 := k2 6 _ rfl
       have q7 := k2 7 _ rfl
       have q8 := k2 8 _ rfl
       have r0 := k3 0 _ rfl
       rw [Nat.add_zero] at p0 q0 r0
       clear z0 z1 xf0 xf1 hb6 k1 k2 k3))
  go_ret
  exact ⟨rfl, BE.out⟩
end Go.Proofs.YtclledmgiliggaaGreatDoor
namespace Go.Proofs.YtclledmgiliggaaGreatDoor
open Go.RowKit
theorem conn_eq {m : Int} {F : List Core} (h : rightF m F = true) {n : Nat} (hn : n < F.length) : connZ m F n = connF F n := by
  unfold connZ connF
  rw [thereF_of h hn, topZ_eq h hn, Bool.true_and]
end Go.Proofs.YtclledmgiliggaaGreatDoor
namespace Go.Proofs.YtclledmgiliggaaGreatDoor
open Go.RowKit
end Go.Proofs.YtclledmgiliggaaGreatDoor
namespace Go.Proofs.YtclledmgiliggaaGreatDoor
open Go.RowKit
theorem same_is (W : World) (m : Int) (a1 : Option Addr) (l1 c1 : Nat) (M1 : List NodeD) (a2 : Option Addr) (l2 c2 : Nat) (M2 : List NodeD) (h1 : NodeRow W a1 l1 c1 M1) (h2 : NodeRow W a2 l2 c2 M2) (he : coreL M1 = coreL M2) :
    Calls Tryz.prog 23 #[forV a1 l1 c1 m, forV a2 l2 c2 m] W fun e w' => e = .returned (.bool true) ∧ Below W.heap.size W w' := by
  have := refsameF_any a1 a2 l1 c1 l2 c2 m m M1 M2 W h1 h2
  rw [decide_eq_true he, decide_eq_true (rfl : m = m), Bool.and_self] at this
  exact this
theorem mset_to {m : Int} {F : List Core} {n : Int} {s v : ByteArray} {R : List Core × List NoteD × Int} (hR : setZ m F n s.toList v = R) (W : World) (a : Option Addr) (len cap : Nat) (M : List NodeD) (h : NodeRow W a len cap M) (hc : coreL M = F) (hs : smallF M) (hm : In64 m) (hn : In64 n) (hsz : s.size ≤ maxLen) (hvz : v.size ≤ maxLen) (hg : ErrVar W) :
    Calls Tryz.prog 21 #[forV a len cap m, .int .i64 n, .string s, .string v] W (MvPost W m R) := by
  rw [← hR, ← hc]
  exact mset_any a len cap m M n s v W h hm hn hsz hvz hs hg
theorem mins_to {m : Int} {F : List Core} {n p c : Int} {R : List Core × List NoteD × Int} (hR : insZ m F n p c = R) (W : World) (a : Option Addr) (len cap : Nat) (M : List NodeD) (h : NodeRow W a len cap M) (hc : coreL M = F) (hs : smallF M) (hm : In64 m) (hn : In64 n) (hp : In64 p) (hcc : In64 c) (hg : ErrVar W) :
    Calls Tryz.prog 11 #[forV a len cap m, .int .i64 n, .int .i64 p, .int .i64 c] W (MvPost W m R) := by
  rw [← hR, ← hc]
  exact minsert_any a len cap m M n p c W h hm hn hp hcc hs hg
end Go.Proofs.YtclledmgiliggaaGreatDoor
namespace Go.Proofs.YtclledmgiliggaaGreatDoor
open Go.RowKit
structure Box3 (W : World) (b : Nat) (x y z : Value) : Prop where
  lt : b < W.heap.size
  c0 : W.cell? ⟨b, 0, none⟩ = some x
  c1 : W.cell? ⟨b, 1, none⟩ = some y
  c2 : W.cell? ⟨b, 2, none⟩ = some z
  f : ∀ o, W.frozen? ⟨b, o, none⟩ = false
theorem Box3.new (W : World) (x y z : Value) (t : TypeId) : Box3 (W.alloc (.cells #[x, y, z] t)) W.heap.size x y z :=
  ⟨by simp, cell_of_row _ W.heap.size 0 _ t (0, 0) (heap_alloc_new W _), cell_of_row _ W.heap.size 1 _ t (0, 0) (heap_alloc_new W _), cell_of_row _ W.heap.size 2 _ t (0, 0) (heap_alloc_new W _), fun o => row_free (heap_alloc_new W _) o⟩
theorem Box3.keep {W W2 : World} {b : Nat} {x y z : Value} (h : Box3 W b x y z) (hb : Below W.heap.size W W2) : Box3 W2 b x y z :=
  ⟨Nat.lt_of_lt_of_le h.lt hb.size, (hb.cell (p := ⟨b, 0, none⟩) h.lt).trans h.c0, (hb.cell (p := ⟨b, 1, none⟩) h.lt).trans h.c1, (hb.cell (p := ⟨b, 2, none⟩) h.lt).trans h.c2, fun o => (hb.frozen (p := ⟨b, o, none⟩) h.lt).trans (h.f o)⟩
structure VBox (W : World) (b : Nat) (vs : List Value) : Prop where
  lt : b < W.heap.size
  c : ∀ j u, vs[j]? = some u → W.cell? ⟨b, j, none⟩ = some u
  f : ∀ o, W.frozen? ⟨b, o, none⟩ = false
theorem VBox.new (W : World) (cs : Array Value) (t : TypeId) : VBox (W.alloc (.cells cs t)) W.heap.size cs.toList :=
  ⟨by simp, fun j u hu => by rw [cell_of_row _ W.heap.size j _ t (0, 0) (heap_alloc_new W _)]; simpa using hu, fun o => row_free (heap_alloc_new W _) o⟩
theorem VBox.keep {W W2 : World} {b : Nat} {vs : List Value} (h : VBox W b vs) (hb : Below W.heap.size W W2) : VBox W2 b vs :=
  ⟨Nat.lt_of_lt_of_le h.lt hb.size, fun j u hu => (hb.cell (p := ⟨b, j, none⟩) h.lt).trans (h.c j u hu), fun o => (hb.frozen (p := ⟨b, o, none⟩) h.lt).trans (h.f o)⟩
theorem VBox.set {W : World} {b : Nat} {vs : List Value} (h : VBox W b vs) {j : Nat} (hj : j < vs.length) (u : Value) : VBox (W.setCell ⟨b, j, none⟩ u) b (vs.set j u) := by
  refine ⟨by simpa [World.setCell] using h.lt, fun i z hz => ?_, fun o => by rw [World.frozen?_setCell]; exact h.f o⟩
  by_cases e : i = j
  · subst e
    rw [List.getElem?_set_self hj] at hz
    rw [← Option.some.inj hz]
    exact World.cell?_setCell_same _ _ _ (h.c i _ (List.getElem?_eq_getElem hj))
  · rw [List.getElem?_set_ne (fun e2 => e e2.symm)] at hz
    rw [World.cell?_setCell_other _ _ _ _ (fun e' => by injection e' with _ e'; omega)]
    exact h.c i z hz
theorem VBox.other {W : World} {b q : Nat} {vs : List Value} (h : VBox W b vs) (hq : b ≠ q) (o : Nat) (u : Value) : VBox (W.setCell ⟨q, o, none⟩ u) b vs :=
  ⟨by simpa [World.setCell] using h.lt, fun j z hz => (World.cell?_setCell_other _ _ _ _ (fun e => by injection e with e _; exact hq e.symm)).trans (h.c j z hz), fun o => by rw [World.frozen?_setCell]; exact h.f o⟩
end Go.Proofs.YtclledmgiliggaaGreatDoor
namespace Go.Proofs.YtclledmgiliggaaGreatDoor
open Go.ChangeShapes Go.WideShapes Go.ChangeAt Go.RowKit
theorem tied_own : ownKnob Tryz.prog.godebug = none := by kernel_rfl
theorem tied_laidOut : laidOutB Tryz.prog = true := by kernel_rfl
theorem tied_et : Tryz.prog.globalNamed "errors.errorType" = some 0 := by kernel_rfl
theorem tied_rt : (Tryz.prog.cutTypes.find? (·.1 == "internal/reflectlite.rtype")).map (·.2) = some 183 := by kernel_rfl
theorem tied_oneRow : ((List.range Tryz.prog.types.size).filter fun t => Tryz.prog.rowNamed t [101, 114, 114, 111, 114]) = [86] := by kernel_rfl
abbrev errLaid : List (String × DataW Unit) := [("errors.errorType", Rows.laid_errors_errorType)]
theorem handle_of_laid {W : World} (h : laidMetH Tryz.prog errLaid W) : ErrVar W := by
  have h' : laidMet Tryz.prog [] W ∧ handlesMet Tryz.prog errLaid W := h
  obtain ⟨name, u, ty, e1, e2, e3, e4, e5⟩ := h'.2 _ (List.mem_singleton.2 rfl)
  have en : name = [101, 114, 114, 111, 114] := (Option.some.inj e1).symm
  subst en
  obtain rfl := Option.some.inj (tied_rt.symm.trans e2)
  have hm : ty ∈ (List.range Tryz.prog.types.size).filter fun t => Tryz.prog.rowNamed t [101, 114, 114, 111, 114] := List.mem_filter.2 ⟨List.mem_range.2 e3, e4⟩
  rw [tied_oneRow] at hm
  obtain rfl := List.mem_singleton.1 hm
  have hh : typeHandle Tryz.prog 86 = .pointer (some ⟨2, 86, none⟩) := by kernel_rfl
  rw [hh] at e5
  unfold ErrVar
  simpa using World.var?_cell tied_et e5 0
noncomputable def laidWorld (os : Os) : World :=
  let w0 := World.holding Tryz.prog os ⟨#[], #[], []⟩
  { w0 with heap := w0.heap.modify 0 fun
      | .cells _ t frozen => .cells #[.iface 183 (.agg #[.pointer (some ⟨2, 86, none⟩)])] t frozen
      | o => o }
theorem laidWorld_met (os : Os) (args : Array Value) : laidMetH Tryz.prog errLaid ((laidWorld os).forCall (fun _ _ => 0) ⟨#[], args, []⟩).memory :=
  laidMetH_of_parts (laidMet_nil _ _) (by kernel_rfl)
end Go.Proofs.YtclledmgiliggaaGreatDoor
