/- Texts joined in build order: MoveAwake MoveAwake6 MoveBackMath MoveBack AttrOpen ForestOpen Tied. -/
import Derived.Test.YtbgcpgpkhfbijaaGreatDoorK14
import Derived.Test.YtbgcpgpkhfbijaaGreatDoorK02
import Derived.Test.YtbgcpgpkhfbijaaGreatDoorK07
import Derived.Test.YtbgcpgpkhfbijaaGreatDoorK01
import Derived.Test.YtbgcpgpkhfbijaaGreatDoorK10
import Derived.Test.YtbgcpgpkhfbijaaGreatDoorChecked
import Derived.Deep.SlicePairs
import Derived.ProofKit
import Derived.OpenShut
import Derived.Test.YtbgcpgpkhfbijaaGreatDoorK11
import Derived.Test.YtbgcpgpkhfbijaaGreatDoorRows
import Derived.WalkKit
import Derived.ShutString
import Derived.ChangeOld
import Derived.ChangeSame
import Derived.ChangeVars
import Derived.JoinedOf
import Derived.RowKit
import Derived.RowKitTokens
import Derived.LaidLaws
import Derived.LaidHandle
import Derived.Stop.Joined
/- instarlaw06's awake, over the contracts of packages forest and move. -/
namespace Go.Proofs.YtbgcpgpkhfbijaaGreatDoor
open Go.RowKit
def mv1 : List Core := [docC]
def mvF3 : List Core := (insZ 5 f2 1 0 (-1)).1
def mvF4 : List Core := (setZ 5 mvF3 1 [66] ⟨#[49]⟩).1
def mvF5 : List Core := (remZ 5 mvF4 1).1
def mvN1 : List NoteD := [⟨1, 1, 0, 0, ⟨#[]⟩, false, false, ⟨#[]⟩, ⟨#[]⟩⟩]
def mvN2 : List NoteD := [⟨4, 1, 0, 0, ⟨#[98]⟩, false, true, ⟨#[]⟩, ⟨#[49]⟩⟩]
def mvN3 : List NoteD := [⟨2, 1, 0, 0, ⟨#[]⟩, false, false, ⟨#[]⟩, ⟨#[]⟩⟩]
theorem mva1 : insZ 5 f2 1 0 (-1) = (mvF3, mvN1, 0) := by decide +kernel
theorem mva2 : setZ 5 mvF3 1 [66] ⟨#[49]⟩ = (mvF4, mvN2, 0) := by decide +kernel
theorem mva3 : remZ 5 mvF4 1 = (mvF5, mvN3, 0) := by decide +kernel
theorem mva4 : remZ 5 mvF5 1 = (mvF5, [], 6) := by decide +kernel
theorem mva5 : newL 5 = mv1 ∧ newM 5 = 5 ∧ newE 5 = 0 := by decide +kernel
theorem mva6 : makeE 5 mv1 (pC 112) = 0 ∧ makeN 5 mv1 (pC 112) = 1 ∧ makeL 5 mv1 (pC 112) = f2 := fa2
/-- A forest in a box that is written, in which no text lies. -/
structure MBox (w W : World) (g : Nat) (a : Option Addr) (len cap : Nat) (m : Int) (L : List NodeD) (F : List Core) : Prop where
  box : Box w W g a len cap m L F
  free : ∀ o, W.frozen? ⟨g, o, none⟩ = false
  nt : ∀ j s, W.cell? ⟨g, j, none⟩ ≠ some (.string s)
theorem MBox.new {w W : World} {a : Option Addr} {len cap : Nat} {m : Int} {L : List NodeD} {F : List Core} (hb : Below w.heap.size w W) (h : NodeRow W a len cap L) (hc : coreL L = F) : MBox w (W.alloc (forB a len cap m)) W.heap.size a len cap m L F := by
  refine ⟨⟨h.below (below_box _ _), hc, hb.size, by simp, cell_of_row (W.alloc (forB a len cap m)) W.heap.size 0 _ 24 (0, 0) (heap_alloc_new W _), cell_of_row (W.alloc (forB a len cap m)) W.heap.size 1 _ 24 (0, 0) (heap_alloc_new W _), hb.alloc hb.size _⟩, fun o => row_free (heap_alloc_new W _) o, fun j s => ?_⟩
  exact box_notext (Below.refl _ _)
theorem MBox.keep {w W W2 : World} {g : Nat} {a : Option Addr} {len cap : Nat} {m : Int} {L : List NodeD} {F : List Core} (h : MBox w W g a len cap m L F) (hb : Below W.heap.size W W2) : MBox w W2 g a len cap m L F :=
  ⟨h.box.keep hb, fun o => (hb.frozen (p := ⟨g, o, none⟩) h.box.lt).trans (h.free o), fun j s => by rw [hb.cell (p := ⟨g, j, none⟩) h.box.lt]; exact h.nt j s⟩
theorem MBox.put {w W : World} {g : Nat} {a a2 : Option Addr} {len cap len2 cap2 : Nat} {m m2 : Int} {L L2 : List NodeD} {F F2 : List Core} (h : MBox w W g a len cap m L F) (hr : NodeRow ((W.setCell ⟨g, 0, none⟩ (.slice a2 len2 cap2)).setCell ⟨g, 1, none⟩ (.int .i64 m2)) a2 len2 cap2 L2) (hc : coreL L2 = F2) :
    MBox w ((W.setCell ⟨g, 0, none⟩ (.slice a2 len2 cap2)).setCell ⟨g, 1, none⟩ (.int .i64 m2)) g a2 len2 cap2 m2 L2 F2 := by
  have n1 := notext_set (o := 0) (u := .slice a2 len2 cap2) h.nt h.box.c0 (fun s e => by cases e)
  have c1 : (W.setCell ⟨g, 0, none⟩ (.slice a2 len2 cap2)).cell? ⟨g, 1, none⟩ = some (.int .i64 m) := (World.cell?_setCell_other _ _ _ _ (fun e => by injection e with _ e; omega)).trans h.box.c1
  refine ⟨⟨hr, hc, h.box.low, by simpa [World.setCell] using h.box.lt, ?_, World.cell?_setCell_same _ _ _ c1, (h.box.below.setCell (p := ⟨g, 0, none⟩) h.box.low _).setCell (p := ⟨g, 1, none⟩) h.box.low _⟩, fun o => by rw [World.frozen?_setCell, World.frozen?_setCell]; exact h.free o, notext_set n1 c1 (fun s e => by cases e)⟩
  exact (World.cell?_setCell_other _ _ _ _ (fun e => by injection e with _ e; omega)).trans (World.cell?_setCell_same _ _ _ h.box.c0)
theorem MBox.set {w W : World} {g : Nat} {a a2 : Option Addr} {len cap len2 cap2 : Nat} {m m2 : Int} {L L2 : List NodeD} {F F2 : List Core} (h : MBox w W g a len cap m L F) (h2 : NodeRow W a2 len2 cap2 L2) (hc : coreL L2 = F2) (hk : ∀ x ∈ L2, x.core.kids = [] ∧ x.core.attrs = []) :
    MBox w ((W.setCell ⟨g, 0, none⟩ (.slice a2 len2 cap2)).setCell ⟨g, 1, none⟩ (.int .i64 m2)) g a2 len2 cap2 m2 L2 F2 :=
  h.put ((h2.setBox h.nt hk _).setBox (notext_set (o := 0) (u := .slice a2 len2 cap2) h.nt h.box.c0 (fun s e => by cases e)) hk _) hc
theorem MBox.mv {w W W2 : World} {g : Nat} {a a2 va : Option Addr} {len cap len2 cap2 : Nat} {m m2 : Int} {L L2 : List NodeD} {F F2 : List Core} (h : MBox w W g a len cap m L F) (hb : Below W.heap.size W W2) (h2 : NodeRow W2 a2 len2 cap2 L2) (hc : coreL L2 = F2) (hn : MvNew W.heap.size a2 va L2) :
    MBox w ((W2.setCell ⟨g, 0, none⟩ (.slice a2 len2 cap2)).setCell ⟨g, 1, none⟩ (.int .i64 m2)) g a2 len2 cap2 m2 L2 F2 :=
  (h.keep hb).put ((h2.far (hn g h.box.lt).1 (hn g h.box.lt).2.1 0 _).far (hn g h.box.lt).1 (hn g h.box.lt).2.1 1 _) hc
/-- Notes, behind stores into a box that lay there before. -/
theorem NoteRow.far {W : World} {a : Option Addr} {len cap q : Nat} {N : List NoteD} (h : NoteRow W a len cap N) (ha : ∀ b off, a = some ⟨b, off, none⟩ → b ≠ q) (o : Nat) (u : Value) : NoteRow (W.setCell ⟨q, o, none⟩ u) a len cap N :=
  ⟨h.row.keep (by simp [World.setCell]) (fun b off he _ o' => World.cell?_setCell_other _ _ _ _ (fun e => by injection e with e _; exact ha b off he e.symm)), h.ok, h.hnil⟩
theorem NoteRow.one {W : World} {a : Option Addr} {len cap : Nat} {x : NoteD} (h : NoteRow W a len cap [x]) : len = 1 ∧ ∃ b off, a = some ⟨b, off, none⟩ ∧ b < W.heap.size ∧ ∀ j v, (encO x)[j]? = some v → W.cell? ⟨b, off + j, none⟩ = some v := by
  have hl : 1 = len := h.row.hlen
  subst hl
  obtain ⟨b, off, y, h1, h2, h3, _, h5⟩ := h.row.get (k := 0) (by decide)
  obtain rfl : x = y := Option.some.inj h3
  exact ⟨rfl, b, off, h1, h2, fun j v hv => by have := h5 j v hv; rwa [Nat.zero_mul, Nat.add_zero] at this⟩
theorem mvSmall {L : List NodeD} {F : List Core} (h : coreL L = F) (hd : decide (F.length ≤ 1000 ∧ ∀ c ∈ F, c.kids.length ≤ 1000 ∧ c.attrs.length ≤ 1000 ∧ c.name.size ≤ 1000) = true) : smallF L := by
  have hd := of_decide_eq_true hd
  refine ⟨by rw [← coreL_len, h]; exact hd.1, fun x hx => ?_⟩
  have hm : x.core ∈ F := by rw [← h]; exact List.mem_map.2 ⟨x, hx, rfl⟩
  exact hd.2 _ hm
end Go.Proofs.YtbgcpgpkhfbijaaGreatDoor
/- instarlaw06's awake, over the contracts of packages forest and move. -/
namespace Go.Proofs.YtbgcpgpkhfbijaaGreatDoor
open Go.RowKit
set_option maxHeartbeats 8000000 in
set_option maxRecDepth 100000 in
theorem awake6_any (w : World) (hg : ErrVar w) : Calls Tryz.prog 13 #[] w fun e w' => e = .returned (.bool true) ∧ Below w.heap.size w w' := by
  have inm : In64 (-1) := ⟨by decide, by decide⟩
  have HG := Lib.hid hg
  have C0 : Hid (∀ W, Calls Tryz.prog 57 #[.int .i64 5] W (ForPost W mv1 5 [.int .i64 0])) := Lib.hid (fun W => by
    have := newFn_any 5 W in5
    rwa [mva5.1, mva5.2.1, mva5.2.2] at this)
  have C1 : Hid (∀ W a len cap L, NodeRow W a len cap L → coreL L = mv1 → Calls Tryz.prog 58 #[forV a len cap 5, pV 112] W (ForPost W f2 5 [.int .i64 1, .int .i64 0])) := Lib.hid (fun W a len cap L h hc => by
    have := makeFn_any a len cap 5 L (pD 112) W h (pD_ok _ _) in5 (mvSmall hc (by decide +kernel)) (pD_small _)
    rw [hc, show (pD 112).core = pC 112 from rfl, mva6.1, mva6.2.1, mva6.2.2] at this
    exact this)
  have C2 : Hid (∀ W a len cap L, NodeRow W a len cap L → coreL L = f2 → ErrVar W → Calls Tryz.prog 15 #[forV a len cap 5, .int .i64 1, .int .i64 0, .int .i64 (-1)] W (MvPost W 5 (mvF3, mvN1, 0))) := Lib.hid (fun W a len cap L h hc hg => by
    have := minsert_any a len cap 5 L 1 0 (-1) W h in5 in1 in0 inm (small2 hc) hg
    rwa [hc, mva1] at this)
  have C3 : Hid (∀ W a len cap L, NodeRow W a len cap L → coreL L = mvF3 → ErrVar W → Calls Tryz.prog 24 #[forV a len cap 5, .int .i64 1, .string ⟨#[66]⟩, .string ⟨#[49]⟩] W (MvPost W 5 (mvF4, mvN2, 0))) := Lib.hid (fun W a len cap L h hc hg => by
    have := mset_any a len cap 5 L 1 ⟨#[66]⟩ ⟨#[49]⟩ W h in5 in1 (by decide) (by decide) (mvSmall hc (by decide +kernel)) hg
    rw [show (⟨#[66]⟩ : ByteArray).toList = [66] from toList_ofL [66], hc, mva2] at this
    exact this)
  have C4 : Hid (∀ W a len cap L, NodeRow W a len cap L → coreL L = mvF4 → ErrVar W → Calls Tryz.prog 16 #[forV a len cap 5, .int .i64 1] W (MvPost W 5 (mvF5, mvN3, 0))) := Lib.hid (fun W a len cap L h hc hg => by
    have := mremove_any a len cap 5 L 1 W h in5 in1 (mvSmall hc (by decide +kernel)) hg
    rwa [hc, mva3] at this)
  have C5 : Hid (∀ W a len cap L, NodeRow W a len cap L → coreL L = mvF5 → ErrVar W → Calls Tryz.prog 16 #[forV a len cap 5, .int .i64 1] W (MvPost W 5 (mvF5, [], 6))) := Lib.hid (fun W a len cap L h hc hg => by
    have := mremove_any a len cap 5 L 1 W h in5 in1 (mvSmall hc (by decide +kernel)) hg
    rwa [hc, mva4] at this)
  clear inm hg
  go_enter Tryz.func13, Tryz.ntmps13
  go_wp2_with (first
    | (go_at_call 57; refine (C0.out _).mono ?_; rintro e w1 ⟨a1, len1, cap1, L1, rfl, hr1, hc1, hb1⟩; have B1 := Lib.hid (MBox.new (m := 5) hb1 hr1 hc1); (have z0 := (B1).out.box.c0; have z1 := (B1).out.box.c1; have xf0 := (B1).out.free 0; have xf1 := (B1).out.free 1); clear hr1 hc1 hb1)
    | (go_at_call 58; ((with_reducible refine (C1.out _ _ _ _ _ B1.out.box.row B1.out.box.core).mono ?_); rintro e w2 ⟨a2, len2, cap2, L2, rfl, hr2, hc2, hb2⟩)
       have BX := Lib.hid (B1.out.keep hb2)
       clear z0 z1 xf0 xf1
       (have z0 := (BX).out.box.c0; have z1 := (BX).out.box.c1; have xf0 := (BX).out.free 0; have xf1 := (BX).out.free 1)
       have B2 := Lib.hid (BX.out.set (m2 := 5) hr2 hc2 (bare2 hc2))
       clear hr2 hc2 hb2)
    | (go_at_call 15; ((with_reducible refine (C2.out _ _ _ _ _ B2.out.box.row B2.out.box.core (HG.out.keep B2.out.box.below)).mono ?_); rintro e w3 ⟨a3, len3, cap3, L3, va3, vl3, vc3, rfl, hr3, hc3, -, hn3, hb3, hf3⟩)
       have BX := Lib.hid (B2.out.keep hb3)
       clear z0 z1 xf0 xf1
       (have z0 := (BX).out.box.c0; have z1 := (BX).out.box.c1; have xf0 := (BX).out.free 0; have xf1 := (BX).out.free 1)
       have B3 := Lib.hid (B2.out.mv (m2 := 5) hb3 hr3 hc3 hf3)
       have N1 := Lib.hid ((hn3.far (hf3 _ B2.out.box.lt).2.2 0 (.slice a3 len3 cap3)).far (hf3 _ B2.out.box.lt).2.2 1 (.int .i64 5))
       have A1 := Lib.hid ((hf3 _ B2.out.box.lt).2.2)
       clear hr3 hc3 hn3 hb3 hf3)
    | (go_at_call 24; ((with_reducible refine (C3.out _ _ _ _ _ B3.out.box.row B3.out.box.core (HG.out.keep B3.out.box.below)).mono ?_); rintro e w4 ⟨a4, len4, cap4, L4, va4, vl4, vc4, rfl, hr4, hc4, -, hn4, hb4, hf4⟩)
       have BX := Lib.hid (B3.out.keep hb4)
       clear z0 z1 xf0 xf1
       (have z0 := (BX).out.box.c0; have z1 := (BX).out.box.c1; have xf0 := (BX).out.free 0; have xf1 := (BX).out.free 1)
       have B4 := Lib.hid (B3.out.mv (m2 := 5) hb4 hr4 hc4 hf4)
       have N2 := Lib.hid ((hn4.far (hf4 _ B3.out.box.lt).2.2 0 (.slice a4 len4 cap4)).far (hf4 _ B3.out.box.lt).2.2 1 (.int .i64 5))
       have N1 := Lib.hid (((N1.out.below hb4).far A1.out 0 (.slice a4 len4 cap4)).far A1.out 1 (.int .i64 5))
       have A2 := Lib.hid ((hf4 _ B3.out.box.lt).2.2)
       clear hr4 hc4 hn4 hb4 hf4)
    | (go_at_call 16; ((with_reducible refine (C4.out _ _ _ _ _ B4.out.box.row B4.out.box.core (HG.out.keep B4.out.box.below)).mono ?_); rintro e w5 ⟨a5, len5, cap5, L5, va5, vl5, vc5, rfl, hr5, hc5, -, hn5, hb5, hf5⟩)
       have BX := Lib.hid (B4.out.keep hb5)
       clear z0 z1 xf0 xf1
       (have z0 := (BX).out.box.c0; have z1 := (BX).out.box.c1; have xf0 := (BX).out.free 0; have xf1 := (BX).out.free 1)
       have B5 := Lib.hid (B4.out.mv (m2 := 5) hb5 hr5 hc5 hf5)
       have N3 := Lib.hid ((hn5.far (hf5 _ B4.out.box.lt).2.2 0 (.slice a5 len5 cap5)).far (hf5 _ B4.out.box.lt).2.2 1 (.int .i64 5))
       have N2 := Lib.hid (((N2.out.below hb5).far A2.out 0 (.slice a5 len5 cap5)).far A2.out 1 (.int .i64 5))
       have N1 := Lib.hid (((N1.out.below hb5).far A1.out 0 (.slice a5 len5 cap5)).far A1.out 1 (.int .i64 5))
       clear hr5 hc5 hn5 hb5 hf5)
    | (go_at_call 16; ((with_reducible refine (C5.out _ _ _ _ _ B5.out.box.row B5.out.box.core (HG.out.keep B5.out.box.below)).mono ?_); rintro e w6 ⟨a6, len6, cap6, L6, va6, vl6, vc6, rfl, -, -, -, -, hb6, -⟩)
       have HX := Lib.hid (hb6.trans ((below_box w6 (forB a6 len6 cap6 5)).mono hb6.size))
       have BE := Lib.hid (B5.out.box.below.trans (HX.out.mono B5.out.box.below.size))
       obtain ⟨rfl, b1, o1, rfl, -, k1⟩ := (N1.out.below HX.out).one
       obtain ⟨rfl, b2, o2, rfl, -, k2⟩ := (N2.out.below HX.out).one
       obtain ⟨rfl, b3, o3, rfl, -, k3⟩ := (N3.out.below HX.out).one
       have p0 := k1 0 _ rfl
       have p1 := k1 1 _ rfl
       have p2 := k1 2 _ rfl
       have p3 := k1 3 _ rfl
       have p4 := k1 4 _ rfl
       have p5 := k1 5 _ rfl
       have p6 := k1 6 _ rfl
       have p7 := k1 7 _ rfl
       have p8 := k1 8 _ rfl
       have q0 := k2 0 _ rfl
       have q1 := k2 1 _ rfl
       have q2 := k2 2 _ rfl
       have q3 := k2 3 _ rfl
       have q4 := k2 4 _ rfl
       have q5 := k2 5 _ rfl
       have q6 := k2 6 _ rfl
       have q7 := k2 7 _ rfl
       have q8 := k2 8 _ rfl
       have r0 := k3 0 _ rfl
       rw [Nat.add_zero] at p0 q0 r0
       clear z0 z1 xf0 xf1 hb6 k1 k2 k3))
  go_ret
  exact ⟨rfl, BE.out⟩
end Go.Proofs.YtbgcpgpkhfbijaaGreatDoor
/- What MoveBack asks, over data. Plain mathematics, no program. -/
namespace Go.Proofs.YtbgcpgpkhfbijaaGreatDoor
open Go.RowKit
theorem findN_mid {A B : List Int} {y : Int} (h : y ∉ A) : findN (A ++ y :: B) y = A.length := by
  unfold findN
  have h1 : List.findIdx (fun z => z == y) A = A.length := List.findIdx_eq_length_of_false (fun z hz => beq_eq_false_iff_ne.2 (fun e => h (by rw [← e]; exact hz)))
  rw [List.findIdx_append, h1, if_neg (Nat.lt_irrefl _)]
  simp [List.findIdx_cons]
/-- A child that was taken out goes back ahead of who stood behind it. -/
theorem insB_erase {l : List Int} {z : Int} {i : Nat} (hn : l.Nodup) (h0 : ∀ y ∈ l, 0 ≤ y) (hi : l[i]? = some z) : insB (l.eraseIdx i) (match l[i + 1]? with | some y => y | none => -1) z = l := by
  obtain ⟨hl, he⟩ := List.getElem?_eq_some_iff.1 hi
  obtain ⟨A, B, hAB, hA⟩ : ∃ A B, l = A ++ z :: B ∧ A.length = i := ⟨l.take i, l.drop (i + 1), by rw [← he, ← List.drop_eq_getElem_cons hl, List.take_append_drop], by rw [List.length_take]; omega⟩
  subst hAB hA
  have e1 : (A ++ z :: B).eraseIdx A.length = A ++ B := by rw [List.eraseIdx_append_of_length_le (Nat.le_refl _), Nat.sub_self]; rfl
  have e2 : (A ++ z :: B)[A.length + 1]? = B[0]? := by rw [List.getElem?_append_right (by omega), show A.length + 1 - A.length = 1 by omega]; rfl
  rw [e1, e2]
  cases B with
  | nil => show insB (A ++ []) (-1) z = _; unfold insB; rw [if_pos rfl, List.append_nil]
  | cons y B =>
    show insB (A ++ y :: B) y z = _
    have hy : 0 ≤ y := h0 y (by simp)
    have hyA : y ∉ A := fun h => by
      have := (List.nodup_append.1 hn).2.2 y h y (by simp)
      exact this rfl
    unfold insB
    rw [if_neg (by omega), findN_mid hyA, List.take_left' rfl, List.drop_left' rfl]
/-- A child may stand where it stood. -/
theorem back_swap {m : Int} {F : List Core} (hr : rightF m F = true) {n p : Nat} {x : Core} (hx : F[n]? = some x) (hp : x.parent = (p : Int)) (hpl : p < F.length) (hnp : n ≠ p) : swapZ m F n p n = 0 := by
  have hn : n < F.length := (List.getElem?_eq_some_iff.1 hx).1
  have hne : x.parent ≠ -1 := by rw [hp]; omega
  obtain ⟨q, hq1, _, ho⟩ := mvOut_out hr hx hne
  rw [hp] at hq1
  obtain rfl : p = q := by omega
  refine (swap_facts hn hpl ho).same rfl ?_
  cases hq : overZ m F n p with
  | false => rfl
  | true => exact absurd ((treeS hr).holds_anti hn hpl ((overZ_iff hr hn hpl).1 hq) (holds_par (parS_parent hx hp))) hnp
/-- Who is taken out and put back ahead of who stood behind stands as before. -/
theorem back_ins {m : Int} {F : List Core} (hr : rightF m F = true) {n p : Nat} {x y : Core} (hx : F[n]? = some x) (hp : x.parent = (p : Int)) (hy : F[p]? = some y) (hnp : n ≠ p) :
    insZ m (mvOut F n) n p (behK F n) = (F, if connF F n then tellN F n (note 1) else [], 0) := by
  have hn : n < F.length := (List.getElem?_eq_some_iff.1 hx).1
  have hpl : p < F.length := (List.getElem?_eq_some_iff.1 hy).1
  have hne : x.parent ≠ -1 := by rw [hp]; omega
  have hnek : parentK F n ≠ -1 := by rw [parentK_at hx]; exact hne
  obtain ⟨q, hq1, _, ho⟩ := mvOut_out hr hx hne
  rw [hp] at hq1
  obtain rfl : p = q := by omega
  have hmay := (rep_may (back_swap hr hx hp hpl hnp)).1
  have e0 : (outS (F, []) n).1 = mvOut F n := by unfold outS; rw [if_neg hnek]
  rw [e0] at hmay
  have hxG := ho.ed.at_ n x hx
  have hyG := ho.ed.at_ p y hy
  have hpG : parentK (mvOut F n) n = -1 := by rw [parentK_at hxG]; show (if n = n then (-1 : Int) else x.parent) = -1; rw [if_pos rfl]
  have hbn : behK F n ≠ (n : Int) := fun e => by
    rcases beh_in ho with h1 | ⟨s, h1, _, h2⟩
    · rw [e] at h1; omega
    · rw [e] at h1
      obtain rfl : n = s := by omega
      rw [hpG] at h2
      omega
  have hbf : beforeZ m (mvOut F n) n p (behK F n) = behK F n := by unfold beforeZ; rw [if_pos hmay, if_neg hbn]
  have hk3 : kindK (mvOut F n) n ≠ 3 := by
    rw [ho.ed.kindK, kindK_at hx]
    rcases ho.kind with e | e <;> omega
  have hparts : partsZ (mvOut F n) n = [(n : Int)] := by
    rw [parts_at hxG, if_neg (by rw [kindK_at hxG] at hk3; exact hk3)]
  have hdoc : docK (mvOut F n) n = docK (mvOut F n) p := by
    rw [docK_at hxG, docK_at hyG]
    show x.doc = y.doc
    rcases (right_node hr hx).par with e | ⟨_, d, h1, _, h3⟩
    · exact absurd e hne
    · rw [hp, getC_nat, hy] at h1
      obtain rfl := Option.some.inj h1
      obtain ⟨c, h4, _, _, h5⟩ := (right_node hr hy).kids n h3
      rw [getC_nat, hx] at h4
      rw [Option.some.inj h4]
      exact h5
  have hover : overS (mvOut F n, []) n (docK (mvOut F n) p) = (mvOut F n, []) := by
    have h1 : outS (mvOut F n, []) n = (mvOut F n, []) := by unfold outS; rw [if_pos hpG]
    unfold overS
    rw [h1]
    dsimp only
    rw [if_pos hdoc]
  have hmem : (n : Int) ∈ y.kids := by
    rcases (right_node hr hx).par with e | ⟨_, d, h1, _, h3⟩
    · exact absurd e hne
    · rw [hp, getC_nat, hy] at h1
      rw [Option.some.inj h1]
      exact h3
  obtain ⟨i, hi1, hi2⟩ := find_at hmem
  have hnd := (right_node hr hy).once
  have hfn : findN y.kids n = i := by have := findZ_mem hmem; omega
  have hbk : behK F n = match y.kids[i + 1]? with | some z => z | none => -1 := by
    unfold behK
    rw [parentK_at hx, hp, kidsK_get hy, hfn]
    all_goals (cases y.kids[i + 1]? <;> rfl)
  have hback : mvIn (mvOut F n) n p (behK F n) = F := by
    apply List.ext_getElem?
    intro j
    have hin := edF_edit (mvOut F n) (fun j c => if j = n then (p : Int) else c.parent) (fun j c => if j = p then insB c.kids (behK F n) n else c.kids) (fun _ c => c.doc)
    cases hj : F[j]? with
    | none =>
      have h1 := List.getElem?_eq_none_iff.1 hj
      refine List.getElem?_eq_none ?_
      unfold mvIn
      rw [hin.len, ho.ed.len]
      exact h1
    | some c =>
      have h1 := hin.at_ j _ (ho.ed.at_ j c hj)
      unfold mvIn
      rw [h1]
      congr 1
      unfold edC
      dsimp only
      have hP : (if j = n then (p : Int) else if j = n then -1 else c.parent) = c.parent := by
        by_cases e : j = n
        · subst e
          rw [hx] at hj
          rw [if_pos rfl, ← Option.some.inj hj, hp]
        · rw [if_neg e, if_neg e]
      have hK : (if j = p then insB (if j = p then c.kids.filter (fun z => z != (n : Int)) else c.kids) (behK F n) n else if j = p then c.kids.filter (fun z => z != (n : Int)) else c.kids) = c.kids := by
        by_cases e : j = p
        · subst e
          rw [hy] at hj
          obtain rfl := Option.some.inj hj
          rw [if_pos rfl, if_pos rfl, hbk, ← erase_filter hnd hi2]
          exact insB_erase hnd (kids_nat hr hy) hi2
        · rw [if_neg e, if_neg e]
      rw [hP, hK]
  unfold insZ
  rw [if_pos hmay, hbf, Int.toNat_natCast, Int.toNat_natCast]
  have hput : putS (mvOut F n, []) n p (behK F n) = (F, if connF F n then tellN F n (note 1) else []) := by
    unfold putS
    dsimp only
    rw [hparts, if_neg hk3]
    show inS p (behK F n) (mvOut F n, []) ((n : Int)).toNat = _
    rw [Int.toNat_natCast]
    unfold inS
    dsimp only
    rw [hover]
    dsimp only
    rw [hback]
    cases connF F n <;> simp
  rw [hput]
end Go.Proofs.YtbgcpgpkhfbijaaGreatDoor
/- The law MoveBack's walk. -/
namespace Go.Proofs.YtbgcpgpkhfbijaaGreatDoor
open Go.RowKit
theorem inM1' : In64 (-1) := ⟨by decide, by decide⟩
theorem tellN_elems {m : Int} {F : List Core} (h : rightF m F = true) {n : Nat} (hn : n < F.length) (x : NoteD) : tellN F n x = (elemsZ m F n).map (noteAt x) := by
  unfold tellN elemsZ allZ
  rw [thereF_of h hn, if_pos rfl]
theorem conn_eq {m : Int} {F : List Core} (h : rightF m F = true) {n : Nat} (hn : n < F.length) : connZ m F n = connF F n := by
  unfold connZ connF
  rw [thereF_of h hn, topZ_eq h hn, Bool.true_and]
theorem rem_in {m : Int} {F : List Core} (h : rightF m F = true) {n : Nat} (hn : n < F.length) (hp : parentK F n ≠ -1) : remZ m F n = (mvOut F n, if connF F n then tellN F n (note 2) else [], 0) := by
  unfold remZ outS
  rw [thereF_of h hn, if_pos rfl, if_neg hp, Int.toNat_natCast, if_neg hp]
  simp only [List.nil_append]
set_option maxHeartbeats 16000000 in
set_option maxRecDepth 100000 in
theorem moveBack_walk (a : Option Addr) (len cap : Nat) (m : Int) (L : List NodeD) (x : Int) (w : World) (h : NodeRow w a len cap L) (hm : In64 m) (hx : 0 ≤ x ∧ x ≤ 255) (hg : ErrVar w) :
    Calls Tryz.prog 7 #[forV a len cap m, .int .u8 x] w fun e w' => e = .returned (.bool true) ∧ Below w.heap.size w w' := by
  have AW := Lib.hid (fun W h => awake6_any W h)
  have BX := Lib.hid (Box.start (m := m) h)
  have hl0 := h.len64
  have HL := Lib.hid h.hlen
  have HM := Lib.hid hm
  have HH := Lib.hid h
  have HG := Lib.hid hg
  have z0 := BX.out.c0
  have z1 := BX.out.c1
  clear h hm hg
  cases c0 : shortF L with
  | false =>
    have C0 := Lib.hid c0
    go_enter Tryz.func7, Tryz.ntmps7
    go_wp2_with (first
                    | (go_at_call 13; (with_reducible refine (AW.out _ (HG.out.keep BX.out.below)).mono ?_); rintro e w1 ⟨rfl, hb⟩; have BX := Lib.hid (BX.out.keep hb); have z0 := BX.out.c0; have z1 := BX.out.c1; clear hb)
                    | (go_at_call 14; (with_reducible refine (refshortF_any _ _ _ _ _ _ BX.out.row).mono ?_); rintro e w1 ⟨rfl, hb⟩; have BX := Lib.hid (BX.out.keep hb); have z0 := BX.out.c0; have z1 := BX.out.c1; clear hb)
                    | (go_at_call 30; (with_reducible refine (HR.out _ BX.out.row).mono ?_); rintro e w1 ⟨rfl, hb⟩; have BX := Lib.hid (BX.out.keep hb); have z0 := BX.out.c0; have z1 := BX.out.c1; clear hb))
    go_ret
    exact ⟨rfl, BX.out.below⟩
  | true =>
    have SM := Lib.hid (small_of_short c0)
    cases c1 : rightF m (coreL L) with
    | false =>
      have HR : Hid (∀ W, NodeRow W a len cap L → Calls Tryz.prog 30 #[forV a len cap m] W fun e w' => e = .returned (.bool false) ∧ Below W.heap.size W w') := Lib.hid (fun W h => by
        have := rightF_any a len cap m L W h HM.out SM.out
        rwa [c1] at this)
      clear c1
      go_enter Tryz.func7, Tryz.ntmps7
      go_wp2_with (first
                      | (go_at_call 13; (with_reducible refine (AW.out _ (HG.out.keep BX.out.below)).mono ?_); rintro e w1 ⟨rfl, hb⟩; have BX := Lib.hid (BX.out.keep hb); have z0 := BX.out.c0; have z1 := BX.out.c1; clear hb)
                      | (go_at_call 14; (with_reducible refine (refshortF_any _ _ _ _ _ _ BX.out.row).mono ?_); rintro e w1 ⟨rfl, hb⟩; have BX := Lib.hid (BX.out.keep hb); have z0 := BX.out.c0; have z1 := BX.out.c1; clear hb)
                      | (go_at_call 30; (with_reducible refine (HR.out _ BX.out.row).mono ?_); rintro e w1 ⟨rfl, hb⟩; have BX := Lib.hid (BX.out.keep hb); have z0 := BX.out.c0; have z1 := BX.out.c1; clear hb))
      go_ret
      exact ⟨rfl, BX.out.below⟩
    | true =>
      have HR : Hid (∀ W, NodeRow W a len cap L → Calls Tryz.prog 30 #[forV a len cap m] W fun e w' => e = .returned (.bool true) ∧ Below W.heap.size W w') := Lib.hid (fun W h => by
        have := rightF_any a len cap m L W h HM.out SM.out
        rwa [c1] at this)
      have hr := c1
      have hlc : (coreL L).length = len := by rw [coreL_len, HL.out]
      have hlp : 0 < len := by
        have := right_len c1
        rwa [hlc] at this
      clear c1
      obtain ⟨X, hX⟩ : ∃ X : Nat, x % (len : Int) = X := ⟨(x % (len : Int)).toNat, by have := Int.emod_nonneg x (show (len : Int) ≠ 0 by omega); omega⟩
      have hXl : X < len := by have := Int.emod_lt_of_pos x (show (0 : Int) < len by omega); omega
      have hX64 : In64 (X : Int) := ⟨by omega, by omega⟩
      obtain ⟨b, off, nx, rfl, hb, hgx, hat, -⟩ := HH.out.get hXl
      have C5 := Lib.hid (stays hat.c5 hb)
      have GS : Hid (∀ W b2 lb cb M, NodeRow W (some ⟨b, off, none⟩) len cap L → NodeRow W b2 lb cb M → coreL M = coreL L → Calls Tryz.prog 31 #[forV (some ⟨b, off, none⟩) len cap m, forV b2 lb cb m] W fun e w' => e = .returned (.bool true) ∧ Below W.heap.size W w') := Lib.hid (fun W b2 lb cb M h1 h2 he => by
        have := refsameF_any (some ⟨b, off, none⟩) b2 len cap lb cb m m L M W h1 h2
        rwa [he, decide_eq_true rfl, decide_eq_true rfl, Bool.and_self] at this)
      have HGX := Lib.hid hgx
      clear hgx hat
      by_cases hp : nx.core.parent = -1
      · have GR : Hid (∀ W, NodeRow W (some ⟨b, off, none⟩) len cap L → ErrVar W → Calls Tryz.prog 16 #[forV (some ⟨b, off, none⟩) len cap m, .int .i64 X] W (MvPost W m (coreL L, [], 6))) := Lib.hid (fun W h1 h2 => by
          have := mremove_any _ len cap m L X W h1 HM.out hX64 SM.out h2
          rwa [show remZ m (coreL L) X = (coreL L, [], 6) by unfold remZ; rw [thereF_of hr (by rw [hlc]; exact hXl), if_pos rfl, if_pos (by rw [parentK_get HGX.out]; exact hp)]] at this)
        rw [hp] at C5
        clear hp hr hlc hb
        go_enter Tryz.func7, Tryz.ntmps7
        go_upto_if 26 with (first
                               | (go_at_call 13; (with_reducible refine (AW.out _ (HG.out.keep BX.out.below)).mono ?_); rintro e w1 ⟨rfl, hb⟩; have BX := Lib.hid (BX.out.keep hb); have z0 := BX.out.c0; have z1 := BX.out.c1; clear hb)
                               | (go_at_call 14; (with_reducible refine (refshortF_any _ _ _ _ _ _ BX.out.row).mono ?_); rintro e w1 ⟨rfl, hb⟩; have BX := Lib.hid (BX.out.keep hb); have z0 := BX.out.c0; have z1 := BX.out.c1; clear hb)
                               | (go_at_call 30; (with_reducible refine (HR.out _ BX.out.row).mono ?_); rintro e w1 ⟨rfl, hb⟩; have BX := Lib.hid (BX.out.keep hb); have z0 := BX.out.c0; have z1 := BX.out.c1; clear hb))
        have c5 := C5.out _ BX.out.below
        go_wp2_with (first
          | (go_at_call 16; (with_reducible refine (GR.out _ BX.out.row (HG.out.keep BX.out.below)).mono ?_); rintro e w2 ⟨a2, len2, cap2, M2, va, vl, vc, rfl, hr2, hc2, -, hn2, hb2, -⟩; obtain rfl : 0 = vl := hn2.row.hlen; have BX := Lib.hid (BX.out.keep hb2); have z0 := BX.out.c0; have z1 := BX.out.c1; have B7 := Lib.hid (MBox.new (m := m) BX.out.below hr2 hc2); have BX := Lib.hid (BX.out.keep (below_box w2 (forB a2 len2 cap2 m))); have z0 := BX.out.c0; have z1 := BX.out.c1; have y0 := B7.out.box.c0; have y1 := B7.out.box.c1; clear hr2 hc2 hn2 hb2)
          | (go_at_call 31; (with_reducible refine (GS.out _ _ _ _ _ BX.out.row B7.out.box.row B7.out.box.core).mono ?_); rintro e w3 ⟨rfl, hb⟩; have BX := Lib.hid (BX.out.keep hb); clear hb))
        go_ret
        exact ⟨rfl, BX.out.below⟩
      · obtain ⟨P, ny, i, hpp, hgy, hnp, hfi, hi, hnd⟩ := out_par hr HGX.out hp
        have hPl : P < len := by have := (List.getElem?_eq_some_iff.1 hgy).1; rwa [HL.out] at this
        obtain ⟨b2, off2, ny2, hab, hb2, hgy2, hat2, hok2⟩ := HH.out.get hPl
        injection hab with hab
        injection hab with e1 e2
        subst e1 e2
        obtain rfl : ny = ny2 := Option.some.inj (hgy.symm.trans hgy2)
        have C6 := Lib.hid (stays hat2.c6 hb2)
        have KR := Lib.hid hok2.kids
        have hk64 := hok2.kids.len64
        have hkl := hok2.kids.hlen
        have hik : i < ny.kN := by have := (List.getElem?_eq_some_iff.1 hi).1; rwa [hkl] at this
        have hXF : X < (coreL L).length := by rw [hlc]; exact hXl
        have hpk : parentK (coreL L) X ≠ -1 := by rw [parentK_get HGX.out]; exact hp
        have hP64 : In64 (P : Int) := ⟨by omega, by omega⟩
        obtain ⟨FG, hFG⟩ : ∃ FG, mvOut (coreL L) X = FG := ⟨_, rfl⟩
        obtain ⟨cf, hcf⟩ : ∃ cf, connF (coreL L) X = cf := ⟨_, rfl⟩
        obtain ⟨nv, hnv⟩ : ∃ nv, behK (coreL L) X = nv := ⟨_, rfl⟩
        obtain ⟨NW, hNW⟩ : ∃ NW : List NoteD, (if cf then tellN (coreL L) X (note 2) else []) = NW := ⟨_, rfl⟩
        obtain ⟨NC, hNC⟩ : ∃ NC : List NoteD, (if cf then tellN (coreL L) X (note 1) else []) = NC := ⟨_, rfl⟩
        have hswap := back_swap hr (coreL_get HGX.out) hpp (by rw [hlc]; exact hPl) hnp
        have hnv64 : In64 nv := by rw [← hnv]; exact rep_64 hswap (by rw [coreL_len]; exact SM.out.1)
        have HNV : Hid (nv = match ny.core.kids[i + 1]? with | some z => z | none => -1) := Lib.hid (by
          have h1 : kidsK (coreL L) (parentK (coreL L) X) = ny.core.kids := by rw [parentK_at (coreL_get HGX.out), hpp, kidsK_get (coreL_get hgy)]
          have h2 : findN ny.core.kids X = i := by
            have := findZ_mem (List.mem_of_getElem? hi)
            omega
          rw [← hnv]
          unfold behK
          rw [h1, h2]
          all_goals (cases ny.core.kids[i + 1]? <;> rfl))
        have GR : Hid (∀ W, NodeRow W (some ⟨b, off, none⟩) len cap L → ErrVar W → Calls Tryz.prog 16 #[forV (some ⟨b, off, none⟩) len cap m, .int .i64 X] W (MvPost W m (FG, NW, 0))) := Lib.hid (fun W h1 h2 => by
          have e : remZ m (coreL L) X = (FG, NW, 0) := by rw [rem_in hr hXF hpk, hcf, hNW, hFG]
          rw [← e]
          exact mremove_any _ len cap m L X W h1 HM.out hX64 SM.out h2)
        have GI : Hid (∀ W a2 len2 cap2 M, NodeRow W a2 len2 cap2 M → coreL M = FG → smallF M → ErrVar W → Calls Tryz.prog 15 #[forV a2 len2 cap2 m, .int .i64 X, .int .i64 P, .int .i64 nv] W (MvPost W m (coreL L, NC, 0))) := Lib.hid (fun W a2 len2 cap2 M h1 hc hs h2 => by
          have e : insZ m (coreL M) X P nv = (coreL L, NC, 0) := by rw [hc, ← hFG, ← hnv, back_ins hr (coreL_get HGX.out) hpp (coreL_get hgy) hnp, hcf, hNC]
          rw [← e]
          exact minsert_any a2 len2 cap2 m M X P nv W h1 HM.out hX64 hP64 hnv64 hs h2)
        have GE : Hid (∀ W, NodeRow W (some ⟨b, off, none⟩) len cap L → Calls Tryz.prog 39 #[forV (some ⟨b, off, none⟩) len cap m, .int .i64 X] W (OrdPost W (elemsZ m (coreL L) X))) := Lib.hid (fun W h1 => elemsFn_any _ len cap m L X W h1 HM.out hX64 SM.out)
        have GC : Hid (∀ W, NodeRow W (some ⟨b, off, none⟩) len cap L → Calls Tryz.prog 32 #[forV (some ⟨b, off, none⟩) len cap m, .int .i64 X] W fun e w' => e = .returned (.bool cf) ∧ Below W.heap.size W w') := Lib.hid (fun W h1 => by
          rw [← hcf, ← conn_eq hr hXF]
          exact connFn_any _ len cap m L X W h1 HM.out hX64 SM.out)
        obtain ⟨el, hel⟩ : ∃ el, elemsZ m (coreL L) X = el := ⟨_, rfl⟩
        rw [hel] at GE
        have HW : Hid (NW = if cf then el.map (noteAt (note 2)) else []) := Lib.hid (by rw [← hNW, tellN_elems hr hXF, hel])
        have HC : Hid (NC = if cf then el.map (noteAt (note 1)) else []) := Lib.hid (by rw [← hNC, tellN_elems hr hXF, hel])
        have HI := Lib.hid hi
        have HND := Lib.hid hnd
        have HKL := Lib.hid hkl
        have e0 : ((P : Int) == -1) = false := beq_eq_false_iff_ne.2 (by omega)
        rw [hpp] at C5
        clear hp hr hlc hb hb2 hpp hgy hgy2 hnp hfi hi hnd hat2 hok2 hkl hpk hFG hcf hnv hNW hNC hswap hel
        go_enter Tryz.func7, Tryz.ntmps7
        go_upto_if 26 with (first
                               | (go_at_call 13; (with_reducible refine (AW.out _ (HG.out.keep BX.out.below)).mono ?_); rintro e w1 ⟨rfl, hb⟩; have BX := Lib.hid (BX.out.keep hb); have z0 := BX.out.c0; have z1 := BX.out.c1; clear hb)
                               | (go_at_call 14; (with_reducible refine (refshortF_any _ _ _ _ _ _ BX.out.row).mono ?_); rintro e w1 ⟨rfl, hb⟩; have BX := Lib.hid (BX.out.keep hb); have z0 := BX.out.c0; have z1 := BX.out.c1; clear hb)
                               | (go_at_call 30; (with_reducible refine (HR.out _ BX.out.row).mono ?_); rintro e w1 ⟨rfl, hb⟩; have BX := Lib.hid (BX.out.keep hb); have z0 := BX.out.c0; have z1 := BX.out.c1; clear hb))
        have c5 := C5.out _ BX.out.below
        go_wp2_with (go_at_call 16; (with_reducible refine (GR.out _ BX.out.row (HG.out.keep BX.out.below)).mono ?_); rintro e w2 ⟨a2, len2, cap2, M2, va, vl, vc, rfl, hr2, hc2, hs2, hn2, hb2, -⟩; have BX := Lib.hid (BX.out.keep hb2); have B7 := Lib.hid (MBox.new (m := m) BX.out.below hr2 hc2); have HS2 := Lib.hid hs2; have NL := Lib.hid (hn2.below (below_box w2 (forB a2 len2 cap2 m))); have BX := Lib.hid (BX.out.keep (below_box w2 (forB a2 len2 cap2 m))); have z0 := BX.out.c0; have z1 := BX.out.c1; have y0 := B7.out.box.c0; have y1 := B7.out.box.c1; have c6 := C6.out _ BX.out.below; have KR := Lib.hid (KR.out.below BX.out.below); clear hr2 hc2 hs2 hn2 hb2)
        go_loopw [10, 11] (fun nx i' wr => ∃ k : Nat, k < ny.kN ∧ i' = .int .i64 k ∧ nx = .int .i64 (if i < k then nv else -1) ∧ wr = w2.alloc (forB a2 len2 cap2 m)) (fun _ i' _ => ny.kN - (intOf i').toNat)
        case atStart => exact ⟨0, by omega, rfl, by rw [if_neg (by omega)], rfl⟩
        case round =>
          obtain ⟨k, hk, rfl, rfl, rfl⟩ := hrel
          obtain ⟨bk, ok, z, hka, hbk, hz, hcz, hin⟩ := KR.out.get hk
          by_cases hlt : k + 1 < ny.kN
          · obtain ⟨bk2, ok2, z2, hka2, hbk2, hz2, hcz2, hin2⟩ := KR.out.get hlt
            obtain ⟨rfl, rfl⟩ : bk = bk2 ∧ ok = ok2 := by rw [hka] at hka2; injection hka2 with h1; injection h1 with h2 h3; exact ⟨h2, h3⟩
            rw [hka] at c6
            by_cases hki : k = i
            · subst hki
              obtain rfl : z = (X : Int) := Option.some.inj (hz.symm.trans HI.out)
              have HZ2 : Hid (nv = z2) := Lib.hid (by rw [HNV.out, hz2])
              have e1 : ((X : Int) == (X : Int)) = true := beq_iff_eq.2 rfl
              clear hz hz2 hka hka2
              go_wp2
              go_roundw
              case rel => exact ⟨k + 1, hlt, by go_num, by rw [if_pos (Nat.lt_succ_self k), HZ2.out], by trivial⟩
              case measure => simp [intOf]; omega
            · have e1 : (z == (X : Int)) = false := beq_eq_false_iff_ne.2 (fun e => hki (by
                obtain ⟨h1, h2⟩ := List.getElem?_eq_some_iff.1 hz
                obtain ⟨h3, h4⟩ := List.getElem?_eq_some_iff.1 HI.out
                rcases Nat.lt_or_gt_of_ne hki with h5 | h5
                · exact absurd (by rw [h2, h4, e]) (List.pairwise_iff_getElem.1 HND.out _ _ h1 h3 h5)
                · exact absurd (by rw [h2, h4, e]) (List.pairwise_iff_getElem.1 HND.out _ _ h3 h1 h5)))
              have HIF : Hid ((if i < k then nv else -1) = if i < k + 1 then nv else -1) := Lib.hid (by
                by_cases h1 : i < k
                · rw [if_pos h1, if_pos (by omega)]
                · rw [if_neg h1, if_neg (by omega)])
              clear hz hz2 hka hka2 hki
              go_wp2
              go_roundw
              case rel => exact ⟨k + 1, hlt, by go_num, by rw [HIF.out], by trivial⟩
              case measure => simp [intOf]; omega
          · have hnx : (if i < k then nv else -1) = nv := by
              by_cases h1 : i < k
              · rw [if_pos h1]
              · rw [if_neg h1, HNV.out, List.getElem?_eq_none (by rw [HKL.out]; omega)]
            rw [hnx]
            clear hnx hz hka
            obtain rfl : NW.length = vl := NL.out.row.hlen
            have hl60 : (coreL L).length ≤ 1000 := by rw [coreL_len]; exact SM.out.1
            cases cf with
            | false =>
              have e2 : NW.length = 0 := by rw [HW.out]; rfl
              have e3 : NC.length = 0 := by rw [HC.out]; rfl
              rw [e2]
              have NL : Hid (NoteRow (w2.alloc (forB a2 len2 cap2 m)) va 0 vc NW) := Lib.hid (by rw [← e2]; exact NL.out)
              go_wp2_with (first
                | (go_at_call 15; (with_reducible refine (GI.out _ _ _ _ _ B7.out.box.row B7.out.box.core HS2.out (HG.out.keep BX.out.below)).mono ?_); rintro e w3 ⟨a3, len3, cap3, M3, vb, ul, uc, rfl, hr3, hc3, -, hn3, hb3, -⟩; obtain rfl : 0 = ul := (e3.symm.trans hn3.row.hlen); have BX := Lib.hid (BX.out.keep hb3); have B12 := Lib.hid (MBox.new (m := m) BX.out.below hr3 hc3); have hbb := below_box w3 (forB a3 len3 cap3 m); have NM := Lib.hid (hn3.below hbb); have NL := Lib.hid (NL.out.below (hb3.trans (hbb.mono hb3.size))); have BX := Lib.hid (BX.out.keep hbb); clear z0 z1 y0 y1 c5 c6; have z0 := BX.out.c0; have z1 := BX.out.c1; have x0 := B12.out.box.c0; have x1 := B12.out.box.c1; clear hr3 hc3 hn3 hb3 hbb)
                | (go_at_call 31; (with_reducible refine (GS.out _ _ _ _ _ BX.out.row B12.out.box.row B12.out.box.core).mono ?_); rintro e w4 ⟨rfl, hb⟩; have BX := Lib.hid (BX.out.keep hb); have NL := Lib.hid (NL.out.below hb); have NM := Lib.hid (NM.out.below hb); clear z0 z1 x0 x1; have z0 := BX.out.c0; have z1 := BX.out.c1; clear hb)
                | (go_at_call 39; (with_reducible refine (GE.out _ BX.out.row).mono ?_); rintro e w5 ⟨a8, len8, cap8, rfl, hr8, hb⟩; obtain rfl : el.length = len8 := hr8.hlen; have IR := Lib.hid hr8; have BX := Lib.hid (BX.out.keep hb); have NL := Lib.hid (NL.out.below hb); have NM := Lib.hid (NM.out.below hb); clear z0 z1; have z0 := BX.out.c0; have z1 := BX.out.c1; clear hb hr8)
                | (go_at_call 32; (with_reducible refine (GC.out _ BX.out.row).mono ?_); rintro e w6 ⟨rfl, hb⟩; have BX := Lib.hid (BX.out.keep hb); have NL := Lib.hid (NL.out.below hb); have NM := Lib.hid (NM.out.below hb); have IR := Lib.hid (IR.out.below hb); clear z0 z1; have z0 := BX.out.c0; have z1 := BX.out.c1; clear hb))
              go_ret
              exact ⟨rfl, BX.out.below⟩
            | true =>
              have e2 : NW.length = el.length := by rw [HW.out]; simp
              have e3 : NC.length = el.length := by rw [HC.out]; simp
              have e4 : ((el.length : Int) != (el.length : Int)) = false := by simp
              rw [e2]
              have NL : Hid (NoteRow (w2.alloc (forB a2 len2 cap2 m)) va el.length vc NW) := Lib.hid (by rw [← e2]; exact NL.out)
              go_wp2_with (first
                | (go_at_call 15; (with_reducible refine (GI.out _ _ _ _ _ B7.out.box.row B7.out.box.core HS2.out (HG.out.keep BX.out.below)).mono ?_); rintro e w3 ⟨a3, len3, cap3, M3, vb, ul, uc, rfl, hr3, hc3, -, hn3, hb3, -⟩; obtain rfl : el.length = ul := (e3.symm.trans hn3.row.hlen); have BX := Lib.hid (BX.out.keep hb3); have B12 := Lib.hid (MBox.new (m := m) BX.out.below hr3 hc3); have hbb := below_box w3 (forB a3 len3 cap3 m); have NM := Lib.hid (hn3.below hbb); have NL := Lib.hid (NL.out.below (hb3.trans (hbb.mono hb3.size))); have BX := Lib.hid (BX.out.keep hbb); clear z0 z1 y0 y1 c5 c6; have z0 := BX.out.c0; have z1 := BX.out.c1; have x0 := B12.out.box.c0; have x1 := B12.out.box.c1; clear hr3 hc3 hn3 hb3 hbb)
                | (go_at_call 31; (with_reducible refine (GS.out _ _ _ _ _ BX.out.row B12.out.box.row B12.out.box.core).mono ?_); rintro e w4 ⟨rfl, hb⟩; have BX := Lib.hid (BX.out.keep hb); have NL := Lib.hid (NL.out.below hb); have NM := Lib.hid (NM.out.below hb); clear z0 z1 x0 x1; have z0 := BX.out.c0; have z1 := BX.out.c1; clear hb)
                | (go_at_call 39; (with_reducible refine (GE.out _ BX.out.row).mono ?_); rintro e w5 ⟨a8, len8, cap8, rfl, hr8, hb⟩; obtain rfl : el.length = len8 := hr8.hlen; have IR := Lib.hid hr8; have BX := Lib.hid (BX.out.keep hb); have NL := Lib.hid (NL.out.below hb); have NM := Lib.hid (NM.out.below hb); clear z0 z1; have z0 := BX.out.c0; have z1 := BX.out.c1; clear hb hr8)
                | (go_at_call 32; (with_reducible refine (GC.out _ BX.out.row).mono ?_); rintro e w6 ⟨rfl, hb⟩; have BX := Lib.hid (BX.out.keep hb); have NL := Lib.hid (NL.out.below hb); have NM := Lib.hid (NM.out.below hb); have IR := Lib.hid (IR.out.below hb); clear z0 z1; have z0 := BX.out.c0; have z1 := BX.out.c1; clear hb))
              have HNW : Hid (NW = el.map (noteAt (note 2))) := Lib.hid HW.out
              have HNC : Hid (NC = el.map (noteAt (note 1))) := Lib.hid HC.out
              have hl8 := IR.out.len64
              go_loopw [16] (fun i' wr => ∃ j n : Nat, j ≤ el.length ∧ i' = .int .i64 j ∧ wr = w6.drewN n) (fun i' _ => el.length - (intOf i').toNat)
              case atStart => exact ⟨0, 0, Nat.zero_le _, rfl, rfl⟩
              case round =>
                obtain ⟨j, n, hj, rfl, rfl⟩ := hrel
                by_cases hlt : j < el.length
                · obtain ⟨b8, o8, z, rfl, hb8, hz, hcz, hin⟩ := IR.out.get hlt
                  obtain ⟨bl, ol, xl, rfl, hbl, hxl, -, hcl⟩ := NL.out.row.get hlt
                  obtain ⟨bm, om, xm, rfl, hbm, hxm, -, hcm⟩ := NM.out.row.get hlt
                  obtain rfl : noteAt (note 2) z = xl := by rw [HNW.out, List.getElem?_map, hz] at hxl; exact Option.some.inj hxl
                  obtain rfl : noteAt (note 1) z = xm := by rw [HNC.out, List.getElem?_map, hz] at hxm; exact Option.some.inj hxm
                  have p0 : w6.cell? ⟨bl, ol + j * 9 + 0, none⟩ = some (.int .i64 2) := hcl 0 _ rfl
                  have p1 : w6.cell? ⟨bl, ol + j * 9 + 1, none⟩ = some (.int .i64 z) := hcl 1 _ rfl
                  have p2 : w6.cell? ⟨bl, ol + j * 9 + 2, none⟩ = some (.int .i64 0) := hcl 2 _ rfl
                  have p3 : w6.cell? ⟨bl, ol + j * 9 + 3, none⟩ = some (.int .i64 0) := hcl 3 _ rfl
                  have p4 : w6.cell? ⟨bl, ol + j * 9 + 4, none⟩ = some (.string ⟨#[]⟩) := hcl 4 _ rfl
                  have p5 : w6.cell? ⟨bl, ol + j * 9 + 5, none⟩ = some (.bool false) := hcl 5 _ rfl
                  have p6 : w6.cell? ⟨bl, ol + j * 9 + 6, none⟩ = some (.bool false) := hcl 6 _ rfl
                  have p7 : w6.cell? ⟨bl, ol + j * 9 + 7, none⟩ = some (.string ⟨#[]⟩) := hcl 7 _ rfl
                  have p8 : w6.cell? ⟨bl, ol + j * 9 + 8, none⟩ = some (.string ⟨#[]⟩) := hcl 8 _ rfl
                  have q0 : w6.cell? ⟨bm, om + j * 9 + 0, none⟩ = some (.int .i64 1) := hcm 0 _ rfl
                  have q1 : w6.cell? ⟨bm, om + j * 9 + 1, none⟩ = some (.int .i64 z) := hcm 1 _ rfl
                  have q2 : w6.cell? ⟨bm, om + j * 9 + 2, none⟩ = some (.int .i64 0) := hcm 2 _ rfl
                  have q3 : w6.cell? ⟨bm, om + j * 9 + 3, none⟩ = some (.int .i64 0) := hcm 3 _ rfl
                  have q4 : w6.cell? ⟨bm, om + j * 9 + 4, none⟩ = some (.string ⟨#[]⟩) := hcm 4 _ rfl
                  have q5 : w6.cell? ⟨bm, om + j * 9 + 5, none⟩ = some (.bool false) := hcm 5 _ rfl
                  have q6 : w6.cell? ⟨bm, om + j * 9 + 6, none⟩ = some (.bool false) := hcm 6 _ rfl
                  have q7 : w6.cell? ⟨bm, om + j * 9 + 7, none⟩ = some (.string ⟨#[]⟩) := hcm 7 _ rfl
                  have q8 : w6.cell? ⟨bm, om + j * 9 + 8, none⟩ = some (.string ⟨#[]⟩) := hcm 8 _ rfl
                  rw [Nat.add_zero] at p0 q0
                  clear hcl hcm hz hxl hxm
                  go_wp2
                  go_quiet (fail)
                  go_wp2
                  go_roundw
                  case rel => exact ⟨j + 1, _, by omega, by go_num, by first | rfl | exact World.drewN_drewN _ _ _⟩
                  case measure => simp [intOf]; omega
                · go_wp2
                  go_ret
                  exact ⟨rfl, below_drewN BX.out.below _⟩
end Go.Proofs.YtbgcpgpkhfbijaaGreatDoor
/- An argument that is a list of attributes, opened. -/
namespace Go.Proofs.YtbgcpgpkhfbijaaGreatDoor
open Go.RowKit Go.Deep Go.ChangeShapes Go.WideShapes
theorem block_lt {W : World} {p : Addr} {v : Value} (h : W.cell? p = some v) : p.block < W.heap.size := by
  rcases Nat.lt_or_ge p.block W.heap.size with h1 | h1
  · exact h1
  · unfold World.cell? at h
    rw [Array.getElem?_eq_none h1] at h
    simp at h
theorem open_attrs {H : Type} {enc : TypeId × Value → H} {W : World} {a : Option Addr} {len cap : Nat} {d : DataW H} {p : List MemPlace}
    (h : DataW.Trod enc Tryz.prog W 0 (fun _ => true) true 50 (.slice a len cap) d p) : ∃ L, AttrRow W a len cap L := by
  obtain ⟨fuel, hf⟩ := h
  rcases open_slice_pairs Tryz.underlying50 Tryz.underlying160 (by kernel_rfl) rfl rfl (by kernel_rfl) (by kernel_rfl) hf with ⟨hcs, _⟩ | ⟨ad, l, c, m, n, V0, V1, D0, D1, P0, P1, hcs, _, hl, hm, hmm, _, hi⟩
  · simp [Value.cells] at hcs
    obtain ⟨rfl, rfl, rfl⟩ := hcs
    exact ⟨[], SRow.nil, by simp, fun _ => rfl⟩
  · simp [Value.cells] at hcs
    obtain ⟨rfl, rfl, rfl⟩ := hcs
    have hml : len ≤ m := by rw [hmm]; simpa using hl
    have each : ∀ i, i < len → ∃ x : ByteArray × ByteArray, W.cell? (ad.add (i * 2)) = some (.string x.1) ∧ W.cell? (ad.add (i * 2 + 1)) = some (.string x.2) ∧ x.1.size ≤ maxLen ∧ x.2.size ≤ maxLen := by
      intro i hil
      obtain ⟨h1, h2, h3, h4⟩ := hi i (by omega)
      obtain ⟨s, hs, _, hs3⟩ := DataW.trod_string Tryz.underlying9 h3
      obtain ⟨t, ht, _, ht3⟩ := DataW.trod_string Tryz.underlying9 h4
      simp at hs ht
      exact ⟨(s, t), by rw [h1, hs], by rw [h2, ht], hs3, ht3⟩
    obtain ⟨q, hq⟩ := choose_lt each
    refine ⟨(List.range len).map q, ⟨by simp, hl, hm, fun x _ => encA_len x, ?_⟩, ?_, fun h => by cases h⟩
    · rcases Nat.eq_zero_or_pos len with h0 | h0
      · exact .inl h0
      · obtain ⟨b, off, spot⟩ := ad
        have hc := (hq 0 h0).1
        have hspot : spot = none := by simpa [Addr.add] using World.cell?_spot hc
        subst hspot
        refine .inr ⟨b, off, rfl, ?_, ?_⟩
        · have := block_lt hc
          rwa [add_plain] at this
        · intro i x j v hx hv
          obtain ⟨hil, hgx⟩ := List.getElem?_eq_some_iff.1 hx
          have hil' : i < len := by simpa using hil
          simp at hgx
          obtain ⟨h1, h2, _⟩ := hq i hil'
          rw [add_plain] at h1 h2
          rw [hgx] at h1 h2
          obtain ⟨hjl, hgv⟩ := List.getElem?_eq_some_iff.1 hv
          match j, hjl with
          | 0, _ => simp [encA] at hgv; subst hgv; exact h1
          | 1, _ => simp [encA] at hgv; subst hgv; simpa [Nat.add_assoc] using h2
    · intro x hx
      obtain ⟨i, hi1, rfl⟩ := List.mem_map.1 hx
      have := hq i (List.mem_range.1 hi1)
      exact ⟨this.2.2.1, this.2.2.2⟩
end Go.Proofs.YtbgcpgpkhfbijaaGreatDoor
/- Arguments that are forests and nodes, opened. -/
namespace Go.Proofs.YtbgcpgpkhfbijaaGreatDoor
open Go.RowKit Go.Deep Go.ChangeShapes Go.WideShapes
theorem in64_of {z : Int} (h : (Lit.int .i64 z).wf = true) : In64 z := by
  exact bounds_i64 h
/-- A slice of numbers. -/
theorem open_introw {H : Type} {enc : TypeId × Value → H} {W : World} {a : Option Addr} {len cap : Nat} {d : DataW H} {p : List MemPlace}
    (h : DataW.Trod enc Tryz.prog W 0 (fun _ => true) true 51 (.slice a len cap) d p) : ∃ L, IntRow W a len cap L := by
  obtain ⟨fuel, hf⟩ := h
  rcases open_slice Tryz.underlying51 hf with ⟨hcs, _⟩ | ⟨ad, l, c, m, n, D, Pl, hcs, _, hl, hm, hmm, _, hi⟩
  · simp [Value.cells] at hcs
    obtain ⟨rfl, rfl, rfl⟩ := hcs
    exact ⟨[], SRow.nil, by simp, fun _ => rfl⟩
  · simp [Value.cells] at hcs
    obtain ⟨rfl, rfl, rfl⟩ := hcs
    have hml : len ≤ m := by rw [hmm]; simpa using hl
    have ce : Tryz.prog.cellsOf 3 = 1 := by kernel_rfl
    have each : ∀ i, i < len → ∃ x : Int, W.cell? (ad.add i) = some (.int .i64 x) ∧ In64 x := by
      intro i hil
      obtain ⟨cs', h1, h2⟩ := hi i (by omega)
      rw [ce] at h1
      obtain ⟨_, hlen, hcell⟩ := World.cells?_some h1
      match cs', hlen with
      | [v0], _ =>
        have e0 := hcell 0 (by omega)
        rw [add_add] at e0
        obtain ⟨n0, hn0, _, hw0⟩ := DataW.trod_int Tryz.underlying3 h2
        simp at hn0
        subst hn0
        exact ⟨n0, by simpa using e0, in64_of hw0⟩
    obtain ⟨q, hq⟩ : ∃ q : Nat → Int, ∀ i, i < len → W.cell? (ad.add i) = some (.int .i64 (q i)) ∧ In64 (q i) := by
      refine ⟨fun i => if h : i < len then (each i h).choose else 0, fun i hil => ?_⟩
      simp only [dif_pos hil]
      exact (each i hil).choose_spec
    refine ⟨(List.range len).map q, ⟨by simp, hl, hm, fun x _ => rfl, ?_⟩, ?_, fun h => by cases h⟩
    · rcases Nat.eq_zero_or_pos len with h0 | h0
      · exact .inl h0
      · obtain ⟨b, off, spot⟩ := ad
        have hc := (hq 0 h0).1
        have hspot : spot = none := by simpa [Addr.add] using World.cell?_spot hc
        subst hspot
        refine .inr ⟨b, off, rfl, ?_, ?_⟩
        · have := block_lt hc
          rwa [add_plain] at this
        · intro i x j v hx hv
          obtain ⟨hil, hgx⟩ := List.getElem?_eq_some_iff.1 hx
          have hil' : i < len := by simpa using hil
          simp at hgx
          obtain ⟨h1, _⟩ := hq i hil'
          rw [add_plain] at h1
          rw [hgx] at h1
          obtain ⟨hjl, hgv⟩ := List.getElem?_eq_some_iff.1 hv
          match j, hjl with
          | 0, _ => simp [encZ] at hgv; subst hgv; simpa using h1
    · intro x hx
      obtain ⟨i, hi1, rfl⟩ := List.mem_map.1 hx
      exact (hq i (List.mem_range.1 hi1)).2
theorem slice_cells {H : Type} {enc : TypeId × Value → H} {W : World} {t e : TypeId} {fuel : Nat} {v : Value} {x : DataW H × List MemPlace} (ht : Tryz.prog.underlying t = some (.slice e))
    (h : DataW.trod enc Tryz.prog W 0 (fun _ => true) true fuel t [v] = some x) : ∃ a n c, v = .slice a n c := by
  rcases open_slice ht h with ⟨hcs, _⟩ | ⟨ad, l, c, m, n, D, Pl, hcs, _⟩
  · exact ⟨none, 0, 0, by simpa using hcs⟩
  · exact ⟨some ad, l, c, by simpa using hcs⟩
set_option maxRecDepth 100000 in
/-- The cells of a node, read as data. -/
theorem open_nodecells {H : Type} {enc : TypeId × Value → H} {W : World} {cs : List Value} {d : DataW H} {p : List MemPlace} {fuel : Nat} (hc : cs.length = 10)
    (h : DataW.trod enc Tryz.prog W 0 (fun _ => true) true fuel 53 cs = some (d, p)) : ∃ x : NodeD, cs = encN x ∧ NodeOk W x := by
  obtain ⟨xs, k, _, _, _, hxl, hff⟩ := DataW.trod_struct Tryz.underlying53 h
  have c3 : Tryz.prog.cellsOf 3 = 1 := by kernel_rfl
  have c9 : Tryz.prog.cellsOf 9 = 1 := by kernel_rfl
  have ca : Tryz.prog.cellsOf 50 = 1 := by kernel_rfl
  have ci : Tryz.prog.cellsOf 51 = 1 := by kernel_rfl
  match cs, hc with
  | [v0, v1, v2, v3, v4, v5, v6, v7, v8, v9], _ =>
    match xs, hxl with
    | [y0, y1, y2, y3, y4, y5, y6, y7, y8, y9], _ =>
      have g0 := hff 0 _ rfl
      have g1 := hff 1 _ rfl
      have g2 := hff 2 _ rfl
      have g3 := hff 3 _ rfl
      have g4 := hff 4 _ rfl
      have g5 := hff 5 _ rfl
      have g6 := hff 6 _ rfl
      have g7 := hff 7 _ rfl
      have g8 := hff 8 _ rfl
      have g9 := hff 9 _ rfl
      simp [c3, c9, ca, ci] at g0 g1 g2 g3 g4 g5 g6 g7 g8 g9
      obtain ⟨n0, hn0, _, hw0⟩ := DataW.trod_int Tryz.underlying3 g0
      obtain ⟨s1, hs1, _, hl1⟩ := DataW.trod_string Tryz.underlying9 g1
      obtain ⟨s2, hs2, _, hl2⟩ := DataW.trod_string Tryz.underlying9 g2
      obtain ⟨s3, hs3, _, hl3⟩ := DataW.trod_string Tryz.underlying9 g3
      obtain ⟨n5, hn5, _, hw5⟩ := DataW.trod_int Tryz.underlying3 g5
      obtain ⟨n7, hn7, _, hw7⟩ := DataW.trod_int Tryz.underlying3 g7
      obtain ⟨n8, hn8, _, hw8⟩ := DataW.trod_int Tryz.underlying3 g8
      obtain ⟨n9, hn9, _, hw9⟩ := DataW.trod_int Tryz.underlying3 g9
      simp at hn0 hs1 hs2 hs3 hn5 hn7 hn8 hn9
      subst hn0 hs1 hs2 hs3 hn5 hn7 hn8 hn9
      obtain ⟨a4, l4, c4, rfl⟩ := slice_cells Tryz.underlying50 g4
      obtain ⟨a6, l6, c6, rfl⟩ := slice_cells Tryz.underlying51 g6
      obtain ⟨A, hA⟩ := open_attrs (enc := enc) (W := W) (a := a4) (len := l4) (cap := c4) (d := y4.1) (p := y4.2) ⟨k, by simpa [Value.cells] using g4⟩
      obtain ⟨K, hK⟩ := open_introw (enc := enc) (W := W) (a := a6) (len := l6) (cap := c6) (d := y6.1) (p := y6.2) ⟨k, by simpa [Value.cells] using g6⟩
      exact ⟨⟨⟨n0, s1, s2, s3, A, n5, K, n7, n8, n9⟩, a4, l4, c4, a6, l6, c6⟩, rfl, hA, hK, hl1, hl2, hl3, in64_of hw0, in64_of hw5, in64_of hw7, in64_of hw8, in64_of hw9⟩
/-- A slice of nodes. -/
theorem open_noderow {H : Type} {enc : TypeId × Value → H} {W : World} {a : Option Addr} {len cap : Nat} {d : DataW H} {p : List MemPlace}
    (h : DataW.Trod enc Tryz.prog W 0 (fun _ => true) true 22 (.slice a len cap) d p) : ∃ L, NodeRow W a len cap L := by
  obtain ⟨fuel, hf⟩ := h
  rcases open_slice Tryz.underlying22 hf with ⟨hcs, _⟩ | ⟨ad, l, c, m, n, D, Pl, hcs, _, hl, hm, hmm, _, hi⟩
  · simp [Value.cells] at hcs
    obtain ⟨rfl, rfl, rfl⟩ := hcs
    exact ⟨[], SRow.nil, by simp, fun _ => rfl⟩
  · simp [Value.cells] at hcs
    obtain ⟨rfl, rfl, rfl⟩ := hcs
    have hml : len ≤ m := by rw [hmm]; simpa using hl
    have ce : Tryz.prog.cellsOf 53 = 10 := by kernel_rfl
    have each : ∀ i, i < len → ∃ x : NodeD, NodeOk W x ∧ ∀ j v, (encN x)[j]? = some v → W.cell? (ad.add (i * 10 + j)) = some v := by
      intro i hil
      obtain ⟨cs', h1, h2⟩ := hi i (by omega)
      rw [ce] at h1
      obtain ⟨_, hlen, hcell⟩ := World.cells?_some h1
      obtain ⟨x, hx, hok⟩ := open_nodecells hlen h2
      refine ⟨x, hok, fun j v hv => ?_⟩
      have hj : j < 10 := (List.getElem?_eq_some_iff.1 hv).1
      have e0 := hcell j hj
      rw [add_add, hx, hv] at e0
      exact e0
    obtain ⟨q, hq⟩ : ∃ q : Nat → NodeD, ∀ i, i < len → NodeOk W (q i) ∧ ∀ j v, (encN (q i))[j]? = some v → W.cell? (ad.add (i * 10 + j)) = some v := by
      rcases Nat.eq_zero_or_pos len with h0 | h0
      · exact ⟨fun _ => ⟨⟨0, ByteArray.empty, ByteArray.empty, ByteArray.empty, [], 0, [], 0, 0, 0⟩, none, 0, 0, none, 0, 0⟩, fun i hi => by omega⟩
      · refine ⟨fun i => if h : i < len then (each i h).choose else (each 0 h0).choose, fun i hil => ?_⟩
        simp only [dif_pos hil]
        exact (each i hil).choose_spec
    refine ⟨(List.range len).map q, ⟨by simp, hl, hm, fun x _ => rfl, ?_⟩, ?_, fun h => by cases h⟩
    · rcases Nat.eq_zero_or_pos len with h0 | h0
      · exact .inl h0
      · obtain ⟨b, off, spot⟩ := ad
        have hc := (hq 0 h0).2 0 _ rfl
        have hspot : spot = none := by simpa [Addr.add] using World.cell?_spot hc
        subst hspot
        refine .inr ⟨b, off, rfl, ?_, ?_⟩
        · have := block_lt hc
          rwa [add_plain] at this
        · intro i x j v hx hv
          obtain ⟨hil, hgx⟩ := List.getElem?_eq_some_iff.1 hx
          have hil' : i < len := by simpa using hil
          simp at hgx
          have h1 := (hq i hil').2 j v (by rw [hgx]; exact hv)
          rw [add_plain] at h1
          simpa [Nat.add_assoc] using h1
    · intro x hx
      obtain ⟨i, hi1, rfl⟩ := List.mem_map.1 hx
      exact (hq i (List.mem_range.1 hi1)).1
set_option maxRecDepth 100000 in
/-- A forest, by value. -/
theorem open_forest {H : Type} {enc : TypeId × Value → H} {W : World} {r : Reach} {b0 : Nat} {v : Value} {d : DataW H} {p : List MemPlace} (hv : Value.okWide Tryz.prog W r b0 24 v)
    (h : DataW.Trod enc Tryz.prog W 0 (fun _ => true) true 24 v d p) : ∃ a len cap m L, v = .agg #[.slice a len cap, .int .i64 m] ∧ NodeRow W a len cap L ∧ In64 m := by
  obtain ⟨cs, rfl, hsz⟩ := okWide_struct Tryz.underlying24 hv
  have hC : Tryz.prog.cellsOf 24 = 2 := by kernel_rfl
  have c3 : Tryz.prog.cellsOf 3 = 1 := by kernel_rfl
  have cn : Tryz.prog.cellsOf 22 = 1 := by kernel_rfl
  obtain ⟨l⟩ := cs
  match l, hsz.trans hC with
  | [v0, v1], _ =>
    obtain ⟨fuel, hf⟩ := h
    obtain ⟨xs, k, _, _, _, hxl, hff⟩ := DataW.trod_struct Tryz.underlying24 hf
    match xs, hxl with
    | [y0, y1], _ =>
      have g0 := hff 0 _ rfl
      have g1 := hff 1 _ rfl
      simp [c3, cn, Value.cells] at g0 g1
      obtain ⟨n1, hn1, _, hw1⟩ := DataW.trod_int Tryz.underlying3 g1
      simp at hn1
      subst hn1
      obtain ⟨a4, l4, c4, rfl⟩ := slice_cells Tryz.underlying22 g0
      obtain ⟨L, hL⟩ := open_noderow (enc := enc) (W := W) (a := a4) (len := l4) (cap := c4) (d := y0.1) (p := y0.2) ⟨k, by simpa [Value.cells] using g0⟩
      exact ⟨a4, l4, c4, n1, L, rfl, hL, in64_of hw1⟩
set_option maxRecDepth 100000 in
/-- A node, by value. -/
theorem open_node {H : Type} {enc : TypeId × Value → H} {W : World} {r : Reach} {b0 : Nat} {v : Value} {d : DataW H} {p : List MemPlace} (hv : Value.okWide Tryz.prog W r b0 53 v)
    (h : DataW.Trod enc Tryz.prog W 0 (fun _ => true) true 53 v d p) : ∃ x, v = .agg (encN x).toArray ∧ NodeOk W x := by
  obtain ⟨cs, rfl, hsz⟩ := okWide_struct Tryz.underlying53 hv
  have hC : Tryz.prog.cellsOf 53 = 10 := by kernel_rfl
  obtain ⟨l⟩ := cs
  obtain ⟨fuel, hf⟩ := h
  obtain ⟨x, hx, hok⟩ := open_nodecells (cs := l) (hsz.trans hC) (by simpa [Value.cells] using hf)
  exact ⟨x, by rw [hx], hok⟩
end Go.Proofs.YtbgcpgpkhfbijaaGreatDoor
/- What a tied card's condition gives: the variable errors.errorType. -/
namespace Go.Proofs.YtbgcpgpkhfbijaaGreatDoor
open Go.ChangeShapes Go.WideShapes Go.ChangeAt Go.RowKit
theorem tied_own : ownKnob Tryz.prog.godebug = none := by kernel_rfl
theorem tied_laidOut : laidOutB Tryz.prog = true := by kernel_rfl
theorem tied_et : Tryz.prog.globalNamed "errors.errorType" = some 0 := by kernel_rfl
theorem tied_rt : (Tryz.prog.cutTypes.find? (·.1 == "internal/reflectlite.rtype")).map (·.2) = some 197 := by kernel_rfl
theorem tied_size : Tryz.prog.types.size + 100 = 347 := by kernel_rfl
theorem tied_oneRow : ((List.range Tryz.prog.types.size).filter fun t => Tryz.prog.rowNamed t [101, 114, 114, 111, 114]) = [95] := by kernel_rfl
abbrev errLaid : List (String × DataW Unit) := [("errors.errorType", Rows.laid_errors_errorType)]
theorem handle_of_laid {W : World} (h : laidMetH Tryz.prog errLaid W) : ErrVar W := by
  have h' : laidMet Tryz.prog [] W ∧ handlesMet Tryz.prog errLaid W := h
  obtain ⟨name, u, ty, e1, e2, e3, e4, e5⟩ := h'.2 _ (List.mem_singleton.2 rfl)
  have en : name = [101, 114, 114, 111, 114] := (Option.some.inj e1).symm
  subst en
  obtain rfl := Option.some.inj (tied_rt.symm.trans e2)
  have hm : ty ∈ (List.range Tryz.prog.types.size).filter fun t => Tryz.prog.rowNamed t [101, 114, 114, 111, 114] := List.mem_filter.2 ⟨List.mem_range.2 e3, e4⟩
  rw [tied_oneRow] at hm
  obtain rfl := List.mem_singleton.1 hm
  have hh : typeHandle Tryz.prog 95 = .pointer (some ⟨2, 95, none⟩) := by kernel_rfl
  rw [hh] at e5
  unfold ErrVar
  simpa using World.var?_cell tied_et e5 0
/-- A world that meets the condition: the settled one, the variable's cell laid. -/
noncomputable def laidWorld (os : Os) : World :=
  let w0 := World.holding Tryz.prog os ⟨#[], #[], []⟩
  { w0 with heap := w0.heap.modify 0 fun
      | .cells _ t frozen => .cells #[.iface 197 (.agg #[.pointer (some ⟨2, 95, none⟩)])] t frozen
      | o => o }
theorem laidWorld_met (os : Os) (args : Array Value) : laidMetH Tryz.prog errLaid ((laidWorld os).forCall (fun _ _ => 0) ⟨#[], args, []⟩).memory :=
  laidMetH_of_parts (laidMet_nil _ _) (by kernel_rfl)
end Go.Proofs.YtbgcpgpkhfbijaaGreatDoor
