/- Texts joined in build order: Ext ForestAwake ForestHoldsMath ForestHolds AttrOpen ForestOpen AttrEq AttrRefSame ForestSame ForestSameF ForestNBox NameBytes NameText NameSmall NameFit. -/
import Derived.BigQuiet
import Derived.Deep.QuietTactic
import Derived.Below
import Derived.WalkSmall
import Derived.Test.YtdalljhgmhjibaaK01
import Derived.Test.YtdalljhgmhjibaaChecked
import Derived.Deep.SlicePairs
import Derived.ProofKit
import Derived.OpenShut
import Derived.WalkLawsBesides
import Derived.Lib.Hide
import Derived.WalkKit
import Derived.Lib.Strings
import Derived.Laws.IdiomStrings
import Derived.WideShapes
/- A region that draws its order, whose operations read old memory and whose callees may make new memory: one walk of the text's order serves every order. The class of worlds: all that leave what lay below as it was. -/
namespace Go.Proofs.Ytdalljhgmhjibaa
open Go.RowKit
/-- A later world, below which all is as it was. -/
structure Ext (w : World) where
  v : World
  below : Below w.heap.size w v
instance extNonempty (w : World) : Nonempty (Ext w) := ⟨⟨w, Below.refl _ _⟩⟩
theorem Ext.cell {w : World} {p : Addr} {v : Option Value} (h : w.cell? p = v) (hp : p.block < w.heap.size) : ∀ x : Ext w, x.v.cell? p = v := fun x => (x.below.cell hp).trans h
theorem Ext.call_same {P : Program} {f : FuncId} {args : Array Value} {w : World} {x : Ext w} {v : Value}
    (h : Calls P f args x.v fun e w' => e = .returned v ∧ x.v = w') : Calls P f args x.v fun e w'' => e = .returned v ∧ ∃ y : Ext w, w'' = y.v :=
  h.mono fun _ _ ⟨he, hm⟩ => ⟨he, x, hm.symm⟩
theorem Ext.call_below {P : Program} {f : FuncId} {args : Array Value} {w : World} {x : Ext w} {v : Value}
    (h : Calls P f args x.v fun e w' => e = .returned v ∧ Below x.v.heap.size x.v w') : Calls P f args x.v fun e w'' => e = .returned v ∧ ∃ y : Ext w, w'' = y.v :=
  h.mono fun _ w' ⟨he, hm⟩ => ⟨he, ⟨w', x.below.trans (hm.mono x.below.size)⟩, rfl⟩
theorem Ext.call_drew {P : Program} {f : FuncId} {args : Array Value} {w : World} {x : Ext w} {v : Value}
    (h : Calls P f args x.v fun e w' => e = .returned v ∧ ∃ n, w' = x.v.drewN n) : Calls P f args x.v fun e w'' => e = .returned v ∧ ∃ y : Ext w, w'' = y.v :=
  h.mono fun _ w' ⟨he, n, hm⟩ => ⟨he, ⟨w', by rw [hm]; exact below_drewN x.below n⟩, rfl⟩
theorem wp_region_ext {P : Program} {id : Nat} {Q : Exit → Act → World → Prop} {a : Act} {w : World} {l : List Oper} (hm : P.follows .mixedOrders = true) (hB : Region.lexB .any l.toArray = true)
    (h : wpQuiet P l.toArray (fun w' => ∃ x : Ext w, w' = x.v) (fun a' => ∀ w', (∃ x : Ext w, w' = x.v) → Q .normal a' w') l a) : (Code.region id l.toArray true).wp P Q a w :=
  wp_region_quiet (C := fun w' => ∃ x : Ext w, w' = x.v) hm hB ⟨⟨_, (Below.refl _ _).drew⟩, rfl⟩ (by simpa using h)
end Go.Proofs.Ytdalljhgmhjibaa
/- The fixed answers that stage 3's laws begin with are right. -/
namespace Go.Proofs.Ytdalljhgmhjibaa
open Go.RowKit
def pC (b : UInt8) : Core := ⟨1, ⟨#[b]⟩, ⟨#[]⟩, ⟨#[]⟩, [], 0, [], 0, 0, 0⟩
def pD (b : UInt8) : NodeD := ⟨pC b, none, 0, 0, none, 0, 0⟩
def f2 : List Core := [docC, ⟨1, ⟨#[112]⟩, ⟨#[]⟩, ⟨#[]⟩, [], -1, [], -1, -1, 0⟩]
theorem fa1 : newL 5 = [docC] ∧ newM 5 = 5 ∧ newE 5 = 0 := by decide +kernel
theorem fa2 : makeE 5 [docC] (pC 112) = 0 ∧ makeN 5 [docC] (pC 112) = 1 ∧ makeL 5 [docC] (pC 112) = f2 := by decide +kernel
theorem fa3 : makeE 5 f2 (pC 80) = 1 ∧ makeN 5 f2 (pC 80) = -1 ∧ makeL 5 f2 (pC 80) = f2 := by decide +kernel
theorem fa4 : rightF 5 f2 = true ∧ ordZ 5 f2 1 = [1] ∧ rootZ 5 f2 1 = 1 ∧ holdsZ 5 f2 1 1 = true ∧ holdsZ 5 f2 0 1 = false ∧ placeZ 5 f2 1 = -1 ∧ aheadZ 5 f2 0 1 = false := by decide +kernel
theorem pD_ok (w : World) (b : UInt8) : NodeOk w (pD b) := by
  refine ⟨⟨SRow.nil, (fun z hz => by cases hz), fun _ => rfl⟩, ⟨SRow.nil, (fun z hz => by cases hz), fun _ => rfl⟩, ?_, ?_, ?_, ?_, ?_, ?_, ?_, ?_⟩
  · show 1 ≤ maxLen; decide
  · show 0 ≤ maxLen; decide
  · show 0 ≤ maxLen; decide
  · exact ⟨by show (_ : Int) ≤ 1; decide, by show (1 : Int) ≤ _; decide⟩
  all_goals exact ⟨by show (_ : Int) ≤ 0; decide, by show (0 : Int) ≤ _; decide⟩
theorem pD_small (b : UInt8) : smallX (pD b) := ⟨Nat.zero_le _, by show 1 ≤ 1000; decide⟩
theorem small2 {L : List NodeD} (h : coreL L = f2) : smallF L := by
  unfold coreL f2 at h
  have hl : L.length = 2 := by
    have := congrArg List.length h
    simpa using this
  refine ⟨by omega, fun x hx => ?_⟩
  have hm : x.core ∈ L.map (·.core) := List.mem_map.2 ⟨x, hx, rfl⟩
  rw [h] at hm
  simp at hm
  rcases hm with e | e <;> (unfold smallN; rw [e]; exact ⟨by decide, by decide, by decide⟩)
theorem small1 {L : List NodeD} (h : coreL L = [docC]) : smallF L := by
  unfold coreL at h
  have hl : L.length = 1 := by
    have := congrArg List.length h
    simpa using this
  refine ⟨by omega, fun x hx => ?_⟩
  have hm : x.core ∈ L.map (·.core) := List.mem_map.2 ⟨x, hx, rfl⟩
  rw [h] at hm
  simp at hm
  unfold smallN
  rw [hm]
  exact ⟨by decide, by decide, by decide⟩
abbrev pV (b : UInt8) : Value := .agg #[.int .i64 1, .string ⟨#[b]⟩, .string ⟨#[]⟩, .string ⟨#[]⟩, .slice none 0 0, .int .i64 0, .slice none 0 0, .int .i64 0, .int .i64 0, .int .i64 0]
theorem in5 : In64 5 := ⟨by decide, by decide⟩
theorem in1 : In64 1 := ⟨by decide, by decide⟩
theorem in0 : In64 0 := ⟨by decide, by decide⟩
theorem row_free {w : World} {g : Nat} {cs : Array Value} {t : TypeId} (h : w.heap[g]? = some (.cells cs t (0, 0))) (j : Nat) : w.frozen? ⟨g, j, none⟩ = false := by simp [World.frozen?, h]
/-- No text lies in a forest's box. -/
theorem box_notext {w1 w2 : World} {a : Option Addr} {len cap : Nat} {m : Int} {j : Nat} {s : ByteArray} (hb : Below (w1.alloc (forB a len cap m)).heap.size (w1.alloc (forB a len cap m)) w2) : w2.cell? ⟨w1.heap.size, j, none⟩ ≠ some (.string s) := by
  rw [hb.cell (p := ⟨w1.heap.size, j, none⟩) (by simp), cell_of_row (w1.alloc (forB a len cap m)) w1.heap.size j _ 24 (0, 0) (heap_alloc_new w1 _)]
  match j with
  | 0 => simp
  | 1 => simp
  | j + 2 => simp
/-- A forest whose nodes have no children and no attributes keeps, when a box is written in which it doesn't lie. -/
theorem NodeRow.setBox {w : World} {a : Option Addr} {len cap : Nat} {L : List NodeD} {g o : Nat} (h : NodeRow w a len cap L) (hno : ∀ j s, w.cell? ⟨g, j, none⟩ ≠ some (.string s)) (hk : ∀ x ∈ L, x.core.kids = [] ∧ x.core.attrs = []) (u : Value) : NodeRow (w.setCell ⟨g, o, none⟩ u) a len cap L := by
  have hs : w.heap.size ≤ (w.setCell ⟨g, o, none⟩ u).heap.size := by simp [World.setCell]
  refine ⟨h.row.keep hs (fun b off ha hpos o' => ?_), fun x hx => ?_, h.hnil⟩
  · obtain ⟨b', off', x, ha', _, _, hat, _⟩ := h.get hpos
    rw [ha] at ha'
    injection ha' with ha'
    injection ha' with e1 e2
    subst e1
    refine World.cell?_setCell_other _ _ _ _ (fun e => ?_)
    injection e with e _
    have := hat.c1
    rw [← e] at this
    exact hno _ _ this
  · have hx2 := h.ok x hx
    have h1 := hk x hx
    have k0 : x.kN = 0 := by rw [← hx2.kids.hlen, h1.1]; rfl
    have a0 : x.aN = 0 := by rw [← hx2.attrs.hlen, h1.2]; rfl
    exact ⟨⟨hx2.attrs.row.keep hs (fun _ _ _ hp _ => by omega), hx2.attrs.small, hx2.attrs.hnil⟩, ⟨hx2.kids.row.keep hs (fun _ _ _ hp _ => by omega), hx2.kids.inb, hx2.kids.hnil⟩, hx2.name, hx2.is, hx2.data, hx2.kind, hx2.parent, hx2.host, hx2.under, hx2.doc⟩
theorem bare2 {L : List NodeD} (h : coreL L = f2) : ∀ x ∈ L, x.core.kids = [] ∧ x.core.attrs = [] := fun x hx => by
  have hm : x.core ∈ coreL L := List.mem_map.2 ⟨x, hx, rfl⟩
  rw [h] at hm
  unfold f2 docC at hm
  simp at hm
  rcases hm with e | e <;> rw [e] <;> exact ⟨rfl, rfl⟩
theorem notext_set {w : World} {g o : Nat} {u v : Value} (h : ∀ j s, w.cell? ⟨g, j, none⟩ ≠ some (.string s)) (hc : w.cell? ⟨g, o, none⟩ = some v) (hu : ∀ s, u ≠ .string s) : ∀ j s, (w.setCell ⟨g, o, none⟩ u).cell? ⟨g, j, none⟩ ≠ some (.string s) := fun j s e => by
  by_cases hj : o = j
  · subst hj
    rw [World.cell?_setCell_same _ _ _ hc] at e
    injection e with e
    exact hu s e
  · rw [World.cell?_setCell_other _ _ _ _ (fun e2 => by injection e2 with _ e2; exact hj e2)] at e
    exact h j s e
/-- A forest in a box of the call's own, and its rows. -/
structure Box (w W : World) (g : Nat) (a : Option Addr) (len cap : Nat) (m : Int) (L : List NodeD) (F : List Core) : Prop where
  row : NodeRow W a len cap L
  core : coreL L = F
  low : w.heap.size ≤ g
  lt : g < W.heap.size
  c0 : W.cell? ⟨g, 0, none⟩ = some (.slice a len cap)
  c1 : W.cell? ⟨g, 1, none⟩ = some (.int .i64 m)
  below : Below w.heap.size w W
theorem Box.keep {w W W2 : World} {g : Nat} {a : Option Addr} {len cap : Nat} {m : Int} {L : List NodeD} {F : List Core} (h : Box w W g a len cap m L F) (hb : Below W.heap.size W W2) : Box w W2 g a len cap m L F :=
  ⟨h.row.below hb, h.core, h.low, Nat.lt_of_lt_of_le h.lt hb.size, (hb.cell (p := ⟨g, 0, none⟩) h.lt).trans h.c0, (hb.cell (p := ⟨g, 1, none⟩) h.lt).trans h.c1, h.below.trans (hb.mono h.below.size)⟩
set_option maxHeartbeats 8000000 in
set_option maxRecDepth 100000 in
theorem awake3_any (F : ForestFns) (w : World) : Calls Try.prog 11 #[] w fun e w' => e = .returned (.bool true) ∧ Below w.heap.size w w' := by
  have C0 : Hid (∀ W, Calls Try.prog 14 #[.int .i64 5] W (ForPost W [docC] 5 [.int .i64 0])) := Lib.hid (fun W => by
    have := F.new 5 W in5
    rwa [fa1.1, fa1.2.1, fa1.2.2] at this)
  have C1 : Hid (∀ W a len cap L, NodeRow W a len cap L → coreL L = [docC] → Calls Try.prog 15 #[forV a len cap 5, pV 112] W (ForPost W f2 5 [.int .i64 1, .int .i64 0])) := Lib.hid (fun W a len cap L h hc => by
    have := F.make a len cap 5 L (pD 112) W h (pD_ok _ _) in5 (small1 hc) (pD_small _)
    rw [hc, show (pD 112).core = pC 112 from rfl, fa2.1, fa2.2.1, fa2.2.2] at this
    exact this)
  have C2 : Hid (∀ W a len cap L, NodeRow W a len cap L → coreL L = f2 → Calls Try.prog 15 #[forV a len cap 5, pV 80] W (ForPost W f2 5 [.int .i64 (-1), .int .i64 1])) := Lib.hid (fun W a len cap L h hc => by
    have := F.make a len cap 5 L (pD 80) W h (pD_ok _ _) in5 (small2 hc) (pD_small _)
    rw [hc, show (pD 80).core = pC 80 from rfl, fa3.1, fa3.2.1, fa3.2.2] at this
    exact this)
  have C3 : Hid (∀ W a len cap L, NodeRow W a len cap L → coreL L = f2 → Calls Try.prog 20 #[forV a len cap 5, .int .i64 1] W (OrdPost W [1])) := Lib.hid (fun W a len cap L h hc => by
    have := F.order a len cap 5 L 1 W h in5 in1 (small2 hc)
    rwa [hc, fa4.2.1] at this)
  have C4 : Hid (∀ W a len cap L, NodeRow W a len cap L → coreL L = f2 → Calls Try.prog 16 #[forV a len cap 5] W fun e w' => e = .returned (.bool true) ∧ Below W.heap.size W w') := Lib.hid (fun W a len cap L h hc => by
    have := F.right a len cap 5 L W h in5 (small2 hc)
    rwa [hc, fa4.1] at this)
  have C5 : Hid (∀ W a len cap L, NodeRow W a len cap L → coreL L = f2 → Calls Try.prog 19 #[forV a len cap 5, .int .i64 1] W fun e w' => e = .returned (.int .i64 1) ∧ Below W.heap.size W w') := Lib.hid (fun W a len cap L h hc => by
    have := F.root a len cap 5 L 1 W h in5 in1 (small2 hc)
    rwa [hc, fa4.2.2.1] at this)
  have C6 : Hid (∀ W a len cap L, NodeRow W a len cap L → coreL L = f2 → Calls Try.prog 21 #[forV a len cap 5, .int .i64 1, .int .i64 1] W fun e w' => e = .returned (.bool true) ∧ Below W.heap.size W w') := Lib.hid (fun W a len cap L h hc => by
    have := F.holds a len cap 5 L 1 1 W h in5 in1 in1 (small2 hc)
    rwa [hc, fa4.2.2.2.1] at this)
  have C7 : Hid (∀ W a len cap L, NodeRow W a len cap L → coreL L = f2 → Calls Try.prog 21 #[forV a len cap 5, .int .i64 0, .int .i64 1] W fun e w' => e = .returned (.bool false) ∧ Below W.heap.size W w') := Lib.hid (fun W a len cap L h hc => by
    have := F.holds a len cap 5 L 0 1 W h in5 in0 in1 (small2 hc)
    rwa [hc, fa4.2.2.2.2.1] at this)
  have C8 : Hid (∀ W a len cap L, NodeRow W a len cap L → coreL L = f2 → Calls Try.prog 22 #[forV a len cap 5, .int .i64 1] W fun e w' => e = .returned (.int .i64 (-1)) ∧ Below W.heap.size W w') := Lib.hid (fun W a len cap L h hc => by
    have := F.place a len cap 5 L 1 W h in5 in1 (small2 hc)
    rwa [hc, fa4.2.2.2.2.2.1] at this)
  have C9 : Hid (∀ W a len cap L, NodeRow W a len cap L → coreL L = f2 → Calls Try.prog 23 #[forV a len cap 5, .int .i64 0, .int .i64 1] W fun e w' => e = .returned (.bool false) ∧ Below W.heap.size W w') := Lib.hid (fun W a len cap L h hc => by
    have := F.ahead a len cap 5 L 0 1 W h in5 in0 in1 (small2 hc)
    rwa [hc, fa4.2.2.2.2.2.2] at this)
  clear F
  go_enter Try.func11, Try.ntmps11
  go_wp2_with (first
    | (go_at_call 14; refine (C0.out _).mono ?_; rintro e w1 ⟨a1, len1, cap1, L1, rfl, hr1, hc1, hb1⟩; have HR1 := Lib.hid hr1; have HC1 := Lib.hid hc1; have HB1 := Lib.hid hb1; clear hr1 hc1 hb1)
    | (go_at_call 15; ((with_reducible refine (C1.out _ _ _ _ _ (HR1.out.below (below_box _ _)) HC1.out).mono ?_); rintro e w2 ⟨a2, len2, cap2, L2, rfl, hr2, hc2, hb2⟩)
       have HR2 := Lib.hid hr2
       have HC2 := Lib.hid hc2
       have HB2 := Lib.hid ((HB1.out.alloc HB1.out.size (forB a1 len1 cap1 5)).trans (hb2.mono (by have := HB1.out.size; simp; omega)))
       have hz2 : w1.heap.size < w2.heap.size := by have := hb2.size; simp at this; omega
       have x0 : w2.cell? ⟨w1.heap.size, 0, none⟩ = some (.slice a1 len1 cap1) := (hb2.cell (p := ⟨w1.heap.size, 0, none⟩) (by simp)).trans (cell_of_row (w1.alloc (forB a1 len1 cap1 5)) w1.heap.size 0 _ 24 (0, 0) (heap_alloc_new w1 _))
       have x1 : w2.cell? ⟨w1.heap.size, 1, none⟩ = some (.int .i64 5) := (hb2.cell (p := ⟨w1.heap.size, 1, none⟩) (by simp)).trans (cell_of_row (w1.alloc (forB a1 len1 cap1 5)) w1.heap.size 1 _ 24 (0, 0) (heap_alloc_new w1 _))
       have xf : ∀ o, w2.frozen? ⟨w1.heap.size, o, none⟩ = false := fun o => by
         rw [hb2.frozen (p := ⟨w1.heap.size, o, none⟩) (by simp)]
         exact row_free (heap_alloc_new w1 _) o
       have xf0 := xf 0
       have xf1 := xf 1
       have NT := Lib.hid (fun j s => box_notext (j := j) (s := s) hb2)
       clear hr2 hc2 hb2 xf)
    | (go_at_call 15; ((with_reducible refine (C2.out _ _ _ _ _ ((HR2.out.setBox NT.out (bare2 HC2.out) _).setBox (notext_set NT.out x0 (fun s e => by cases e)) (bare2 HC2.out) _) HC2.out).mono ?_); rintro e w3 ⟨a3, len3, cap3, L3, rfl, hr3, hc3, hb3⟩)
       have HRW := (HR2.out.setBox NT.out (bare2 HC2.out) (.slice a2 len2 cap2) (o := 0)).setBox (notext_set NT.out x0 (fun s e => by cases e)) (bare2 HC2.out) (.int .i64 5) (o := 1)
       have HR3 := Lib.hid (HRW.below hb3)
       have HB3 := Lib.hid (((HB2.out.setCell (p := ⟨w1.heap.size, 0, none⟩) HB1.out.size (.slice a2 len2 cap2)).setCell (p := ⟨w1.heap.size, 1, none⟩) HB1.out.size (.int .i64 5)).trans (hb3.mono (by have := HB2.out.size; simp [World.setCell]; omega)))
       have hz3 : w1.heap.size < w3.heap.size := by have := hb3.size; simp [World.setCell] at this; omega
       have y0 : w3.cell? ⟨w1.heap.size, 0, none⟩ = some (.slice a2 len2 cap2) := (hb3.cell (p := ⟨w1.heap.size, 0, none⟩) (by simp [World.setCell]; omega)).trans ((World.cell?_setCell_other _ _ _ _ (fun e => by injection e with _ e; omega)).trans (World.cell?_setCell_same _ _ _ x0))
       have y1 : w3.cell? ⟨w1.heap.size, 1, none⟩ = some (.int .i64 5) := (hb3.cell (p := ⟨w1.heap.size, 1, none⟩) (by simp [World.setCell]; omega)).trans (World.cell?_setCell_same _ _ _ ((World.cell?_setCell_other _ _ _ _ (fun e => by injection e with _ e; omega)).trans x1))
       have HBX := Lib.hid (Box.mk (w := w) (W := w3) (g := w1.heap.size) (F := f2) HR3.out HC2.out HB1.out.size hz3 y0 y1 HB3.out)
       clear hr3 hc3 hb3 HRW)
    | (go_at_call 20; ((with_reducible refine (C3.out _ _ _ _ _ (HR3.out.below (below_box _ _)) HC2.out).mono ?_); rintro e w4 ⟨a4, len4, cap4, rfl, hr4, hb4⟩)
       have HX4 := Lib.hid ((HBX.out.keep (below_box _ (forB a3 len3 cap3 5))).keep hb4)
       have z0 := HX4.out.c0
       have z1 := HX4.out.c1
       obtain rfl : 1 = len4 := hr4.hlen
       obtain ⟨bo, oo, z, rfl, hbo, hz, hco, _⟩ := hr4.get (k := 0) (by decide)
       obtain rfl : 1 = z := by simpa using hz
       clear hr4 hb4 hz)
    | (go_at_call 16; ((with_reducible refine (C4.out _ _ _ _ _ HX4.out.row HX4.out.core).mono ?_); rintro e w5 ⟨rfl, hb5⟩)
       have HX5 := Lib.hid (HX4.out.keep hb5)
       have z0 := HX5.out.c0
       have z1 := HX5.out.c1
       have hco5 : w5.cell? ⟨bo, oo, none⟩ = some (.int .i64 1) := (hb5.cell (p := ⟨bo, oo, none⟩) hbo).trans hco
       clear hco
       clear hb5)
    | (go_at_call 19; ((with_reducible refine (C5.out _ _ _ _ _ HX5.out.row HX5.out.core).mono ?_); rintro e w6 ⟨rfl, hb6⟩)
       have HX6 := Lib.hid (HX5.out.keep hb6)
       have z0 := HX6.out.c0
       have z1 := HX6.out.c1
       clear hb6)
    | (go_at_call 21; ((with_reducible refine (C6.out _ _ _ _ _ HX6.out.row HX6.out.core).mono ?_); rintro e w7 ⟨rfl, hb7⟩)
       have HX7 := Lib.hid (HX6.out.keep hb7)
       have z0 := HX7.out.c0
       have z1 := HX7.out.c1
       clear hb7)
    | (go_at_call 21; ((with_reducible refine (C7.out _ _ _ _ _ HX7.out.row HX7.out.core).mono ?_); rintro e w8 ⟨rfl, hb8⟩)
       have HX8 := Lib.hid (HX7.out.keep hb8)
       have z0 := HX8.out.c0
       have z1 := HX8.out.c1
       clear hb8)
    | (go_at_call 22; ((with_reducible refine (C8.out _ _ _ _ _ HX8.out.row HX8.out.core).mono ?_); rintro e w9 ⟨rfl, hb9⟩)
       have HX9 := Lib.hid (HX8.out.keep hb9)
       have z0 := HX9.out.c0
       have z1 := HX9.out.c1
       clear hb9)
    | (go_at_call 23; ((with_reducible refine (C9.out _ _ _ _ _ HX9.out.row HX9.out.core).mono ?_); rintro e w10 ⟨rfl, hb10⟩)
       have HX10 := Lib.hid (HX9.out.keep hb10)
       clear hb10))
  go_ret
  exact ⟨rfl, HX10.out.below⟩
end Go.Proofs.Ytdalljhgmhjibaa
/- What the law ForestHolds asks, over data: facts of forests that are right. Plain mathematics, no program. -/
namespace Go.Proofs.Ytdalljhgmhjibaa
open Go.RowKit
theorem thereF_of {m : Int} {F : List Core} (h : rightF m F = true) {n : Nat} (hn : n < F.length) : thereF m F (n : Int) = true := by
  unfold thereF
  rw [h, decide_eq_true (by omega), decide_eq_true (by omega)]
  rfl
theorem holdsZ_iff {m : Int} {F : List Core} (h : rightF m F = true) {a b : Nat} (ha : a < F.length) (hb : b < F.length) : holdsZ m F (a : Int) (b : Int) = true ↔ holdsT (parF F) a b := by
  unfold holdsZ
  rw [thereF_of h ha, thereF_of h hb, Bool.true_and, Bool.true_and]
  unfold holdsF ordF
  rw [decide_eq_true_iff]
  exact (tree_of_right h).mem_ord _ _ ha (by omega) _ hb
theorem rootZ_eq {m : Int} {F : List Core} (h : rightF m F = true) {a : Nat} (ha : a < F.length) : rootZ m F (a : Int) = (rootF F a : Nat) := by
  unfold rootZ
  rw [thereF_of h ha]
  rfl
theorem rootF_lt {m : Int} {F : List Core} (h : rightF m F = true) {a : Nat} (ha : a < F.length) : rootF F a < F.length := (tree_of_right h).root_lt ha
theorem right_len {m : Int} {F : List Core} (h : rightF m F = true) : 0 < F.length := by
  have := ((rightF_iff m F).1 h).1.2.2.2
  cases F with
  | nil => unfold headDoc at this; cases this
  | cons _ _ => simp
theorem right_most {m : Int} {F : List Core} (h : rightF m F = true) : 1 ≤ m ∧ m ≤ 400 ∧ (F.length : Int) ≤ m := by
  have := ((rightF_iff m F).1 h).1
  exact ⟨this.1, this.2.1, this.2.2.1⟩
/-- A child stands among its parent's children. -/
theorem find_at {L : List Int} {n : Int} (h : n ∈ L) : ∃ k : Nat, findZ L n = (k : Int) ∧ L[k]? = some n := by
  have hl : findN L n < L.length := List.findIdx_lt_length_of_exists ⟨n, h, by simp⟩
  refine ⟨findN L n, ?_, ?_⟩
  · unfold findZ
    rw [if_pos hl]
  · have := List.findIdx_getElem (w := hl)
    rw [List.getElem?_eq_getElem hl]
    congr 1
    exact beq_iff_eq.1 this
/-- What is asked of three nodes. -/
structure HoldsFacts (m : Int) (F : List Core) (x y z : Nat) (c : Core) : Prop where
  self : holdsZ m F x x = true
  trans : holdsZ m F x y = true → holdsZ m F y z = true → holdsZ m F x z = true
  anti : x ≠ y → holdsZ m F x y = true → holdsZ m F y x = false
  root : holdsZ m F x y = true → rootZ m F x = rootZ m F y
  top : rootZ m F (rootZ m F x) = rootZ m F x
  held : holdsZ m F (rootZ m F x) x = true
  alone : c.parent = -1 → placeZ m F x = -1 ∧ rootZ m F x = x
  child : c.parent ≠ -1 → ∃ (p : Nat) (pc : Core) (k : Nat), c.parent = p ∧ F[p]? = some pc ∧ placeZ m F x = k ∧ pc.kids[k]? = some (x : Int) ∧ holdsZ m F p x = true
theorem holds_facts {m : Int} {F : List Core} (h : rightF m F = true) {x y z : Nat} {c : Core} (hx : x < F.length) (hy : y < F.length) (hz : z < F.length) (hc : F[x]? = some c) : HoldsFacts m F x y z c := by
  have T := tree_of_right h
  have hr := rootF_lt h hx
  refine ⟨?_, fun h1 h2 => ?_, fun hne h1 => ?_, fun h1 => ?_, ?_, ?_, fun hp => ?_, fun hp => ?_⟩
  · exact (holdsZ_iff h hx hx).2 (holds_refl x)
  · exact (holdsZ_iff h hx hz).2 (holds_trans ((holdsZ_iff h hx hy).1 h1) ((holdsZ_iff h hy hz).1 h2))
  · cases h2 : holdsZ m F y x with
    | false => rfl
    | true => exact absurd (T.holds_anti hx hy ((holdsZ_iff h hx hy).1 h1) ((holdsZ_iff h hy hx).1 h2)) hne
  · rw [rootZ_eq h hx, rootZ_eq h hy]
    unfold rootF
    rw [T.root_held hy (Nat.le_refl _) ((holdsZ_iff h hx hy).1 h1)]
  · rw [rootZ_eq h hx, rootZ_eq h hr]
    unfold rootF
    rw [T.root_root hx (Nat.le_refl _)]
  · rw [rootZ_eq h hx]
    exact (holdsZ_iff h hr hx).2 (rootN_holds _ _)
  · have hn : parF F x = none := by unfold parF; rw [hc]; dsimp only; rw [if_pos hp]
    refine ⟨?_, ?_⟩
    · unfold placeZ placeF
      rw [thereF_of h hx, if_pos rfl, Int.toNat_natCast, hn]
    · rw [rootZ_eq h hx]
      unfold rootF
      rw [rootN_none hn]
  · have hs : parF F x = some c.parent.toNat := by unfold parF; rw [hc]; dsimp only; rw [if_neg hp]
    obtain ⟨hlt, hk⟩ := T.par_kid _ _ hx hs
    obtain ⟨pc, hpc⟩ : ∃ pc, F[c.parent.toNat]? = some pc := ⟨_, List.getElem?_eq_getElem hlt⟩
    have hpos : 0 ≤ c.parent := by
      have g := ((rightF_iff m F).1 h).2.1 x c hc
      unfold nodeOk at g
      simp only [Bool.and_eq_true] at g
      have g := g.1.1.1.1.1.2
      unfold parOk at g
      rw [beq_eq_false_iff_ne.2 hp, Bool.false_or, Bool.and_eq_true] at g
      cases hg : getC F c.parent with
      | none => rw [hg] at g; simp at g
      | some p => exact (getC_some hg).1
    have hm : (x : Int) ∈ pc.kids := by
      unfold kidsF at hk
      rw [hpc] at hk
      obtain ⟨w, hw, e⟩ := List.mem_map.1 hk
      have g := ((rightF_iff m F).1 h).2.1 _ pc hpc
      unfold nodeOk at g
      simp only [Bool.and_eq_true, List.all_eq_true] at g
      have g := g.1.1.1.1.2 w hw
      unfold kidOk at g
      cases hg : getC F w with
      | none => rw [hg] at g; simp at g
      | some p =>
        have := (getC_some hg).1
        have e2 : w = (x : Int) := by omega
        rwa [← e2]
    obtain ⟨k, hk1, hk2⟩ := find_at hm
    refine ⟨c.parent.toNat, pc, k, by omega, hpc, ?_, hk2, (holdsZ_iff h hlt hx).2 (holds_par hs)⟩
    unfold placeZ placeF
    rw [thereF_of h hx, if_pos rfl]
    simp only [Int.toNat_natCast, hs, hpc]
    exact hk1
end Go.Proofs.Ytdalljhgmhjibaa
/- The walk of the law ForestHolds, over the contracts of package forest. -/
namespace Go.Proofs.Ytdalljhgmhjibaa
open Go.RowKit
theorem Box.start {w : World} {a : Option Addr} {len cap : Nat} {m : Int} {L : List NodeD} (h : NodeRow w a len cap L) : Box w (w.alloc (forB a len cap m)) w.heap.size a len cap m L (coreL L) :=
  ⟨h.below (below_box _ _), rfl, Nat.le_refl _, by simp, cell_of_row (w.alloc (forB a len cap m)) w.heap.size 0 _ 24 (0, 0) (heap_alloc_new w _), cell_of_row (w.alloc (forB a len cap m)) w.heap.size 1 _ 24 (0, 0) (heap_alloc_new w _), below_box _ _⟩
set_option maxHeartbeats 16000000 in
set_option maxRecDepth 100000 in
theorem forestHolds_walk (F : ForestFns) (a0 : Option Addr) (len0 cap0 : Nat) (m : Int) (L0 : List NodeD) (x y z : Int) (w : World)
    (h0 : NodeRow w a0 len0 cap0 L0) (hm : In64 m) (hx : 0 ≤ x ∧ x ≤ 255) (hy : 0 ≤ y ∧ y ≤ 255) (hz : 0 ≤ z ∧ z ≤ 255) :
    Calls Try.prog 6 #[forV a0 len0 cap0 m, .int .u8 x, .int .u8 y, .int .u8 z] w fun e w' => e = .returned (.bool true) ∧ Below w.heap.size w w' := by
  have AW := Lib.hid (fun W => awake3_any F W)
  have HF := Lib.hid F
  have BX := Lib.hid (Box.start (m := m) h0)
  have hl0 := h0.len64
  have HL := Lib.hid h0.hlen
  have HM := Lib.hid hm
  clear h0 F hm
  cases c0 : shortF L0 with
  | false =>
    have C0 := Lib.hid c0
    go_enter Try.func6, Try.ntmps6
    go_wp2_with (first
                    | (go_at_call 11; (with_reducible refine (AW.out _).mono ?_); rintro e w1 ⟨rfl, hb⟩; have BX := Lib.hid (BX.out.keep hb); have z0 := BX.out.c0; have z1 := BX.out.c1; clear hb)
                    | (go_at_call 12; (with_reducible refine (refshortF_any _ _ _ _ _ _ BX.out.row).mono ?_); rintro e w1 ⟨rfl, hb⟩; have BX := Lib.hid (BX.out.keep hb); have z0 := BX.out.c0; have z1 := BX.out.c1; clear hb)
                    | (go_at_call 16; (with_reducible refine (HR.out _ BX.out.row).mono ?_); rintro e w1 ⟨rfl, hb⟩; have BX := Lib.hid (BX.out.keep hb); have z0 := BX.out.c0; have z1 := BX.out.c1; clear hb))
    go_ret
    exact ⟨rfl, BX.out.below⟩
  | true =>
    have SM := Lib.hid (small_of_short c0)
    cases c1 : rightF m (coreL L0) with
    | false =>
      have HR : Hid (∀ W, NodeRow W a0 len0 cap0 L0 → Calls Try.prog 16 #[forV a0 len0 cap0 m] W fun e w' => e = .returned (.bool false) ∧ Below W.heap.size W w') := Lib.hid (fun W h => by
        have := HF.out.right a0 len0 cap0 m L0 W h HM.out SM.out
        rwa [c1] at this)
      clear c1
      go_enter Try.func6, Try.ntmps6
      go_wp2_with (first
                      | (go_at_call 11; (with_reducible refine (AW.out _).mono ?_); rintro e w1 ⟨rfl, hb⟩; have BX := Lib.hid (BX.out.keep hb); have z0 := BX.out.c0; have z1 := BX.out.c1; clear hb)
                      | (go_at_call 12; (with_reducible refine (refshortF_any _ _ _ _ _ _ BX.out.row).mono ?_); rintro e w1 ⟨rfl, hb⟩; have BX := Lib.hid (BX.out.keep hb); have z0 := BX.out.c0; have z1 := BX.out.c1; clear hb)
                      | (go_at_call 16; (with_reducible refine (HR.out _ BX.out.row).mono ?_); rintro e w1 ⟨rfl, hb⟩; have BX := Lib.hid (BX.out.keep hb); have z0 := BX.out.c0; have z1 := BX.out.c1; clear hb))
      go_ret
      exact ⟨rfl, BX.out.below⟩
    | true =>
      have HR : Hid (∀ W, NodeRow W a0 len0 cap0 L0 → Calls Try.prog 16 #[forV a0 len0 cap0 m] W fun e w' => e = .returned (.bool true) ∧ Below W.heap.size W w') := Lib.hid (fun W h => by
        have := HF.out.right a0 len0 cap0 m L0 W h HM.out SM.out
        rwa [c1] at this)
      have C1 := Lib.hid c1
      have hlc : (coreL L0).length = len0 := by
        unfold coreL
        rw [List.length_map, HL.out]
      have hlp : 0 < len0 := by
        have := right_len c1
        rwa [hlc] at this
      clear c1
      obtain ⟨X, hX⟩ : ∃ X : Nat, x % (len0 : Int) = X := ⟨(x % (len0 : Int)).toNat, by have := Int.emod_nonneg x (show (len0 : Int) ≠ 0 by omega); omega⟩
      obtain ⟨Y, hY⟩ : ∃ Y : Nat, y % (len0 : Int) = Y := ⟨(y % (len0 : Int)).toNat, by have := Int.emod_nonneg y (show (len0 : Int) ≠ 0 by omega); omega⟩
      obtain ⟨Z, hZ⟩ : ∃ Z : Nat, z % (len0 : Int) = Z := ⟨(z % (len0 : Int)).toNat, by have := Int.emod_nonneg z (show (len0 : Int) ≠ 0 by omega); omega⟩
      have hXl : X < len0 := by have := Int.emod_lt_of_pos x (show (0 : Int) < len0 by omega); omega
      have hYl : Y < len0 := by have := Int.emod_lt_of_pos y (show (0 : Int) < len0 by omega); omega
      have hZl : Z < len0 := by have := Int.emod_lt_of_pos z (show (0 : Int) < len0 by omega); omega
      obtain ⟨nx, hnx⟩ : ∃ nx, L0[X]? = some nx := ⟨_, List.getElem?_eq_getElem (by have := HL.out; omega)⟩
      have hc : (coreL L0)[X]? = some nx.core := by unfold coreL; rw [List.getElem?_map, hnx]; rfl
      have FX := Lib.hid (holds_facts (x := X) (y := Y) (z := Z) C1.out (by omega) (by omega) (by omega) hc)
      have hrl : rootF (coreL L0) X < len0 := by rw [← hlc]; exact rootF_lt C1.out (by omega)
      have hrq : rootZ m (coreL L0) X = (rootF (coreL L0) X : Nat) := rootZ_eq C1.out (by omega)
      obtain ⟨R, hR⟩ : ∃ R, rootF (coreL L0) X = R := ⟨_, rfl⟩
      rw [hR] at hrl hrq
      clear hR
      have in_nat : ∀ k : Nat, k < len0 → In64 (k : Int) := fun k hk => ⟨by omega, by omega⟩
      have GH : Hid (∀ W (u v : Nat) (b : Bool), NodeRow W a0 len0 cap0 L0 → u < len0 → v < len0 → holdsZ m (coreL L0) u v = b → Calls Try.prog 21 #[forV a0 len0 cap0 m, .int .i64 u, .int .i64 v] W fun e w' => e = .returned (.bool b) ∧ Below W.heap.size W w') := Lib.hid (fun W u v b h hu hv hb => by
        rw [← hb]
        exact HF.out.holds a0 len0 cap0 m L0 u v W h HM.out (in_nat u hu) (in_nat v hv) SM.out)
      have GR : Hid (∀ W (u : Nat) (r : Int), NodeRow W a0 len0 cap0 L0 → u < len0 → rootZ m (coreL L0) u = r → Calls Try.prog 19 #[forV a0 len0 cap0 m, .int .i64 u] W fun e w' => e = .returned (.int .i64 r) ∧ Below W.heap.size W w') := Lib.hid (fun W u r h hu hr => by
        rw [← hr]
        exact HF.out.root a0 len0 cap0 m L0 u W h HM.out (in_nat u hu) SM.out)
      have GP : Hid (∀ W (u : Nat) (r : Int), NodeRow W a0 len0 cap0 L0 → u < len0 → placeZ m (coreL L0) u = r → Calls Try.prog 22 #[forV a0 len0 cap0 m, .int .i64 u] W fun e w' => e = .returned (.int .i64 r) ∧ Below W.heap.size W w') := Lib.hid (fun W u r h hu hr => by
        rw [← hr]
        exact HF.out.place a0 len0 cap0 m L0 u W h HM.out (in_nat u hu) SM.out)
      clear SM HF
      have hself := FX.out.self
      have htop := FX.out.top
      have hheld := FX.out.held
      rw [hrq] at htop hheld
      go_enter Try.func6, Try.ntmps6
      go_wp2_with (first
                      | (go_at_call 11; (with_reducible refine (AW.out _).mono ?_); rintro e w1 ⟨rfl, hb⟩; have BX := Lib.hid (BX.out.keep hb); have z0 := BX.out.c0; have z1 := BX.out.c1; clear hb)
                      | (go_at_call 12; (with_reducible refine (refshortF_any _ _ _ _ _ _ BX.out.row).mono ?_); rintro e w1 ⟨rfl, hb⟩; have BX := Lib.hid (BX.out.keep hb); have z0 := BX.out.c0; have z1 := BX.out.c1; clear hb)
                      | (go_at_call 16; (with_reducible refine (HR.out _ BX.out.row).mono ?_); rintro e w1 ⟨rfl, hb⟩; have BX := Lib.hid (BX.out.keep hb); have z0 := BX.out.c0; have z1 := BX.out.c1; clear hb))
      have E0 := Ext.cell z0 BX.out.lt
      have E1 := Ext.cell z1 BX.out.lt
      refine wp_region_ext (by kernel_rfl) (by kernel_rfl) ?_
      repeat (go_big_quiet_step (fail))
      refine wpQuiet_nil ?_
      intro w' hw'
      obtain ⟨⟨w2, hb2⟩, hw''⟩ := hw'
      dsimp only at hw''
      subst hw''
      clear E0 E1
      rw [hX, hY, hZ]
      clear hX hY hZ
      have BX := Lib.hid (BX.out.keep hb2)
      have z0 := BX.out.c0
      have z1 := BX.out.c1
      clear hb2
      clear hc in_nat hlc
      have CASES : (¬ (X : Int) = Y ∧ holdsZ m (coreL L0) X Y = false ∧ True ∧ True ∧ True ∧ True) ∨ (X = Y ∧ holdsZ m (coreL L0) X Y = true ∧ rootZ m (coreL L0) Y = R ∧ True ∧ holdsZ m (coreL L0) Y Z = false ∧ True)
          ∨ (X = Y ∧ holdsZ m (coreL L0) X Y = true ∧ rootZ m (coreL L0) Y = R ∧ True ∧ holdsZ m (coreL L0) Y Z = true ∧ holdsZ m (coreL L0) X Z = true)
          ∨ (¬ (X : Int) = Y ∧ holdsZ m (coreL L0) X Y = true ∧ rootZ m (coreL L0) Y = R ∧ holdsZ m (coreL L0) Y X = false ∧ holdsZ m (coreL L0) Y Z = false ∧ True)
          ∨ (¬ (X : Int) = Y ∧ holdsZ m (coreL L0) X Y = true ∧ rootZ m (coreL L0) Y = R ∧ holdsZ m (coreL L0) Y X = false ∧ holdsZ m (coreL L0) Y Z = true ∧ holdsZ m (coreL L0) X Z = true) := by
        by_cases e2 : (X : Int) = Y
        · have e1 : holdsZ m (coreL L0) X Y = true := by rw [← e2]; exact hself
          have e3 : rootZ m (coreL L0) Y = R := by rw [← e2]; exact hrq
          cases e4 : holdsZ m (coreL L0) Y Z with
          | false => exact .inr (.inl ⟨Int.ofNat.inj e2, e1, e3, trivial, rfl, trivial⟩)
          | true => exact .inr (.inr (.inl ⟨Int.ofNat.inj e2, e1, e3, trivial, rfl, FX.out.trans e1 e4⟩))
        · cases e1 : holdsZ m (coreL L0) X Y with
          | false => exact .inl ⟨e2, rfl, trivial, trivial, trivial, trivial⟩
          | true =>
            have e3 : rootZ m (coreL L0) Y = R := by rw [← FX.out.root e1]; exact hrq
            have e5 := FX.out.anti (fun e => e2 (by rw [e])) e1
            cases e4 : holdsZ m (coreL L0) Y Z with
            | false => exact .inr (.inr (.inr (.inl ⟨e2, rfl, e3, e5, rfl, trivial⟩)))
            | true => exact .inr (.inr (.inr (.inr ⟨e2, rfl, e3, e5, rfl, FX.out.trans e1 e4⟩)))
      rcases CASES with ⟨e2, e1, e3, e5, e4, e6⟩ | ⟨rfl, e1, e3, e5, e4, e6⟩ | ⟨rfl, e1, e3, e5, e4, e6⟩ | ⟨e2, e1, e3, e5, e4, e6⟩ | ⟨e2, e1, e3, e5, e4, e6⟩
      all_goals
        go_wp2_with (first
                        | (go_at_call 21; (refine (GH.out _ _ _ _ BX.out.row (by assumption) (by assumption) (by assumption)).mono ?_); rintro e w1 ⟨rfl, hb⟩; have BX := Lib.hid (BX.out.keep hb); have z0 := BX.out.c0; have z1 := BX.out.c1; clear hb)
                        | (go_at_call 19; (refine (GR.out _ _ _ BX.out.row (by assumption) (by assumption)).mono ?_); rintro e w1 ⟨rfl, hb⟩; have BX := Lib.hid (BX.out.keep hb); have z0 := BX.out.c0; have z1 := BX.out.c1; clear hb)
                        | (go_at_call 22; (refine (GP.out _ _ _ BX.out.row (by assumption) (by assumption)).mono ?_); rintro e w1 ⟨rfl, hb⟩; have BX := Lib.hid (BX.out.keep hb); have z0 := BX.out.c0; have z1 := BX.out.c1; clear hb))
        have E0 := Ext.cell z0 BX.out.lt
        have E1 := Ext.cell z1 BX.out.lt
        have EH := Lib.hid (fun (x : Ext w1) u v b hu hv hb => GH.out x.v u v b (BX.out.row.below x.below) hu hv hb)
        have ER := Lib.hid (fun (x : Ext w1) u r hu hr => GR.out x.v u r (BX.out.row.below x.below) hu hr)
        refine wp_region_ext (by kernel_rfl) (by kernel_rfl) ?_
        repeat (go_big_quiet_step (first
          | (go_at_call 21; exact Ext.call_below (EH.out _ _ _ _ (by assumption) (by assumption) (by assumption)))
          | (go_at_call 19; exact Ext.call_below (ER.out _ _ _ (by assumption) (by assumption)))))
        refine wpQuiet_nil ?_
        intro w' hw'
        obtain ⟨⟨w2, hb2⟩, hw''⟩ := hw'
        dsimp only at hw''
        subst hw''
        clear E0 E1 EH ER
        have BX := Lib.hid (BX.out.keep hb2)
        have z0 := BX.out.c0
        have z1 := BX.out.c1
        clear hb2
        go_wp2_with (first
                        | (go_at_call 21; (refine (GH.out _ _ _ _ BX.out.row (by assumption) (by assumption) (by assumption)).mono ?_); rintro e w1 ⟨rfl, hb⟩; have BX := Lib.hid (BX.out.keep hb); have z0 := BX.out.c0; have z1 := BX.out.c1; clear hb)
                        | (go_at_call 19; (refine (GR.out _ _ _ BX.out.row (by assumption) (by assumption)).mono ?_); rintro e w1 ⟨rfl, hb⟩; have BX := Lib.hid (BX.out.keep hb); have z0 := BX.out.c0; have z1 := BX.out.c1; clear hb)
                        | (go_at_call 22; (refine (GP.out _ _ _ BX.out.row (by assumption) (by assumption)).mono ?_); rintro e w1 ⟨rfl, hb⟩; have BX := Lib.hid (BX.out.keep hb); have z0 := BX.out.c0; have z1 := BX.out.c1; clear hb))
        obtain ⟨b, off, nx', hab, hblt, hgx, hat, -⟩ := BX.out.row.get hXl
        obtain rfl : nx = nx' := Option.some.inj (hnx.symm.trans hgx)
        subst hab
        by_cases hp : nx.core.parent = -1
        · obtain ⟨hpl, hrx⟩ := FX.out.alone hp
          have hc5 := hat.c5
          rw [hp] at hc5
          clear hgx hat
          have E0 := Ext.cell z0 BX.out.lt
          have E1 := Ext.cell z1 BX.out.lt
          have E5 := Ext.cell hc5 hblt
          have EP := Lib.hid (fun (x : Ext w') u r hu hr => GP.out x.v u r (BX.out.row.below x.below) hu hr)
          refine wp_region_ext (by kernel_rfl) (by kernel_rfl) ?_
          repeat (go_big_quiet_step ((go_at_call 22; exact Ext.call_below (EP.out _ _ _ (by assumption) (by assumption)))))
          refine wpQuiet_nil ?_
          intro w' hw'
          obtain ⟨⟨w3, hb3⟩, hw''⟩ := hw'
          dsimp only at hw''
          subst hw''
          clear E0 E1 E5 EP
          have BX := Lib.hid (BX.out.keep hb3)
          have z0 := BX.out.c0
          have z1 := BX.out.c1
          clear hb3
          go_wp2_with (first
                          | (go_at_call 21; (refine (GH.out _ _ _ _ BX.out.row (by assumption) (by assumption) (by assumption)).mono ?_); rintro e w1 ⟨rfl, hb⟩; have BX := Lib.hid (BX.out.keep hb); have z0 := BX.out.c0; have z1 := BX.out.c1; clear hb)
                          | (go_at_call 19; (refine (GR.out _ _ _ BX.out.row (by assumption) (by assumption)).mono ?_); rintro e w1 ⟨rfl, hb⟩; have BX := Lib.hid (BX.out.keep hb); have z0 := BX.out.c0; have z1 := BX.out.c1; clear hb)
                          | (go_at_call 22; (refine (GP.out _ _ _ BX.out.row (by assumption) (by assumption)).mono ?_); rintro e w1 ⟨rfl, hb⟩; have BX := Lib.hid (BX.out.keep hb); have z0 := BX.out.c0; have z1 := BX.out.c1; clear hb))
          go_ret
          exact ⟨rfl, BX.out.below⟩
        · obtain ⟨P, pc, k, hpar, hP, hplc, hkk, hhp⟩ := FX.out.child hp
          have hc5 := hat.c5
          rw [hpar] at hc5
          have hPl : P < len0 := by
            have h1 := (List.getElem?_eq_some_iff.1 hP).1
            unfold coreL at h1
            rwa [List.length_map, HL.out] at h1
          clear hgx hat hpar hp
          have hpn : ¬ ((P : Int) = -1) := by omega
          have E0 := Ext.cell z0 BX.out.lt
          have E1 := Ext.cell z1 BX.out.lt
          have E5 := Ext.cell hc5 hblt
          have EP := Lib.hid (fun (x : Ext w') u r hu hr => GP.out x.v u r (BX.out.row.below x.below) hu hr)
          refine wp_region_ext (by kernel_rfl) (by kernel_rfl) ?_
          repeat (go_big_quiet_step ((go_at_call 22; exact Ext.call_below (EP.out _ _ _ (by assumption) (by assumption)))))
          refine wpQuiet_nil ?_
          intro w' hw'
          obtain ⟨⟨w3, hb3⟩, hw''⟩ := hw'
          dsimp only at hw''
          subst hw''
          clear E0 E1 E5 EP hc5
          have BX := Lib.hid (BX.out.keep hb3)
          have z0 := BX.out.c0
          have z1 := BX.out.c1
          clear hb3
          obtain ⟨b', off', np, hab', hblt', hgp, hatp, hokp⟩ := BX.out.row.get hPl
          cases hab'
          obtain rfl : np.core = pc := by
            have h1 : (coreL L0)[P]? = some np.core := by unfold coreL; rw [List.getElem?_map, hgp]; rfl
            exact Option.some.inj (h1.symm.trans hP)
          have hkl : k < np.kN := by
            have h1 := (List.getElem?_eq_some_iff.1 hkk).1
            rwa [hokp.kids.hlen] at h1
          have hkn := hokp.kids.len64
          have hc6 := hatp.c6
          obtain ⟨bk, ok, zz, hka, hbk, hzz, hck, -⟩ := hokp.kids.get hkl
          obtain rfl : zz = (X : Int) := Option.some.inj (hzz.symm.trans hkk)
          rw [hka] at hc6
          clear hatp hokp hzz hkk
          go_wp2_with (first
                          | (go_at_call 21; (refine (GH.out _ _ _ _ BX.out.row (by assumption) (by assumption) (by assumption)).mono ?_); rintro e w1 ⟨rfl, hb⟩; have BX := Lib.hid (BX.out.keep hb); have z0 := BX.out.c0; have z1 := BX.out.c1; clear hb)
                          | (go_at_call 19; (refine (GR.out _ _ _ BX.out.row (by assumption) (by assumption)).mono ?_); rintro e w1 ⟨rfl, hb⟩; have BX := Lib.hid (BX.out.keep hb); have z0 := BX.out.c0; have z1 := BX.out.c1; clear hb)
                          | (go_at_call 22; (refine (GP.out _ _ _ BX.out.row (by assumption) (by assumption)).mono ?_); rintro e w1 ⟨rfl, hb⟩; have BX := Lib.hid (BX.out.keep hb); have z0 := BX.out.c0; have z1 := BX.out.c1; clear hb))
          go_ret
          exact ⟨rfl, BX.out.below⟩
end Go.Proofs.Ytdalljhgmhjibaa
/- An argument that is a list of attributes, opened. -/
namespace Go.Proofs.Ytdalljhgmhjibaa
open Go.RowKit Go.Deep Go.ChangeShapes Go.WideShapes
theorem block_lt {W : World} {p : Addr} {v : Value} (h : W.cell? p = some v) : p.block < W.heap.size := by
  rcases Nat.lt_or_ge p.block W.heap.size with h1 | h1
  · exact h1
  · unfold World.cell? at h
    rw [Array.getElem?_eq_none h1] at h
    simp at h
theorem open_attrs {H : Type} {enc : TypeId × Value → H} {W : World} {a : Option Addr} {len cap : Nat} {d : DataW H} {p : List MemPlace}
    (h : DataW.Trod enc Try.prog W 0 (fun _ => true) true 25 (.slice a len cap) d p) : ∃ L, AttrRow W a len cap L := by
  obtain ⟨fuel, hf⟩ := h
  rcases open_slice_pairs Try.underlying25 Try.underlying74 (by kernel_rfl) rfl rfl (by kernel_rfl) (by kernel_rfl) hf with ⟨hcs, _⟩ | ⟨ad, l, c, m, n, V0, V1, D0, D1, P0, P1, hcs, _, hl, hm, hmm, _, hi⟩
  · simp [Value.cells] at hcs
    obtain ⟨rfl, rfl, rfl⟩ := hcs
    exact ⟨[], SRow.nil, by simp, fun _ => rfl⟩
  · simp [Value.cells] at hcs
    obtain ⟨rfl, rfl, rfl⟩ := hcs
    have hml : len ≤ m := by rw [hmm]; simpa using hl
    have each : ∀ i, i < len → ∃ x : ByteArray × ByteArray, W.cell? (ad.add (i * 2)) = some (.string x.1) ∧ W.cell? (ad.add (i * 2 + 1)) = some (.string x.2) ∧ x.1.size ≤ maxLen ∧ x.2.size ≤ maxLen := by
      intro i hil
      obtain ⟨h1, h2, h3, h4⟩ := hi i (by omega)
      obtain ⟨s, hs, _, hs3⟩ := DataW.trod_string Try.underlying9 h3
      obtain ⟨t, ht, _, ht3⟩ := DataW.trod_string Try.underlying9 h4
      simp at hs ht
      exact ⟨(s, t), by rw [h1, hs], by rw [h2, ht], hs3, ht3⟩
    obtain ⟨q, hq⟩ := choose_lt each
    refine ⟨(List.range len).map q, ⟨by simp, hl, hm, fun x _ => encA_len x, ?_⟩, ?_, fun h => by cases h⟩
    · rcases Nat.eq_zero_or_pos len with h0 | h0
      · exact .inl h0
      · obtain ⟨b, off, spot⟩ := ad
        have hc := (hq 0 h0).1
        have hspot : spot = none := by simpa [Addr.add] using World.cell?_spot hc
        subst hspot
        refine .inr ⟨b, off, rfl, ?_, ?_⟩
        · have := block_lt hc
          rwa [add_plain] at this
        · intro i x j v hx hv
          obtain ⟨hil, hgx⟩ := List.getElem?_eq_some_iff.1 hx
          have hil' : i < len := by simpa using hil
          simp at hgx
          obtain ⟨h1, h2, _⟩ := hq i hil'
          rw [add_plain] at h1 h2
          rw [hgx] at h1 h2
          obtain ⟨hjl, hgv⟩ := List.getElem?_eq_some_iff.1 hv
          match j, hjl with
          | 0, _ => simp [encA] at hgv; subst hgv; exact h1
          | 1, _ => simp [encA] at hgv; subst hgv; simpa [Nat.add_assoc] using h2
    · intro x hx
      obtain ⟨i, hi1, rfl⟩ := List.mem_map.1 hx
      have := hq i (List.mem_range.1 hi1)
      exact ⟨this.2.2.1, this.2.2.2⟩
end Go.Proofs.Ytdalljhgmhjibaa
/- Arguments that are forests and nodes, opened. -/
namespace Go.Proofs.Ytdalljhgmhjibaa
open Go.RowKit Go.Deep Go.ChangeShapes Go.WideShapes
theorem in64_of {z : Int} (h : (Lit.int .i64 z).wf = true) : In64 z := by
  exact bounds_i64 h
/-- A slice of numbers. -/
theorem open_introw {H : Type} {enc : TypeId × Value → H} {W : World} {a : Option Addr} {len cap : Nat} {d : DataW H} {p : List MemPlace}
    (h : DataW.Trod enc Try.prog W 0 (fun _ => true) true 26 (.slice a len cap) d p) : ∃ L, IntRow W a len cap L := by
  obtain ⟨fuel, hf⟩ := h
  rcases open_slice Try.underlying26 hf with ⟨hcs, _⟩ | ⟨ad, l, c, m, n, D, Pl, hcs, _, hl, hm, hmm, _, hi⟩
  · simp [Value.cells] at hcs
    obtain ⟨rfl, rfl, rfl⟩ := hcs
    exact ⟨[], SRow.nil, by simp, fun _ => rfl⟩
  · simp [Value.cells] at hcs
    obtain ⟨rfl, rfl, rfl⟩ := hcs
    have hml : len ≤ m := by rw [hmm]; simpa using hl
    have ce : Try.prog.cellsOf 3 = 1 := by kernel_rfl
    have each : ∀ i, i < len → ∃ x : Int, W.cell? (ad.add i) = some (.int .i64 x) ∧ In64 x := by
      intro i hil
      obtain ⟨cs', h1, h2⟩ := hi i (by omega)
      rw [ce] at h1
      obtain ⟨_, hlen, hcell⟩ := World.cells?_some h1
      match cs', hlen with
      | [v0], _ =>
        have e0 := hcell 0 (by omega)
        rw [add_add] at e0
        obtain ⟨n0, hn0, _, hw0⟩ := DataW.trod_int Try.underlying3 h2
        simp at hn0
        subst hn0
        exact ⟨n0, by simpa using e0, in64_of hw0⟩
    obtain ⟨q, hq⟩ : ∃ q : Nat → Int, ∀ i, i < len → W.cell? (ad.add i) = some (.int .i64 (q i)) ∧ In64 (q i) := by
      refine ⟨fun i => if h : i < len then (each i h).choose else 0, fun i hil => ?_⟩
      simp only [dif_pos hil]
      exact (each i hil).choose_spec
    refine ⟨(List.range len).map q, ⟨by simp, hl, hm, fun x _ => rfl, ?_⟩, ?_, fun h => by cases h⟩
    · rcases Nat.eq_zero_or_pos len with h0 | h0
      · exact .inl h0
      · obtain ⟨b, off, spot⟩ := ad
        have hc := (hq 0 h0).1
        have hspot : spot = none := by simpa [Addr.add] using World.cell?_spot hc
        subst hspot
        refine .inr ⟨b, off, rfl, ?_, ?_⟩
        · have := block_lt hc
          rwa [add_plain] at this
        · intro i x j v hx hv
          obtain ⟨hil, hgx⟩ := List.getElem?_eq_some_iff.1 hx
          have hil' : i < len := by simpa using hil
          simp at hgx
          obtain ⟨h1, _⟩ := hq i hil'
          rw [add_plain] at h1
          rw [hgx] at h1
          obtain ⟨hjl, hgv⟩ := List.getElem?_eq_some_iff.1 hv
          match j, hjl with
          | 0, _ => simp [encZ] at hgv; subst hgv; simpa using h1
    · intro x hx
      obtain ⟨i, hi1, rfl⟩ := List.mem_map.1 hx
      exact (hq i (List.mem_range.1 hi1)).2
theorem slice_cells {H : Type} {enc : TypeId × Value → H} {W : World} {t e : TypeId} {fuel : Nat} {v : Value} {x : DataW H × List MemPlace} (ht : Try.prog.underlying t = some (.slice e))
    (h : DataW.trod enc Try.prog W 0 (fun _ => true) true fuel t [v] = some x) : ∃ a n c, v = .slice a n c := by
  rcases open_slice ht h with ⟨hcs, _⟩ | ⟨ad, l, c, m, n, D, Pl, hcs, _⟩
  · exact ⟨none, 0, 0, by simpa using hcs⟩
  · exact ⟨some ad, l, c, by simpa using hcs⟩
/-- The cells of a node, read as data. -/
theorem open_nodecells {H : Type} {enc : TypeId × Value → H} {W : World} {cs : List Value} {d : DataW H} {p : List MemPlace} {fuel : Nat} (hc : cs.length = 10)
    (h : DataW.trod enc Try.prog W 0 (fun _ => true) true fuel 28 cs = some (d, p)) : ∃ x : NodeD, cs = encN x ∧ NodeOk W x := by
  obtain ⟨xs, k, _, _, _, hxl, hff⟩ := DataW.trod_struct Try.underlying28 h
  have c3 : Try.prog.cellsOf 3 = 1 := by kernel_rfl
  have c9 : Try.prog.cellsOf 9 = 1 := by kernel_rfl
  have ca : Try.prog.cellsOf 25 = 1 := by kernel_rfl
  have ci : Try.prog.cellsOf 26 = 1 := by kernel_rfl
  match cs, hc with
  | [v0, v1, v2, v3, v4, v5, v6, v7, v8, v9], _ =>
    match xs, hxl with
    | [y0, y1, y2, y3, y4, y5, y6, y7, y8, y9], _ =>
      have g0 := hff 0 _ rfl
      have g1 := hff 1 _ rfl
      have g2 := hff 2 _ rfl
      have g3 := hff 3 _ rfl
      have g4 := hff 4 _ rfl
      have g5 := hff 5 _ rfl
      have g6 := hff 6 _ rfl
      have g7 := hff 7 _ rfl
      have g8 := hff 8 _ rfl
      have g9 := hff 9 _ rfl
      simp [c3, c9, ca, ci] at g0 g1 g2 g3 g4 g5 g6 g7 g8 g9
      obtain ⟨n0, hn0, _, hw0⟩ := DataW.trod_int Try.underlying3 g0
      obtain ⟨s1, hs1, _, hl1⟩ := DataW.trod_string Try.underlying9 g1
      obtain ⟨s2, hs2, _, hl2⟩ := DataW.trod_string Try.underlying9 g2
      obtain ⟨s3, hs3, _, hl3⟩ := DataW.trod_string Try.underlying9 g3
      obtain ⟨n5, hn5, _, hw5⟩ := DataW.trod_int Try.underlying3 g5
      obtain ⟨n7, hn7, _, hw7⟩ := DataW.trod_int Try.underlying3 g7
      obtain ⟨n8, hn8, _, hw8⟩ := DataW.trod_int Try.underlying3 g8
      obtain ⟨n9, hn9, _, hw9⟩ := DataW.trod_int Try.underlying3 g9
      simp at hn0 hs1 hs2 hs3 hn5 hn7 hn8 hn9
      subst hn0 hs1 hs2 hs3 hn5 hn7 hn8 hn9
      obtain ⟨a4, l4, c4, rfl⟩ := slice_cells Try.underlying25 g4
      obtain ⟨a6, l6, c6, rfl⟩ := slice_cells Try.underlying26 g6
      obtain ⟨A, hA⟩ := open_attrs (enc := enc) (W := W) (a := a4) (len := l4) (cap := c4) (d := y4.1) (p := y4.2) ⟨k, by simpa [Value.cells] using g4⟩
      obtain ⟨K, hK⟩ := open_introw (enc := enc) (W := W) (a := a6) (len := l6) (cap := c6) (d := y6.1) (p := y6.2) ⟨k, by simpa [Value.cells] using g6⟩
      exact ⟨⟨⟨n0, s1, s2, s3, A, n5, K, n7, n8, n9⟩, a4, l4, c4, a6, l6, c6⟩, rfl, hA, hK, hl1, hl2, hl3, in64_of hw0, in64_of hw5, in64_of hw7, in64_of hw8, in64_of hw9⟩
/-- A slice of nodes. -/
theorem open_noderow {H : Type} {enc : TypeId × Value → H} {W : World} {a : Option Addr} {len cap : Nat} {d : DataW H} {p : List MemPlace}
    (h : DataW.Trod enc Try.prog W 0 (fun _ => true) true 22 (.slice a len cap) d p) : ∃ L, NodeRow W a len cap L := by
  obtain ⟨fuel, hf⟩ := h
  rcases open_slice Try.underlying22 hf with ⟨hcs, _⟩ | ⟨ad, l, c, m, n, D, Pl, hcs, _, hl, hm, hmm, _, hi⟩
  · simp [Value.cells] at hcs
    obtain ⟨rfl, rfl, rfl⟩ := hcs
    exact ⟨[], SRow.nil, by simp, fun _ => rfl⟩
  · simp [Value.cells] at hcs
    obtain ⟨rfl, rfl, rfl⟩ := hcs
    have hml : len ≤ m := by rw [hmm]; simpa using hl
    have ce : Try.prog.cellsOf 28 = 10 := by kernel_rfl
    have each : ∀ i, i < len → ∃ x : NodeD, NodeOk W x ∧ ∀ j v, (encN x)[j]? = some v → W.cell? (ad.add (i * 10 + j)) = some v := by
      intro i hil
      obtain ⟨cs', h1, h2⟩ := hi i (by omega)
      rw [ce] at h1
      obtain ⟨_, hlen, hcell⟩ := World.cells?_some h1
      obtain ⟨x, hx, hok⟩ := open_nodecells hlen h2
      refine ⟨x, hok, fun j v hv => ?_⟩
      have hj : j < 10 := (List.getElem?_eq_some_iff.1 hv).1
      have e0 := hcell j hj
      rw [add_add, hx, hv] at e0
      exact e0
    obtain ⟨q, hq⟩ : ∃ q : Nat → NodeD, ∀ i, i < len → NodeOk W (q i) ∧ ∀ j v, (encN (q i))[j]? = some v → W.cell? (ad.add (i * 10 + j)) = some v := by
      rcases Nat.eq_zero_or_pos len with h0 | h0
      · exact ⟨fun _ => ⟨⟨0, ByteArray.empty, ByteArray.empty, ByteArray.empty, [], 0, [], 0, 0, 0⟩, none, 0, 0, none, 0, 0⟩, fun i hi => by omega⟩
      · refine ⟨fun i => if h : i < len then (each i h).choose else (each 0 h0).choose, fun i hil => ?_⟩
        simp only [dif_pos hil]
        exact (each i hil).choose_spec
    refine ⟨(List.range len).map q, ⟨by simp, hl, hm, fun x _ => rfl, ?_⟩, ?_, fun h => by cases h⟩
    · rcases Nat.eq_zero_or_pos len with h0 | h0
      · exact .inl h0
      · obtain ⟨b, off, spot⟩ := ad
        have hc := (hq 0 h0).2 0 _ rfl
        have hspot : spot = none := by simpa [Addr.add] using World.cell?_spot hc
        subst hspot
        refine .inr ⟨b, off, rfl, ?_, ?_⟩
        · have := block_lt hc
          rwa [add_plain] at this
        · intro i x j v hx hv
          obtain ⟨hil, hgx⟩ := List.getElem?_eq_some_iff.1 hx
          have hil' : i < len := by simpa using hil
          simp at hgx
          have h1 := (hq i hil').2 j v (by rw [hgx]; exact hv)
          rw [add_plain] at h1
          simpa [Nat.add_assoc] using h1
    · intro x hx
      obtain ⟨i, hi1, rfl⟩ := List.mem_map.1 hx
      exact (hq i (List.mem_range.1 hi1)).1
/-- A forest, by value. -/
theorem open_forest {H : Type} {enc : TypeId × Value → H} {W : World} {r : Reach} {b0 : Nat} {v : Value} {d : DataW H} {p : List MemPlace} (hv : Value.okWide Try.prog W r b0 24 v)
    (h : DataW.Trod enc Try.prog W 0 (fun _ => true) true 24 v d p) : ∃ a len cap m L, v = .agg #[.slice a len cap, .int .i64 m] ∧ NodeRow W a len cap L ∧ In64 m := by
  obtain ⟨cs, rfl, hsz⟩ := okWide_struct Try.underlying24 hv
  have hC : Try.prog.cellsOf 24 = 2 := by kernel_rfl
  have c3 : Try.prog.cellsOf 3 = 1 := by kernel_rfl
  have cn : Try.prog.cellsOf 22 = 1 := by kernel_rfl
  obtain ⟨l⟩ := cs
  match l, hsz.trans hC with
  | [v0, v1], _ =>
    obtain ⟨fuel, hf⟩ := h
    obtain ⟨xs, k, _, _, _, hxl, hff⟩ := DataW.trod_struct Try.underlying24 hf
    match xs, hxl with
    | [y0, y1], _ =>
      have g0 := hff 0 _ rfl
      have g1 := hff 1 _ rfl
      simp [c3, cn, Value.cells] at g0 g1
      obtain ⟨n1, hn1, _, hw1⟩ := DataW.trod_int Try.underlying3 g1
      simp at hn1
      subst hn1
      obtain ⟨a4, l4, c4, rfl⟩ := slice_cells Try.underlying22 g0
      obtain ⟨L, hL⟩ := open_noderow (enc := enc) (W := W) (a := a4) (len := l4) (cap := c4) (d := y0.1) (p := y0.2) ⟨k, by simpa [Value.cells] using g0⟩
      exact ⟨a4, l4, c4, n1, L, rfl, hL, in64_of hw1⟩
/-- A node, by value. -/
theorem open_node {H : Type} {enc : TypeId × Value → H} {W : World} {r : Reach} {b0 : Nat} {v : Value} {d : DataW H} {p : List MemPlace} (hv : Value.okWide Try.prog W r b0 28 v)
    (h : DataW.Trod enc Try.prog W 0 (fun _ => true) true 28 v d p) : ∃ x, v = .agg (encN x).toArray ∧ NodeOk W x := by
  obtain ⟨cs, rfl, hsz⟩ := okWide_struct Try.underlying28 hv
  have hC : Try.prog.cellsOf 28 = 10 := by kernel_rfl
  obtain ⟨l⟩ := cs
  obtain ⟨fuel, hf⟩ := h
  obtain ⟨x, hx, hok⟩ := open_nodecells (cs := l) (hsz.trans hC) (by simpa [Value.cells] using hf)
  exact ⟨x, by rw [hx], hok⟩
end Go.Proofs.Ytdalljhgmhjibaa
/- '==' and '!=' on two attributes. -/
namespace Go.Proofs.Ytdalljhgmhjibaa
open Go.RowKit
theorem attr_fields : Try.prog.underlying 74 = some (.struct (Try.prog.fieldsOf 74)) := by
  unfold Program.fieldsOf
  rw [Try.underlying74]
theorem attr_held : Try.prog.stoodInHeld 74 = false := by kernel_rfl
theorem attr_guard : Try.prog.eqGuardType Try.prog.depth 74 = false := by kernel_rfl
theorem attr_equal (xn xv yn yv : ByteArray) (W : World) :
    (Op.equalIn 10000 74 (.agg #[.string xn, .string xv]) (.agg #[.string yn, .string yv])).run Try.prog W = .ok (pairB (xn, xv) (yn, yv)) W := by
  have u9 := Try.underlying9
  have a9 := Try.isAgg9
  have z9 := Try.sizeOf9
  rw [show (10000 : Nat) = 9999 + 1 from rfl, run_equalIn_agg W 9999 74 _ _ attr_fields attr_held]
  simp only [Program.fieldsOf, Try.underlying74]
  go_simp
  unfold pairB
  by_cases h1 : xn.toList = yn.toList <;> by_cases h2 : xv.toList = yv.toList <;> simp [h1, h2]
theorem attr_neq (xn xv yn yv : ByteArray) (W : World) :
    (binOp .neq 74 (.agg #[.string xn, .string xv]) (.agg #[.string yn, .string yv])).run Try.prog W = .ok (.bool (!pairB (xn, xv) (yn, yv))) W := by
  rw [run_neq_struct, attr_equal]
  rfl
theorem attr_eql (xn xv yn yv : ByteArray) (W : World) :
    (binOp .eql 74 (.agg #[.string xn, .string xv]) (.agg #[.string yn, .string yv])).run Try.prog W = .ok (.bool (pairB (xn, xv) (yn, yv))) W := by
  rw [run_eql_struct, attr_equal]
  rfl
end Go.Proofs.Ytdalljhgmhjibaa
/- instarref02's Same. -/
namespace Go.Proofs.Ytdalljhgmhjibaa
open Go.RowKit
def sameL (L M : AL) : Bool := decide (L = M)
theorem refsame_any (a a' : Option Addr) (len cap len' cap' : Nat) (L M : AL) (w : World) (h : AttrRow w a len cap L) (h' : AttrRow w a' len' cap' M) :
    Calls Try.prog 59 #[.slice a len cap, .slice a' len' cap'] w fun e w' => e = .returned (.bool (sameL L M)) ∧ ∃ n, w' = w.drewN n := by
  have hl := h.len64
  have hl' := h'.len64
  by_cases hll : len = len'
  rotate_left
  · have hr : Hid (sameL L M = false) := Lib.hid (decide_eq_false (fun e => hll (by rw [← h.hlen, ← h'.hlen, e])))
    have e1 : ((len : Int) == (len' : Int)) = false := beq_eq_false_iff_ne.2 (by omega)
    have e2 : ((len : Int) != (len' : Int)) = true := by unfold bne; rw [e1]; rfl
    clear hll
    go_enter Try.func59, Try.ntmps59
    go_wp2
    go_ret
    exact ⟨ret_bool hr.out.symm, 0, rfl⟩
  subst hll
  have e1 : ((len : Int) == (len : Int)) = true := beq_iff_eq.2 rfl
  have e2 : ((len : Int) != (len : Int)) = false := by unfold bne; rw [e1]; rfl
  go_enter Try.func59, Try.ntmps59
  go_wp2
  go_loopw [5] (fun i wr => ∃ k n : Nat, k ≤ len ∧ i = .int .i64 k ∧ wr = w.drewN n ∧ Hid (L.take k = M.take k)) (fun i _ => len - (intOf i).toNat)
  case atStart => exact ⟨0, 0, Nat.zero_le _, rfl, rfl, Lib.hid rfl⟩
  case round =>
    obtain ⟨k, n, hk, rfl, rfl, HT⟩ := hrel
    by_cases hlt : k < len
    · obtain ⟨b, off, xn, xv, rfl, hb, hx, hc1, hc2, _, _⟩ := h.get hlt
      obtain ⟨b', off', yn, yv, rfl, hb', hy, hd1, hd2, _, _⟩ := h'.get hlt
      have HX := Lib.hid hx
      have HY := Lib.hid hy
      have hneq := fun W => attr_neq xn xv yn yv W
      have hgd := attr_guard
      clear hx hy
      by_cases he : pairB (xn, xv) (yn, yv) = true
      · have HE := Lib.hid (pairB_eq.1 he)
        go_wp2
        go_quiet (fail)
        go_wp2
        go_roundw
        case rel =>
          refine ⟨k + 1, _, by omega, by go_num, by first | rfl | exact World.drewN_drewN _ _ _, Lib.hid ?_⟩
          obtain ⟨hl1, hg1⟩ := List.getElem?_eq_some_iff.1 HX.out
          obtain ⟨hl2, hg2⟩ := List.getElem?_eq_some_iff.1 HY.out
          rw [List.take_succ_eq_append_getElem hl1, List.take_succ_eq_append_getElem hl2, hg1, hg2, HT.out, HE.out]
        case measure => simp [intOf]; omega
      · have he : pairB (xn, xv) (yn, yv) = false := by simpa using he
        have HR : Hid (sameL L M = false) := Lib.hid (decide_eq_false (fun e => by
          have h1 := HX.out
          rw [e, HY.out] at h1
          have := Option.some.inj h1
          rw [this, pairB_eq.2 rfl] at he
          cases he))
        go_wp2
        go_quiet (fail)
        go_wp2
        go_ret
        exact ⟨ret_bool HR.out.symm, _, by first | rfl | exact World.drewN_drewN _ _ _⟩
    · have HR : Hid (sameL L M = true) := Lib.hid (decide_eq_true (by
        have h1 := HT.out
        rwa [List.take_of_length_le (by have := h.hlen; omega), List.take_of_length_le (by have := h'.hlen; omega)] at h1))
      go_wp2
      go_ret
      exact ⟨ret_bool HR.out.symm, n, rfl⟩
end Go.Proofs.Ytdalljhgmhjibaa
/- instarref03's One and Same. -/
namespace Go.Proofs.Ytdalljhgmhjibaa
open Go.RowKit
abbrev nodV (x : NodeD) : Value := .agg #[.int .i64 x.core.kind, .string x.core.name, .string x.core.is, .string x.core.data, .slice x.aA x.aN x.aC, .int .i64 x.core.parent, .slice x.kA x.kN x.kC, .int .i64 x.core.host, .int .i64 x.core.under, .int .i64 x.core.doc]
theorem ba_ne {a b : ByteArray} (h : (a.toList == b.toList) = true) : a = b := toList_inj (beq_iff_eq.1 h)
set_option maxHeartbeats 8000000 in
set_option maxRecDepth 100000 in
theorem refone_any (x y : NodeD) (w : World) (hx : NodeOk w x) (hy : NodeOk w y) :
    Calls Try.prog 33 #[nodV x, nodV y] w fun e w' => e = .returned (.bool (decide (x.core = y.core))) ∧ Below w.heap.size w w' := by
  have BX : Hid (∀ B C, Below w.heap.size w ((w.alloc B).alloc C)) := Lib.hid (fun B C => (below_box w B).alloc (by simp) C)
  have S1 : Hid (∀ B C, Calls Try.prog 59 #[.slice x.aA x.aN x.aC, .slice y.aA y.aN y.aC] ((w.alloc B).alloc C) fun e w' => e = .returned (.bool (decide (x.core.attrs = y.core.attrs))) ∧ ∃ n, w' = ((w.alloc B).alloc C).drewN n) := Lib.hid (fun B C => refsame_any _ _ _ _ _ _ _ _ _ (hx.attrs.below (BX.out B C)) (hy.attrs.below (BX.out B C)))
  have S2 : Hid (∀ B C n, Calls Try.prog 26 #[.slice x.kA x.kN x.kC, .slice y.kA y.kN y.kC] (((w.alloc B).alloc C).drewN n) fun e w' => e = .returned (.bool (decide (x.core.kids = y.core.kids))) ∧ ∃ n, Below w.heap.size w w' ∧ ((w.alloc B).alloc C).drewN n = w') := Lib.hid (fun B C n =>
    (refints_any _ _ _ _ _ _ _ _ _ ((hx.kids.below (BX.out B C)).drewN n) ((hy.kids.below (BX.out B C)).drewN n)).mono fun e w' ⟨he, m, hw⟩ => ⟨he, n + m, by rw [hw]; exact below_drewN (below_drewN (BX.out B C) n) m, by rw [hw, World.drewN_drewN]⟩)
  clear hx hy
  obtain ⟨⟨k1, n1, i1, d1, A1, p1, K1, h1, u1, o1⟩, aA, aN, aC, kA, kN, kC⟩ := x
  obtain ⟨⟨k2, n2, i2, d2, A2, p2, K2, h2, u2, o2⟩, bA, bN, bC, lA, lN, lC⟩ := y
  dsimp only at S1 S2 ⊢
  obtain ⟨r, hr⟩ : ∃ r, decide ((⟨k1, n1, i1, d1, A1, p1, K1, h1, u1, o1⟩ : Core) = ⟨k2, n2, i2, d2, A2, p2, K2, h2, u2, o2⟩) = r := ⟨_, rfl⟩
  rw [hr]
  have HR : Hid (r = (k1 == k2 && n1.toList == n2.toList && i1.toList == i2.toList && d1.toList == d2.toList && decide (A1 = A2) && p1 == p2 && decide (K1 = K2) && h1 == h2 && u1 == u2 && o1 == o2)) := Lib.hid (by
    rw [← hr, Bool.eq_iff_iff, decide_eq_true_eq, Core.mk.injEq]
    simp only [Bool.and_eq_true, beq_iff_eq, decide_eq_true_eq]
    constructor
    · rintro ⟨rfl, rfl, rfl, rfl, rfl, rfl, rfl, rfl, rfl, rfl⟩
      simp
    · rintro ⟨⟨⟨⟨⟨⟨⟨⟨⟨e1, e2⟩, e3⟩, e4⟩, e5⟩, e6⟩, e7⟩, e8⟩, e9⟩, e10⟩
      exact ⟨e1, toList_inj e2, toList_inj e3, toList_inj e4, e5, e6, e7, e8, e9, e10⟩)
  clear hr
  obtain ⟨sa, hsa⟩ : ∃ z, decide (A1 = A2) = z := ⟨_, rfl⟩
  obtain ⟨sk, hsk⟩ : ∃ z, decide (K1 = K2) = z := ⟨_, rfl⟩
  rw [hsa] at S1 HR
  rw [hsk] at S2 HR
  clear hsa hsk
  cases ek : (k1 == k2)
  · have HZ : Hid (r = false) := Lib.hid (by rw [HR.out, ek]; simp)
    clear HR
    go_enter Try.func33, Try.ntmps33
    go_wp2_with (first
      | (go_at_call 59; refine (S1.out _ _).mono ?_; rintro e w' ⟨rfl, m, rfl⟩)
      | (go_at_call 26; refine (S2.out _ _ _).mono ?_; rintro e w' ⟨rfl, m, hb, rfl⟩; clear hb))
    go_ret
    exact ⟨ret_bool HZ.out.symm, by first | exact BX.out _ _ | exact below_drewN (BX.out _ _) _⟩
  cases en : (n1.toList == n2.toList)
  · have HZ : Hid (r = false) := Lib.hid (by rw [HR.out, ek, en]; simp)
    clear HR
    go_enter Try.func33, Try.ntmps33
    go_wp2_with (first
      | (go_at_call 59; refine (S1.out _ _).mono ?_; rintro e w' ⟨rfl, m, rfl⟩)
      | (go_at_call 26; refine (S2.out _ _ _).mono ?_; rintro e w' ⟨rfl, m, hb, rfl⟩; clear hb))
    go_ret
    exact ⟨ret_bool HZ.out.symm, by first | exact BX.out _ _ | exact below_drewN (BX.out _ _) _⟩
  cases ei : (i1.toList == i2.toList)
  · have HZ : Hid (r = false) := Lib.hid (by rw [HR.out, ek, en, ei]; simp)
    clear HR
    go_enter Try.func33, Try.ntmps33
    go_wp2_with (first
      | (go_at_call 59; refine (S1.out _ _).mono ?_; rintro e w' ⟨rfl, m, rfl⟩)
      | (go_at_call 26; refine (S2.out _ _ _).mono ?_; rintro e w' ⟨rfl, m, hb, rfl⟩; clear hb))
    go_ret
    exact ⟨ret_bool HZ.out.symm, by first | exact BX.out _ _ | exact below_drewN (BX.out _ _) _⟩
  cases ed : (d1.toList == d2.toList)
  · have HZ : Hid (r = false) := Lib.hid (by rw [HR.out, ek, en, ei, ed]; simp)
    clear HR
    go_enter Try.func33, Try.ntmps33
    go_wp2_with (first
      | (go_at_call 59; refine (S1.out _ _).mono ?_; rintro e w' ⟨rfl, m, rfl⟩)
      | (go_at_call 26; refine (S2.out _ _ _).mono ?_; rintro e w' ⟨rfl, m, hb, rfl⟩; clear hb))
    go_ret
    exact ⟨ret_bool HZ.out.symm, by first | exact BX.out _ _ | exact below_drewN (BX.out _ _) _⟩
  cases sa
  · have HZ : Hid (r = false) := Lib.hid (by rw [HR.out, ek, en, ei, ed]; simp)
    clear HR
    go_enter Try.func33, Try.ntmps33
    go_wp2_with (first
      | (go_at_call 59; refine (S1.out _ _).mono ?_; rintro e w' ⟨rfl, m, rfl⟩)
      | (go_at_call 26; refine (S2.out _ _ _).mono ?_; rintro e w' ⟨rfl, m, hb, rfl⟩; clear hb))
    go_ret
    exact ⟨ret_bool HZ.out.symm, by first | exact BX.out _ _ | exact below_drewN (BX.out _ _) _⟩
  cases ep : (p1 == p2)
  · have HZ : Hid (r = false) := Lib.hid (by rw [HR.out, ek, en, ei, ed, ep]; simp)
    clear HR
    go_enter Try.func33, Try.ntmps33
    go_wp2_with (first
      | (go_at_call 59; refine (S1.out _ _).mono ?_; rintro e w' ⟨rfl, m, rfl⟩)
      | (go_at_call 26; refine (S2.out _ _ _).mono ?_; rintro e w' ⟨rfl, m, hb, rfl⟩; clear hb))
    go_ret
    exact ⟨ret_bool HZ.out.symm, by first | exact BX.out _ _ | exact below_drewN (BX.out _ _) _⟩
  cases sk
  · have HZ : Hid (r = false) := Lib.hid (by rw [HR.out, ek, en, ei, ed, ep]; simp)
    clear HR
    go_enter Try.func33, Try.ntmps33
    go_wp2_with (first
      | (go_at_call 59; refine (S1.out _ _).mono ?_; rintro e w' ⟨rfl, m, rfl⟩)
      | (go_at_call 26; refine (S2.out _ _ _).mono ?_; rintro e w' ⟨rfl, m, hb, rfl⟩; clear hb))
    go_ret
    exact ⟨ret_bool HZ.out.symm, by first | exact BX.out _ _ | exact below_drewN (BX.out _ _) _⟩
  cases eh : (h1 == h2)
  · have HZ : Hid (r = false) := Lib.hid (by rw [HR.out, ek, en, ei, ed, ep, eh]; simp)
    clear HR
    go_enter Try.func33, Try.ntmps33
    go_wp2_with (first
      | (go_at_call 59; refine (S1.out _ _).mono ?_; rintro e w' ⟨rfl, m, rfl⟩)
      | (go_at_call 26; refine (S2.out _ _ _).mono ?_; rintro e w' ⟨rfl, m, hb, rfl⟩; clear hb))
    go_ret
    exact ⟨ret_bool HZ.out.symm, by first | exact BX.out _ _ | exact below_drewN (BX.out _ _) _⟩
  cases eu : (u1 == u2)
  · have HZ : Hid (r = false) := Lib.hid (by rw [HR.out, ek, en, ei, ed, ep, eh, eu]; simp)
    clear HR
    go_enter Try.func33, Try.ntmps33
    go_wp2_with (first
      | (go_at_call 59; refine (S1.out _ _).mono ?_; rintro e w' ⟨rfl, m, rfl⟩)
      | (go_at_call 26; refine (S2.out _ _ _).mono ?_; rintro e w' ⟨rfl, m, hb, rfl⟩; clear hb))
    go_ret
    exact ⟨ret_bool HZ.out.symm, by first | exact BX.out _ _ | exact below_drewN (BX.out _ _) _⟩
  cases eo : (o1 == o2)
  · have HZ : Hid (r = false) := Lib.hid (by rw [HR.out, ek, en, ei, ed, ep, eh, eu, eo]; simp)
    clear HR
    go_enter Try.func33, Try.ntmps33
    go_wp2_with (first
      | (go_at_call 59; refine (S1.out _ _).mono ?_; rintro e w' ⟨rfl, m, rfl⟩)
      | (go_at_call 26; refine (S2.out _ _ _).mono ?_; rintro e w' ⟨rfl, m, hb, rfl⟩; clear hb))
    go_ret
    exact ⟨ret_bool HZ.out.symm, by first | exact BX.out _ _ | exact below_drewN (BX.out _ _) _⟩
  have HZ : Hid (r = true) := Lib.hid (by rw [HR.out, ek, en, ei, ed, ep, eh, eu, eo]; rfl)
  clear HR
  go_enter Try.func33, Try.ntmps33
  go_wp2_with (first
    | (go_at_call 59; refine (S1.out _ _).mono ?_; rintro e w' ⟨rfl, m, rfl⟩)
    | (go_at_call 26; refine (S2.out _ _ _).mono ?_; rintro e w' ⟨rfl, m, hb, rfl⟩; clear hb))
  go_ret
  exact ⟨ret_bool HZ.out.symm, by first | exact BX.out _ _ | exact below_drewN (BX.out _ _) _⟩
end Go.Proofs.Ytdalljhgmhjibaa
/- instarref03's Same, over forests. -/
namespace Go.Proofs.Ytdalljhgmhjibaa
open Go.RowKit
/-- The second argument's box. -/
theorem Box.next {w : World} {B : Obj} {a : Option Addr} {len cap : Nat} {m : Int} {L : List NodeD} (h : NodeRow w a len cap L) : Box w ((w.alloc B).alloc (forB a len cap m)) (w.heap.size + 1) a len cap m L (coreL L) := by
  have hs : (w.alloc B).heap.size = w.heap.size + 1 := by simp
  have h1 := Box.start (w := w.alloc B) (m := m) (h.below (below_box w B))
  refine ⟨h1.row, rfl, by omega, by simp, ?_, ?_, (below_box w B).alloc (by simp) _⟩
  · have := h1.c0
    rwa [hs] at this
  · have := h1.c1
    rwa [hs] at this
set_option maxHeartbeats 8000000 in
set_option maxRecDepth 100000 in
theorem refsameF_any (a b : Option Addr) (la ca lb cb : Nat) (m n : Int) (L M : List NodeD) (w : World) (hL : NodeRow w a la ca L) (hM : NodeRow w b lb cb M) :
    Calls Try.prog 17 #[forV a la ca m, forV b lb cb n] w fun e w' => e = .returned (.bool (decide (m = n) && decide (coreL L = coreL M))) ∧ Below w.heap.size w w' := by
  have BA := Lib.hid ((Box.start (m := m) hL).keep (below_box _ (forB b lb cb n)))
  have BB := Lib.hid (Box.next (B := forB a la ca m) (m := n) hM)
  have hla := hL.len64
  have hlb := hM.len64
  have HLL := Lib.hid hL.hlen
  have HML := Lib.hid hM.hlen
  clear hL hM
  have z0 := BA.out.c0
  have z1 := BA.out.c1
  have y0 := BB.out.c0
  have y1 := BB.out.c1
  by_cases hm : m = n
  rotate_left
  · rw [decide_eq_false hm]
    have e1 : (m != n) = true := bne_iff_ne.2 hm
    have e2 : (m == n) = false := beq_eq_false_iff_ne.2 hm
    go_enter Try.func17, Try.ntmps17
    go_wp2
    go_ret
    exact ⟨rfl, BA.out.below⟩
  subst hm
  have R0 : ∀ X : Bool, (decide (m = m) && X) = X := fun X => by rw [decide_eq_true rfl, Bool.true_and]
  rw [R0]
  clear R0
  have e1 : (m != m) = false := by simp
  by_cases hn : (la : Int) = lb
  rotate_left
  · have HR : Hid (decide (coreL L = coreL M) = false) := Lib.hid (decide_eq_false (fun e => hn (by
      have := congrArg List.length e
      unfold coreL at this
      rw [List.length_map, List.length_map, HLL.out, HML.out] at this
      rw [this])))
    have e2 : ((la : Int) != lb) = true := bne_iff_ne.2 hn
    have e3 : ((la : Int) == lb) = false := beq_eq_false_iff_ne.2 hn
    go_enter Try.func17, Try.ntmps17
    go_wp2
    go_ret
    exact ⟨ret_bool HR.out.symm, BA.out.below⟩
  obtain rfl : la = lb := Int.ofNat.inj hn
  clear hn
  have e2 : ((la : Int) != la) = false := by simp
  have GO : Hid (∀ W x y, NodeOk W x → NodeOk W y → Calls Try.prog 33 #[nodV x, nodV y] W fun e w' => e = .returned (.bool (decide (x.core = y.core))) ∧ Below W.heap.size W w') := Lib.hid (fun W x y h1 h2 => refone_any x y W h1 h2)
  go_enter Try.func17, Try.ntmps17
  go_wp2
  go_loopw [5] (fun i wr => ∃ k : Nat, k ≤ la ∧ i = .int .i64 k ∧ Hid (Box w wr w.heap.size a la ca m L (coreL L)) ∧ Hid (Box w wr (w.heap.size + 1) b la cb m M (coreL M)) ∧ Hid ((coreL L).take k = (coreL M).take k)) (fun i _ => la - (intOf i).toNat)
  case atStart => exact ⟨0, Nat.zero_le _, rfl, BA, BB, Lib.hid rfl⟩
  case round =>
    clear BA BB z0 z1 y0 y1
    obtain ⟨k, hk, rfl, BA, BB, HT⟩ := hrel
    have z0 := BA.out.c0
    have z1 := BA.out.c1
    have y0 := BB.out.c0
    have y1 := BB.out.c1
    by_cases hlt : k < la
    · obtain ⟨ba, oa, nx, rfl, hba, hgx, hatx, hokx⟩ := BA.out.row.get hlt
      obtain ⟨bb, ob, ny, rfl, hbb, hgy, haty, hoky⟩ := BB.out.row.get hlt
      have GX := Lib.hid hgx
      have GY := Lib.hid hgy
      have OX := Lib.hid hokx
      have OY := Lib.hid hoky
      obtain ⟨x0, x1, x2, x3, x4, x5, x6, x7, x8, x9⟩ := hatx
      obtain ⟨v0, v1, v2, v3, v4, v5, v6, v7, v8, v9⟩ := haty
      clear hgx hgy hokx hoky
      have E0 := Ext.cell z0 BA.out.lt
      have E1 := Ext.cell y0 BB.out.lt
      have EX0 := Ext.cell x0 hba
      have EY0 := Ext.cell v0 hbb
      have EX1 := Ext.cell x1 hba
      have EY1 := Ext.cell v1 hbb
      have EX2 := Ext.cell x2 hba
      have EY2 := Ext.cell v2 hbb
      have EX3 := Ext.cell x3 hba
      have EY3 := Ext.cell v3 hbb
      have EX4 := Ext.cell x4 hba
      have EY4 := Ext.cell v4 hbb
      have EX5 := Ext.cell x5 hba
      have EY5 := Ext.cell v5 hbb
      have EX6 := Ext.cell x6 hba
      have EY6 := Ext.cell v6 hbb
      have EX7 := Ext.cell x7 hba
      have EY7 := Ext.cell v7 hbb
      have EX8 := Ext.cell x8 hba
      have EY8 := Ext.cell v8 hbb
      have EX9 := Ext.cell x9 hba
      have EY9 := Ext.cell v9 hbb
      clear x0 x1 x2 x3 x4 x5 x6 x7 x8 x9 v0 v1 v2 v3 v4 v5 v6 v7 v8 v9
      have NX : Hid ((coreL L)[k]? = some nx.core) := Lib.hid (by unfold coreL; rw [List.getElem?_map, GX.out]; rfl)
      have NY : Hid ((coreL M)[k]? = some ny.core) := Lib.hid (by unfold coreL; rw [List.getElem?_map, GY.out]; rfl)
      cases hc : decide (nx.core = ny.core) with
      | false =>
        have EO : Hid (∀ x : Ext wr, Calls Try.prog 33 #[nodV nx, nodV ny] x.v fun e w' => e = .returned (.bool false) ∧ Below x.v.heap.size x.v w') := Lib.hid (fun x => by
          have := GO.out x.v nx ny (OX.out.below x.below) (OY.out.below x.below)
          rwa [hc] at this)
        have HR : Hid (decide (coreL L = coreL M) = false) := Lib.hid (decide_eq_false (fun e => by
          have h1 := NX.out
          rw [e, NY.out] at h1
          injection h1 with h1
          exact of_decide_eq_false hc h1.symm))
        clear hc
        go_wp2
        refine wp_region_ext (by kernel_rfl) (by kernel_rfl) ?_
        repeat (go_big_quiet_step ((go_at_call 33; exact Ext.call_below (EO.out _))))
        refine wpQuiet_nil ?_
        intro w' hw'
        obtain ⟨⟨w2, hb2⟩, hw''⟩ := hw'
        dsimp only at hw''
        subst hw''
        have BA := Lib.hid (BA.out.keep hb2)
        clear E0 E1
        go_wp2
        go_ret
        exact ⟨ret_bool HR.out.symm, BA.out.below⟩
      | true =>
        have EO : Hid (∀ x : Ext wr, Calls Try.prog 33 #[nodV nx, nodV ny] x.v fun e w' => e = .returned (.bool true) ∧ Below x.v.heap.size x.v w') := Lib.hid (fun x => by
          have := GO.out x.v nx ny (OX.out.below x.below) (OY.out.below x.below)
          rwa [hc] at this)
        have HT2 : Hid ((coreL L).take (k + 1) = (coreL M).take (k + 1)) := Lib.hid (by
          rw [List.take_add_one, List.take_add_one, HT.out, NX.out, NY.out, of_decide_eq_true hc])
        clear hc
        go_wp2
        refine wp_region_ext (by kernel_rfl) (by kernel_rfl) ?_
        repeat (go_big_quiet_step ((go_at_call 33; exact Ext.call_below (EO.out _))))
        refine wpQuiet_nil ?_
        intro w' hw'
        obtain ⟨⟨w2, hb2⟩, hw''⟩ := hw'
        dsimp only at hw''
        subst hw''
        have BA := Lib.hid (BA.out.keep hb2)
        have BB := Lib.hid (BB.out.keep hb2)
        clear E0 E1
        go_wp2
        go_roundw
        case rel => exact ⟨k + 1, hlt, by go_num, BA, BB, HT2⟩
        case measure => simp [intOf]; omega
    · have HR : Hid (decide (coreL L = coreL M) = true) := Lib.hid (decide_eq_true (by
        have h1 : (coreL L).length ≤ k := by unfold coreL; rw [List.length_map, HLL.out]; omega
        have h2 : (coreL M).length ≤ k := by unfold coreL; rw [List.length_map, HML.out]; omega
        have h3 := HT.out
        rwa [List.take_of_length_le h1, List.take_of_length_le h2] at h3))
      go_wp2
      go_ret
      exact ⟨ret_bool HR.out.symm, BA.out.below⟩
end Go.Proofs.Ytdalljhgmhjibaa
/- A node in a box of the call's own. -/
namespace Go.Proofs.Ytdalljhgmhjibaa
open Go.RowKit
/-- A node in a box of the call's own. -/
structure NBox (w W : World) (g : Nat) (x : NodeD) : Prop where
  lt : g < W.heap.size
  c0 : W.cell? ⟨g, 0, none⟩ = some (.int .i64 x.core.kind)
  c1 : W.cell? ⟨g, 1, none⟩ = some (.string x.core.name)
  c2 : W.cell? ⟨g, 2, none⟩ = some (.string x.core.is)
  c3 : W.cell? ⟨g, 3, none⟩ = some (.string x.core.data)
  c4 : W.cell? ⟨g, 4, none⟩ = some (.slice x.aA x.aN x.aC)
  c5 : W.cell? ⟨g, 5, none⟩ = some (.int .i64 x.core.parent)
  c6 : W.cell? ⟨g, 6, none⟩ = some (.slice x.kA x.kN x.kC)
  c7 : W.cell? ⟨g, 7, none⟩ = some (.int .i64 x.core.host)
  c8 : W.cell? ⟨g, 8, none⟩ = some (.int .i64 x.core.under)
  c9 : W.cell? ⟨g, 9, none⟩ = some (.int .i64 x.core.doc)
  ok : NodeOk W x
theorem NBox.keep {w W W2 : World} {g : Nat} {x : NodeD} (h : NBox w W g x) (hb : Below W.heap.size W W2) : NBox w W2 g x := by
  have e : ∀ o, W2.cell? ⟨g, o, none⟩ = W.cell? ⟨g, o, none⟩ := fun o => hb.cell (p := ⟨g, o, none⟩) h.lt
  exact ⟨Nat.lt_of_lt_of_le h.lt hb.size, (e _).trans h.c0, (e _).trans h.c1, (e _).trans h.c2, (e _).trans h.c3, (e _).trans h.c4, (e _).trans h.c5, (e _).trans h.c6, (e _).trans h.c7, (e _).trans h.c8, (e _).trans h.c9, h.ok.below hb⟩
abbrev nodB (x : NodeD) : Obj := .cells #[.int .i64 x.core.kind, .string x.core.name, .string x.core.is, .string x.core.data, .slice x.aA x.aN x.aC, .int .i64 x.core.parent, .slice x.kA x.kN x.kC, .int .i64 x.core.host, .int .i64 x.core.under, .int .i64 x.core.doc] 28
theorem NBox.next {w : World} {B : Obj} {x : NodeD} (h : NodeOk w x) : NBox w ((w.alloc B).alloc (nodB x)) (w.heap.size + 1) x := by
  have hs : (w.alloc B).heap.size = w.heap.size + 1 := by simp
  have c : ∀ (j : Nat), ((w.alloc B).alloc (nodB x)).cell? ⟨w.heap.size + 1, j, none⟩ = (#[.int .i64 x.core.kind, .string x.core.name, .string x.core.is, .string x.core.data, .slice x.aA x.aN x.aC, .int .i64 x.core.parent, .slice x.kA x.kN x.kC, .int .i64 x.core.host, .int .i64 x.core.under, .int .i64 x.core.doc] : Array Value)[j]? := fun j => by
    have := cell_of_row ((w.alloc B).alloc (nodB x)) (w.alloc B).heap.size j _ 28 (0, 0) (heap_alloc_new _ _)
    rwa [hs] at this
  exact ⟨by simp, c 0, c 1, c 2, c 3, c 4, c 5, c 6, c 7, c 8, c 9, h.below ((below_box w B).alloc (by simp) _)⟩
end Go.Proofs.Ytdalljhgmhjibaa
/- The byte tests of package name, as the Go text has them, answer what NamePure says. -/
namespace Go.Proofs.Ytdalljhgmhjibaa
open Go.RowKit
theorem isSmall_any (n : Int) (w : World) : Calls Try.prog 85 #[.int .u8 n] w fun e w' => e = .returned (.bool (lowI n)) ∧ w = w' := by
  go_enter Try.func85, Try.ntmps85
  go_wp2
  all_goals (go_ret; exact ⟨ret_bool (by unfold lowI; rw [Bool.eq_iff_iff]; simp <;> omega), rfl⟩)
theorem isCapital_any (n : Int) (w : World) : Calls Try.prog 91 #[.int .u8 n] w fun e w' => e = .returned (.bool (capI n)) ∧ w = w' := by
  go_enter Try.func91, Try.ntmps91
  go_wp2
  all_goals (go_ret; exact ⟨ret_bool (by unfold capI; rw [Bool.eq_iff_iff]; simp <;> omega), rfl⟩)
theorem isSign_any (n : Int) (w : World) : Calls Try.prog 90 #[.int .u8 n] w fun e w' => e = .returned (.bool (signI n)) ∧ w = w' := by
  go_enter Try.func90, Try.ntmps90
  go_wp2
  all_goals (go_ret; exact ⟨ret_bool (by unfold signI alphI lowI capI digI; rw [Bool.eq_iff_iff]; simp <;> omega), rfl⟩)
theorem mayBegin_any (n : Int) (w : World) : Calls Try.prog 89 #[.int .u8 n] w fun e w' => e = .returned (.bool (headI n)) ∧ w = w' := by
  go_enter Try.func89, Try.ntmps89
  go_wp2
  all_goals (go_ret; exact ⟨ret_bool (by unfold headI alphI lowI capI; rw [Bool.eq_iff_iff]; simp <;> omega), rfl⟩)
end Go.Proofs.Ytdalljhgmhjibaa
/- Right answers what NamePure says, for every string that fits into memory. -/
namespace Go.Proofs.Ytdalljhgmhjibaa
open Go.RowKit
set_option maxHeartbeats 1000000 in
theorem right_any (s : ByteArray) (w : World) (hs : s.size ≤ maxLen) :
    Calls Try.prog 83 #[.string s] w fun e w' => e = .returned (.bool (rightL s.toList)) ∧ w = w' := by
  unfold maxLen at hs
  have hlen := tl_len s
  by_cases h0 : s.size < 1
  · have H := Lib.hid (rightL_ends s.toList (by omega))
    clear hlen
    go_enter Try.func83, Try.ntmps83
    go_wp2
    go_ret
    exact ⟨ret_bool H.out.symm, rfl⟩
  by_cases h1 : 40 < s.size
  · have H := Lib.hid (rightL_ends s.toList (by omega))
    clear hlen
    go_enter Try.func83, Try.ntmps83
    go_wp2
    go_ret
    exact ⟨ret_bool H.out.symm, rfl⟩
  have hp : 0 < s.size := by omega
  have hg0 := tl_get s 0 hp
  by_cases hh : headB (s[0]'hp) = true
  · have HL := Lib.hid hlen
    have HG := Lib.hid hg0
    have hh' : headI ((s[0]'hp).toNat : Int) = true := hh
    have HH := Lib.hid hh
    have HS := Lib.hid (sign_of_head _ hh)
    clear hlen hg0 hh
    go_enter Try.func83, Try.ntmps83
    go_wp2_with (go_at_call 89; refine (mayBegin_any _ _).mono ?_; rintro e w' ⟨rfl, rfl⟩)
    go_loop [3] (fun i => ∃ k : Nat, 1 ≤ k ∧ k ≤ s.size ∧ i = .int .i64 k ∧ Hid ((s.toList.take k).all signB = true)) (fun i => s.size - (intOf i).toNat)
    case atStart =>
      refine ⟨1, by omega, by omega, rfl, ?_⟩
      have := all_take_succ s.toList 0 _ HG.out rfl
      exact Lib.hid (this.trans HS.out)
    case round =>
      obtain ⟨k, hk1, hk2, rfl, HA⟩ := hrel
      by_cases hlt : k < s.size
      · have HK := Lib.hid (tl_get s k hlt)
        go_wp2_with (go_at_call 90; refine (isSign_any _ _).mono ?_; rintro e w' ⟨rfl, rfl⟩)
        · have hb : signI (s[k].toNat : Int) = false := by first | assumption | (simpa using ‹(!signI (s[k].toNat : Int)) = true›)
          go_ret
          exact ⟨ret_bool (rightL_stop _ k _ HK.out hb).symm, rfl⟩
        · have hb : signI (s[k].toNat : Int) = true := by first | assumption | (simpa using ‹(!signI (s[k].toNat : Int)) = false›)
          go_round
          case rel => exact ⟨k + 1, by omega, by omega, by go_num, Lib.hid ((all_take_succ _ k _ HK.out HA.out).trans hb)⟩
          case measure => simp [intOf]; omega
      · go_wp2
        go_ret
        refine ⟨ret_bool ?_, rfl⟩
        have e : k = s.toList.length := by rw [HL.out]; omega
        have h2 := HA.out
        rw [e] at h2
        exact (rightL_full s.toList _ (by rw [HL.out]; omega) (by rw [HL.out]; omega) HG.out HH.out h2).symm
  · have hh2 : headB (s[0]'hp) = false := by simpa using hh
    have hh' : headI ((s[0]'hp).toNat : Int) = false := hh2
    have HR := Lib.hid (rightL_head _ _ hg0 hh2)
    clear hlen hg0 hh hh2
    go_enter Try.func83, Try.ntmps83
    go_wp2_with (go_at_call 89; refine (mayBegin_any _ _).mono ?_; rintro e w' ⟨rfl, rfl⟩)
    go_ret
    exact ⟨ret_bool HR.out.symm, rfl⟩
end Go.Proofs.Ytdalljhgmhjibaa
/- Small answers the list of bytes with A to Z made small, and turns nothing that was there. -/
namespace Go.Proofs.Ytdalljhgmhjibaa
open Go.RowKit
theorem bytes_made (s : ByteArray) (w : World) : ∃ (cap : Nat) (C : Array Value) (mk : Nat × Nat),
    (convert 9 80 (.string s)).run Try.prog w = .ok (.slice (some ⟨w.heap.size, 0, none⟩) s.size cap) (w.drew.alloc (.cells C 5 mk)) ∧
    (∀ j (h : j < s.size), (w.alloc (.cells C 5 mk)).cell? ⟨w.heap.size, j, none⟩ = some (.int .u8 (s[j].toNat : Int))) ∧
    ∀ j, j < s.size → (w.alloc (.cells C 5 mk)).frozen? ⟨w.heap.size, j, none⟩ = false := by
  refine ⟨_, _, _, run_bytes_of_string w 9 80 5 s Try.underlying9 Try.underlying80 Try.underlying5, ?_, ?_⟩
  · intro j h
    rw [World.cell?_alloc_mark]
    exact bytesRow_at s _ j h
  · intro j h
    rw [World.frozen?_alloc_mark]
    have : s.size ≤ (bytesRow s (grownCap w s.size 0 5)).size := by
      simp [bytesRow]
    simp
    omega

structure SmallRow (s : ByteArray) (w wr : World) (k : Nat) : Prop where
  cells : ∀ j (h : j < s.size), wr.cell? ⟨w.heap.size, j, none⟩ = some (.int .u8 ((if j < k then smallB s[j] else s[j]).toNat : Int))
  free : ∀ j, j < s.size → wr.frozen? ⟨w.heap.size, j, none⟩ = false
  below : Below w.heap.size w wr

theorem SmallRow.keep {s : ByteArray} {w wr : World} {k : Nat} (h : SmallRow s w wr k) (hk : k < s.size) (hc : capI (s[k].toNat : Int) = false) : SmallRow s w wr (k + 1) := by
  refine ⟨fun j hj => ?_, h.free, h.below⟩
  rw [h.cells j hj]
  by_cases e : j = k
  · subst e
    rw [if_neg (by omega), if_pos (by omega)]
    unfold smallB
    rw [hc]
    rfl
  · by_cases e2 : j < k
    · rw [if_pos e2, if_pos (by omega)]
    · rw [if_neg e2, if_neg (by omega)]

theorem SmallRow.store {s : ByteArray} {w wr : World} {k : Nat} (h : SmallRow s w wr k) (hk : k < s.size) :
    SmallRow s w (wr.setCell ⟨w.heap.size, k, none⟩ (.int .u8 ((smallB s[k]).toNat : Int))) (k + 1) := by
  refine ⟨fun j hj => ?_, fun j hj => ?_, h.below.setCell (Nat.le_refl _) _⟩
  · by_cases e : j = k
    · subst e
      rw [World.cell?_setCell_same _ _ _ (h.cells j hj), if_pos (by omega)]
    · rw [World.cell?_setCell_other _ _ _ _ (by intro h; injection h; omega), h.cells j hj]
      by_cases e2 : j < k
      · rw [if_pos e2, if_pos (by omega)]
      · rw [if_neg e2, if_neg (by omega)]
  · rw [World.frozen?_setCell]
    exact h.free j hj

theorem smallL_len (l : List UInt8) : (smallL l).length = l.length := by simp [smallL]
theorem smallB_cap (c : UInt8) (h : capI (c.toNat : Int) = true) : ((smallB c).toNat : Int) = (c.toNat : Int) + 32 := by
  have hb := of_decide_eq_true h
  unfold smallB
  rw [h]
  simp [UInt8.toNat_add]
  omega

theorem SmallRow.back {s : ByteArray} {w wr : World} {k : Nat} (h : SmallRow s w wr k) (hk : k = s.size) (cap : Nat) :
    (convert 80 9 (.slice (some ⟨w.heap.size, 0, none⟩) s.size cap)).run Try.prog wr = .ok (.string (ofL (smallL s.toList))) wr := by
  have hl : (smallL s.toList).length = s.size := by rw [smallL_len, tl_len]
  have := run_convert_bytes_back (P := Try.prog) wr 80 9 5 ⟨w.heap.size, 0, none⟩ cap (smallL s.toList) Try.underlying80 Try.underlying5 Try.underlying9 (fun j hj => by
    have hj' : j < s.size := by omega
    have hg := tl_get s j hj'
    have e : (smallL s.toList)[j] = smallB s[j] := by
      have h1 : (smallL s.toList)[j]? = some (smallB s[j]) := by
        unfold smallL
        rw [List.getElem?_map, hg]
        rfl
      exact (List.getElem?_eq_some_iff.1 h1).2
    have hc := h.cells j hj'
    rw [if_pos (by omega)] at hc
    rw [e]
    have ha : (⟨w.heap.size, 0, none⟩ : Addr).add j = ⟨w.heap.size, j, none⟩ := by rw [Go.WideShapes.add_plain, Nat.zero_add]
    rw [ha]
    exact hc)
  rw [hl] at this
  exact this

set_option maxHeartbeats 2000000 in
set_option maxRecDepth 100000 in
theorem small_any (s : ByteArray) (w : World) (hs : s.size ≤ maxLen) :
    Calls Try.prog 84 #[.string s] w fun e w' => e = .returned (.string (ofL (smallL s.toList))) ∧ Below w.heap.size w w' := by
  unfold maxLen at hs
  obtain ⟨cap, C, mk, hconv, hcell, hfree⟩ := bytes_made s w
  have H1 := Lib.hid hcell
  have H2 := Lib.hid hfree
  clear hcell hfree
  go_enter Try.func84, Try.ntmps84
  go_wp2
  clear hconv
  go_loopw [10] (fun i wr => ∃ k : Nat, k ≤ s.size ∧ i = .int .i64 k ∧ Hid (SmallRow s w wr k)) (fun i _ => s.size - (intOf i).toNat)
  case atStart =>
    refine ⟨0, Nat.zero_le _, rfl, Lib.hid ⟨fun j h => ?_, fun j h => ?_, ((Below.refl _ _).alloc (Nat.le_refl _) _).drew⟩⟩
    · rw [if_neg (by omega)]
      exact H1.out j h
    · exact H2.out j h
  case round =>
    obtain ⟨k, hk, rfl, HR⟩ := hrel
    by_cases hlt : k < s.size
    · have hcell : wr.cell? ⟨w.heap.size, k, none⟩ = some (.int .u8 (s[k].toNat : Int)) := by
        have := HR.out.cells k hlt
        rwa [if_neg (by omega)] at this
      have hfree := HR.out.free k hlt
      by_cases hc : capI (s[k].toNat : Int) = true
      · have hb := of_decide_eq_true hc
        have hb1 : (65 : Int) ≤ (s[k].toNat : Int) := hb.1
        have hb2 : (s[k].toNat : Int) ≤ 90 := hb.2
        have HE := Lib.hid (smallB_cap _ hc)
        clear hb
        go_wp2_with (go_at_call 91; refine (isCapital_any _ _).mono ?_; rintro e w' ⟨rfl, rfl⟩)
        go_roundw
        case rel =>
          refine ⟨k + 1, by omega, by go_num, ?_⟩
          have := HR.out.store hlt
          rw [HE.out] at this
          have e : (s[k].toNat : Int) - 65 + 97 = (s[k].toNat : Int) + 32 := by omega
          first | exact Lib.hid this | (rw [e]; exact Lib.hid this)
        case measure => simp [intOf]; omega
      · have hc' : capI (s[k].toNat : Int) = false := by simpa using hc
        clear hc
        go_wp2_with (go_at_call 91; refine (isCapital_any _ _).mono ?_; rintro e w' ⟨rfl, rfl⟩)
        go_roundw
        case rel => exact ⟨k + 1, by omega, by go_num, Lib.hid (HR.out.keep hlt hc')⟩
        case measure => simp [intOf]; omega
    · have hback := HR.out.back (by omega) cap
      go_wp2
      go_ret
      exact ⟨rfl, HR.out.below⟩
end Go.Proofs.Ytdalljhgmhjibaa
/- Fit answers what NamePure says. -/
namespace Go.Proofs.Ytdalljhgmhjibaa
open Go.RowKit
def fitL (l : List UInt8) : List UInt8 := if rightL l then smallL l else []
def fitE (l : List UInt8) : Int := if rightL l then 0 else 4
set_option maxHeartbeats 2000000 in
theorem fit_any (s : ByteArray) (w : World) (hs : s.size ≤ maxLen) :
    Calls Try.prog 82 #[.string s] w fun e w' => e = .returned (.tuple #[.string (ofL (fitL s.toList)), .int .i64 (fitE s.toList)]) ∧ Below w.heap.size w w' := by
  have HB : Below w.heap.size w w := Below.refl _ _
  by_cases hr : rightL s.toList = true
  · have e1 := Lib.hid (show fitL s.toList = smallL s.toList by unfold fitL; rw [if_pos hr])
    have e2 := Lib.hid (show fitE s.toList = 0 by unfold fitE; rw [if_pos hr])
    go_enter Try.func82, Try.ntmps82
    go_wp2_with (first
      | (go_at_call 83; refine (right_any _ _ hs).mono ?_; rintro e w' ⟨rfl, rfl⟩)
      | (go_at_call 84; refine (small_any _ _ hs).mono ?_; rintro e w' ⟨rfl, hb⟩; have HB := HB.trans (hb.mono HB.size); clear hb))
    go_ret2
    exact ⟨by rw [e1.out, e2.out]; rfl, by assumption⟩
  · have hr' : rightL s.toList = false := by simpa using hr
    have e1 := Lib.hid (show fitL s.toList = [] by unfold fitL; rw [if_neg hr])
    have e2 := Lib.hid (show fitE s.toList = 4 by unfold fitE; rw [if_neg hr])
    clear hr
    go_enter Try.func82, Try.ntmps82
    go_wp2_with (first
      | (go_at_call 83; refine (right_any _ _ hs).mono ?_; rintro e w' ⟨rfl, rfl⟩))
    go_ret2
    exact ⟨by rw [e1.out, e2.out]; rfl, by assumption⟩
end Go.Proofs.Ytdalljhgmhjibaa
