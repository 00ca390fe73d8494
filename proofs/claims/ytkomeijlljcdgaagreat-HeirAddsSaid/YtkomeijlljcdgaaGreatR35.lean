/- Texts joined in build order: ReadMath DeskAddFn DeskAddErr. -/
import Derived.Test.YtkomeijlljcdgaaGreatR32
import Derived.Test.YtkomeijlljcdgaaGreatR21
import Derived.Lib.IndexAny
import Derived.Lib.Strings
import Derived.Test.YtkomeijlljcdgaaGreatR24
import Derived.Test.YtkomeijlljcdgaaGreatR25
import Derived.Test.YtkomeijlljcdgaaGreatR09
import Derived.Deep.DeepCutAuto
namespace Go.Proofs.YtkomeijlljcdgaaGreat
open Go.RowKit
abbrev BL := List UInt8
def strB (l : BL) : ByteArray := ⟨l.toArray⟩
theorem strB_data (l : BL) : (strB l).data.toList = l := rfl
theorem strB_size (l : BL) : (strB l).size = l.length := Lib.size_eq _
def skipM (l p : BL) : Option BL := if p.isPrefixOf l then some (l.drop p.length) else none
def okM (l : BL) : Bool := decide (l.length ≤ 100000) && l.all (fun b => decide (b.toNat < 128))
def endM (l : BL) : Nat := (Lib.indexAny l [33, 32, 61, 62]).toNat
def qM : BL → BL → Option (BL × BL)
  | _, [] => none
  | acc, b :: r => if b = 34 then some (acc, r) else if b = 92 then (match r with | [] => none | c :: r2 => if c = 34 ∨ c = 92 then qM (acc ++ [c]) r2 else none) else qM (acc ++ [b]) r
def quoM (l : BL) : Option (BL × BL) := if l.length ≤ 100000 then (match skipM l [34] with | some r => qM [] r | none => none) else none
def wordM (l : BL) : Option (BL × BL) := if okM l then some (l.take (endM l), l.drop (endM l)) else none
def attrM (l : BL) : Option ((ByteArray × ByteArray) × BL) :=
  match wordM l with
  | none => none
  | some (n, l1) => match skipM l1 [61] with
    | none => none
    | some l2 => match quoM l2 with
      | none => none
      | some (v, l3) => some ((strB n, strB v), l3)
def attrsM : Nat → BL → AL → Option (AL × BL)
  | 0, _, _ => none
  | k + 1, l, acc => match skipM l [32] with
    | none => some (acc, l)
    | some l1 => match attrM l1 with
      | none => none
      | some (a, l2) => if acc.length < 1000 then attrsM k l2 (acc ++ [a]) else none
def isM (l : BL) : Option (BL × BL) :=
  match skipM l [33] with
  | none => some ([], l)
  | some l1 => match wordM l1 with
    | none => none
    | some (s, l2) => if s = [] then none else some (s, l2)
abbrev nodeC (kind : Int) (name is data : BL) (attrs : AL) (doc : Int) : Core := ⟨kind, strB name, strB is, strB data, attrs, 0, [], 0, 0, doc⟩
def headM (doc : Int) (l : BL) : Option (BL × Core × BL) :=
  match wordM l with
  | none => none
  | some (n, l1) => match isM l1 with
    | none => none
    | some (s, l2) => match attrsM (l2.length + 1) l2 [] with
      | none => none
      | some (a, l3) => match skipM l3 [62] with
        | none => none
        | some l4 => if n.length ≤ 1000 then some (n, nodeC 1 n s [] a doc, l4) else none
def addM (F : List Core) (c : Core) : Option (List Core) := if F.length < 1000 then some (F ++ [aloneC c F.length]) else none
def hangM (F : List Core) (host sh : Nat) : List Core := (F.modify host (fun c => ⟨c.kind, c.name, c.is, c.data, c.attrs, c.parent, c.kids, c.host, sh, c.doc⟩)).modify sh (fun c => ⟨c.kind, c.name, c.is, c.data, c.attrs, c.parent, c.kids, host, c.under, c.doc⟩)
inductive Job where
  | node
  | kids (p : Nat) (stop : BL)
def readM (doc : Int) : Nat → Job → BL → List Core → Option (BL × List Core)
  | 0, _, _, _ => none
  | k + 1, .node, l, F =>
    match skipM l [60] with
    | some l1 => (match headM doc l1 with
      | none => none
      | some (n, c, l2) => match addM F c with
        | none => none
        | some F1 => match skipM l2 [123] with
          | none => readM doc k (.kids F.length ([60, 47] ++ n ++ [62])) l2 F1
          | some l3 => match addM F1 (nodeC 4 [] [] [] [] doc) with
            | none => none
            | some F2 => match readM doc k (.kids (F.length + 1) [125]) l3 (hangM F2 F.length (F.length + 1)) with
              | none => none
              | some (l4, F3) => readM doc k (.kids F.length ([60, 47] ++ n ++ [62])) l4 F3)
    | none => match skipM l [91] with
      | some l1 => (match addM F (nodeC 3 [] [] [] [] doc) with
        | none => none
        | some F1 => readM doc k (.kids F.length [93]) l1 F1)
      | none => match quoM l with
        | none => none
        | some (d, l1) => match addM F (nodeC 2 [] [] d [] doc) with
          | none => none
          | some F1 => some (l1, F1)
  | k + 1, .kids p stop, l, F =>
    match skipM l stop with
    | some l1 => some (l1, F)
    | none => match readM doc k .node l F with
      | none => none
      | some (l1, F1) => if (kidsK F1 p).length < 1000 ∧ p < F.length ∧ F.length < F1.length then readM doc k (.kids p stop) l1 (mvIn F1 F.length p (-1)) else none
def aw10 : BL := [60, 112, 62, 60, 120, 45, 97, 62, 60, 47, 120, 45, 97, 62, 60, 98, 33, 120, 45, 98, 62, 60, 47, 98, 62, 60, 120, 45, 98, 62, 60, 47, 120, 45, 98, 62, 60, 47, 112, 62]
abbrev dC10 : Core := ⟨0, ⟨#[]⟩, ⟨#[]⟩, ⟨#[]⟩, [], -1, [], -1, -1, 0⟩
def aw10F : List Core := [dC10, ⟨1, ⟨#[112]⟩, ⟨#[]⟩, ⟨#[]⟩, [], -1, [2, 3, 4], -1, -1, 0⟩, ⟨1, ⟨#[120, 45, 97]⟩, ⟨#[]⟩, ⟨#[]⟩, [], 1, [], -1, -1, 0⟩, ⟨1, ⟨#[98]⟩, ⟨#[120, 45, 98]⟩, ⟨#[]⟩, [], 1, [], -1, -1, 0⟩, ⟨1, ⟨#[120, 45, 98]⟩, ⟨#[]⟩, ⟨#[]⟩, [], 1, [], -1, -1, 0⟩]
end Go.Proofs.YtkomeijlljcdgaaGreat
namespace Go.Proofs.YtkomeijlljcdgaaGreat
open Go.RowKit
structure GBox (W : World) (g : Nat) (x0 x1 : Value) (nx : Int) (bz : Bool) : Prop where
  lt : g < W.heap.size
  c0 : W.cell? ⟨g, 0, none⟩ = some x0
  c1 : W.cell? ⟨g, 1, none⟩ = some x1
  c2 : W.cell? ⟨g, 2, none⟩ = some (.int .i64 nx)
  c3 : W.cell? ⟨g, 3, none⟩ = some (.bool bz)
  f : ∀ j, W.frozen? ⟨g, j, none⟩ = false
section
variable {W V : World} {g : Nat} {x0 x1 : Value} {nx : Int} {bz : Bool}
theorem GBox.same (h : GBox W g x0 x1 nx bz) (hs : V.heap[g]? = W.heap[g]?) (hz : W.heap.size ≤ V.heap.size) : GBox V g x0 x1 nx bz :=
  ⟨Nat.lt_of_lt_of_le h.lt hz, (World.cell?_of_block (a := ⟨g, 0, none⟩) hs).trans h.c0, (World.cell?_of_block (a := ⟨g, 1, none⟩) hs).trans h.c1, (World.cell?_of_block (a := ⟨g, 2, none⟩) hs).trans h.c2, (World.cell?_of_block (a := ⟨g, 3, none⟩) hs).trans h.c3, fun j => (World.frozen?_of_block (a := ⟨g, j, none⟩) hs).trans (h.f j)⟩
theorem GBox.keep (h : GBox W g x0 x1 nx bz) (hb : Below W.heap.size W V) : GBox V g x0 x1 nx bz := h.same (hb.block g h.lt) hb.size
theorem GBox.new (W : World) (x0 x1 : Value) (nx : Int) (bz : Bool) : GBox (W.alloc (.cells #[x0, x1, .int .i64 nx, .bool bz] 28)) W.heap.size x0 x1 nx bz :=
  ⟨by simp, cell_of_row _ W.heap.size 0 _ 28 (0, 0) (heap_alloc_new W _), cell_of_row _ W.heap.size 1 _ 28 (0, 0) (heap_alloc_new W _), cell_of_row _ W.heap.size 2 _ 28 (0, 0) (heap_alloc_new W _), cell_of_row _ W.heap.size 3 _ 28 (0, 0) (heap_alloc_new W _), box_free (heap_alloc_new W _) (Below.refl _ _)⟩
theorem GBox.set0 (h : GBox W g x0 x1 nx bz) (u : Value) : GBox (W.setCell ⟨g, 0, none⟩ u) g u x1 nx bz :=
  ⟨by simp only [World.setCell, Array.size_modify]; exact h.lt, World.cell?_setCell_same _ _ _ h.c0, (World.cell?_setCell_other _ _ _ _ (by intro e; injection e with _ e; omega)).trans h.c1, (World.cell?_setCell_other _ _ _ _ (by intro e; injection e with _ e; omega)).trans h.c2, (World.cell?_setCell_other _ _ _ _ (by intro e; injection e with _ e; omega)).trans h.c3, fun j => by rw [World.frozen?_setCell]; exact h.f j⟩
theorem GBox.set1 (h : GBox W g x0 x1 nx bz) (u : Value) : GBox (W.setCell ⟨g, 1, none⟩ u) g x0 u nx bz :=
  ⟨by simp only [World.setCell, Array.size_modify]; exact h.lt, (World.cell?_setCell_other _ _ _ _ (by intro e; injection e with _ e; omega)).trans h.c0, World.cell?_setCell_same _ _ _ h.c1, (World.cell?_setCell_other _ _ _ _ (by intro e; injection e with _ e; omega)).trans h.c2, (World.cell?_setCell_other _ _ _ _ (by intro e; injection e with _ e; omega)).trans h.c3, fun j => by rw [World.frozen?_setCell]; exact h.f j⟩
theorem GBox.set2 (h : GBox W g x0 x1 nx bz) (u : Int) : GBox (W.setCell ⟨g, 2, none⟩ (.int .i64 u)) g x0 x1 u bz :=
  ⟨by simp only [World.setCell, Array.size_modify]; exact h.lt, (World.cell?_setCell_other _ _ _ _ (by intro e; injection e with _ e; omega)).trans h.c0, (World.cell?_setCell_other _ _ _ _ (by intro e; injection e with _ e; omega)).trans h.c1, World.cell?_setCell_same _ _ _ h.c2, (World.cell?_setCell_other _ _ _ _ (by intro e; injection e with _ e; omega)).trans h.c3, fun j => by rw [World.frozen?_setCell]; exact h.f j⟩
theorem GBox.set3 (h : GBox W g x0 x1 nx bz) (u : Bool) : GBox (W.setCell ⟨g, 3, none⟩ (.bool u)) g x0 x1 nx u :=
  ⟨by simp only [World.setCell, Array.size_modify]; exact h.lt, (World.cell?_setCell_other _ _ _ _ (by intro e; injection e with _ e; omega)).trans h.c0, (World.cell?_setCell_other _ _ _ _ (by intro e; injection e with _ e; omega)).trans h.c1, (World.cell?_setCell_other _ _ _ _ (by intro e; injection e with _ e; omega)).trans h.c2, World.cell?_setCell_same _ _ _ h.c3, fun j => by rw [World.frozen?_setCell]; exact h.f j⟩
def put4 (W : World) (g : Nat) (a b c d : Value) : World := (((W.setCell ⟨g, 0, none⟩ a).setCell ⟨g, 1, none⟩ b).setCell ⟨g, 2, none⟩ c).setCell ⟨g, 3, none⟩ d
theorem put4_same {W : World} {g : Nat} {a b c d : Value} {k : Nat} (h : k ≠ g) : (put4 W g a b c d).heap[k]? = W.heap[k]? :=
  (Below.heap_setCell _ _ _ k h).trans ((Below.heap_setCell _ _ _ k h).trans ((Below.heap_setCell _ _ _ k h).trans (Below.heap_setCell _ _ _ k h)))
theorem put4_below {B : Nat} {w W : World} {g : Nat} {a b c d : Value} (h : Below B w W) (hg : B ≤ g) : Below B w (put4 W g a b c d) :=
  (((h.setCell hg _).setCell hg _).setCell hg _).setCell hg _
theorem put4_size {W : World} {g : Nat} {a b c d : Value} : (put4 W g a b c d).heap.size = W.heap.size := by simp [put4, World.setCell]
end
theorem DefRow.same {w W : World} {a : Option Addr} {len cap : Nat} {L : List DefD} (h : DefRow w a len cap L) (hs : ∀ b off, a = some ⟨b, off, none⟩ → W.heap[b]? = w.heap[b]?) (hz : w.heap.size ≤ W.heap.size) : DefRow W a len cap L :=
  ⟨h.row.keep hz (fun b off e _ o => World.cell?_of_block (a := ⟨b, o, none⟩) (hs b off e)), h.ok, h.hnil⟩
theorem WaitRow.same {w W : World} {a : Option Addr} {len cap : Nat} {L : List WaitD} (h : WaitRow w a len cap L) (hs : ∀ b off, a = some ⟨b, off, none⟩ → W.heap[b]? = w.heap[b]?) (hz : w.heap.size ≤ W.heap.size) : WaitRow W a len cap L :=
  ⟨h.row.keep hz (fun b off e _ o => World.cell?_of_block (a := ⟨b, o, none⟩) (hs b off e)), h.ok, h.hnil⟩
theorem IntRow.same9 {w W : World} {a : Option Addr} {len cap : Nat} {L : List Int} (h : IntRow w a len cap L) (hs : ∀ b off, a = some ⟨b, off, none⟩ → W.heap[b]? = w.heap[b]?) (hz : w.heap.size ≤ W.heap.size) : IntRow W a len cap L :=
  ⟨h.row.keep hz (fun b off e _ o => World.cell?_of_block (a := ⟨b, o, none⟩) (hs b off e)), h.inb, h.hnil⟩
theorem IntRow.nil9 (w : World) : IntRow w none 0 0 [] := ⟨SRow.nil, (fun z hz => by cases hz), fun _ => rfl⟩
structure AddIn (w W : World) (da : Option Addr) (dl dc : Nat) (wa : Option Addr) (wl wc : Nat) (nx : Int) (bz : Bool) (L : List DefD) (M : List WaitD) (s : ByteArray) : Prop where
  d : DBox w W w.heap.size da dl dc wa wl wc nx bz L M
  s : W.cell? ⟨w.heap.size + 1, 0, none⟩ = some (.string s)
  r : GBox W (w.heap.size + 1 + 1) (.slice none 0 0) (.slice none 0 0) 0 false
section
variable {w W V : World} {da wa : Option Addr} {dl dc wl wc : Nat} {nx : Int} {bz : Bool} {L : List DefD} {M : List WaitD} {s : ByteArray}
theorem AddIn.keep (h : AddIn w W da dl dc wa wl wc nx bz L M s) (hb : Below W.heap.size W V) : AddIn w V da dl dc wa wl wc nx bz L M s :=
  ⟨h.d.keep hb, (hb.cell (p := ⟨w.heap.size + 1, 0, none⟩) (by have := h.r.lt; show w.heap.size + 1 < _; omega)).trans h.s, h.r.keep hb⟩
theorem AddIn.start (hd : DefRow w da dl dc L) (ht : WaitRow w wa wl wc M) : AddIn w (((w.alloc (deskB da dl dc wa wl wc nx bz)).alloc (.cells #[.string s] 9)).alloc (.cells #[.slice none 0 0, .slice none 0 0, .int .i64 0, .bool false] 28)) da dl dc wa wl wc nx bz L M s := by
  have e1 : (w.alloc (deskB da dl dc wa wl wc nx bz)).heap.size = w.heap.size + 1 := by simp
  have e2 : ((w.alloc (deskB da dl dc wa wl wc nx bz)).alloc (.cells #[.string s] 9)).heap.size = w.heap.size + 1 + 1 := by simp
  refine ⟨((DBox.start hd ht).keep (below_desk _ _)).keep (below_desk _ _), ?_, ?_⟩
  · have := ((below_desk ((w.alloc (deskB da dl dc wa wl wc nx bz)).alloc (.cells #[.string s] 9)) (.cells #[.slice none 0 0, .slice none 0 0, .int .i64 0, .bool false] 28)).cell (p := ⟨(w.alloc (deskB da dl dc wa wl wc nx bz)).heap.size, 0, none⟩) (by simp)).trans (cell_new (w.alloc (deskB da dl dc wa wl wc nx bz)) (.string s) 9)
    rwa [e1] at this
  · have := GBox.new ((w.alloc (deskB da dl dc wa wl wc nx bz)).alloc (.cells #[.string s] 9)) (.slice none 0 0) (.slice none 0 0) 0 false
    rwa [e2] at this
end
theorem own_eq9 {w W : World} {base : Nat} {e : TypeId} {size n : Nat} {v : Value} {xs : List Value} (h : w.ownsRow base e size v n xs) (hs : ∀ k, v.ownBlock = some k → W.heap[k]? = w.heap[k]?) : W.ownsRow base e size v n xs := by
  refine ⟨h.1, ?_⟩
  rcases h.2 with h0 | ⟨g, cap, cur, hv, hbg, hg, h1, h2, h3, h4⟩
  · exact .inl h0
  · exact .inr ⟨g, cap, cur, hv, hbg, (hs g (by rw [hv]; rfl)).trans hg, h1, h2, h3, h4⟩
theorem cell_two (V : World) (x y : Value) (t : TypeId) : (V.alloc (.cells #[x, y] t)).cell? ⟨V.heap.size, 0, none⟩ = some x ∧ (V.alloc (.cells #[x, y] t)).cell? ⟨V.heap.size, 1, none⟩ = some y :=
  ⟨cell_of_row _ V.heap.size 0 _ t (0, 0) (heap_alloc_new V _), cell_of_row _ V.heap.size 1 _ t (0, 0) (heap_alloc_new V _)⟩
structure AddMid (V0 W : World) (g : Nat) (ad : Option Addr) (dl dc : Nat) (at_ : Option Addr) (tl tc : Nat) (L : List DefD) (M : List WaitD) (nx : Int) (bz : Bool) : Prop where
  d : W.ownsRow V0.heap.size 30 3 (.slice ad dl dc) dl (L.flatMap encD)
  t : W.ownsRow V0.heap.size 64 2 (.slice at_ tl tc) tl (M.flatMap encT9)
  bx : GBox W g (.slice ad dl dc) (.slice at_ tl tc) nx bz
  below : Below V0.heap.size V0 W
  dg : ∀ k, Value.ownBlock (.slice ad dl dc) = some k → k ≠ g
  tg : ∀ k, Value.ownBlock (.slice at_ tl tc) = some k → k ≠ g
structure AddEnd (V0 W : World) (g : Nat) (ad : Option Addr) (dl dc : Nat) (at_ : Option Addr) (tl tc : Nat) (L : List DefD) (M : List WaitD) (nx : Int) (bz : Bool) : Prop where
  d : DefRow W ad dl dc L
  t : WaitRow W at_ tl tc M
  bx : GBox W g (.slice ad dl dc) (.slice at_ tl tc) nx bz
  below : Below V0.heap.size V0 W
  dlo : ∀ b off, ad = some ⟨b, off, none⟩ → V0.heap.size ≤ b
  tlo : ∀ b off, at_ = some ⟨b, off, none⟩ → V0.heap.size ≤ b
theorem AddEnd.keep {V0 W W2 : World} {g : Nat} {ad at_ : Option Addr} {dl dc tl tc : Nat} {L : List DefD} {M : List WaitD} {nx : Int} {bz : Bool} (h : AddEnd V0 W g ad dl dc at_ tl tc L M nx bz) (hb : Below W.heap.size W W2) : AddEnd V0 W2 g ad dl dc at_ tl tc L M nx bz :=
  ⟨h.d.below hb, h.t.below hb, h.bx.keep hb, h.below.trans (hb.mono h.below.size), h.dlo, h.tlo⟩
end Go.Proofs.YtkomeijlljcdgaaGreat
namespace Go.Proofs.YtkomeijlljcdgaaGreat
open Go.RowKit
theorem below_alloc_start (w : World) (a b c : Obj) : Below w.heap.size w (((w.alloc a).alloc b).alloc c) := (((Below.refl _ _).alloc (Nat.le_refl _) a).alloc (by simp) b).alloc (by simp; omega) c
set_option maxHeartbeats 4000000 in
set_option maxRecDepth 100000 in
theorem add_err (da : Option Addr) (dl dc : Nat) (wa : Option Addr) (wl wc : Nat) (nx : Int) (bz : Bool) (L : List DefD) (M : List WaitD) (m : Int) (s base : ByteArray) (c : Int) (w : World) (hd : DefRow w da dl dc L) (ht : WaitRow w wa wl wc M) (hs : s.size ≤ maxLen) (h1 : L.length ≤ 1000) (h2 : M.length ≤ 1000)
    (hm : mayE ⟨L, M, nx, bz⟩ m s.toList base.toList c ≠ 0) :
    Calls Tryz.prog 26 #[deskV da dl dc wa wl wc nx bz, .int .i64 m, .string s, .string base, .int .i64 c] w (AddPost9 w (⟨L, M, nx, bz⟩, -1, [], mayE ⟨L, M, nx, bz⟩ m s.toList base.toList c)) := by
  have AI := Lib.hid (AddIn.start (nx := nx) (bz := bz) (s := s) hd ht)
  have B0 := Lib.hid (below_alloc_start w (deskB da dl dc wa wl wc nx bz) (.cells #[.string s] 9) (.cells #[.slice none 0 0, .slice none 0 0, .int .i64 0, .bool false] 28))
  have HD := Lib.hid hd
  have HT := Lib.hid ht
  have F5 : Hid (∀ V, DefRow V da dl dc L → WaitRow V wa wl wc M → Calls Tryz.prog 52 #[deskV da dl dc wa wl wc nx bz] V (FreshPost V L M nx bz)) := Lib.hid (fun V h h' => freshdesk_any da dl dc wa wl wc nx bz L M V h h' (by rw [← hd.hlen]; exact h1) (by rw [← ht.hlen]; exact h2))
  obtain ⟨z, hz⟩ : ∃ z, mayE ⟨L, M, nx, bz⟩ m s.toList base.toList c = z := ⟨_, rfl⟩
  have MY : Hid (∀ V, DefRow V da dl dc L → WaitRow V wa wl wc M → Calls Tryz.prog 53 #[deskV da dl dc wa wl wc nx bz, .int .i64 m, .string s, .string base, .int .i64 c] V fun e w' => e = .returned (.int .i64 z) ∧ Below V.heap.size V w') := Lib.hid (fun V h h' => by
    have := deskmay_any da dl dc wa wl wc nx bz L M m s base c V h h' hs
    rw [hz] at this
    exact this)
  rw [hz] at hm ⊢
  have z1 : (z == 0) = false := beq_eq_false_iff_ne.2 hm
  have z2 : (z != 0) = true := bne_iff_ne.2 hm
  clear hz hm hd ht hs h1 h2
  go_enter Tryz.func26, Tryz.ntmps26
  go_upto_region 1 with fail
  obtain ⟨V0, hV0⟩ : ∃ V0, ((w.alloc (deskB da dl dc wa wl wc nx bz)).alloc (.cells #[.string s] 9)).alloc (.cells #[.slice none 0 0, .slice none 0 0, .int .i64 0, .bool false] 28) = V0 := ⟨_, rfl⟩
  have e3 : V0.heap.size = w.heap.size + 1 + 1 + 1 := by rw [← hV0]; simp
  rw [hV0] at AI B0 ⊢
  have E3 := Lib.hid e3
  clear hV0 e3
  have d0 := AI.out.d.c0
  have d1 := AI.out.d.c1
  have d2 := AI.out.d.c2
  have d3 := AI.out.d.c3
  go_upto_region 2 with (go_at_call 52; (refine (F5.out _ AI.out.d.d AI.out.d.t).mono ?_); rintro e w1 ⟨a2, l2, c2, a3, l3, c3, rfl, ho⟩; have OD := Lib.hid ho; clear ho)
  obtain ⟨W1, hW1⟩ : ∃ W1, w1.alloc (.cells #[.slice a2 l2 c2, .slice a3 l3 c3, .int .i64 nx, .bool bz] 28) = W1 := ⟨_, rfl⟩
  have HB1 : Hid (Below V0.heap.size V0 W1) := Lib.hid (by rw [← hW1]; exact OD.out.below.alloc OD.out.below.size _)
  have GB := Lib.hid (GBox.new w1 (.slice a2 l2 c2) (.slice a3 l3 c3) nx bz)
  have OD1 := Lib.hid (OD.out.keep (below_desk w1 (.cells #[.slice a2 l2 c2, .slice a3 l3 c3, .int .i64 nx, .bool bz] 28)))
  rw [hW1] at GB OD1 ⊢
  clear hW1 d0 d1 d2 d3
  have A1 := Lib.hid (AI.out.keep HB1.out)
  have d0 := A1.out.d.c0
  have d1 := A1.out.d.c1
  have d2 := A1.out.d.c2
  have d3 := A1.out.d.c3
  have ds := A1.out.s
  go_upto_region 3 with (go_at_call 53; (with_reducible refine (MY.out _ A1.out.d.d A1.out.d.t).mono ?_); rintro e w2 ⟨rfl, hb2⟩; have HB2 := Lib.hid hb2; clear hb2)
  clear d0 d1 d2 d3 ds
  have A2 := Lib.hid (A1.out.keep HB2.out)
  have G2 := Lib.hid (GB.out.keep HB2.out)
  have O2 := Lib.hid (OD1.out.keep HB2.out)
  have g0 := G2.out.c0
  have g1 := G2.out.c1
  have g2 := G2.out.c2
  have g3 := G2.out.c3
  have r0 := A2.out.r.c0
  have r1 := A2.out.r.c1
  have r2 := A2.out.r.c2
  have r3 := A2.out.r.c3
  have f0 := A2.out.r.f 0
  have f1 := A2.out.r.f 1
  have f2 := A2.out.r.f 2
  have f3 := A2.out.r.f 3
  go_wp2
  refine bodyPost_ret (v := .tuple #[deskV a2 l2 c2 a3 l3 c3 nx bz, .int .i64 (-1), .slice none 0 0, .int .i64 z]) ?_ rfl ⟨a2, l2, c2, a3, l3, c3, none, 0, 0, rfl, ?_, ?_, IntRow.nil9 _, ?_, ?_, ?_, fun b off e => by cases e⟩
  · simp [results, Tryz.results26, go_sem, r0, r1, r2, r3]
  · exact O2.out.dr.same (fun b off e => put4_same (by
      subst e
      have := (O2.out.d.lt b rfl).1
      have := E3.out
      omega)) (by simp [World.setCell])
  · exact O2.out.tr.same (fun b off e => put4_same (by
      subst e
      have := (O2.out.t.lt b rfl).1
      have := E3.out
      omega)) (by simp [World.setCell])
  · exact put4_below ((B0.out.trans (HB1.out.mono B0.out.size)).trans (HB2.out.mono (Nat.le_trans B0.out.size HB1.out.size))) (by omega)
  · intro b off e
    subst e
    exact Nat.le_trans B0.out.size (O2.out.d.lt b rfl).1
  · intro b off e
    subst e
    exact Nat.le_trans B0.out.size (O2.out.t.lt b rfl).1
end Go.Proofs.YtkomeijlljcdgaaGreat
