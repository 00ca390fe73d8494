/- Texts joined in build order: TreeRoot NameFacts AttrPure ForestRow AttrRightMath Ext RefRight RefSmall LRow. -/
import Derived.Test.YtnjoimedilonnaaB01
import Derived.Test.YtnjoimedilonnaaB02
import Derived.WalkKit
import Derived.Below
import Derived.WalkSmall
import Derived.BigQuiet
import Derived.Deep.QuietTactic
import Derived.Test.YtnjoimedilonnaaChecked
import Derived.WalkLawsBesides
import Derived.Lib.Hide
import Derived.WideShapes
import Derived.Laws.IdiomStrings
import Derived.Lib.IndexBytes
namespace Go.Proofs.Ytnjoimedilonnaa
section
variable {n : Nat} {par : Nat → Option Nat} {kids : Nat → List Nat} {rank : Nat → Nat}
def rootN (par : Nat → Option Nat) : Nat → Nat → Nat
  | 0, i => i
  | f + 1, i => match par i with
    | none => i
    | some p => rootN par f p
theorem rootN_none {f i : Nat} (h : par i = none) : rootN par f i = i := by
  cases f with
  | zero => rfl
  | succ f => unfold rootN; rw [h]
theorem rootN_some {f i p : Nat} (h : par i = some p) : rootN par (f + 1) i = rootN par f p := by
  show (match par i with | none => i | some p => rootN par f p) = _
  rw [h]
theorem rootN_holds : ∀ (f i : Nat), holdsT par (rootN par f i) i
  | 0, i => holds_refl i
  | f + 1, i => by
    cases h : par i with
    | none => rw [rootN_none h]; exact holds_refl i
    | some p => rw [rootN_some h]; exact holds_trans (rootN_holds f p) (holds_par h)
theorem Tree.root_top (T : Tree n par kids rank) : ∀ (f i : Nat), i < n → rank i ≤ f → par (rootN par f i) = none
  | 0, i, hi, h => by
    cases hp : par i with
    | none => exact hp
    | some p => have := T.rank_up p i hi hp; omega
  | f + 1, i, hi, h => by
    cases hp : par i with
    | none => rw [rootN_none hp]; exact hp
    | some p =>
      rw [rootN_some hp]
      have := T.rank_up p i hi hp
      exact T.root_top f p (T.par_kid p i hi hp).1 (by omega)
theorem Tree.root_of (T : Tree n par kids rank) {f a b : Nat} (hb : b < n) (hf : rank b ≤ f) (h : holdsT par a b) (hp : par a = none) : rootN par f b = a := by
  have h2 := T.root_top f b hb hf
  have h3 := rootN_holds (par := par) f b
  rcases holds_line h h3 with h4 | h4
  · rcases holds_up h4 with e | ⟨p, hp2, _⟩
    · exact e.symm
    · rw [h2] at hp2; cases hp2
  · rcases holds_up h4 with e | ⟨p, hp2, _⟩
    · exact e
    · rw [hp] at hp2; cases hp2
theorem Tree.root_held (T : Tree n par kids rank) {f a b : Nat} (hb : b < n) (hf : n + 1 ≤ f) (h : holdsT par a b) : rootN par f a = rootN par f b := by
  have ha := (T.holds_rank hb h).1
  have r1 := T.rank_le a ha
  have r2 := T.rank_le b hb
  exact (T.root_of hb (by omega) (holds_trans (rootN_holds f a) h) (T.root_top f a ha (by omega))).symm
theorem Tree.root_lt (T : Tree n par kids rank) {f a : Nat} (ha : a < n) : rootN par f a < n := (T.holds_rank ha (rootN_holds f a)).1
theorem Tree.in_root (T : Tree n par kids rank) {f g a : Nat} (ha : a < n) (hg : n + 1 ≤ g) : a ∈ ordN kids g (rootN par f a) :=
  (T.mem_ord g _ (T.root_lt ha) (by omega) a ha).2 (rootN_holds f a)
end
def endsZ (nxt : Int → Int) : Nat → Int → Bool
  | 0, i => i == -1
  | s + 1, i => i == -1 || endsZ nxt s (nxt i)
theorem endsZ_step {nxt : Int → Int} {s : Nat} {i : Int} (h : i ≠ -1) : endsZ nxt (s + 1) i = endsZ nxt s (nxt i) := by
  show (i == -1 || endsZ nxt s (nxt i)) = _
  rw [beq_eq_false_iff_ne.2 h, Bool.false_or]
def rankZ (nxt : Int → Int) (n : Nat) (i : Int) : Nat := (List.range (n + 2)).findIdx (fun s => endsZ nxt s i)
theorem rankZ_le {nxt : Int → Int} {n : Nat} {i : Int} {s : Nat} (h : endsZ nxt s i = true) : rankZ nxt n i ≤ s := by
  unfold rankZ
  rcases Nat.lt_or_ge s ((List.range (n + 2)).findIdx (fun s => endsZ nxt s i)) with h1 | h1
  · have := List.not_of_lt_findIdx h1
    rw [List.getElem_range] at this
    rw [h] at this
    cases this
  · exact h1
theorem rankZ_ends {nxt : Int → Int} {n : Nat} {i : Int} (h : endsZ nxt (n + 1) i = true) : endsZ nxt (rankZ nxt n i) i = true := by
  have hlt : rankZ nxt n i < (List.range (n + 2)).length := by
    have := rankZ_le (n := n) h
    rw [List.length_range]
    omega
  have := List.findIdx_getElem (xs := List.range (n + 2)) (p := fun s => endsZ nxt s i) (w := hlt)
  have h3 : (List.range (n + 2))[rankZ nxt n i]'hlt = rankZ nxt n i := by simp
  have h4 : endsZ nxt ((List.range (n + 2))[rankZ nxt n i]'hlt) i = true := this
  rwa [h3] at h4
theorem rankZ_up {nxt : Int → Int} {n : Nat} {i : Int} (hi : i ≠ -1) (h : endsZ nxt (n + 1) i = true) (hp : endsZ nxt (n + 1) (nxt i) = true) : rankZ nxt n i = rankZ nxt n (nxt i) + 1 := by
  have h1 := rankZ_ends h
  have h2 := rankZ_ends hp
  have h3 := rankZ_le (n := n) h
  cases hr : rankZ nxt n i with
  | zero =>
    rw [hr] at h1
    exact absurd (beq_iff_eq.1 h1) hi
  | succ s =>
    rw [hr, endsZ_step hi] at h1
    rw [hr] at h3
    have h4 := rankZ_le (n := n) h1
    have h5 : endsZ nxt (rankZ nxt n (nxt i) + 1) i = true := by rw [endsZ_step hi]; exact h2
    have h6 := rankZ_le (n := n) h5
    omega
end Go.Proofs.Ytnjoimedilonnaa
namespace Go.Proofs.Ytnjoimedilonnaa
theorem smallL_length (l : List UInt8) : (smallL l).length = l.length := by simp [smallL]
end Go.Proofs.Ytnjoimedilonnaa
namespace Go.Proofs.Ytnjoimedilonnaa
open Go.RowKit
abbrev AL := List (ByteArray × ByteArray)
def encA (x : ByteArray × ByteArray) : List Value := [.string x.1, .string x.2]
theorem encA_len (x : ByteArray × ByteArray) : (encA x).length = 2 := rfl
theorem encA_one (x : ByteArray × ByteArray) : ∀ u ∈ encA x, u.oneCell' = true := by
  intro u hu
  simp [encA] at hu
  rcases hu with rfl | rfl <;> rfl
structure AttrRow (w : World) (a : Option Addr) (len cap : Nat) (L : AL) : Prop where
  row : SRow encA 2 w a len cap L
  small : ∀ x ∈ L, x.1.size ≤ maxLen ∧ x.2.size ≤ maxLen
  hnil : a = none → cap = 0
theorem AttrRow.hlen {w : World} {a : Option Addr} {len cap : Nat} {L : AL} (h : AttrRow w a len cap L) : L.length = len := h.row.hlen
theorem AttrRow.below {w w' : World} {a : Option Addr} {len cap : Nat} {L : AL} (h : AttrRow w a len cap L) (hb : Below w.heap.size w w') : AttrRow w' a len cap L := ⟨h.row.below hb, h.small, h.hnil⟩
theorem AttrRow.drewN {w : World} {a : Option Addr} {len cap : Nat} {L : AL} (h : AttrRow w a len cap L) (n : Nat) : AttrRow (w.drewN n) a len cap L := ⟨h.row.drewN n, h.small, h.hnil⟩
theorem AttrRow.drew {w : World} {a : Option Addr} {len cap : Nat} {L : AL} (h : AttrRow w a len cap L) : AttrRow w.drew a len cap L := ⟨h.row.drew, h.small, h.hnil⟩
theorem AttrRow.get {w : World} {a : Option Addr} {len cap : Nat} {L : AL} (h : AttrRow w a len cap L) {k : Nat} (hk : k < len) :
    ∃ b off n v, a = some ⟨b, off, none⟩ ∧ b < w.heap.size ∧ L[k]? = some (n, v) ∧ w.cell? ⟨b, off + k * 2, none⟩ = some (.string n) ∧ w.cell? ⟨b, off + k * 2 + 1, none⟩ = some (.string v) ∧ n.size ≤ maxLen ∧ v.size ≤ maxLen := by
  obtain ⟨b, off, x, ha, hlt, hg, _, hc⟩ := h.row.get hk
  have hs := h.small _ (List.mem_of_getElem? hg)
  exact ⟨b, off, x.1, x.2, ha, hlt, hg, hc 0 _ rfl, hc 1 _ rfl, hs.1, hs.2⟩
theorem AttrRow.len64 {w : World} {a : Option Addr} {len cap : Nat} {L : AL} (h : AttrRow w a len cap L) : len ≤ 9223372036854775807 := h.row.len64
def keyIs (n : List UInt8) (x : ByteArray × ByteArray) : Bool := x.1.toList == n
def atN (L : AL) (n : List UInt8) : Nat := L.findIdx (keyIs n)
def atL (L : AL) (n : List UInt8) : Int := if atN L n < L.length then (atN L n : Int) else -1
theorem atN_step {L : AL} {n : List UInt8} {k : Nat} {x : ByteArray × ByteArray} (h : k ≤ atN L n) (hk : L[k]? = some x) (hx : keyIs n x = false) : k + 1 ≤ atN L n := by
  obtain ⟨hl, hg⟩ := List.getElem?_eq_some_iff.1 hk
  by_cases e : k = atN L n
  · have h1 : atN L n < L.length := by omega
    have h2 : keyIs n (L[atN L n]'h1) = true := List.findIdx_getElem (w := h1)
    have h3 : (L[atN L n]'h1) = x := by
      rw [← hg]; congr 1; exact e.symm
    rw [h3, hx] at h2
    cases h2
  · omega
theorem atN_here {L : AL} {n : List UInt8} {k : Nat} {x : ByteArray × ByteArray} (h : k ≤ atN L n) (hk : L[k]? = some x) (hx : keyIs n x = true) : atN L n = k := by
  obtain ⟨hl, hg⟩ := List.getElem?_eq_some_iff.1 hk
  by_cases e : k < atN L n
  · have := List.not_of_lt_findIdx e
    rw [hg, hx] at this
    cases this
  · omega
end Go.Proofs.Ytnjoimedilonnaa
namespace Go.Proofs.Ytnjoimedilonnaa
open Go.RowKit
def In64 (z : Int) : Prop := -9223372036854775808 ≤ z ∧ z ≤ 9223372036854775807
def encZ (z : Int) : List Value := [.int .i64 z]
theorem encZ_len (z : Int) : (encZ z).length = 1 := rfl
theorem encZ_one (z : Int) : ∀ u ∈ encZ z, u.oneCell' = true := by
  intro u hu
  simp [encZ] at hu
  rw [hu]
  rfl
structure IntRow (w : World) (a : Option Addr) (len cap : Nat) (L : List Int) : Prop where
  row : SRow encZ 1 w a len cap L
  inb : ∀ z ∈ L, In64 z
  hnil : a = none → cap = 0
section
variable {w w' : World} {a : Option Addr} {len cap : Nat} {L : List Int}
theorem IntRow.hlen (h : IntRow w a len cap L) : L.length = len := h.row.hlen
theorem IntRow.len64 (h : IntRow w a len cap L) : len ≤ 9223372036854775807 := h.row.len64
theorem IntRow.below (h : IntRow w a len cap L) (hb : Below w.heap.size w w') : IntRow w' a len cap L := ⟨h.row.below hb, h.inb, h.hnil⟩
theorem IntRow.drewN (h : IntRow w a len cap L) (n : Nat) : IntRow (w.drewN n) a len cap L := ⟨h.row.drewN n, h.inb, h.hnil⟩
theorem IntRow.get (h : IntRow w a len cap L) {k : Nat} (hk : k < len) : ∃ b off z, a = some ⟨b, off, none⟩ ∧ b < w.heap.size ∧ L[k]? = some z ∧ w.cell? ⟨b, off + k, none⟩ = some (.int .i64 z) ∧ In64 z := by
  obtain ⟨b, off, x, ha, hlt, hg, _, hc⟩ := h.row.get hk
  have h0 := hc 0 _ rfl
  rw [Nat.mul_one, Nat.add_zero] at h0
  exact ⟨b, off, x, ha, hlt, hg, h0, h.inb _ (List.mem_of_getElem? hg)⟩
end
structure Core where
  kind : Int
  name : ByteArray
  is : ByteArray
  data : ByteArray
  attrs : AL
  parent : Int
  kids : List Int
  host : Int
  under : Int
  doc : Int
deriving DecidableEq
structure NodeD where
  core : Core
  aA : Option Addr
  aN : Nat
  aC : Nat
  kA : Option Addr
  kN : Nat
  kC : Nat
def encN (x : NodeD) : List Value := [.int .i64 x.core.kind, .string x.core.name, .string x.core.is, .string x.core.data, .slice x.aA x.aN x.aC, .int .i64 x.core.parent, .slice x.kA x.kN x.kC, .int .i64 x.core.host, .int .i64 x.core.under, .int .i64 x.core.doc]
theorem encN_len (x : NodeD) : (encN x).length = 10 := rfl
theorem encN_one (x : NodeD) : ∀ u ∈ encN x, u.oneCell' = true := by
  intro u hu
  simp [encN] at hu
  rcases hu with rfl | rfl | rfl | rfl | rfl | rfl | rfl | rfl | rfl | rfl <;> rfl
structure NodeOk (w : World) (x : NodeD) : Prop where
  attrs : AttrRow w x.aA x.aN x.aC x.core.attrs
  kids : IntRow w x.kA x.kN x.kC x.core.kids
  name : x.core.name.size ≤ maxLen
  is : x.core.is.size ≤ maxLen
  data : x.core.data.size ≤ maxLen
  kind : In64 x.core.kind
  parent : In64 x.core.parent
  host : In64 x.core.host
  under : In64 x.core.under
  doc : In64 x.core.doc
theorem NodeOk.below {w w' : World} {x : NodeD} (h : NodeOk w x) (hb : Below w.heap.size w w') : NodeOk w' x := ⟨h.attrs.below hb, h.kids.below hb, h.name, h.is, h.data, h.kind, h.parent, h.host, h.under, h.doc⟩
theorem NodeOk.drewN {w : World} {x : NodeD} (h : NodeOk w x) (n : Nat) : NodeOk (w.drewN n) x := ⟨h.attrs.drewN n, h.kids.drewN n, h.name, h.is, h.data, h.kind, h.parent, h.host, h.under, h.doc⟩
structure NodeRow (w : World) (a : Option Addr) (len cap : Nat) (L : List NodeD) : Prop where
  row : SRow encN 10 w a len cap L
  ok : ∀ x ∈ L, NodeOk w x
  hnil : a = none → cap = 0
section
variable {w w' : World} {a : Option Addr} {len cap : Nat} {L : List NodeD}
theorem NodeRow.hlen (h : NodeRow w a len cap L) : L.length = len := h.row.hlen
theorem NodeRow.len64 (h : NodeRow w a len cap L) : len ≤ 9223372036854775807 := h.row.len64
theorem NodeRow.below (h : NodeRow w a len cap L) (hb : Below w.heap.size w w') : NodeRow w' a len cap L := ⟨h.row.below hb, fun x hx => (h.ok x hx).below hb, h.hnil⟩
theorem NodeRow.drewN (h : NodeRow w a len cap L) (n : Nat) : NodeRow (w.drewN n) a len cap L := ⟨h.row.drewN n, fun x hx => (h.ok x hx).drewN n, h.hnil⟩
structure NodeAt (w : World) (b o : Nat) (x : NodeD) : Prop where
  c0 : w.cell? ⟨b, o, none⟩ = some (.int .i64 x.core.kind)
  c1 : w.cell? ⟨b, o + 1, none⟩ = some (.string x.core.name)
  c2 : w.cell? ⟨b, o + 2, none⟩ = some (.string x.core.is)
  c3 : w.cell? ⟨b, o + 3, none⟩ = some (.string x.core.data)
  c4 : w.cell? ⟨b, o + 4, none⟩ = some (.slice x.aA x.aN x.aC)
  c5 : w.cell? ⟨b, o + 5, none⟩ = some (.int .i64 x.core.parent)
  c6 : w.cell? ⟨b, o + 6, none⟩ = some (.slice x.kA x.kN x.kC)
  c7 : w.cell? ⟨b, o + 7, none⟩ = some (.int .i64 x.core.host)
  c8 : w.cell? ⟨b, o + 8, none⟩ = some (.int .i64 x.core.under)
  c9 : w.cell? ⟨b, o + 9, none⟩ = some (.int .i64 x.core.doc)
theorem NodeAt.below {b o : Nat} {x : NodeD} (h : NodeAt w b o x) (hlt : b < w.heap.size) (hb : Below w.heap.size w w') : NodeAt w' b o x := by
  have e : ∀ o', w'.cell? ⟨b, o', none⟩ = w.cell? ⟨b, o', none⟩ := fun o' => hb.cell (p := ⟨b, o', none⟩) hlt
  exact ⟨(e _).trans h.c0, (e _).trans h.c1, (e _).trans h.c2, (e _).trans h.c3, (e _).trans h.c4, (e _).trans h.c5, (e _).trans h.c6, (e _).trans h.c7, (e _).trans h.c8, (e _).trans h.c9⟩
theorem NodeRow.get (h : NodeRow w a len cap L) {k : Nat} (hk : k < len) : ∃ b off x, a = some ⟨b, off, none⟩ ∧ b < w.heap.size ∧ L[k]? = some x ∧ NodeAt w b (off + k * 10) x ∧ NodeOk w x := by
  obtain ⟨b, off, x, ha, hlt, hg, _, hc⟩ := h.row.get hk
  have h0 := hc 0 _ rfl
  rw [Nat.add_zero] at h0
  exact ⟨b, off, x, ha, hlt, hg, ⟨h0, hc 1 _ rfl, hc 2 _ rfl, hc 3 _ rfl, hc 4 _ rfl, hc 5 _ rfl, hc 6 _ rfl, hc 7 _ rfl, hc 8 _ rfl, hc 9 _ rfl⟩, h.ok _ (List.mem_of_getElem? hg)⟩
end
def coreL (L : List NodeD) : List Core := L.map (·.core)
end Go.Proofs.Ytnjoimedilonnaa
namespace Go.Proofs.Ytnjoimedilonnaa
open Go.RowKit
def okAt (L : AL) (k : Nat) (x : ByteArray × ByteArray) : Bool := rightL x.1.toList && (smallL x.1.toList == x.1.toList) && decide (x.2.size ≤ 200) && decide (atN L x.1.toList = k)
def rightA (L : AL) : Bool := decide (L.length ≤ 40) && L.zipIdx.all (fun p => okAt L p.2 p.1)
theorem rightA_iff (L : AL) : rightA L = true ↔ L.length ≤ 40 ∧ ∀ (k : Nat) x, L[k]? = some x → okAt L k x = true := by
  unfold rightA
  rw [Bool.and_eq_true, decide_eq_true_eq, List.all_eq_true]
  constructor
  · rintro ⟨h1, h2⟩
    refine ⟨h1, fun k x hx => ?_⟩
    exact h2 (x, k) (List.mk_mem_zipIdx_iff_getElem?.2 hx)
  · rintro ⟨h1, h2⟩
    refine ⟨h1, fun p hp => ?_⟩
    exact h2 p.2 p.1 (List.mk_mem_zipIdx_iff_getElem?.1 hp)
theorem rightA_stop {L : AL} {k : Nat} {x : ByteArray × ByteArray} (hx : L[k]? = some x) (h : okAt L k x = false) : rightA L = false := by
  by_cases hr : rightA L = true
  · have := ((rightA_iff L).1 hr).2 k x hx
    rw [h] at this; cases this
  · simpa using hr
theorem rightA_long {L : AL} (h : 40 < L.length) : rightA L = false := by
  unfold rightA
  rw [decide_eq_false (by omega)]
  rfl
end Go.Proofs.Ytnjoimedilonnaa
namespace Go.Proofs.Ytnjoimedilonnaa
open Go.RowKit
structure Ext (w : World) where
  v : World
  below : Below w.heap.size w v
instance extNonempty (w : World) : Nonempty (Ext w) := ⟨⟨w, Below.refl _ _⟩⟩
theorem Ext.cell {w : World} {p : Addr} {v : Option Value} (h : w.cell? p = v) (hp : p.block < w.heap.size) : ∀ x : Ext w, x.v.cell? p = v := fun x => (x.below.cell hp).trans h
theorem Ext.call_same {P : Program} {f : FuncId} {args : Array Value} {w : World} {x : Ext w} {v : Value}
    (h : Calls P f args x.v fun e w' => e = .returned v ∧ x.v = w') : Calls P f args x.v fun e w'' => e = .returned v ∧ ∃ y : Ext w, w'' = y.v :=
  h.mono fun _ _ ⟨he, hm⟩ => ⟨he, x, hm.symm⟩
theorem wp_region_ext {P : Program} {id : Nat} {Q : Exit → Act → World → Prop} {a : Act} {w : World} {l : List Oper} (hm : P.follows .mixedOrders = true) (hB : Region.lexB .any l.toArray = true)
    (h : wpQuiet P l.toArray (fun w' => ∃ x : Ext w, w' = x.v) (fun a' => ∀ w', (∃ x : Ext w, w' = x.v) → Q .normal a' w') l a) : (Code.region id l.toArray true).wp P Q a w :=
  wp_region_quiet (C := fun w' => ∃ x : Ext w, w' = x.v) hm hB ⟨⟨_, (Below.refl _ _).drew⟩, rfl⟩ (by simpa using h)
end Go.Proofs.Ytnjoimedilonnaa
namespace Go.Proofs.Ytnjoimedilonnaa
open Go.RowKit
def RightAt (l : List UInt8) (k : Nat) : Prop := (l.take k).all signB = true ∧ (0 < k → headB (l.headD 0) = true)
theorem RightAt.start (l : List UInt8) : RightAt l 0 := ⟨rfl, fun h => absurd h (by omega)⟩
theorem RightAt.next {l : List UInt8} {k : Nat} {c : UInt8} (h : RightAt l k) (hc : l[k]? = some c) (hk : k = 0 ∧ headB c = true ∨ 0 < k ∧ signB c = true) : RightAt l (k + 1) := by
  rcases hk with ⟨rfl, hk⟩ | ⟨hk, hs⟩
  · refine ⟨(all_take_succ l 0 c hc rfl).trans (sign_of_head c hk), fun _ => ?_⟩
    cases l with
    | nil => simp at hc
    | cons b r => simp at hc; subst hc; exact hk
  · exact ⟨(all_take_succ l k c hc h.1).trans hs, fun _ => h.2 hk⟩
theorem RightAt.stop {l : List UInt8} {k : Nat} {c : UInt8} (hc : l[k]? = some c) (hk : k = 0 ∧ headB c = false ∨ 0 < k ∧ signB c = false) : rightL l = false := by
  rcases hk with ⟨rfl, hk⟩ | ⟨_, hs⟩
  · exact rightL_head l c hc hk
  · exact rightL_stop l k c hc hs
end Go.Proofs.Ytnjoimedilonnaa
namespace Go.Proofs.Ytnjoimedilonnaa
open Go.RowKit
end Go.Proofs.Ytnjoimedilonnaa
namespace Go.Proofs.Ytnjoimedilonnaa
open Go.RowKit
structure LRow {α : Type} (enc : α → List Value) (size : Nat) (ok : α → Prop) (w : World) (a : Option Addr) (len cap : Nat) (L : List α) : Prop where
  row : SRow enc size w a len cap L
  ok : ∀ x ∈ L, ok x
  hnil : a = none → cap = 0
section
variable {α : Type} {enc : α → List Value} {size : Nat} {ok : α → Prop} {w w' : World} {a : Option Addr} {len cap : Nat} {L : List α}
theorem LRow.hlen (h : LRow enc size ok w a len cap L) : L.length = len := h.row.hlen
theorem LRow.len64 (h : LRow enc size ok w a len cap L) : len ≤ 9223372036854775807 := h.row.len64
theorem LRow.below (h : LRow enc size ok w a len cap L) (hb : Below w.heap.size w w') : LRow enc size ok w' a len cap L := ⟨h.row.below hb, h.ok, h.hnil⟩
theorem LRow.drewN (h : LRow enc size ok w a len cap L) (n : Nat) : LRow enc size ok (w.drewN n) a len cap L := ⟨h.row.drewN n, h.ok, h.hnil⟩
theorem LRow.drew (h : LRow enc size ok w a len cap L) : LRow enc size ok w.drew a len cap L := ⟨h.row.drew, h.ok, h.hnil⟩
theorem LRow.nil : LRow enc size ok w none 0 0 ([] : List α) := ⟨SRow.nil, fun x hx => (by cases hx), fun _ => rfl⟩
end
theorem LRow.int {w : World} {a : Option Addr} {len cap : Nat} {L : List Int} (h : LRow encZ 1 In64 w a len cap L) : IntRow w a len cap L := ⟨h.row, h.ok, h.hnil⟩
structure SHd (α : Type) where
  a : Option Addr
  n : Nat
  c : Nat
  l : List α
def encH {α : Type} (x : SHd α) : List Value := [.slice x.a x.n x.c]
theorem encH_len {α : Type} (x : SHd α) : (encH x).length = 1 := rfl
structure HRow {α : Type} (enc : α → List Value) (size : Nat) (ok : α → Prop) (w : World) (a : Option Addr) (len cap : Nat) (T : List (SHd α)) : Prop where
  row : SRow encH 1 w a len cap T
  each : ∀ x ∈ T, LRow enc size ok w x.a x.n x.c x.l
  hnil : a = none → cap = 0
section
variable {α : Type} {enc : α → List Value} {size : Nat} {ok : α → Prop} {w w' : World} {a : Option Addr} {len cap : Nat} {T : List (SHd α)}
theorem HRow.hlen (h : HRow enc size ok w a len cap T) : T.length = len := h.row.hlen
theorem HRow.len64 (h : HRow enc size ok w a len cap T) : len ≤ 9223372036854775807 := h.row.len64
theorem HRow.below (h : HRow enc size ok w a len cap T) (hb : Below w.heap.size w w') : HRow enc size ok w' a len cap T := ⟨h.row.below hb, fun x hx => (h.each x hx).below hb, h.hnil⟩
theorem HRow.drewN (h : HRow enc size ok w a len cap T) (n : Nat) : HRow enc size ok (w.drewN n) a len cap T := ⟨h.row.drewN n, fun x hx => (h.each x hx).drewN n, h.hnil⟩
theorem HRow.drew (h : HRow enc size ok w a len cap T) : HRow enc size ok w.drew a len cap T := ⟨h.row.drew, fun x hx => (h.each x hx).drew, h.hnil⟩
theorem HRow.nil : HRow enc size ok w none 0 0 ([] : List (SHd α)) := ⟨SRow.nil, fun x hx => (by cases hx), fun _ => rfl⟩
theorem HRow.get (h : HRow enc size ok w a len cap T) {k : Nat} (hk : k < len) : ∃ b off x, a = some ⟨b, off, none⟩ ∧ b < w.heap.size ∧ T[k]? = some x ∧ w.cell? ⟨b, off + k, none⟩ = some (.slice x.a x.n x.c) ∧ LRow enc size ok w x.a x.n x.c x.l := by
  obtain ⟨b, off, x, ha, hlt, hg, _, hc⟩ := h.row.get hk
  have h0 := hc 0 _ rfl
  rw [Nat.mul_one, Nat.add_zero] at h0
  exact ⟨b, off, x, ha, hlt, hg, h0, h.each _ (List.mem_of_getElem? hg)⟩
end
end Go.Proofs.Ytnjoimedilonnaa
