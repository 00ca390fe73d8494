/- Texts joined in build order: NameFacts AttrPure ForestRow. -/
import Derived.Test.YtioeagadhnnajaaA01
import Derived.Test.YtioeagadhnnajaaA02
import Derived.WalkKit
import Derived.Below
import Derived.WalkSmall
/- Plain facts on the lists of NamePure: small forms, known and custom names, kinds. -/
namespace Go.Proofs.Ytioeagadhnnajaa
theorem smallB_nat (c : UInt8) : ((smallB c).toNat : Int) = if capI (c.toNat : Int) then (c.toNat : Int) + 32 else (c.toNat : Int) := by
  unfold smallB
  by_cases h : capI (c.toNat : Int) = true
  · have hb := of_decide_eq_true h
    rw [if_pos h, if_pos h, UInt8.toNat_add]
    have : (32 : UInt8).toNat = 32 := rfl
    rw [this]
    omega
  · rw [if_neg h, if_neg h]
theorem sign_small (c : UInt8) : signB (smallB c) = signB c := by
  unfold signB
  rw [smallB_nat, Bool.eq_iff_iff]
  by_cases h : capI (c.toNat : Int) = true
  · rw [if_pos h]
    have hb := of_decide_eq_true h
    unfold signI alphI lowI capI digI; simp; omega
  · rw [if_neg h]
theorem head_small (c : UInt8) : headB (smallB c) = headB c := by
  unfold headB
  rw [smallB_nat, Bool.eq_iff_iff]
  by_cases h : capI (c.toNat : Int) = true
  · rw [if_pos h]
    have hb := of_decide_eq_true h
    unfold headI alphI lowI capI; simp; omega
  · rw [if_neg h]
theorem cap_small (c : UInt8) : capI ((smallB c).toNat : Int) = false := by
  rw [smallB_nat]
  by_cases h : capI (c.toNat : Int) = true
  · rw [if_pos h]
    have hb := of_decide_eq_true h
    unfold capI; simp; omega
  · rw [if_neg h]; simpa using h
theorem smallB_twice (c : UInt8) : smallB (smallB c) = smallB c := by
  have := cap_small c
  unfold smallB at *
  rw [if_neg (by rw [this]; decide)]
theorem smallL_twice (l : List UInt8) : smallL (smallL l) = smallL l := by
  unfold smallL
  rw [List.map_map]
  exact List.map_congr_left fun c _ => smallB_twice c
theorem smallL_length (l : List UInt8) : (smallL l).length = l.length := by simp [smallL]
theorem smallL_append (l m : List UInt8) : smallL (l ++ m) = smallL l ++ smallL m := by simp [smallL]
theorem all_small : ∀ l : List UInt8, (smallL l).all signB = l.all signB
  | [] => rfl
  | c :: l => by
    show (signB (smallB c) && (smallL l).all signB) = (signB c && l.all signB)
    rw [sign_small, all_small l]
theorem headD_small (l : List UInt8) : headB ((smallL l).headD 0) = headB (l.headD 0) := by
  cases l with
  | nil => rfl
  | cons c l => exact head_small c
theorem right_small (l : List UInt8) : rightL (smallL l) = rightL l := by
  unfold rightL
  rw [all_small, headD_small, smallL_length]
theorem of_known {l : List UInt8} {p : List UInt8 → Bool} (h : knownL l = true) (hp : ([[97], [98], [98, 117, 116, 116, 111, 110], [100, 105, 118], [102, 105, 101, 108, 100, 115, 101, 116], [102, 111, 114, 109], [105], [105, 110, 112, 117, 116], [108, 97, 98, 101, 108], [108, 101, 103, 101, 110, 100], [108, 105], [111, 112, 116, 105, 111, 110], [111, 117, 116, 112, 117, 116], [112], [115, 101, 108, 101, 99, 116], [115, 112, 97, 110], [116, 101, 109, 112, 108, 97, 116, 101], [116, 101, 120, 116, 97, 114, 101, 97], [117, 108]] : List (List UInt8)).all p = true) : p l = true :=
  List.all_eq_true.1 hp l (List.contains_iff_mem.1 h)
theorem of_reserved {l : List UInt8} {p : List UInt8 → Bool} (h : reservedL l = true) (hp : ([[97, 110, 110, 111, 116, 97, 116, 105, 111, 110, 45, 120, 109, 108], [99, 111, 108, 111, 114, 45, 112, 114, 111, 102, 105, 108, 101], [102, 111, 110, 116, 45, 102, 97, 99, 101], [102, 111, 110, 116, 45, 102, 97, 99, 101, 45, 115, 114, 99], [102, 111, 110, 116, 45, 102, 97, 99, 101, 45, 117, 114, 105], [102, 111, 110, 116, 45, 102, 97, 99, 101, 45, 102, 111, 114, 109, 97, 116], [102, 111, 110, 116, 45, 102, 97, 99, 101, 45, 110, 97, 109, 101], [109, 105, 115, 115, 105, 110, 103, 45, 103, 108, 121, 112, 104]] : List (List UInt8)).all p = true) : p l = true :=
  List.all_eq_true.1 hp l (List.contains_iff_mem.1 h)
theorem known_dash {l : List UInt8} (h : knownL l = true) : dashL l = false := by
  have := of_known (p := fun l => !dashL l) h (by decide)
  simpa using this
theorem known_small {l : List UInt8} (h : knownL l = true) : smallL l = l := by
  have := of_known (p := fun l => smallL l == l) h (by decide)
  simpa using this
theorem known_right {l : List UInt8} (h : knownL l = true) : rightL l = true := of_known (p := rightL) h (by decide)
theorem reserved_long {l : List UInt8} (h : reservedL l = true) : 9 ≤ l.length := by
  have := of_reserved (p := fun l => decide (9 ≤ l.length)) h (by decide)
  simpa using this
theorem custom_parts {l : List UInt8} (h : customL l = true) : rightL l = true ∧ smallL l = l ∧ lowI ((l.headD 0).toNat : Int) = true ∧ dashL l = true ∧ reservedL l = false := by
  unfold customL at h
  simpa [and_assoc] using h
theorem custom_known {l : List UInt8} (h : customL l = true) : knownL l = false := by
  by_cases hk : knownL l = true
  · have h1 := known_dash hk
    rw [(custom_parts h).2.2.2.1] at h1
    cases h1
  · simpa using hk
theorem kind_none {l : List UInt8} (h : rightL l = false) : kindL l = 0 := by unfold kindL; rw [if_neg (by rw [h]; decide)]
theorem kind_custom {l : List UInt8} (h : customL l = true) : kindL l = 1 := by unfold kindL; rw [if_pos (custom_parts h).1, if_pos h]
theorem kind_known {l : List UInt8} (h : knownL l = true) : kindL l = 2 := by
  have hc : customL l = false := by
    by_cases hc : customL l = true
    · rw [custom_known hc] at h; cases h
    · simpa using hc
  unfold kindL
  rw [if_pos (known_right h), if_neg (by rw [hc]; decide), if_pos h]
theorem kind_other {l : List UInt8} (h : rightL l = true) (hc : customL l = false) (hk : knownL l = false) : kindL l = 3 := by
  unfold kindL
  rw [if_pos h, if_neg (by rw [hc]; decide), if_neg (by rw [hk]; decide)]
end Go.Proofs.Ytioeagadhnnajaa
/- Lists of attributes as data: what package attr computes, said over lists of pairs of byte arrays. -/
namespace Go.Proofs.Ytioeagadhnnajaa
open Go.RowKit
abbrev AL := List (ByteArray × ByteArray)
/-- An attribute's two cells. -/
def encA (x : ByteArray × ByteArray) : List Value := [.string x.1, .string x.2]
theorem encA_len (x : ByteArray × ByteArray) : (encA x).length = 2 := rfl
theorem encA_one (x : ByteArray × ByteArray) : ∀ u ∈ encA x, u.oneCell' = true := by
  intro u hu
  simp [encA] at hu
  rcases hu with rfl | rfl <;> rfl
/-- What lies behind a slice of attributes. -/
structure AttrRow (w : World) (a : Option Addr) (len cap : Nat) (L : AL) : Prop where
  row : SRow encA 2 w a len cap L
  small : ∀ x ∈ L, x.1.size ≤ maxLen ∧ x.2.size ≤ maxLen
  hnil : a = none → cap = 0
theorem AttrRow.hlen {w : World} {a : Option Addr} {len cap : Nat} {L : AL} (h : AttrRow w a len cap L) : L.length = len := h.row.hlen
theorem AttrRow.below {w w' : World} {a : Option Addr} {len cap : Nat} {L : AL} (h : AttrRow w a len cap L) (hb : Below w.heap.size w w') : AttrRow w' a len cap L := ⟨h.row.below hb, h.small, h.hnil⟩
theorem AttrRow.drewN {w : World} {a : Option Addr} {len cap : Nat} {L : AL} (h : AttrRow w a len cap L) (n : Nat) : AttrRow (w.drewN n) a len cap L := ⟨h.row.drewN n, h.small, h.hnil⟩
theorem AttrRow.drew {w : World} {a : Option Addr} {len cap : Nat} {L : AL} (h : AttrRow w a len cap L) : AttrRow w.drew a len cap L := ⟨h.row.drew, h.small, h.hnil⟩
/-- One element of the row. -/
theorem AttrRow.get {w : World} {a : Option Addr} {len cap : Nat} {L : AL} (h : AttrRow w a len cap L) {k : Nat} (hk : k < len) :
    ∃ b off n v, a = some ⟨b, off, none⟩ ∧ b < w.heap.size ∧ L[k]? = some (n, v) ∧ w.cell? ⟨b, off + k * 2, none⟩ = some (.string n) ∧ w.cell? ⟨b, off + k * 2 + 1, none⟩ = some (.string v) ∧ n.size ≤ maxLen ∧ v.size ≤ maxLen := by
  obtain ⟨b, off, x, ha, hlt, hg, _, hc⟩ := h.row.get hk
  have hs := h.small _ (List.mem_of_getElem? hg)
  exact ⟨b, off, x.1, x.2, ha, hlt, hg, hc 0 _ rfl, hc 1 _ rfl, hs.1, hs.2⟩
theorem AttrRow.len64 {w : World} {a : Option Addr} {len cap : Nat} {L : AL} (h : AttrRow w a len cap L) : len ≤ 9223372036854775807 := h.row.len64
def keyIs (n : List UInt8) (x : ByteArray × ByteArray) : Bool := x.1.toList == n
/-- The place of a name; the length: it isn't there. -/
def atN (L : AL) (n : List UInt8) : Nat := L.findIdx (keyIs n)
def atL (L : AL) (n : List UInt8) : Int := if atN L n < L.length then (atN L n : Int) else -1
theorem atN_le (L : AL) (n : List UInt8) : atN L n ≤ L.length := List.findIdx_le_length
theorem atN_step {L : AL} {n : List UInt8} {k : Nat} {x : ByteArray × ByteArray} (h : k ≤ atN L n) (hk : L[k]? = some x) (hx : keyIs n x = false) : k + 1 ≤ atN L n := by
  obtain ⟨hl, hg⟩ := List.getElem?_eq_some_iff.1 hk
  by_cases e : k = atN L n
  · have h1 : atN L n < L.length := by omega
    have h2 : keyIs n (L[atN L n]'h1) = true := List.findIdx_getElem (w := h1)
    have h3 : (L[atN L n]'h1) = x := by
      rw [← hg]; congr 1; exact e.symm
    rw [h3, hx] at h2
    cases h2
  · omega
theorem atN_here {L : AL} {n : List UInt8} {k : Nat} {x : ByteArray × ByteArray} (h : k ≤ atN L n) (hk : L[k]? = some x) (hx : keyIs n x = true) : atN L n = k := by
  obtain ⟨hl, hg⟩ := List.getElem?_eq_some_iff.1 hk
  by_cases e : k < atN L n
  · have := List.not_of_lt_findIdx e
    rw [hg, hx] at this
    cases this
  · omega
theorem atL_here {L : AL} {n : List UInt8} {k : Nat} {x : ByteArray × ByteArray} (h : k ≤ atN L n) (hk : L[k]? = some x) (hx : keyIs n x = true) : atL L n = (k : Int) := by
  have := atN_here h hk hx
  obtain ⟨hl, hg⟩ := List.getElem?_eq_some_iff.1 hk
  unfold atL
  rw [this, if_pos hl]
theorem atL_none {L : AL} {n : List UInt8} {k : Nat} (h : k ≤ atN L n) (hk : L.length ≤ k) : atL L n = -1 := by
  unfold atL
  rw [if_neg (by omega)]
def pairB (x y : ByteArray × ByteArray) : Bool := (x.1.toList == y.1.toList) && (x.2.toList == y.2.toList)
theorem pairB_eq {x y : ByteArray × ByteArray} : pairB x y = true ↔ x = y := by
  unfold pairB
  constructor
  · intro h
    simp at h
    exact Prod.ext (toList_inj h.1) (toList_inj h.2)
  · rintro rfl; simp
end Go.Proofs.Ytioeagadhnnajaa
/- Forests as data, and what lies behind them in memory. -/
namespace Go.Proofs.Ytioeagadhnnajaa
open Go.RowKit
/-- A number of the machine. -/
def In64 (z : Int) : Prop := -9223372036854775808 ≤ z ∧ z ≤ 9223372036854775807
def encZ (z : Int) : List Value := [.int .i64 z]
theorem encZ_len (z : Int) : (encZ z).length = 1 := rfl
theorem encZ_one (z : Int) : ∀ u ∈ encZ z, u.oneCell' = true := by
  intro u hu
  simp [encZ] at hu
  rw [hu]
  rfl
/-- What lies behind a slice of numbers. -/
structure IntRow (w : World) (a : Option Addr) (len cap : Nat) (L : List Int) : Prop where
  row : SRow encZ 1 w a len cap L
  inb : ∀ z ∈ L, In64 z
  hnil : a = none → cap = 0
section
variable {w w' : World} {a : Option Addr} {len cap : Nat} {L : List Int}
theorem IntRow.hlen (h : IntRow w a len cap L) : L.length = len := h.row.hlen
theorem IntRow.len64 (h : IntRow w a len cap L) : len ≤ 9223372036854775807 := h.row.len64
theorem IntRow.below (h : IntRow w a len cap L) (hb : Below w.heap.size w w') : IntRow w' a len cap L := ⟨h.row.below hb, h.inb, h.hnil⟩
theorem IntRow.drewN (h : IntRow w a len cap L) (n : Nat) : IntRow (w.drewN n) a len cap L := ⟨h.row.drewN n, h.inb, h.hnil⟩
theorem IntRow.get (h : IntRow w a len cap L) {k : Nat} (hk : k < len) : ∃ b off z, a = some ⟨b, off, none⟩ ∧ b < w.heap.size ∧ L[k]? = some z ∧ w.cell? ⟨b, off + k, none⟩ = some (.int .i64 z) ∧ In64 z := by
  obtain ⟨b, off, x, ha, hlt, hg, _, hc⟩ := h.row.get hk
  have h0 := hc 0 _ rfl
  rw [Nat.mul_one, Nat.add_zero] at h0
  exact ⟨b, off, x, ha, hlt, hg, h0, h.inb _ (List.mem_of_getElem? hg)⟩
end
/-- A node, as data. -/
structure Core where
  kind : Int
  name : ByteArray
  is : ByteArray
  data : ByteArray
  attrs : AL
  parent : Int
  kids : List Int
  host : Int
  under : Int
  doc : Int
deriving DecidableEq
/-- A node in memory: its data, and the two slices' headers. -/
structure NodeD where
  core : Core
  aA : Option Addr
  aN : Nat
  aC : Nat
  kA : Option Addr
  kN : Nat
  kC : Nat
def encN (x : NodeD) : List Value := [.int .i64 x.core.kind, .string x.core.name, .string x.core.is, .string x.core.data, .slice x.aA x.aN x.aC, .int .i64 x.core.parent, .slice x.kA x.kN x.kC, .int .i64 x.core.host, .int .i64 x.core.under, .int .i64 x.core.doc]
theorem encN_len (x : NodeD) : (encN x).length = 10 := rfl
theorem encN_one (x : NodeD) : ∀ u ∈ encN x, u.oneCell' = true := by
  intro u hu
  simp [encN] at hu
  rcases hu with rfl | rfl | rfl | rfl | rfl | rfl | rfl | rfl | rfl | rfl <;> rfl
/-- What lies behind a node. -/
structure NodeOk (w : World) (x : NodeD) : Prop where
  attrs : AttrRow w x.aA x.aN x.aC x.core.attrs
  kids : IntRow w x.kA x.kN x.kC x.core.kids
  name : x.core.name.size ≤ maxLen
  is : x.core.is.size ≤ maxLen
  data : x.core.data.size ≤ maxLen
  kind : In64 x.core.kind
  parent : In64 x.core.parent
  host : In64 x.core.host
  under : In64 x.core.under
  doc : In64 x.core.doc
theorem NodeOk.below {w w' : World} {x : NodeD} (h : NodeOk w x) (hb : Below w.heap.size w w') : NodeOk w' x := ⟨h.attrs.below hb, h.kids.below hb, h.name, h.is, h.data, h.kind, h.parent, h.host, h.under, h.doc⟩
theorem NodeOk.drewN {w : World} {x : NodeD} (h : NodeOk w x) (n : Nat) : NodeOk (w.drewN n) x := ⟨h.attrs.drewN n, h.kids.drewN n, h.name, h.is, h.data, h.kind, h.parent, h.host, h.under, h.doc⟩
/-- What lies behind a slice of nodes. -/
structure NodeRow (w : World) (a : Option Addr) (len cap : Nat) (L : List NodeD) : Prop where
  row : SRow encN 10 w a len cap L
  ok : ∀ x ∈ L, NodeOk w x
  hnil : a = none → cap = 0
section
variable {w w' : World} {a : Option Addr} {len cap : Nat} {L : List NodeD}
theorem NodeRow.hlen (h : NodeRow w a len cap L) : L.length = len := h.row.hlen
theorem NodeRow.len64 (h : NodeRow w a len cap L) : len ≤ 9223372036854775807 := h.row.len64
theorem NodeRow.below (h : NodeRow w a len cap L) (hb : Below w.heap.size w w') : NodeRow w' a len cap L := ⟨h.row.below hb, fun x hx => (h.ok x hx).below hb, h.hnil⟩
theorem NodeRow.drewN (h : NodeRow w a len cap L) (n : Nat) : NodeRow (w.drewN n) a len cap L := ⟨h.row.drewN n, fun x hx => (h.ok x hx).drewN n, h.hnil⟩
/-- One node's ten cells. -/
structure NodeAt (w : World) (b o : Nat) (x : NodeD) : Prop where
  c0 : w.cell? ⟨b, o, none⟩ = some (.int .i64 x.core.kind)
  c1 : w.cell? ⟨b, o + 1, none⟩ = some (.string x.core.name)
  c2 : w.cell? ⟨b, o + 2, none⟩ = some (.string x.core.is)
  c3 : w.cell? ⟨b, o + 3, none⟩ = some (.string x.core.data)
  c4 : w.cell? ⟨b, o + 4, none⟩ = some (.slice x.aA x.aN x.aC)
  c5 : w.cell? ⟨b, o + 5, none⟩ = some (.int .i64 x.core.parent)
  c6 : w.cell? ⟨b, o + 6, none⟩ = some (.slice x.kA x.kN x.kC)
  c7 : w.cell? ⟨b, o + 7, none⟩ = some (.int .i64 x.core.host)
  c8 : w.cell? ⟨b, o + 8, none⟩ = some (.int .i64 x.core.under)
  c9 : w.cell? ⟨b, o + 9, none⟩ = some (.int .i64 x.core.doc)
theorem NodeAt.below {b o : Nat} {x : NodeD} (h : NodeAt w b o x) (hlt : b < w.heap.size) (hb : Below w.heap.size w w') : NodeAt w' b o x := by
  have e : ∀ o', w'.cell? ⟨b, o', none⟩ = w.cell? ⟨b, o', none⟩ := fun o' => hb.cell (p := ⟨b, o', none⟩) hlt
  exact ⟨(e _).trans h.c0, (e _).trans h.c1, (e _).trans h.c2, (e _).trans h.c3, (e _).trans h.c4, (e _).trans h.c5, (e _).trans h.c6, (e _).trans h.c7, (e _).trans h.c8, (e _).trans h.c9⟩
theorem NodeRow.get (h : NodeRow w a len cap L) {k : Nat} (hk : k < len) : ∃ b off x, a = some ⟨b, off, none⟩ ∧ b < w.heap.size ∧ L[k]? = some x ∧ NodeAt w b (off + k * 10) x ∧ NodeOk w x := by
  obtain ⟨b, off, x, ha, hlt, hg, _, hc⟩ := h.row.get hk
  have h0 := hc 0 _ rfl
  rw [Nat.add_zero] at h0
  exact ⟨b, off, x, ha, hlt, hg, ⟨h0, hc 1 _ rfl, hc 2 _ rfl, hc 3 _ rfl, hc 4 _ rfl, hc 5 _ rfl, hc 6 _ rfl, hc 7 _ rfl, hc 8 _ rfl, hc 9 _ rfl⟩, h.ok _ (List.mem_of_getElem? hg)⟩
end
/-- A forest as data: its nodes. -/
def coreL (L : List NodeD) : List Core := L.map (·.core)
end Go.Proofs.Ytioeagadhnnajaa
