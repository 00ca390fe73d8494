/- Lists of attributes as data: what package attr computes, said over lists of pairs of byte arrays. -/
import Derived.Test.YtadlmjiebhpaoaaNameFacts
import Derived.Test.YtadlmjiebhpaoaaText0
import Derived.Test.YtadlmjiebhpaoaaSRows
import Derived.WalkKit
import Derived.Below
import Derived.WalkSmall
namespace Go.Proofs.Ytadlmjiebhpaoaa
open Go.RowKit
abbrev AL := List (ByteArray × ByteArray)
/-- An attribute's two cells. -/
def encA (x : ByteArray × ByteArray) : List Value := [.string x.1, .string x.2]
theorem encA_len (x : ByteArray × ByteArray) : (encA x).length = 2 := rfl
theorem encA_one (x : ByteArray × ByteArray) : ∀ u ∈ encA x, u.oneCell' = true := by
  intro u hu
  simp [encA] at hu
  rcases hu with rfl | rfl <;> rfl
/-- What lies behind a slice of attributes. -/
structure AttrRow (w : World) (a : Option Addr) (len cap : Nat) (L : AL) : Prop where
  row : SRow encA 2 w a len cap L
  small : ∀ x ∈ L, x.1.size ≤ maxLen ∧ x.2.size ≤ maxLen
  hnil : a = none → cap = 0
theorem AttrRow.hlen {w : World} {a : Option Addr} {len cap : Nat} {L : AL} (h : AttrRow w a len cap L) : L.length = len := h.row.hlen
theorem AttrRow.below {w w' : World} {a : Option Addr} {len cap : Nat} {L : AL} (h : AttrRow w a len cap L) (hb : Below w.heap.size w w') : AttrRow w' a len cap L := ⟨h.row.below hb, h.small, h.hnil⟩
theorem AttrRow.drewN {w : World} {a : Option Addr} {len cap : Nat} {L : AL} (h : AttrRow w a len cap L) (n : Nat) : AttrRow (w.drewN n) a len cap L := ⟨h.row.drewN n, h.small, h.hnil⟩
theorem AttrRow.drew {w : World} {a : Option Addr} {len cap : Nat} {L : AL} (h : AttrRow w a len cap L) : AttrRow w.drew a len cap L := ⟨h.row.drew, h.small, h.hnil⟩
/-- One element of the row. -/
theorem AttrRow.get {w : World} {a : Option Addr} {len cap : Nat} {L : AL} (h : AttrRow w a len cap L) {k : Nat} (hk : k < len) :
    ∃ b off n v, a = some ⟨b, off, none⟩ ∧ b < w.heap.size ∧ L[k]? = some (n, v) ∧ w.cell? ⟨b, off + k * 2, none⟩ = some (.string n) ∧ w.cell? ⟨b, off + k * 2 + 1, none⟩ = some (.string v) ∧ n.size ≤ maxLen ∧ v.size ≤ maxLen := by
  obtain ⟨b, off, x, ha, hlt, hg, _, hc⟩ := h.row.get hk
  have hs := h.small _ (List.mem_of_getElem? hg)
  exact ⟨b, off, x.1, x.2, ha, hlt, hg, hc 0 _ rfl, hc 1 _ rfl, hs.1, hs.2⟩
theorem AttrRow.len64 {w : World} {a : Option Addr} {len cap : Nat} {L : AL} (h : AttrRow w a len cap L) : len ≤ 9223372036854775807 := h.row.len64
def keyIs (n : List UInt8) (x : ByteArray × ByteArray) : Bool := x.1.toList == n
/-- The place of a name; the length: it isn't there. -/
def atN (L : AL) (n : List UInt8) : Nat := L.findIdx (keyIs n)
def atL (L : AL) (n : List UInt8) : Int := if atN L n < L.length then (atN L n : Int) else -1
theorem atN_le (L : AL) (n : List UInt8) : atN L n ≤ L.length := List.findIdx_le_length
theorem atN_step {L : AL} {n : List UInt8} {k : Nat} {x : ByteArray × ByteArray} (h : k ≤ atN L n) (hk : L[k]? = some x) (hx : keyIs n x = false) : k + 1 ≤ atN L n := by
  obtain ⟨hl, hg⟩ := List.getElem?_eq_some_iff.1 hk
  by_cases e : k = atN L n
  · have h1 : atN L n < L.length := by omega
    have h2 : keyIs n (L[atN L n]'h1) = true := List.findIdx_getElem (w := h1)
    have h3 : (L[atN L n]'h1) = x := by
      rw [← hg]; congr 1; exact e.symm
    rw [h3, hx] at h2
    cases h2
  · omega
theorem atN_here {L : AL} {n : List UInt8} {k : Nat} {x : ByteArray × ByteArray} (h : k ≤ atN L n) (hk : L[k]? = some x) (hx : keyIs n x = true) : atN L n = k := by
  obtain ⟨hl, hg⟩ := List.getElem?_eq_some_iff.1 hk
  by_cases e : k < atN L n
  · have := List.not_of_lt_findIdx e
    rw [hg, hx] at this
    cases this
  · omega
theorem atL_here {L : AL} {n : List UInt8} {k : Nat} {x : ByteArray × ByteArray} (h : k ≤ atN L n) (hk : L[k]? = some x) (hx : keyIs n x = true) : atL L n = (k : Int) := by
  have := atN_here h hk hx
  obtain ⟨hl, hg⟩ := List.getElem?_eq_some_iff.1 hk
  unfold atL
  rw [this, if_pos hl]
theorem atL_none {L : AL} {n : List UInt8} {k : Nat} (h : k ≤ atN L n) (hk : L.length ≤ k) : atL L n = -1 := by
  unfold atL
  rw [if_neg (by omega)]
def pairB (x y : ByteArray × ByteArray) : Bool := (x.1.toList == y.1.toList) && (x.2.toList == y.2.toList)
theorem pairB_eq {x y : ByteArray × ByteArray} : pairB x y = true ↔ x = y := by
  unfold pairB
  constructor
  · intro h
    simp at h
    exact Prod.ext (toList_inj h.1) (toList_inj h.2)
  · rintro rfl; simp
end Go.Proofs.Ytadlmjiebhpaoaa
