/- What is got of a list of attributes, and what is set, removed, toggled: said over lists. -/
import Derived.Test.YtmofeddldcifbaaAttrRight
namespace Go.Proofs.Ytmofeddldcifbaa
open Go.RowKit
/-- The place of the name's small form. -/
def placeA (L : AL) (n : List UInt8) : Nat := atN L (smallL n)
def hasA (L : AL) (n : List UInt8) : Bool := rightA L && rightL n && decide (placeA L n < L.length)
def valA (L : AL) (n : List UInt8) : ByteArray := if hasA L n then (L[placeA L n]?.getD default).2 else ofL []
def longA (L : AL) (n : List UInt8) (v : ByteArray) : Bool := decide (200 < v.size) || (decide (L.length ≤ placeA L n) && decide (40 ≤ L.length))
def setL (L : AL) (n : List UInt8) (v : ByteArray) : AL := if placeA L n < L.length then L.set (placeA L n) (ofL (smallL n), v) else L ++ [(ofL (smallL n), v)]
def setE (L : AL) (n : List UInt8) (v : ByteArray) : Int := if rightA L then (if rightL n then (if longA L n v then 3 else 0) else 4) else 1
def setA (L : AL) (n : List UInt8) (v : ByteArray) : AL := if setE L n v = 0 then setL L n v else L
def remA (L : AL) (n : List UInt8) : AL := if hasA L n then L.filter (fun x => !keyIs (smallL n) x) else L
theorem place_key {L : AL} {n : List UInt8} (h : placeA L n < L.length) : ∃ x, L[placeA L n]? = some x ∧ x.1 = ofL (smallL n) := by
  have h2 : keyIs (smallL n) (L[placeA L n]'h) = true := List.findIdx_getElem (w := h)
  refine ⟨_, List.getElem?_eq_getElem h, toList_inj ?_⟩
  rw [toList_ofL]
  exact beq_iff_eq.1 h2
theorem atL_place {L : AL} {n : List UInt8} (h : placeA L n < L.length) : atL L (smallL n) = (placeA L n : Int) := by
  unfold placeA at *
  unfold atL
  rw [if_pos h]
theorem atL_noplace {L : AL} {n : List UInt8} (h : ¬ placeA L n < L.length) : atL L (smallL n) = -1 := by
  unfold placeA at h
  unfold atL
  rw [if_neg h]
end Go.Proofs.Ytmofeddldcifbaa
