/- What is asked of package attr's functions: their contracts, as one property. -/
import Derived.Test.YtmofeddldcifbaaAttrRem
namespace Go.Proofs.Ytmofeddldcifbaa
open Go.RowKit
/-- Is an attribute among those of a list, by name and value? -/
def pairIn (M : AL) (x : ByteArray × ByteArray) : Bool := match M[atN M x.1.toList]? with | some y => y.2.toList == x.2.toList | none => false
def alikeA (L M : AL) : Bool := rightA L && rightA M && decide (L.length = M.length) && L.all (pairIn M)
theorem setA_grow (L : AL) (n : List UInt8) (v : ByteArray) : (setA L n v).length ≤ L.length + 1 := by
  unfold setA
  by_cases h : setE L n v = 0
  · rw [if_pos h]
    unfold setL
    by_cases h2 : placeA L n < L.length
    · rw [if_pos h2, List.length_set]; omega
    · rw [if_neg h2, List.length_append]; simp
  · rw [if_neg h]; omega
structure AttrFns : Prop where
  right : ∀ (a : Option Addr) (len cap : Nat) (L : AL) (w : World), AttrRow w a len cap L →
    Calls Try.prog 18 #[.slice a len cap] w fun e w' => e = .returned (.bool (rightA L)) ∧ Below w.heap.size w w'
  get : ∀ (a : Option Addr) (len cap : Nat) (L : AL) (n : ByteArray) (w : World), AttrRow w a len cap L → n.size ≤ maxLen →
    Calls Try.prog 10 #[.slice a len cap, .string n] w fun e w' => e = .returned (.tuple #[.string (valA L n.toList), .bool (hasA L n.toList)]) ∧ Below w.heap.size w w'
  set : ∀ (a : Option Addr) (len cap : Nat) (L : AL) (n v : ByteArray) (w : World), AttrRow w a len cap L → n.size ≤ maxLen → v.size ≤ maxLen → L.length ≤ 1000 →
    Calls Try.prog 12 #[.slice a len cap, .string n, .string v] w (SetPost w (setA L n.toList v) (setE L n.toList v))
  remove : ∀ (a : Option Addr) (len cap : Nat) (L : AL) (n : ByteArray) (w : World), AttrRow w a len cap L → n.size ≤ maxLen → L.length ≤ 1000 →
    Calls Try.prog 14 #[.slice a len cap, .string n] w (RemPost w (remA L n.toList) (hasA L n.toList))
  toggle : ∀ (a : Option Addr) (len cap : Nat) (L : AL) (n : ByteArray) (f : Int) (w : World), AttrRow w a len cap L → n.size ≤ maxLen → L.length ≤ 1000 →
    Calls Try.prog 16 #[.slice a len cap, .string n, .int .i64 f] w (TogPost w (togA L n.toList f) (togB L n.toList f) (togE L n.toList f))
  alike : ∀ (a a' : Option Addr) (len cap len' cap' : Nat) (L M : AL) (w : World), AttrRow w a len cap L → AttrRow w a' len' cap' M →
    Calls Try.prog 22 #[.slice a len cap, .slice a' len' cap'] w fun e w' => e = .returned (.bool (alikeA L M)) ∧ Below w.heap.size w w'
end Go.Proofs.Ytmofeddldcifbaa
