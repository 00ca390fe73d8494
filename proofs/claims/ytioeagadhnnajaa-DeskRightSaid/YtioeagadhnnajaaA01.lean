/- Texts joined in build order: NamePure Text0. -/
import Derived.Lib.Bytealg
import Derived.WalkKit
import Derived.Lib.Strings
import Derived.Lib.Hide
/- What package name's functions compute, said over lists of bytes: plain mathematics, no program. -/
namespace Go.Proofs.Ytioeagadhnnajaa
def lowI (n : Int) : Bool := decide (97 ≤ n ∧ n ≤ 122)
def capI (n : Int) : Bool := decide (65 ≤ n ∧ n ≤ 90)
def alphI (n : Int) : Bool := lowI n || capI n
def digI (n : Int) : Bool := decide (48 ≤ n ∧ n ≤ 57)
def signI (n : Int) : Bool := alphI n || digI n || decide (n = 45 ∨ n = 95 ∨ n = 46)
def headI (n : Int) : Bool := alphI n || decide (n = 95)
def signB (c : UInt8) : Bool := signI (c.toNat : Int)
def headB (c : UInt8) : Bool := headI (c.toNat : Int)
def smallB (c : UInt8) : UInt8 := if capI (c.toNat : Int) then c + 32 else c
def rightL (l : List UInt8) : Bool := decide (1 ≤ l.length ∧ l.length ≤ 40) && headB (l.headD 0) && l.all signB
def smallL (l : List UInt8) : List UInt8 := l.map smallB
def dashL (l : List UInt8) : Bool := l.contains 45
def reservedL (l : List UInt8) : Bool := ([[97, 110, 110, 111, 116, 97, 116, 105, 111, 110, 45, 120, 109, 108], [99, 111, 108, 111, 114, 45, 112, 114, 111, 102, 105, 108, 101], [102, 111, 110, 116, 45, 102, 97, 99, 101], [102, 111, 110, 116, 45, 102, 97, 99, 101, 45, 115, 114, 99], [102, 111, 110, 116, 45, 102, 97, 99, 101, 45, 117, 114, 105], [102, 111, 110, 116, 45, 102, 97, 99, 101, 45, 102, 111, 114, 109, 97, 116], [102, 111, 110, 116, 45, 102, 97, 99, 101, 45, 110, 97, 109, 101], [109, 105, 115, 115, 105, 110, 103, 45, 103, 108, 121, 112, 104]] : List (List UInt8)).contains l
def knownL (l : List UInt8) : Bool := ([[97], [98], [98, 117, 116, 116, 111, 110], [100, 105, 118], [102, 105, 101, 108, 100, 115, 101, 116], [102, 111, 114, 109], [105], [105, 110, 112, 117, 116], [108, 97, 98, 101, 108], [108, 101, 103, 101, 110, 100], [108, 105], [111, 112, 116, 105, 111, 110], [111, 117, 116, 112, 117, 116], [112], [115, 101, 108, 101, 99, 116], [115, 112, 97, 110], [116, 101, 109, 112, 108, 97, 116, 101], [116, 101, 120, 116, 97, 114, 101, 97], [117, 108]] : List (List UInt8)).contains l
def customL (l : List UInt8) : Bool := rightL l && (smallL l == l) && lowI ((l.headD 0).toNat : Int) && dashL l && !reservedL l
def kindL (l : List UInt8) : Int := if rightL l then (if customL l then 1 else if knownL l then 2 else 3) else 0
def ofL (l : List UInt8) : ByteArray := ⟨l.toArray⟩
end Go.Proofs.Ytioeagadhnnajaa
/- Texts as lists of bytes: plain facts, no program. -/
namespace Go.Proofs.Ytioeagadhnnajaa
open Go.RowKit
theorem ret_bool {a b : Bool} (h : a = b) : Ending.returned (.bool a) = .returned (.bool b) := by rw [h]
theorem ret_int {k : IntKind} {a b : Int} (h : a = b) : Ending.returned (.int k a) = .returned (.int k b) := by rw [h]
theorem ret_str {a b : ByteArray} (h : a = b) : Ending.returned (.string a) = .returned (.string b) := by rw [h]

theorem tl (s : ByteArray) : s.toList = s.data.toList := Lib.toList_data s
theorem tl_len (s : ByteArray) : s.toList.length = s.size := by rw [tl]; simp
theorem tl_get (s : ByteArray) (k : Nat) (h : k < s.size) : s.toList[k]? = some s[k] := by
  rw [tl, Array.getElem?_toList]
  exact Array.getElem?_eq_getElem h

theorem rightL_ends (l : List UInt8) (h : l.length < 1 ∨ 40 < l.length) : rightL l = false := by
  unfold rightL
  have : decide (1 ≤ l.length ∧ l.length ≤ 40) = false := by simp; omega
  rw [this]; rfl
theorem all_take_succ (l : List UInt8) (k : Nat) (c : UInt8) (hk : l[k]? = some c) (h : (l.take k).all signB = true) : (l.take (k + 1)).all signB = signB c := by
  obtain ⟨hl, he⟩ := List.getElem?_eq_some_iff.1 hk
  rw [List.take_succ_eq_append_getElem hl, List.all_append, h, he]
  simp
theorem rightL_stop (l : List UInt8) (k : Nat) (c : UInt8) (hk : l[k]? = some c) (h : signB c = false) : rightL l = false := by
  have : l.all signB = false := by
    rw [List.all_eq_false]
    exact ⟨c, List.mem_of_getElem? hk, by simp [h]⟩
  unfold rightL
  rw [this, Bool.and_false]
theorem rightL_head (l : List UInt8) (c : UInt8) (hk : l[0]? = some c) (h : headB c = false) : rightL l = false := by
  cases l with
  | nil => simp at hk
  | cons b r =>
    simp at hk; subst hk
    unfold rightL
    simp [h]
theorem rightL_full (l : List UInt8) (c : UInt8) (h1 : 1 ≤ l.length) (h2 : l.length ≤ 40) (hk : l[0]? = some c) (hh : headB c = true) (h : (l.take l.length).all signB = true) : rightL l = true := by
  cases l with
  | nil => simp at hk
  | cons b r =>
    simp at hk; subst hk
    rw [List.take_length] at h
    have h3 : decide (1 ≤ (b :: r).length ∧ (b :: r).length ≤ 40) = true := by simp at *; omega
    unfold rightL
    rw [h3, h]
    simp [hh]
theorem sign_of_head (c : UInt8) (h : headB c = true) : signB c = true := by
  unfold headB headI at h
  unfold signB signI
  rcases Bool.or_eq_true _ _ ▸ h with h | h
  · rw [h]; rfl
  · have h := of_decide_eq_true h
    have : decide ((c.toNat : Int) = 45 ∨ (c.toNat : Int) = 95 ∨ (c.toNat : Int) = 46) = true := by simp; omega
    rw [this]; simp

@[simp, go_sem] theorem toList_ofL (l : List UInt8) : (ofL l).toList = l := by unfold ofL; simp
@[simp, go_sem] theorem size_ofL (l : List UInt8) : (ofL l).size = l.length := by
  show l.toArray.size = _; simp
theorem add_ofL (s : ByteArray) (m : List UInt8) : s ++ ofL m = ofL (s.toList ++ m) := by
  obtain ⟨⟨l⟩⟩ := s
  unfold ofL
  rw [ByteArray.mk_append_mk, ByteArray.toList_mk]
theorem ofL_self (s : ByteArray) : ofL s.toList = s := by
  obtain ⟨⟨l⟩⟩ := s
  unfold ofL
  rw [ByteArray.toList_mk]
theorem add_any (s t : ByteArray) : s ++ t = ofL (s.toList ++ t.toList) := by
  rw [← add_ofL, ofL_self]
theorem get_ofL (l : List UInt8) (k : Nat) (c : UInt8) (h : l[k]? = some c) (hk : k < (ofL l).size) : (ofL l)[k]'hk = c := by
  have := tl_get (ofL l) k hk
  rw [toList_ofL, h] at this
  exact (Option.some.inj this).symm
theorem toList_inj {s t : ByteArray} (h : s.toList = t.toList) : s = t := by rw [← ofL_self s, ← ofL_self t, h]
end Go.Proofs.Ytioeagadhnnajaa
