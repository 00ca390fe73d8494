/- Texts joined in build order: NamePure Text0 NameBytes. -/
import Derived.Lib.Bytealg
import Derived.WalkKit
import Derived.Lib.Strings
import Derived.Lib.Hide
import Derived.Test.YtnjoimedilonnaaGreatChecked
import Derived.WalkLawsBesides
namespace Go.Proofs.YtnjoimedilonnaaGreat
def lowI (n : Int) : Bool := decide (97 ≤ n ∧ n ≤ 122)
def capI (n : Int) : Bool := decide (65 ≤ n ∧ n ≤ 90)
def alphI (n : Int) : Bool := lowI n || capI n
def digI (n : Int) : Bool := decide (48 ≤ n ∧ n ≤ 57)
def signI (n : Int) : Bool := alphI n || digI n || decide (n = 45 ∨ n = 95 ∨ n = 46)
def headI (n : Int) : Bool := alphI n || decide (n = 95)
def signB (c : UInt8) : Bool := signI (c.toNat : Int)
def headB (c : UInt8) : Bool := headI (c.toNat : Int)
def smallB (c : UInt8) : UInt8 := if capI (c.toNat : Int) then c + 32 else c
def rightL (l : List UInt8) : Bool := decide (1 ≤ l.length ∧ l.length ≤ 40) && headB (l.headD 0) && l.all signB
def smallL (l : List UInt8) : List UInt8 := l.map smallB
def dashL (l : List UInt8) : Bool := l.contains 45
def reservedL (l : List UInt8) : Bool := ([[97, 110, 110, 111, 116, 97, 116, 105, 111, 110, 45, 120, 109, 108], [99, 111, 108, 111, 114, 45, 112, 114, 111, 102, 105, 108, 101], [102, 111, 110, 116, 45, 102, 97, 99, 101], [102, 111, 110, 116, 45, 102, 97, 99, 101, 45, 115, 114, 99], [102, 111, 110, 116, 45, 102, 97, 99, 101, 45, 117, 114, 105], [102, 111, 110, 116, 45, 102, 97, 99, 101, 45, 102, 111, 114, 109, 97, 116], [102, 111, 110, 116, 45, 102, 97, 99, 101, 45, 110, 97, 109, 101], [109, 105, 115, 115, 105, 110, 103, 45, 103, 108, 121, 112, 104]] : List (List UInt8)).contains l
def customL (l : List UInt8) : Bool := rightL l && (smallL l == l) && lowI ((l.headD 0).toNat : Int) && dashL l && !reservedL l
def ofL (l : List UInt8) : ByteArray := ⟨l.toArray⟩
end Go.Proofs.YtnjoimedilonnaaGreat
namespace Go.Proofs.YtnjoimedilonnaaGreat
open Go.RowKit
theorem ret_bool {a b : Bool} (h : a = b) : Ending.returned (.bool a) = .returned (.bool b) := by rw [h]
theorem ret_int {k : IntKind} {a b : Int} (h : a = b) : Ending.returned (.int k a) = .returned (.int k b) := by rw [h]
theorem ret_str {a b : ByteArray} (h : a = b) : Ending.returned (.string a) = .returned (.string b) := by rw [h]
theorem tl (s : ByteArray) : s.toList = s.data.toList := Lib.toList_data s
theorem tl_len (s : ByteArray) : s.toList.length = s.size := by rw [tl]; simp
theorem tl_get (s : ByteArray) (k : Nat) (h : k < s.size) : s.toList[k]? = some s[k] := by
  rw [tl, Array.getElem?_toList]
  exact Array.getElem?_eq_getElem h
theorem rightL_ends (l : List UInt8) (h : l.length < 1 ∨ 40 < l.length) : rightL l = false := by
  unfold rightL
  have : decide (1 ≤ l.length ∧ l.length ≤ 40) = false := by simp; omega
  rw [this]; rfl
theorem all_take_succ (l : List UInt8) (k : Nat) (c : UInt8) (hk : l[k]? = some c) (h : (l.take k).all signB = true) : (l.take (k + 1)).all signB = signB c := by
  obtain ⟨hl, he⟩ := List.getElem?_eq_some_iff.1 hk
  rw [List.take_succ_eq_append_getElem hl, List.all_append, h, he]
  simp
theorem rightL_stop (l : List UInt8) (k : Nat) (c : UInt8) (hk : l[k]? = some c) (h : signB c = false) : rightL l = false := by
  have : l.all signB = false := by
    rw [List.all_eq_false]
    exact ⟨c, List.mem_of_getElem? hk, by simp [h]⟩
  unfold rightL
  rw [this, Bool.and_false]
theorem rightL_head (l : List UInt8) (c : UInt8) (hk : l[0]? = some c) (h : headB c = false) : rightL l = false := by
  cases l with
  | nil => simp at hk
  | cons b r =>
    simp at hk; subst hk
    unfold rightL
    simp [h]
theorem rightL_full (l : List UInt8) (c : UInt8) (h1 : 1 ≤ l.length) (h2 : l.length ≤ 40) (hk : l[0]? = some c) (hh : headB c = true) (h : (l.take l.length).all signB = true) : rightL l = true := by
  cases l with
  | nil => simp at hk
  | cons b r =>
    simp at hk; subst hk
    rw [List.take_length] at h
    have h3 : decide (1 ≤ (b :: r).length ∧ (b :: r).length ≤ 40) = true := by simp at *; omega
    unfold rightL
    rw [h3, h]
    simp [hh]
theorem sign_of_head (c : UInt8) (h : headB c = true) : signB c = true := by
  unfold headB headI at h
  unfold signB signI
  rcases Bool.or_eq_true _ _ ▸ h with h | h
  · rw [h]; rfl
  · have h := of_decide_eq_true h
    have : decide ((c.toNat : Int) = 45 ∨ (c.toNat : Int) = 95 ∨ (c.toNat : Int) = 46) = true := by simp; omega
    rw [this]; simp
@[simp, go_sem] theorem toList_ofL (l : List UInt8) : (ofL l).toList = l := by unfold ofL; simp
@[simp, go_sem] theorem size_ofL (l : List UInt8) : (ofL l).size = l.length := by
  show l.toArray.size = _; simp
theorem add_ofL (s : ByteArray) (m : List UInt8) : s ++ ofL m = ofL (s.toList ++ m) := by
  obtain ⟨⟨l⟩⟩ := s
  unfold ofL
  rw [ByteArray.mk_append_mk, ByteArray.toList_mk]
theorem ofL_self (s : ByteArray) : ofL s.toList = s := by
  obtain ⟨⟨l⟩⟩ := s
  unfold ofL
  rw [ByteArray.toList_mk]
end Go.Proofs.YtnjoimedilonnaaGreat
namespace Go.Proofs.YtnjoimedilonnaaGreat
open Go.RowKit
theorem isSmall_any (n : Int) (w : World) : Calls Tryz.prog 70 #[.int .u8 n] w fun e w' => e = .returned (.bool (lowI n)) ∧ w = w' := by
  go_enter Tryz.func70, Tryz.ntmps70
  go_wp2
  all_goals (go_ret; exact ⟨ret_bool (by unfold lowI; rw [Bool.eq_iff_iff]; simp <;> omega), rfl⟩)
theorem isCapital_any (n : Int) (w : World) : Calls Tryz.prog 87 #[.int .u8 n] w fun e w' => e = .returned (.bool (capI n)) ∧ w = w' := by
  go_enter Tryz.func87, Tryz.ntmps87
  go_wp2
  all_goals (go_ret; exact ⟨ret_bool (by unfold capI; rw [Bool.eq_iff_iff]; simp <;> omega), rfl⟩)
theorem isSign_any (n : Int) (w : World) : Calls Tryz.prog 86 #[.int .u8 n] w fun e w' => e = .returned (.bool (signI n)) ∧ w = w' := by
  go_enter Tryz.func86, Tryz.ntmps86
  go_wp2
  all_goals (go_ret; exact ⟨ret_bool (by unfold signI alphI lowI capI digI; rw [Bool.eq_iff_iff]; simp <;> omega), rfl⟩)
theorem mayBegin_any (n : Int) (w : World) : Calls Tryz.prog 85 #[.int .u8 n] w fun e w' => e = .returned (.bool (headI n)) ∧ w = w' := by
  go_enter Tryz.func85, Tryz.ntmps85
  go_wp2
  all_goals (go_ret; exact ⟨ret_bool (by unfold headI alphI lowI capI; rw [Bool.eq_iff_iff]; simp <;> omega), rfl⟩)
end Go.Proofs.YtnjoimedilonnaaGreat
