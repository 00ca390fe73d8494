/- Texts joined in build order: RefName. -/
import Derived.Test.YtioeagadhnnajaaA12
/- The document's own answers for layer 1 (package instarref01): Right, Small, Known, Custom, Kind. -/
namespace Go.Proofs.Ytioeagadhnnajaa
open Go.RowKit
def KNOWN_WORDS : List UInt8 := [97, 32, 98, 32, 98, 117, 116, 116, 111, 110, 32, 100, 105, 118, 32, 102, 105, 101, 108, 100, 115, 101, 116, 32, 102, 111, 114, 109, 32, 105, 32, 105, 110, 112, 117, 116, 32, 108, 97, 98, 101, 108, 32, 108, 101, 103, 101, 110, 100, 32, 108, 105, 32, 111, 112, 116, 105, 111, 110, 32, 111, 117, 116, 112, 117, 116, 32, 112, 32, 115, 101, 108, 101, 99, 116, 32, 115, 112, 97, 110, 32, 116, 101, 109, 112, 108, 97, 116, 101, 32, 116, 101, 120, 116, 97, 114, 101, 97, 32, 117, 108]
def RESERVED_WORDS : List UInt8 := [97, 110, 110, 111, 116, 97, 116, 105, 111, 110, 45, 120, 109, 108, 32, 99, 111, 108, 111, 114, 45, 112, 114, 111, 102, 105, 108, 101, 32, 102, 111, 110, 116, 45, 102, 97, 99, 101, 32, 102, 111, 110, 116, 45, 102, 97, 99, 101, 45, 115, 114, 99, 32, 102, 111, 110, 116, 45, 102, 97, 99, 101, 45, 117, 114, 105, 32, 102, 111, 110, 116, 45, 102, 97, 99, 101, 45, 102, 111, 114, 109, 97, 116, 32, 102, 111, 110, 116, 45, 102, 97, 99, 101, 45, 110, 97, 109, 101, 32, 109, 105, 115, 115, 105, 110, 103, 45, 103, 108, 121, 112, 104]
theorem one_known (l : List UInt8) : oneL l KNOWN_WORDS = knownL l := by
  rw [one_split]
  have : splitL [] KNOWN_WORDS = [[97], [98], [98, 117, 116, 116, 111, 110], [100, 105, 118], [102, 105, 101, 108, 100, 115, 101, 116], [102, 111, 114, 109], [105], [105, 110, 112, 117, 116], [108, 97, 98, 101, 108], [108, 101, 103, 101, 110, 100], [108, 105], [111, 112, 116, 105, 111, 110], [111, 117, 116, 112, 117, 116], [112], [115, 101, 108, 101, 99, 116], [115, 112, 97, 110], [116, 101, 109, 112, 108, 97, 116, 101], [116, 101, 120, 116, 97, 114, 101, 97], [117, 108]] := by decide +kernel
  rw [this]
  rfl
theorem one_reserved (l : List UInt8) : oneL l RESERVED_WORDS = reservedL l := by
  rw [one_split]
  have : splitL [] RESERVED_WORDS = [[97, 110, 110, 111, 116, 97, 116, 105, 111, 110, 45, 120, 109, 108], [99, 111, 108, 111, 114, 45, 112, 114, 111, 102, 105, 108, 101], [102, 111, 110, 116, 45, 102, 97, 99, 101], [102, 111, 110, 116, 45, 102, 97, 99, 101, 45, 115, 114, 99], [102, 111, 110, 116, 45, 102, 97, 99, 101, 45, 117, 114, 105], [102, 111, 110, 116, 45, 102, 97, 99, 101, 45, 102, 111, 114, 109, 97, 116], [102, 111, 110, 116, 45, 102, 97, 99, 101, 45, 110, 97, 109, 101], [109, 105, 115, 115, 105, 110, 103, 45, 103, 108, 121, 112, 104]] := by decide +kernel
  rw [this]
  rfl

set_option maxHeartbeats 2000000 in
set_option maxRecDepth 100000 in
theorem refknown_any (s : ByteArray) (w : World) :
    Calls Try.prog 22 #[.string s] w fun e w' => e = .returned (.bool (knownL s.toList)) ∧ w = w' := by
  by_cases h0 : s.toList = []
  · have hb : s.toList.isEmpty = true := by rw [h0]; rfl
    have hk : knownL s.toList = false := by rw [h0]; rfl
    have HK := Lib.hid hk
    clear h0 hk
    go_enter Try.func22, Try.ntmps22
    go_wp2_with fail
    go_ret
    exact ⟨ret_bool (by rw [HK.out]), rfl⟩
  · have hk := one_known s.toList
    have HK := Lib.hid hk
    have hb : s.toList.isEmpty = false := by cases e : s.toList <;> simp_all
    have hb2 : ¬ s.toList = [] := h0
    clear hk
    go_enter Try.func22, Try.ntmps22
    go_wp2_with (go_at_call 41; refine (one_any _ ⟨KNOWN_WORDS.toArray⟩ _ (by decide)).mono ?_; rintro e w' ⟨rfl, rfl⟩)
    go_ret
    exact ⟨ret_bool HK.out, rfl⟩
end Go.Proofs.Ytioeagadhnnajaa
