/- Texts joined in build order: DeskClos. -/
import Derived.Test.YtioeagadhnnajaaA20
/- Package desk's closures. -/
namespace Go.Proofs.Ytioeagadhnnajaa
open Go.RowKit
theorem stayS {w W : World} {b : Nat} {v : Value} (h : w.cell? ⟨b, 0, none⟩ = some v) (hp : b < w.heap.size) (hb : Below w.heap.size w W) : W.cell? ⟨b, 0, none⟩ = some v ∧ b < W.heap.size := ⟨(hb.cell (p := ⟨b, 0, none⟩) hp).trans h, Nat.lt_of_lt_of_le hp hb.size⟩
set_option maxHeartbeats 4000000 in
set_option maxRecDepth 100000 in
theorem pred_named (s : ByteArray) (b : Nat) (w : World) (hb : b < w.heap.size) (hc : w.cell? ⟨b, 0, none⟩ = some (.string s)) : PredD 26 #[.pointer (some ⟨b, 0, none⟩)] (isName s.toList) w := fun W n o c hw => by
  obtain ⟨hc2, hb2⟩ := stayS hc hb hw
  clear hc hb hw
  show Calls Try.prog 26 #[.agg #[.string n, .string o, .int .i64 c], .pointer (some ⟨b, 0, none⟩)] W _
  obtain ⟨q, hq⟩ : ∃ q, (n.toList == s.toList) = q := ⟨_, rfl⟩
  have HR : Hid (isName s.toList ⟨n, o, c⟩ = q) := Lib.hid hq
  go_enter Try.func26, Try.ntmps26
  go_wp2
  go_ret
  exact ⟨ret_bool HR.out.symm, below_desk _ _⟩
set_option maxHeartbeats 4000000 in
set_option maxRecDepth 100000 in
theorem pred_classed (s : Int) (b : Nat) (w : World) (hb : b < w.heap.size) (hc : w.cell? ⟨b, 0, none⟩ = some (.int .i64 s)) : PredD 27 #[.pointer (some ⟨b, 0, none⟩)] (isCls s) w := fun W n o c hw => by
  obtain ⟨hc2, hb2⟩ := stayS hc hb hw
  clear hc hb hw
  show Calls Try.prog 27 #[.agg #[.string n, .string o, .int .i64 c], .pointer (some ⟨b, 0, none⟩)] W _
  obtain ⟨q, hq⟩ : ∃ q, (c == s) = q := ⟨_, rfl⟩
  have HR : Hid (isCls s ⟨n, o, c⟩ = q) := Lib.hid hq
  go_enter Try.func27, Try.ntmps27
  go_wp2
  go_ret
  exact ⟨ret_bool HR.out.symm, below_desk _ _⟩
set_option maxHeartbeats 4000000 in
set_option maxRecDepth 100000 in
theorem pred_own (s : ByteArray) (b : Nat) (w : World) (hb : b < w.heap.size) (hc : w.cell? ⟨b, 0, none⟩ = some (.string s)) : PredD 24 #[.pointer (some ⟨b, 0, none⟩)] (isOwn s.toList) w := fun W n o c hw => by
  obtain ⟨hc2, hb2⟩ := stayS hc hb hw
  clear hc hb hw
  show Calls Try.prog 24 #[.agg #[.string n, .string o, .int .i64 c], .pointer (some ⟨b, 0, none⟩)] W _
  obtain ⟨q, hq⟩ : ∃ q, (n.toList == s.toList) = q := ⟨_, rfl⟩
  obtain ⟨r, hr⟩ : ∃ q, (o.toList == s.toList) = q := ⟨_, rfl⟩
  have HR : Hid (isOwn s.toList ⟨n, o, c⟩ = (r && q)) := Lib.hid (by unfold isOwn; dsimp only; rw [hq, hr])
  cases q <;> cases r
  all_goals
    go_enter Try.func24, Try.ntmps24
    go_wp2
    go_ret
    exact ⟨ret_bool HR.out.symm, below_desk _ _⟩
set_option maxHeartbeats 4000000 in
set_option maxRecDepth 100000 in
theorem pred_is (l s : ByteArray) (b b' : Nat) (w : World) (hb : b < w.heap.size) (hc : w.cell? ⟨b, 0, none⟩ = some (.string s)) (hb' : b' < w.heap.size) (hc' : w.cell? ⟨b', 0, none⟩ = some (.string l)) : PredD 25 #[.pointer (some ⟨b, 0, none⟩), .pointer (some ⟨b', 0, none⟩)] (isIs l.toList s.toList) w := fun W n o c hw => by
  obtain ⟨hc2, hb2⟩ := stayS hc hb hw
  obtain ⟨hc3, hb3⟩ := stayS hc' hb' hw
  clear hc hb hw hc' hb'
  show Calls Try.prog 25 #[.agg #[.string n, .string o, .int .i64 c], .pointer (some ⟨b, 0, none⟩), .pointer (some ⟨b', 0, none⟩)] W _
  obtain ⟨q, hq⟩ : ∃ q, (n.toList == s.toList) = q := ⟨_, rfl⟩
  obtain ⟨r, hr⟩ : ∃ q, (o.toList == l.toList) = q := ⟨_, rfl⟩
  have HR : Hid (isIs l.toList s.toList ⟨n, o, c⟩ = (r && q)) := Lib.hid (by unfold isIs; dsimp only; rw [hq, hr])
  cases q <;> cases r
  all_goals
    go_enter Try.func25, Try.ntmps25
    go_wp2
    go_ret
    exact ⟨ret_bool HR.out.symm, below_desk _ _⟩
/-- Of one name, or of one class. -/
def isLike (n : ByteArray) (c : Int) (x : DefD) : Bool := x.name.toList == n.toList || x.cls == c
set_option maxHeartbeats 4000000 in
set_option maxRecDepth 100000 in
theorem pred_like (n0 o0 : ByteArray) (c0 : Int) (b : Nat) (w : World) (hx : XBox w b n0 o0 c0) : PredD 43 #[.pointer (some ⟨b, 0, none⟩)] (isLike n0 c0) w := fun W n o c hw => by
  have hy := hx.keep hw
  have hb2 := hy.lt
  have hc0 := hy.c0
  have hc2 := hy.c2
  clear hx hw hy
  show Calls Try.prog 43 #[.agg #[.string n, .string o, .int .i64 c], .pointer (some ⟨b, 0, none⟩)] W _
  obtain ⟨q, hq⟩ : ∃ q, (n.toList == n0.toList) = q := ⟨_, rfl⟩
  obtain ⟨r, hr⟩ : ∃ q, (c == c0) = q := ⟨_, rfl⟩
  have HR : Hid (isLike n0 c0 ⟨n, o, c⟩ = (q || r)) := Lib.hid (by unfold isLike; dsimp only; rw [hq, hr])
  cases q <;> cases r
  all_goals
    go_enter Try.func43, Try.ntmps43
    go_wp2
    go_ret
    exact ⟨ret_bool HR.out.symm, below_desk _ _⟩
set_option maxHeartbeats 4000000 in
set_option maxRecDepth 100000 in
theorem pred_waits (n0 : ByteArray) (k0 : Int) (b : Nat) (w : World) (hx : TBox9 w b n0 k0) : PredD 45 #[.pointer (some ⟨b, 0, none⟩)] (isName n0.toList) w := fun W n o c hw => by
  have hy := hx.keep hw
  have hb2 := hy.lt
  have hc0 := hy.c0
  clear hx hw hy
  show Calls Try.prog 45 #[.agg #[.string n, .string o, .int .i64 c], .pointer (some ⟨b, 0, none⟩)] W _
  obtain ⟨q, hq⟩ : ∃ q, (n.toList == n0.toList) = q := ⟨_, rfl⟩
  have HR : Hid (isName n0.toList ⟨n, o, c⟩ = q) := Lib.hid hq
  go_enter Try.func45, Try.ntmps45
  go_wp2
  go_ret
  exact ⟨ret_bool HR.out.symm, below_desk _ _⟩
/-- Who waits for a name. -/
def isWait (s : List UInt8) (x : WaitD) : Bool := x.name.toList == s
set_option maxHeartbeats 4000000 in
set_option maxRecDepth 100000 in
theorem pred_add (s : ByteArray) (b : Nat) (w : World) (hb : b < w.heap.size) (hc : w.cell? ⟨b, 0, none⟩ = some (.string s)) : PredT 33 #[.pointer (some ⟨b, 0, none⟩)] (isWait s.toList) w := fun W n c hw => by
  obtain ⟨hc2, hb2⟩ := stayS hc hb hw
  clear hc hb hw
  show Calls Try.prog 33 #[.agg #[.string n, .int .i64 c], .pointer (some ⟨b, 0, none⟩)] W _
  obtain ⟨q, hq⟩ : ∃ q, (n.toList == s.toList) = q := ⟨_, rfl⟩
  have HR : Hid (isWait s.toList ⟨n, c⟩ = q) := Lib.hid hq
  go_enter Try.func33, Try.ntmps33
  go_wp2
  go_ret
  exact ⟨ret_bool HR.out.symm, below_desk _ _⟩
end Go.Proofs.Ytioeagadhnnajaa
