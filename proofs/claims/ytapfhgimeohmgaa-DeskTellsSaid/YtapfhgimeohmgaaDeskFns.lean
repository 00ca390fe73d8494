/- What is asked of package desk's functions: their contracts, as one property. -/
import Derived.Test.YtapfhgimeohmgaaDeskBox
import Derived.Test.YtapfhgimeohmgaaForestRow
namespace Go.Proofs.Ytapfhgimeohmgaa
open Go.RowKit
/-- What a slice points to is new. -/
def NewAt (W : World) (a : Option Addr) : Prop := ∀ b off, a = some ⟨b, off, none⟩ → W.heap.size ≤ b
/-- What Add hands back. -/
def AddPost (W : World) (R : DeskD × Int × List Int × Int) (e : Ending) (W' : World) : Prop :=
  ∃ da dl dc wa wl wc ta tl tc, e = .returned (.tuple #[deskV da dl dc wa wl wc R.1.next R.1.busy, .int .i64 R.2.1, .slice ta tl tc, .int .i64 R.2.2.2]) ∧ DefRow W' da dl dc R.1.defs ∧ WaitRow W' wa wl wc R.1.waits ∧ IntRow W' ta tl tc R.2.2.1 ∧ Below W.heap.size W W' ∧ NewAt W da ∧ NewAt W wa ∧ NewAt W ta
/-- What Await hands back. -/
def AwaitPost (W : World) (R : DeskD × Int × Int × Int) (e : Ending) (W' : World) : Prop :=
  ∃ da dl dc wa wl wc, e = .returned (.tuple #[deskV da dl dc wa wl wc R.1.next R.1.busy, .int .i64 R.2.1, .int .i64 R.2.2.1, .int .i64 R.2.2.2]) ∧ DefRow W' da dl dc R.1.defs ∧ WaitRow W' wa wl wc R.1.waits ∧ Below W.heap.size W W' ∧ NewAt W da ∧ NewAt W wa
def ifRight (D : DeskD) (z : Int) : Int := if rightK D = true then z else -1
structure DeskFns : Prop where
  right : ∀ (da : Option Addr) (dl dc : Nat) (wa : Option Addr) (wl wc : Nat) (nx : Int) (bz : Bool) (L : List DefD) (M : List WaitD) (W : World), DefRow W da dl dc L → WaitRow W wa wl wc M →
    Calls Try.prog 14 #[deskV da dl dc wa wl wc nx bz] W fun e W' => e = .returned (.bool (rightK ⟨L, M, nx, bz⟩)) ∧ Below W.heap.size W W'
  find : ∀ (da : Option Addr) (dl dc : Nat) (wa : Option Addr) (wl wc : Nat) (nx : Int) (bz : Bool) (L : List DefD) (M : List WaitD) (l s : ByteArray) (W : World), DefRow W da dl dc L → WaitRow W wa wl wc M → l.size ≤ maxLen → s.size ≤ maxLen →
    Calls Try.prog 11 #[deskV da dl dc wa wl wc nx bz, .string l, .string s] W fun e W' => e = .returned (.int .i64 (ifRight ⟨L, M, nx, bz⟩ (findZ2 L l.toList s.toList))) ∧ Below W.heap.size W W'
  named : ∀ (da : Option Addr) (dl dc : Nat) (wa : Option Addr) (wl wc : Nat) (nx : Int) (bz : Bool) (L : List DefD) (M : List WaitD) (s : ByteArray) (W : World), DefRow W da dl dc L → WaitRow W wa wl wc M → s.size ≤ maxLen →
    Calls Try.prog 12 #[deskV da dl dc wa wl wc nx bz, .string s] W fun e W' => e = .returned (.int .i64 (ifRight ⟨L, M, nx, bz⟩ (namedZ L s.toList))) ∧ Below W.heap.size W W'
  classed : ∀ (da : Option Addr) (dl dc : Nat) (wa : Option Addr) (wl wc : Nat) (nx : Int) (bz : Bool) (L : List DefD) (M : List WaitD) (c : Int) (W : World), DefRow W da dl dc L → WaitRow W wa wl wc M →
    Calls Try.prog 13 #[deskV da dl dc wa wl wc nx bz, .int .i64 c] W fun e W' => e = .returned (.int .i64 (ifRight ⟨L, M, nx, bz⟩ (classedZ L c))) ∧ Below W.heap.size W W'
  may : ∀ (da : Option Addr) (dl dc : Nat) (wa : Option Addr) (wl wc : Nat) (nx : Int) (bz : Bool) (L : List DefD) (M : List WaitD) (m : Int) (s base : ByteArray) (c : Int) (W : World), DefRow W da dl dc L → WaitRow W wa wl wc M → s.size ≤ maxLen → base.size ≤ maxLen →
    Calls Try.prog 20 #[deskV da dl dc wa wl wc nx bz, .int .i64 m, .string s, .string base, .int .i64 c] W fun e W' => e = .returned (.int .i64 (mayE ⟨L, M, nx, bz⟩ m s.toList base.toList c)) ∧ Below W.heap.size W W'
  add : ∀ (da : Option Addr) (dl dc : Nat) (wa : Option Addr) (wl wc : Nat) (nx : Int) (bz : Bool) (L : List DefD) (M : List WaitD) (m : Int) (s base : ByteArray) (c : Int) (W : World), DefRow W da dl dc L → WaitRow W wa wl wc M → s.size ≤ maxLen → base.size ≤ maxLen → In64 c → L.length ≤ 1000 → M.length ≤ 1000 →
    Calls Try.prog 18 #[deskV da dl dc wa wl wc nx bz, .int .i64 m, .string s, .string base, .int .i64 c] W (AddPost W (addR ⟨L, M, nx, bz⟩ m s base c))
  await : ∀ (da : Option Addr) (dl dc : Nat) (wa : Option Addr) (wl wc : Nat) (nx : Int) (bz : Bool) (L : List DefD) (M : List WaitD) (s : ByteArray) (W : World), DefRow W da dl dc L → WaitRow W wa wl wc M → s.size ≤ maxLen → In64 nx → L.length ≤ 1000 → M.length ≤ 1000 →
    Calls Try.prog 23 #[deskV da dl dc wa wl wc nx bz, .string s] W (AwaitPost W (awaitR ⟨L, M, nx, bz⟩ s))
end Go.Proofs.Ytapfhgimeohmgaa
