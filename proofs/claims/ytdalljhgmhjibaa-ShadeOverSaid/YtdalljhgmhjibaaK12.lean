/- Texts joined in build order: ShadeOver4. -/
import Derived.Test.YtdalljhgmhjibaaK10
import Derived.Test.YtdalljhgmhjibaaK11
/- ShadeOver's walk, over both packages' contracts as one. -/
namespace Go.Proofs.Ytdalljhgmhjibaa
open Go.RowKit
theorem shadeOver_walk4 (P : Lay4) (a0 : Option Addr) (len0 cap0 : Nat) (m : Int) (L0 : List NodeD) (x y z : Int) (w : World)
    (h0 : NodeRow w a0 len0 cap0 L0) (hm : In64 m) (hx : 0 ≤ x ∧ x ≤ 255) (hy : 0 ≤ y ∧ y ≤ 255) (hz : 0 ≤ z ∧ z ≤ 255) :
    Calls Try.prog 10 #[forV a0 len0 cap0 m, .int .u8 x, .int .u8 y, .int .u8 z] w fun e w' => e = .returned (.bool true) ∧ Below w.heap.size w w' :=
  shadeOver_walk P.f P.s a0 len0 cap0 m L0 x y z w h0 hm hx hy hz
end Go.Proofs.Ytdalljhgmhjibaa
