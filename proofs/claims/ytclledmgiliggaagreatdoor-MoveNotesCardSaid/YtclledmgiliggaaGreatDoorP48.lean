/- Texts joined in build order: MoveNotesWalk. -/
import Derived.Test.YtclledmgiliggaaGreatDoorP44
import Derived.Test.YtclledmgiliggaaGreatDoorP45
import Derived.Test.YtclledmgiliggaaGreatDoorP47
namespace Go.Proofs.YtclledmgiliggaaGreatDoor
open Go.RowKit
set_option linter.unusedVariables false
theorem moveNotes_walk (a : Option Addr) (len cap : Nat) (m : Int) (L : List NodeD) (pa : Option Addr) (pl pc : Nat) (D : List DoF) (w : World) (h : NodeRow w a len cap L) (hm : In64 m) (hd : SRow encF 6 w pa pl pc D) (hf : ∀ x ∈ D, fineF x) (hg : ErrVar w) :
    Calls Tryz.prog 4 #[forV a len cap m, .slice pa pl pc] w fun e w' => e = .returned (.bool true) ∧ Below w.heap.size w w' :=
  mnSkel.2 ⟨mnRound.2 ⟨mnArms⟩ ⟨mnRest⟩⟩ ⟨mnExit.2 ⟨mnIn⟩⟩ a len cap m L pa pl pc D w h hm hd hf hg
end Go.Proofs.YtclledmgiliggaaGreatDoor
