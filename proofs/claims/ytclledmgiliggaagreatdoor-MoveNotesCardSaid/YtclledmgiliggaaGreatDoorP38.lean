/- Texts joined in build order: MoveAgainMath AttrMath3 MoveAgainMath2 Ref6Notes Ref6Set CopyRegion Ref3Make Ref6With. -/
import Derived.Test.YtclledmgiliggaaGreatDoorP36
import Derived.Test.YtclledmgiliggaaGreatDoorP37
import Derived.Test.YtclledmgiliggaaGreatDoorP19
import Derived.Test.YtclledmgiliggaaGreatDoorP22
import Derived.Test.YtclledmgiliggaaGreatDoorP33
import Derived.Test.YtclledmgiliggaaGreatDoorP04
import Derived.Deep.DeepCutAuto
namespace Go.Proofs.YtclledmgiliggaaGreatDoor
open Go.RowKit
end Go.Proofs.YtclledmgiliggaaGreatDoor
namespace Go.Proofs.YtclledmgiliggaaGreatDoor
end Go.Proofs.YtclledmgiliggaaGreatDoor
namespace Go.Proofs.YtclledmgiliggaaGreatDoor
open Go.RowKit
end Go.Proofs.YtclledmgiliggaaGreatDoor
namespace Go.Proofs.YtclledmgiliggaaGreatDoor
open Go.RowKit
theorem NoteRow.len64 {w : World} {a : Option Addr} {len cap : Nat} {N : List NoteD} (h : NoteRow w a len cap N) : (len : Int) ≤ 9223372036854775807 := by
  have h1 := h.row.hcap
  have h2 := h.row.hmax
  unfold maxLen at h2
  omega
end Go.Proofs.YtclledmgiliggaaGreatDoor
namespace Go.Proofs.YtclledmgiliggaaGreatDoor
open Go.RowKit
set_option linter.unusedVariables false
end Go.Proofs.YtclledmgiliggaaGreatDoor
namespace Go.Proofs.YtclledmgiliggaaGreatDoor
open Go.RowKit
structure Item (W : World) where
  fact : Value → World → Prop
  owns : Bool
  used : Option Nat
  stab : ∀ u w w' row, fact u w → w.grownBy w' row → (∀ k, row = some k → owns = true → k ∉ blk u) → (∀ k, row = some k → W.heap.size ≤ k) → fact u w'
theorem own_grown {w w' : World} {base : Nat} {e : TypeId} {size n : Nat} {v : Value} {xs : List Value} {row : Option Nat} (h : w.ownsRow base e size v n xs) (hg : w.grownBy w' row) (hne : ∀ k, row = some k → v.ownBlock ≠ some k) : w'.ownsRow base e size v n xs := by
  refine ⟨h.1, ?_⟩
  rcases h.2 with h | ⟨g, cap, cur, hv, hbg, hg2, h1, h2, h3, h4⟩
  · exact .inl h
  · have hlt : g < w.heap.size := by
      rcases Nat.lt_or_ge g w.heap.size with h | h
      · exact h
      · rw [Array.getElem?_eq_none h] at hg2; cases hg2
    refine .inr ⟨g, cap, cur, hv, hbg, (hg.block g hlt (fun e => hne g e.symm (by rw [hv]; rfl))).trans hg2, h1, h2, h3, h4⟩
theorem own_blk {w : World} {base : Nat} {e : TypeId} {size n : Nat} {v : Value} {xs : List Value} (h : w.ownsRow base e size v n xs) : ∀ k, k ∈ blk v ↔ v.ownBlock = some k := by
  intro k
  rcases h.2 with ⟨rfl, _⟩ | ⟨g, cap, cur, rfl, _⟩
  · simp [blk, blkOf, Value.ownBlock]
  · simp [blk, blkOf, Value.ownBlock, eq_comm]
theorem RowOf.grown {W w w' : World} {v : Value} {n : Nat} {L : List NodeD} {row : Option Nat} (h : RowOf W w v n L) (hg : w.grownBy w' row) (hne : ∀ k, row = some k → k ∉ blk v) (hW : ∀ k, row = some k → W.heap.size ≤ k) : RowOf W w' v n L :=
  ⟨own_grown h.own hg (fun k hk e => hne k hk ((own_blk h.own k).2 e)), h.below.grown hg h.below.size hW⟩
theorem grownBy_alloc (w : World) (o : Obj) : w.grownBy (w.alloc o) none := ⟨rfl, rfl, rfl, by simp, fun k hk _ => Below.heap_alloc _ _ _ hk⟩
section
variable {Q : Exit → Act → World → Prop} {W : World} {its : List (Item W)} {used : List (Option Nat)} {l : List Oper} {last : Nat} {a0 : Act} {i : Nat} {pos : String} {after : Array Edge} {ty : TypeId}
end
end Go.Proofs.YtclledmgiliggaaGreatDoor
namespace Go.Proofs.YtclledmgiliggaaGreatDoor
open Go.RowKit
attribute [local go_sem ↓] Go.wp_at_zero Go.wp_at_succ
end Go.Proofs.YtclledmgiliggaaGreatDoor
namespace Go.Proofs.YtclledmgiliggaaGreatDoor
open Go.RowKit
end Go.Proofs.YtclledmgiliggaaGreatDoor
