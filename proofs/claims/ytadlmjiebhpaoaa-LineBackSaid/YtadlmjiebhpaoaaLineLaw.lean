/- For instarlaw11's laws: lines in boxes of the law's own. -/
import Derived.Test.YtadlmjiebhpaoaaLineTake
import Derived.Test.YtadlmjiebhpaoaaLineAdd
import Derived.Test.YtadlmjiebhpaoaaLineAddBack
import Derived.Test.YtadlmjiebhpaoaaLineAddErr
import Derived.Test.YtadlmjiebhpaoaaLineDrop
import Derived.Test.YtadlmjiebhpaoaaLineShut
import Derived.Test.YtadlmjiebhpaoaaLinePull
import Derived.Test.YtadlmjiebhpaoaaLineIdle
namespace Go.Proofs.Ytadlmjiebhpaoaa
open Go.RowKit
section
variable {α : Type} {enc : α → List Value} {size : Nat} {ok : α → Prop} {W V : World} {a : Option Addr} {len cap : Nat} {L : List α} {T : List (Hd α)}
theorem LRow.stay (h : LRow enc size ok W a len cap L) {r : Option Nat} (hg : W.grownBy V r) (hne : ∀ b o, a = some ⟨b, o, none⟩ → some b ≠ r) : LRow enc size ok V a len cap L := by
  refine ⟨h.row.keep hg.size (fun b off e hp o => ?_), h.ok, h.hnil⟩
  rcases h.row.cells with h0 | ⟨b', off', e', hlt, _⟩
  · omega
  · rw [e] at e'
    injection e' with e'
    injection e' with e1 _
    subst e1
    exact World.cell?_of_block (a := ⟨b, o, none⟩) (hg.block b hlt (hne b off e))
theorem HRow.stay (h : HRow enc size ok W a len cap T) {r : Option Nat} (hg : W.grownBy V r) (hne : ∀ b o, a = some ⟨b, o, none⟩ → some b ≠ r) (he : ∀ x ∈ T, ∀ b o, x.a = some ⟨b, o, none⟩ → some b ≠ r) : HRow enc size ok V a len cap T := by
  have h1 : LRow encH 1 (fun _ => True) W a len cap T := ⟨h.row, fun _ _ => trivial, h.hnil⟩
  exact ⟨(h1.stay hg hne).row, fun x hx => (h.each x hx).stay hg (he x hx), h.hnil⟩
end
theorem LineAt.stay {W V : World} {u : LnV} {lo g : Nat} (h : LineAt W u) (hn : LineNew lo u) (hg : W.grownBy V (some g)) (hlo : g < lo) : LineAt V u := by
  have ne : ∀ b, lo ≤ b → some b ≠ some g := fun b hb e => by injection e with e; omega
  exact ⟨h.t.stay hg (fun b o e => ne b (hn.t b o e)) (fun x hx b o e => ne b (hn.te x hx b o e)), h.s.stay hg (fun b o e => ne b (hn.s b o e)) (fun x hx b o e => ne b (hn.se x hx b o e)), (h.b.lrow.stay hg (fun b o e => ne b (hn.b b o e))).int⟩
/-- What a call handed back is stored into a box of the law's. -/
theorem LBox.put {W W1 : World} {g : Nat} {u0 u1 : LnV} (h : LBox W g u0) (hb : Below W.heap.size W W1) (hl : LineAt W1 u1) (hn : LineNew W.heap.size u1) :
    ∃ X, (((W1.setCell ⟨g, 0, none⟩ (.slice u1.ta u1.tl u1.tc)).setCell ⟨g, 1, none⟩ (.slice u1.sa u1.sl u1.sc)).setCell ⟨g, 2, none⟩ (.slice u1.ba u1.bl u1.bc)).setCell ⟨g, 3, none⟩ (.bool u1.bz) = X ∧ LBox X g u1 ∧ LineAt X u1 ∧ W1.grownBy X (some g) ∧ W1.heap.size = X.heap.size := by
  have h1 := h.keep hb
  have e1 := put_obj h1.h (k := 0) (by simp) (.slice u1.ta u1.tl u1.tc)
  have e2 := put_obj e1 (k := 1) (by simp) (.slice u1.sa u1.sl u1.sc)
  have e3 := put_obj e2 (k := 2) (by simp) (.slice u1.ba u1.bl u1.bc)
  have e4 := put_obj e3 (k := 3) (by simp) (.bool u1.bz)
  exact ⟨_, rfl, .of e4, hl.stay hn grown_put4 h.lt, grown_put4, by simp [World.setCell]⟩
theorem zero_line (w : World) : LineAt w .zero := ⟨HRow.nil, HRow.nil, ⟨SRow.nil, (fun z hz => by cases hz), fun _ => rfl⟩⟩
end Go.Proofs.Ytadlmjiebhpaoaa
