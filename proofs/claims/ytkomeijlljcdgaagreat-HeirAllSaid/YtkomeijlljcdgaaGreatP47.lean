/- Texts joined in build order: HeirAt. -/
import Derived.Test.YtkomeijlljcdgaaGreatP46
import Derived.Test.YtkomeijlljcdgaaGreatP24
import Derived.Test.YtkomeijlljcdgaaGreatP09
import Derived.Test.YtkomeijlljcdgaaGreatP05
import Derived.Deep.RegionHeld3
/- A forest and a desk by value, each in its box. -/
namespace Go.Proofs.YtkomeijlljcdgaaGreat
open Go.RowKit
structure FD (w W : World) (gf gd : Nat) (a : Option Addr) (len cap : Nat) (m : Int) (K : List NodeD) (da : Option Addr) (dl dc : Nat) (wa : Option Addr) (wl wc : Nat) (nx : Int) (bz : Bool) (L : List DefD) (M : List WaitD) : Prop where
  f : Box w W gf a len cap m K (coreL K)
  d : DBox w W gd da dl dc wa wl wc nx bz L M
section
variable {w W V : World} {gf gd : Nat} {a : Option Addr} {len cap : Nat} {m : Int} {K : List NodeD} {da wa : Option Addr} {dl dc wl wc : Nat} {nx : Int} {bz : Bool} {L : List DefD} {M : List WaitD}
theorem FD.keep (h : FD w W gf gd a len cap m K da dl dc wa wl wc nx bz L M) (hb : Below W.heap.size W V) : FD w V gf gd a len cap m K da dl dc wa wl wc nx bz L M := ⟨h.f.keep hb, h.d.keep hb⟩
theorem FD.lt (h : FD w W gf gd a len cap m K da dl dc wa wl wc nx bz L M) : gf < W.heap.size ∧ gd < W.heap.size := ⟨h.f.lt, h.d.lt⟩
theorem FD.start (h0 : NodeRow w a len cap K) (hd : DefRow w da dl dc L) (ht : WaitRow w wa wl wc M) : FD w ((w.alloc (forB a len cap m)).alloc (deskB da dl dc wa wl wc nx bz)) w.heap.size (w.heap.size + 1) a len cap m K da dl dc wa wl wc nx bz L M := by
  have hb := below_box w (forB a len cap m)
  have hb2 := below_box (w.alloc (forB a len cap m)) (deskB da dl dc wa wl wc nx bz)
  have hs : (w.alloc (forB a len cap m)).heap.size = w.heap.size + 1 := by simp
  have h2 := DBox.start (nx := nx) (bz := bz) (hd.below hb) (ht.below hb)
  rw [hs] at h2
  exact ⟨(Box.start h0).keep hb2, ⟨h2.d, h2.t, by omega, h2.lt, h2.c0, h2.c1, h2.c2, h2.c3, hb.trans (hb2.mono (by omega))⟩⟩
theorem fds_keep {X : World} {v0 v1 v2 v3 v4 v5 : Option Value} (l : gf < V.heap.size ∧ gd < V.heap.size)
    (h : W.cell? ⟨gf, 0, none⟩ = v0 ∧ W.cell? ⟨gf, 1, none⟩ = v1 ∧ W.cell? ⟨gd, 0, none⟩ = v2 ∧ W.cell? ⟨gd, 1, none⟩ = v3 ∧ W.cell? ⟨gd, 2, none⟩ = v4 ∧ W.cell? ⟨gd, 3, none⟩ = v5 ∧ Below V.heap.size V W) (hb : Below W.heap.size W X) :
    X.cell? ⟨gf, 0, none⟩ = v0 ∧ X.cell? ⟨gf, 1, none⟩ = v1 ∧ X.cell? ⟨gd, 0, none⟩ = v2 ∧ X.cell? ⟨gd, 1, none⟩ = v3 ∧ X.cell? ⟨gd, 2, none⟩ = v4 ∧ X.cell? ⟨gd, 3, none⟩ = v5 ∧ Below V.heap.size V X := by
  obtain ⟨c0, c1, c2, c3, c4, c5, hB⟩ := h
  have hs := hB.size
  exact ⟨(hb.cell (p := ⟨_, _, none⟩) (by simp only; omega)).trans c0, (hb.cell (p := ⟨_, _, none⟩) (by simp only; omega)).trans c1, (hb.cell (p := ⟨_, _, none⟩) (by simp only; omega)).trans c2, (hb.cell (p := ⟨_, _, none⟩) (by simp only; omega)).trans c3, (hb.cell (p := ⟨_, _, none⟩) (by simp only; omega)).trans c4, (hb.cell (p := ⟨_, _, none⟩) (by simp only; omega)).trans c5, hB.trans (hb.mono hB.size)⟩
end
end Go.Proofs.YtkomeijlljcdgaaGreat
