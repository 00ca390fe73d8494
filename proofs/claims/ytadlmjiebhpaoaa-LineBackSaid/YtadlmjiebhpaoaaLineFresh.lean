/- Package fresh's Line. -/
import Derived.Test.YtadlmjiebhpaoaaLineLists
import Derived.Deep.RegionHeld3
namespace Go.Proofs.Ytadlmjiebhpaoaa
open Go.RowKit
/-- A copy of a line in memory of its own. -/
def FreshL (w : World) (v : LnV) (e : Ending) (w' : World) : Prop := ∃ v' : LnV, e = .returned v'.val ∧ v'.dat = v.dat ∧ OwnLine w.heap.size w' v' ∧ Below w.heap.size w w'
theorem OwnRows.lower {α : Type} {enc : α → List Value} {size : Nat} {ok : α → Prop} {base b2 : Nat} {th te : TypeId} {W : World} {a : Option Addr} {n c : Nat} {T : List (Hd α)} (h : OwnRows enc size ok base th te W a n c T) (hb : b2 ≤ base) : OwnRows enc size ok b2 th te W a n c T :=
  ⟨own_lower h.row hb, fun x hx => own_lower (h.each x hx) hb, h.ok, h.apart⟩
/-- What a cell holds. -/
def cellOf (w : World) (p : Addr) : Value := (w.cell? p).getD undef
theorem cellOf_is {w : World} {p : Addr} (h : (w.cell? p).isSome = true) : w.cell? p = some (cellOf w p) := by
  obtain ⟨v, hv⟩ := Option.isSome_iff_exists.1 h
  unfold cellOf
  rw [hv]
  rfl
theorem cell_lt {w : World} {p : Addr} {u : Value} (h : w.cell? p = some u) : p.block < w.heap.size := by
  rcases Nat.lt_or_ge p.block w.heap.size with h1 | h1
  · exact h1
  · exfalso
    unfold World.cell? at h
    rw [Array.getElem?_eq_none h1] at h
    simp at h
/-- The argument's box g and the result's box h, behind a world V. -/
structure HL (V W : World) (g h : Nat) (v : LnV) : Prop where
  b : Below V.heap.size V W
  g : LBox V g v
  h0 : V.heap.size ≤ h
  r : ∀ j, j < 4 → (W.cell? ⟨h, j, none⟩).isSome = true ∧ W.frozen? ⟨h, j, none⟩ = false
abbrev HF (V W : World) (g h : Nat) (v : LnV) : Prop := W.cell? ⟨g, 0, none⟩ = some (.slice v.ta v.tl v.tc) ∧ W.cell? ⟨g, 1, none⟩ = some (.slice v.sa v.sl v.sc) ∧ W.cell? ⟨g, 2, none⟩ = some (.slice v.ba v.bl v.bc) ∧ W.cell? ⟨g, 3, none⟩ = some (.bool v.bz) ∧ W.cell? ⟨h, 0, none⟩ = some (cellOf W ⟨h, 0, none⟩) ∧ W.cell? ⟨h, 1, none⟩ = some (cellOf W ⟨h, 1, none⟩) ∧ W.cell? ⟨h, 2, none⟩ = some (cellOf W ⟨h, 2, none⟩) ∧ W.cell? ⟨h, 3, none⟩ = some (cellOf W ⟨h, 3, none⟩) ∧ W.frozen? ⟨h, 0, none⟩ = false ∧ W.frozen? ⟨h, 1, none⟩ = false ∧ W.frozen? ⟨h, 2, none⟩ = false ∧ W.frozen? ⟨h, 3, none⟩ = false ∧ HL V W g h v
theorem HL.facts {V W : World} {g h : Nat} {v : LnV} (H : HL V W g h v) : HF V W g h v := by
  have B := H.g.keep H.b
  exact ⟨B.c0, B.c1, B.c2, B.c3, cellOf_is (H.r 0 (by omega)).1, cellOf_is (H.r 1 (by omega)).1, cellOf_is (H.r 2 (by omega)).1, cellOf_is (H.r 3 (by omega)).1, (H.r 0 (by omega)).2, (H.r 1 (by omega)).2, (H.r 2 (by omega)).2, (H.r 3 (by omega)).2, H⟩
theorem hl_of {a0 a1 a2 a3 a4 a5 a6 a7 a8 a9 a10 a11 : Prop} {V W : World} {g h : Nat} {v : LnV} (H : a0 ∧ a1 ∧ a2 ∧ a3 ∧ a4 ∧ a5 ∧ a6 ∧ a7 ∧ a8 ∧ a9 ∧ a10 ∧ a11 ∧ HL V W g h v) : HL V W g h v := H.2.2.2.2.2.2.2.2.2.2.2.2
theorem HL.keep {V W X : World} {g h : Nat} {v : LnV} (H : HL V W g h v) (hb : Below W.heap.size W X) : HL V X g h v := by
  refine ⟨H.b.trans (hb.mono H.b.size), H.g, H.h0, fun j hj => ?_⟩
  obtain ⟨h1, h2⟩ := H.r j hj
  obtain ⟨u, hu⟩ := Option.isSome_iff_exists.1 h1
  have hl : h < W.heap.size := cell_lt hu
  rw [hb.cell (p := ⟨h, j, none⟩) hl, hb.frozen (p := ⟨h, j, none⟩) hl]
  exact ⟨h1, h2⟩
theorem HL.put {V W : World} {g h : Nat} {v : LnV} (H : HL V W g h v) (o : Nat) (u : Value) : HL V (W.setCell ⟨h, o, none⟩ u) g h v := by
  refine ⟨H.b.setCell H.h0 _, H.g, H.h0, fun j hj => ?_⟩
  obtain ⟨h1, h2⟩ := H.r j hj
  refine ⟨?_, by rw [World.frozen?_setCell]; exact h2⟩
  exact World.isSome_setCells h [u] o W _ h1
theorem hl_keep {a0 a1 a2 a3 a4 a5 a6 a7 a8 a9 a10 a11 : Prop} {V W X : World} {g h : Nat} {v : LnV} (H : a0 ∧ a1 ∧ a2 ∧ a3 ∧ a4 ∧ a5 ∧ a6 ∧ a7 ∧ a8 ∧ a9 ∧ a10 ∧ a11 ∧ HL V W g h v) (hb : Below W.heap.size W X) : HF V X g h v := ((hl_of H).keep hb).facts
theorem hl_put4 {a0 a1 a2 a3 a4 a5 a6 a7 a8 a9 a10 a11 : Prop} {V W : World} {g h : Nat} {v : LnV} (H : a0 ∧ a1 ∧ a2 ∧ a3 ∧ a4 ∧ a5 ∧ a6 ∧ a7 ∧ a8 ∧ a9 ∧ a10 ∧ a11 ∧ HL V W g h v) (x0 x1 x2 x3 : Value) : HF V ((((W.setCell ⟨h, 0, none⟩ x0).setCell ⟨h, 1, none⟩ x1).setCell ⟨h, 2, none⟩ x2).setCell ⟨h, 3, none⟩ x3) g h v := (((((hl_of H).put 0 x0).put 1 x1).put 2 x2).put 3 x3).facts
theorem own_line {W1 W2 W3 : World} {base : Nat} {ta sa ba : Option Addr} {tl tc sl sc bl bc : Nat} {bz : Bool} {T : List (Hd TodoD)} {S : List (Hd Int)} {B : List Int} {b1 b2 b3 : Nat}
    (t : OwnRows encTd 10 okTd b1 56 28 W1 ta tl tc T) (h1 : base ≤ b1) (s : OwnRows encZ 1 In64 b2 24 3 W2 sa sl sc S) (h2 : base ≤ b2) (b : W3.ownsRow b3 3 1 (.slice ba bl bc) bl (B.flatMap encZ)) (h3 : base ≤ b3) (h23 : W2.heap.size ≤ b3) (hbi : ∀ z ∈ B, In64 z)
    (k1 : Below W1.heap.size W1 W2) (k2 : Below W2.heap.size W2 W3) : OwnLine base W3 ⟨ta, tl, tc, sa, sl, sc, ba, bl, bc, bz, T, S, B⟩ := by
  refine ⟨((t.keep k1).keep k2).lower h1, (s.keep k2).lower h2, own_lower b h3, hbi, fun x hx k hk e => ?_⟩
  have a1 := (s.lt hx hk).2
  have a2 := (b.lt k e.symm).1
  omega
/-- Stores into a box leave all else. -/
theorem grown_put4 {W : World} {g : Nat} {a b c d : Value} : W.grownBy ((((W.setCell ⟨g, 0, none⟩ a).setCell ⟨g, 1, none⟩ b).setCell ⟨g, 2, none⟩ c).setCell ⟨g, 3, none⟩ d) (some g) := by
  have h := fun {w V : World} (x : w.grownBy V (some g)) (o : Nat) (u : Value) => (show w.grownBy (V.setCell ⟨g, o, none⟩ u) (some g) from ⟨x.os, x.tape, x.output, by simpa [World.setCell] using x.size, fun k hk hne => (Below.heap_setCell _ _ _ k (fun e => hne (by rw [e]))).trans (x.block k hk hne)⟩)
  exact h (h (h (h (grown_refl W _) 0 a) 1 b) 2 c) 3 d
theorem below_put4 {b g : Nat} {w W : World} {x0 x1 x2 x3 : Value} (h : Below b w W) (hg : b ≤ g) : Below b w ((((W.setCell ⟨g, 0, none⟩ x0).setCell ⟨g, 1, none⟩ x1).setCell ⟨g, 2, none⟩ x2).setCell ⟨g, 3, none⟩ x3) :=
  (((h.setCell hg _).setCell hg _).setCell hg _).setCell hg _
theorem put4_cell {V W : World} {g h : Nat} {v : LnV} (H : HL V W g h v) (x0 x1 x2 x3 : Value) :
    let X := (((W.setCell ⟨h, 0, none⟩ x0).setCell ⟨h, 1, none⟩ x1).setCell ⟨h, 2, none⟩ x2).setCell ⟨h, 3, none⟩ x3
    X.cell? ⟨h, 0, none⟩ = some x0 ∧ X.cell? ⟨h, 1, none⟩ = some x1 ∧ X.cell? ⟨h, 2, none⟩ = some x2 ∧ X.cell? ⟨h, 3, none⟩ = some x3 := by
  have ne : ∀ i j : Nat, i ≠ j → (⟨h, i, none⟩ : Addr) ≠ ⟨h, j, none⟩ := fun i j hij e => hij (by injection e)
  have H1 := H.put 0 x0
  have H2 := H1.put 1 x1
  have H3 := H2.put 2 x2
  dsimp only
  refine ⟨?_, ?_, ?_, World.cell?_setCell_same _ _ _ (cellOf_is (H3.r 3 (by omega)).1)⟩
  · rw [World.cell?_setCell_other _ _ _ _ (ne _ _ (by decide)), World.cell?_setCell_other _ _ _ _ (ne _ _ (by decide)), World.cell?_setCell_other _ _ _ _ (ne _ _ (by decide))]
    exact World.cell?_setCell_same _ _ _ (cellOf_is (H.r 0 (by omega)).1)
  · rw [World.cell?_setCell_other _ _ _ _ (ne _ _ (by decide)), World.cell?_setCell_other _ _ _ _ (ne _ _ (by decide))]
    exact World.cell?_setCell_same _ _ _ (cellOf_is (H1.r 1 (by omega)).1)
  · rw [World.cell?_setCell_other _ _ _ _ (ne _ _ (by decide))]
    exact World.cell?_setCell_same _ _ _ (cellOf_is (H2.r 2 (by omega)).1)
theorem OwnLine.lower {base b2 : Nat} {W : World} {v : LnV} (h : OwnLine base W v) (hb : b2 ≤ base) : OwnLine b2 W v := ⟨h.t.lower hb, h.s.lower hb, own_lower h.b hb, h.bi, h.sb⟩
/-- The zero line. -/
abbrev LnV.zero : LnV := ⟨none, 0, 0, none, 0, 0, none, 0, 0, false, [], [], []⟩
set_option maxHeartbeats 4000000 in
set_option maxRecDepth 100000 in
theorem freshline_any (v : LnV) (w : World) (ht : LineAt w v) (hs : SmallL v.dat) :
    Calls Try.prog 31 #[v.val] w (FreshL w v) := by
  obtain ⟨ta, tl, tc, sa, sl, sc, ba, bl, bc, bz, T, S, B⟩ := v
  have hs1 : tl ≤ 1000 := by have := hs.td; rw [show (LnV.dat ⟨ta, tl, tc, sa, sl, sc, ba, bl, bc, bz, T, S, B⟩).td.length = tl from ht.t.dlen] at this; exact this
  have hs2 : sl ≤ 1000 := by have := hs.st; rw [show (LnV.dat ⟨ta, tl, tc, sa, sl, sc, ba, bl, bc, bz, T, S, B⟩).st.length = sl from ht.s.dlen] at this; exact this
  have hs3 : bl ≤ 1000 := by have := hs.bk; rw [show (LnV.dat ⟨ta, tl, tc, sa, sl, sc, ba, bl, bc, bz, T, S, B⟩).bk.length = bl from ht.b.hlen] at this; exact this
  have HB := Lib.hid (show B.length = bl from ht.b.hlen)
  have HBI : Hid (∀ z ∈ B, In64 z) := Lib.hid ht.b.inb
  have CT : Hid (∀ V, TdsRow V ta tl tc T → Calls Try.prog 39 #[.slice ta tl tc] V (ListsPost (α := TodoD) encTd 10 okTd 56 28 V T)) := Lib.hid (fun V h => listsT_any ta tl tc T V h hs1 hs.te)
  have CS : Hid (∀ V, IssRow V sa sl sc S → Calls Try.prog 40 #[.slice sa sl sc] V (ListsPost (α := Int) encZ 1 In64 24 3 V S)) := Lib.hid (fun V h => listsI_any sa sl sc S V h hs2 hs.se)
  have CB : Hid (∀ V, IntRow V ba bl bc B → Calls Try.prog 41 #[.slice ba bl bc] V (OwnP (α := Int) encZ 1 3 V B)) := Lib.hid (fun V h => cloneI11_any ba bl bc B V h.lrow (by omega))
  have LA := Lib.hid (ht.below (below_one w (lineB ta tl tc sa sl sc ba bl bc bz)))
  have B1 := Lib.hid (LBox.new w ⟨ta, tl, tc, sa, sl, sc, ba, bl, bc, bz, T, S, B⟩)
  have HBW := Lib.hid (below_one w (lineB ta tl tc sa sl sc ba bl bc bz))
  clear ht hs hs1 hs2 hs3
  go_enter Try.func31, Try.ntmps31
  go_upto_region 1 with fail
  obtain ⟨W0, hW0⟩ : ∃ W0, w.alloc (lineB ta tl tc sa sl sc ba bl bc bz) = W0 := ⟨_, rfl⟩
  have hz0 : W0.heap.size = w.heap.size + 1 := by rw [← hW0]; simp
  rw [hW0] at LA B1 HBW ⊢
  clear hW0
  obtain ⟨V, hV⟩ : ∃ V, W0.alloc (lineB none 0 0 none 0 0 none 0 0 false) = V := ⟨_, rfl⟩
  have HZV : Hid (V.heap.size = w.heap.size + 2) := Lib.hid (by rw [← hV]; simp [hz0])
  have R1 := LBox.new W0 .zero
  have SV : HL W0 V w.heap.size (w.heap.size + 1) ⟨ta, tl, tc, sa, sl, sc, ba, bl, bc, bz, T, S, B⟩ := by
    rw [hV, hz0] at R1
    refine ⟨by rw [← hV]; exact below_one _ _, B1.out, by omega, fun j hj => ⟨?_, R1.f j⟩⟩
    match j, hj with
    | 0, _ => rw [R1.c0]; rfl
    | 1, _ => rw [R1.c1]; rfl
    | 2, _ => rw [R1.c2]; rfl
    | 3, _ => rw [R1.c3]; rfl
  rw [hV]
  clear hV hz0 R1
  have SV := SV.facts
  unfold HF at SV
  dsimp only at SV
  have nz : w.heap.size ≠ w.heap.size + 1 := by omega
  have nz2 : w.heap.size + 1 ≠ w.heap.size := by omega
  go_region_held3 (fun w' => w'.cell? ⟨w.heap.size, 0, none⟩ = some (.slice ta tl tc) ∧ w'.cell? ⟨w.heap.size, 1, none⟩ = some (.slice sa sl sc) ∧ w'.cell? ⟨w.heap.size, 2, none⟩ = some (.slice ba bl bc) ∧ w'.cell? ⟨w.heap.size, 3, none⟩ = some (.bool bz) ∧ w'.cell? ⟨w.heap.size + 1, 0, none⟩ = some (cellOf w' ⟨w.heap.size + 1, 0, none⟩) ∧ w'.cell? ⟨w.heap.size + 1, 1, none⟩ = some (cellOf w' ⟨w.heap.size + 1, 1, none⟩) ∧ w'.cell? ⟨w.heap.size + 1, 2, none⟩ = some (cellOf w' ⟨w.heap.size + 1, 2, none⟩) ∧ w'.cell? ⟨w.heap.size + 1, 3, none⟩ = some (cellOf w' ⟨w.heap.size + 1, 3, none⟩) ∧ w'.frozen? ⟨w.heap.size + 1, 0, none⟩ = false ∧ w'.frozen? ⟨w.heap.size + 1, 1, none⟩ = false ∧ w'.frozen? ⟨w.heap.size + 1, 2, none⟩ = false ∧ w'.frozen? ⟨w.heap.size + 1, 3, none⟩ = false ∧ HL W0 w' w.heap.size (w.heap.size + 1) ⟨ta, tl, tc, sa, sl, sc, ba, bl, bc, bz, T, S, B⟩)
    (first | assumption | exact hl_keep (by assumption) (by assumption) | exact hl_keep SV (Below.refl _ _).drew | exact hl_put4 (by assumption) _ _ _ _)
    (first
      | (go_at_call 39; (with_reducible refine (CT.out _ (LA.out.t.below (hl_of ‹_ ∧ _ ∧ _ ∧ _ ∧ _ ∧ _ ∧ _ ∧ _ ∧ _ ∧ _ ∧ _ ∧ _ ∧ HL _ _ _ _ _›).b)).mono ?_); rintro e w1 ⟨a1, n1, R1', k1, rfl, hd1, ho1, hb⟩; have T1 := Lib.hid ho1; have D1 := Lib.hid hd1; have N1 := Lib.hid (hl_of ‹_ ∧ _ ∧ _ ∧ _ ∧ _ ∧ _ ∧ _ ∧ _ ∧ _ ∧ _ ∧ _ ∧ _ ∧ HL _ _ _ _ _›).b.size; have KB0 := Lib.hid hb; clear ho1 hd1)
      | (go_at_call 40; (with_reducible refine (CS.out _ (LA.out.s.below (hl_of ‹_ ∧ _ ∧ _ ∧ _ ∧ _ ∧ _ ∧ _ ∧ _ ∧ _ ∧ _ ∧ _ ∧ _ ∧ HL _ _ _ _ _›).b)).mono ?_); rintro e w2 ⟨a2, n2, R2, k2, rfl, hd2, ho2, hb⟩; have T2 := Lib.hid ho2; have D2 := Lib.hid hd2; have KB1 := Lib.hid hb; clear ho2 hd2)
      | (go_at_call 41; (with_reducible refine (CB.out _ (LA.out.b.below (hl_of ‹_ ∧ _ ∧ _ ∧ _ ∧ _ ∧ _ ∧ _ ∧ _ ∧ _ ∧ _ ∧ _ ∧ _ ∧ HL _ _ _ _ _›).b)).mono ?_); rintro e w3 ⟨a3, k3, rfl, ho3, hb⟩; have T3 := Lib.hid ho3; have HL2 := Lib.hid (hl_of ‹_ ∧ _ ∧ _ ∧ _ ∧ _ ∧ _ ∧ _ ∧ _ ∧ _ ∧ _ ∧ _ ∧ _ ∧ HL _ _ _ _ _›); have KB2 := Lib.hid hb; clear ho3))
  have HH := HL2.out.keep KB2.out
  obtain ⟨r0, r1, r2, r3⟩ := put4_cell HH (.slice a1 n1 k1) (.slice a2 n2 k2) (.slice a3 B.length k3) (.bool bz)
  have HBW3 : Hid (Below w.heap.size w w3) := Lib.hid (HBW.out.trans (HH.b.mono HBW.out.size))
  have OL : Hid (OwnLine V.heap.size w3 ⟨a1, n1, k1, a2, n2, k2, a3, B.length, k3, bz, R1', R2, B⟩) := Lib.hid (own_line T1.out (Nat.le_refl _) T2.out KB0.out.size T3.out (Nat.le_trans KB0.out.size KB1.out.size) (Nat.le_refl _) HBI.out KB1.out KB2.out)
  obtain ⟨X, hX⟩ : ∃ X, (((w3.setCell ⟨w.heap.size + 1, 0, none⟩ (.slice a1 n1 k1)).setCell ⟨w.heap.size + 1, 1, none⟩ (.slice a2 n2 k2)).setCell ⟨w.heap.size + 1, 2, none⟩ (.slice a3 B.length k3)).setCell ⟨w.heap.size + 1, 3, none⟩ (.bool bz) = X := ⟨_, rfl⟩
  have OX : Hid (OwnLine w.heap.size X ⟨a1, n1, k1, a2, n2, k2, a3, B.length, k3, bz, R1', R2, B⟩) := Lib.hid (by
    rw [← hX]
    have hz := HZV.out
    exact (OL.out.stay grown_put4 (fun k hk e => by
      injection e with e
      have := (OL.out.lt hk).1
      omega)).lower (by omega))
  have BX : Hid (Below w.heap.size w X) := Lib.hid (by rw [← hX]; exact below_put4 HBW3.out (by omega))
  rw [hX] at r0 r1 r2 r3 ⊢
  clear hX HH
  go_wp2
  refine bodyPost_ret (v := lineV a1 n1 k1 a2 n2 k2 a3 B.length k3 bz) (by simp [results, Try.results31, go_sem, r0, r1, r2, r3]) rfl ⟨⟨a1, n1, k1, a2, n2, k2, a3, B.length, k3, bz, R1', R2, B⟩, rfl, ?_, OX.out, BX.out⟩
  unfold LnV.dat
  dsimp only
  rw [D1.out, D2.out]
end Go.Proofs.Ytadlmjiebhpaoaa
