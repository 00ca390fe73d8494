/- Texts joined in build order: MoveIns MoveWk. -/
import Derived.Test.YtkfmengdffpcnaaGreatDoorA16
import Derived.Test.YtkfmengdffpcnaaGreatDoorA17
namespace Go.Proofs.YtkfmengdffpcnaaGreatDoor
open Go.RowKit Go.Lib
theorem lay_grow {cs : List Value} {z : Value} {zs : List Value} {n i : Nat} (hc : cs.length = n) (hi : i < n) (hz : zs.length = n + 1 - i) : layL (layL (cs.take i ++ zs) i [z]) (i + 1) (cs.drop i) = cs.take i ++ z :: cs.drop i := by
  have hl : (cs.take i).length = i := by rw [List.length_take]; omega
  have ht : (cs.take i ++ zs).take i = cs.take i := by
    rw [List.take_append_of_le_length (by omega), List.take_of_length_le (by omega)]
  have h1 : layL (cs.take i ++ zs) i [z] = (cs.take i ++ [z]) ++ (cs.take i ++ zs).drop (i + 1) := by
    unfold layL
    rw [ht]
    rfl
  rw [h1]
  have hl2 : (cs.take i ++ [z]).length = i + 1 := by rw [List.length_append, hl]; rfl
  have hd : ((cs.take i ++ [z]) ++ (cs.take i ++ zs).drop (i + 1)).drop (i + 1 + (cs.drop i).length) = [] := List.drop_eq_nil_of_le (by
    rw [List.length_append, hl2, List.length_drop, List.length_append, hl, hz, List.length_drop, hc]
    omega)
  have ht2 : ((cs.take i ++ [z]) ++ (cs.take i ++ zs).drop (i + 1)).take (i + 1) = cs.take i ++ [z] := by
    rw [List.take_append_of_le_length (by omega), List.take_of_length_le (by omega)]
  unfold layL
  rw [hd, ht2]
  simp
set_option maxHeartbeats 8000000 in
set_option maxRecDepth 100000 in
theorem insGrow_any (w : World) (base g n cap i : Nat) (L : List Int) (z : Int) (vb : Nat) (hb : base ≤ w.heap.size) (hown : w.ownsRow base 3 1 (.slice (some ⟨g, 0, none⟩) n cap) n (L.flatMap encZ)) (hi : i < n) (hroom : cap < n + 1) (hn : n ≤ 100000) (hv : w.heap[vb]? = some (.cells #[.int .i64 z] 3 (0, 0))) :
    Calls Tryz.prog 115 #[.slice (some ⟨g, 0, none⟩) n cap, .int .i64 i, .slice (some ⟨vb, 0, none⟩) 1 1] w (InsPost base (.slice (some ⟨g, 0, none⟩) n cap) n (L.take i ++ z :: L.drop i) w) := by
  obtain ⟨i0, hi0, hz0, hzs, hzb⟩ := info_parts int_info
  obtain ⟨hsh, hcap, hmax, hfz, hsome, hglt, hbase⟩ := own_shape hown
  obtain ⟨cs, hcs⟩ : ∃ cs, L.flatMap encZ = cs := ⟨_, rfl⟩
  have hcl : cs.length = n := by rw [← hcs]; have := hown.1; omega
  have hcells : ∀ k u, cs[k]? = some u → w.cell? ⟨g, k, none⟩ = some u := fun k u hu => by
    rw [← hcs] at hu
    have := hown.cells (g := g) rfl k u hu
    rwa [Go.WideShapes.add_plain, Nat.zero_add] at this
  have h1c : ∀ u ∈ cs, u.oneCell' = true := fun u hu => by
    rw [← hcs] at hu
    obtain ⟨x, _, hxu⟩ := List.mem_flatMap.1 hu
    exact encZ_one x u hxu
  have hvc : w.cell? ⟨vb, 0, none⟩ = some (.int .i64 z) := by
    rw [cell_of_row w vb 0 _ _ (0, 0) hv]
    rfl
  have hvw : vb < w.heap.size := (Array.getElem?_eq_some_iff.1 hv).1
  have u0 := run_underlying (P := Tryz.prog) Tryz.underlying34
  have hz2 : ¬ ((i : Int) = (n : Int)) := by omega
  have hz3 : (cap : Int) < (n : Int) + 1 := by omega
  have hsz : (Tryz.prog.info? 3).map (·.size) = some 1 := by rw [hi0]; simp [hzs]
  have hkk : (n : Int) + 1 - (i : Int) = ((n + 1 - i : Nat) : Int) := by omega
  have hik : i + (n + 1 - i) = n + 1 := by omega
  have hold : (Builtin.firstCells i0.size i (.slice (some ⟨g, 0, none⟩) i cap)).run Tryz.prog w.drew = .ok (cs.take i).toArray w.drew := by
    rw [hzs]
    exact run_firstCells_some w.drew 1 i ⟨g, 0, none⟩ i cap (cs.take i) (by rw [List.length_take]; omega) (fun j v hj => by
      rw [Addr.add_lit, Nat.zero_add]
      rw [List.getElem?_take] at hj
      split at hj
      · exact hcells j v hj
      · cases hj)
  have hrz : ∀ ty, (Builtin.append_ #[34, 3] ty #[.slice (some ⟨g, 0, none⟩) i cap, .int .i64 ((n : Int) + 1 - (i : Int))]).run Tryz.prog w =
      .ok (.slice (some ⟨w.heap.size, 0, none⟩) (n + 1) (grownCap w (n + 1) cap 3)) (w.drew.alloc (.cells ((cs.take i).toArray ++ Builtin.zeroCells (Value.int .i64 0).cells (n + 1 - i) ++ Builtin.zeroCells (Value.int .i64 0).cells (grownCap w (n + 1) cap 3 - (n + 1))) 3)) := fun ty => by
    have h := Lib.run_append_grow_zeros w 34 3 ty 3 i0 _ .i64 .i64 Tryz.underlying34 Tryz.underlying3 hi0 hz0 (some ⟨g, 0, none⟩) i cap (cs.take i) hold (n + 1 - i) (by omega) (by omega) (by omega) (by omega) (by rw [hzb]; omega) (by rw [hzb, hik]; exact growslice_fits hroom (by omega))
    rw [hik] at h
    rw [hkk]
    exact h
  obtain ⟨G, hG⟩ : ∃ G, G = grownCap w (n + 1) cap 3 := ⟨_, rfl⟩
  have hGn : n + 1 ≤ G := by rw [hG]; exact grownCap_ge w _ _ _
  have hGmax : G ≤ maxLen := by rw [hG]; exact grownCap_le_maxLen w (n + 1) cap 3 (by unfold maxLen; omega)
  obtain ⟨ROW, hROW⟩ : ∃ ROW : Array Value, ROW = (cs.take i).toArray ++ Builtin.zeroCells (Value.int .i64 0).cells (n + 1 - i) ++ Builtin.zeroCells (Value.int .i64 0).cells (G - (n + 1)) := ⟨_, rfl⟩
  rw [← hG] at hrz
  rw [← hROW] at hrz
  have hzl : ∀ k, (Builtin.zeroCells (Value.int .i64 0).cells k).toList.length = k := fun k => by simp [Builtin.zeroCells, Value.cells]
  have hROWl : ROW.size = G := by
    have h1 := hzl (n + 1 - i)
    have h2 := hzl (G - (n + 1))
    rw [Array.length_toList] at h1 h2
    rw [hROW]
    simp only [Array.size_append, h1, h2, List.size_toArray, List.length_take]
    omega
  obtain ⟨W1, hW1⟩ : ∃ W1, W1 = w.drew.alloc (.cells ROW 3) := ⟨_, rfl⟩
  rw [← hW1] at hrz
  have hO0 : W1.ownsRow base 3 1 (.slice (some ⟨w.heap.size, 0, none⟩) (n + 1) G) (n + 1) (cs.take i ++ (Builtin.zeroCells (Value.int .i64 0).cells (n + 1 - i)).toList) := by
    have htl : (cs.take i ++ (Builtin.zeroCells (Value.int .i64 0).cells (n + 1 - i)).toList).length = n + 1 := by
      rw [List.length_append, hzl, List.length_take]
      omega
    refine ⟨by omega, .inr ⟨w.heap.size, G, ROW, rfl, hb, by rw [hW1]; exact heap_alloc_new w.drew _, hGn, hGmax, by omega, ?_⟩⟩
    rw [hROW, Array.toList_append, Array.toList_append, Nat.mul_one]
    rw [List.take_append_of_le_length (Nat.le_of_eq htl.symm)]
    exact List.take_of_length_le (Nat.le_of_eq htl)
  have hO1 := own_setCells [.int .i64 z] i hO0 (by simp; omega)
  have hO2 := own_setCells (cs.drop i) (i + 1) (own_drew hO1) (by rw [List.length_drop]; omega)
  rw [lay_grow hcl hi (by rw [hzl])] at hO2
  obtain ⟨-, -, -, hf1, hs1, -, -⟩ := own_shape hO0
  obtain ⟨-, -, -, hf2, hs2, -, -⟩ := own_shape hO1
  have hbel : Below w.heap.size w W1 := by rw [hW1]; exact ((Below.refl _ _).drew).alloc (Nat.le_refl _) _
  obtain ⟨W2, hW2⟩ : ∃ W2, W2 = W1.setCells w.heap.size i [.int .i64 z] := ⟨_, rfl⟩
  rw [← hW2] at hO2 hf2 hs2
  have hbel2 : Below w.heap.size w W2 := by rw [hW2]; exact below_setCells (Nat.le_refl _) _ _ _ hbel
  have hcpA : ∀ ty dc, (Builtin.copy_ #[34, 34] ty #[.slice (some ⟨w.heap.size, i, none⟩) (n + 1 - i) dc, .slice (some ⟨vb, 0, none⟩) 1 1]).run Tryz.prog W1 = .ok (goInt 1) W2 := fun ty dc => by
    rw [hW2]
    exact run_copy_cells W1 _ _ ty 3 w.heap.size i (n + 1 - i) dc ⟨vb, 0, none⟩ 1 1 [.int .i64 z] Tryz.underlying34 hsz (by simp only [Nat.min_def, List.length_singleton]; split <;> omega)
      (fun j v hj => by
        obtain ⟨hl, hg⟩ := List.getElem?_eq_some_iff.1 hj
        have hj0 : j = 0 := by simpa using hl
        subst hj0
        simp at hg
        subst hg
        simpa [Addr.add_lit] using (hbel.cell (p := ⟨vb, 0, none⟩) hvw).trans hvc)
      (fun j hj => hs1 _ (by simp at hj; omega)) (fun j hj => hf1 _) (fun v hv => by simp at hv; rw [hv]; rfl)
  obtain ⟨W3, hW3⟩ : ∃ W3, W3 = W2.drew.setCells w.heap.size (i + 1) (cs.drop i) := ⟨_, rfl⟩
  have hcpB : ∀ ty dc sc, (Builtin.copy_ #[34, 34] ty #[.slice (some ⟨w.heap.size, i + 1, none⟩) (n - i) dc, .slice (some ⟨g, i, none⟩) (n - i) sc]).run Tryz.prog W2.drew = .ok (goInt (cs.drop i).length) W3 := fun ty dc sc => by
    rw [hW3]
    exact run_copy_cells W2.drew _ _ ty 3 w.heap.size (i + 1) (n - i) dc ⟨g, i, none⟩ (n - i) sc (cs.drop i) Tryz.underlying34 hsz (by rw [List.length_drop, hcl]; simp only [Nat.min_def]; split <;> omega)
      (fun j v hj => by
        rw [Addr.add_lit]
        rw [List.getElem?_drop] at hj
        exact (hbel2.cell (p := ⟨g, i + j, none⟩) hglt).trans (hcells (i + j) v hj))
      (fun j hj => hs2 _ (by rw [List.length_drop] at hj; omega)) (fun j hj => hf2 _) (fun v hv => h1c v (List.mem_of_mem_drop hv))
  have HEND : Hid (W3.ownsRow base 3 1 (.slice (some ⟨w.heap.size, 0, none⟩) (n + 1) G) (n + 1) ((L.take i ++ z :: L.drop i).flatMap encZ) ∧ w.grownBy W3 (some g)) := Lib.hid (by
    have e : (L.take i ++ z :: L.drop i).flatMap encZ = cs.take i ++ Value.int .i64 z :: cs.drop i := by
      rw [← hcs, flat_encI, flat_encI, List.map_append, List.map_cons, List.map_take, List.map_drop]
    rw [e]
    refine ⟨by rw [hW3]; exact hO2, ?_⟩
    have hb3 : Below w.heap.size w W3 := by rw [hW3]; exact below_setCells (Nat.le_refl _) _ _ _ hbel2.drew
    exact ⟨hb3.os, hb3.tape, hb3.output, hb3.size, fun k hk _ => hb3.block k hk⟩)
  have hG63 : G ≤ 9223372036854775807 := by unfold maxLen at hGmax; omega
  have hGi : ¬ (G = i) := by omega
  have hGim : ¬ (G = i + 1) := by omega
  have hci : ¬ (cap = i) := by omega
  have hw1 : IntKind.i64.wrap ((i : Int) + 1) = (i : Int) + 1 := by rw [IntKind.wrap_i64]; omega
  have hb1 : (0 : Int) ≤ (i : Int) + 1 := by omega
  have hin : i ≤ n := by omega
  have htn : ((i : Int) + 1).toNat = i + 1 := by omega
  have hb3 : (i : Int) ≤ (n : Int) := by omega
  have hc63 : cap ≤ 9223372036854775807 := by unfold maxLen at hmax; omega
  clear hkk hik hold hROW hROWl hG hown hcells h1c hv hvc hsh hmax hfz hsome hO0 hO1 hO2 hf1 hs1 hf2 hs2 hbel hbel2 hW1 hW2 hW3 hsz hzl hGmax
  go_enter Tryz.func115, Tryz.ntmps115
  go_wp2_with (first
    | (at_builtin; refine Lib.wpList_append_run _ rfl _ _ _ _ rfl _ _ rfl rfl _ _ (hrz _) ?_)
    | (at_builtin; refine Go.Proofs.wpList_copy_runI _ rfl _ _ 34 34 rfl _ _ rfl rfl (hcpA _ _) ?_))
  go_region_law (refine Go.Proofs.step_copy_runI rfl _ _ 34 34 rfl _ _ (by simp [Act.eval, Act.put]) (by simp [Act.eval, Act.put]) (hcpB _ _ _) ?_)
  go_wp2
  go_ret
  exact ⟨_, rfl, HEND.out.1, HEND.out.2, fun b h => .inr (by
    have h2 : w.heap.size = b := by injection h
    omega)⟩
theorem insertI_any (w : World) (base n i : Nat) (v : Value) (L : List Int) (z : Int) (vb : Nat) (hb : base ≤ w.heap.size) (hown : w.ownsRow base 3 1 v n (L.flatMap encZ)) (hi : i ≤ n) (hn : n ≤ 100000) (hv : w.heap[vb]? = some (.cells #[.int .i64 z] 3 (0, 0))) (hvv : v.ownBlock ≠ some vb) :
    Calls Tryz.prog 115 #[v, .int .i64 i, .slice (some ⟨vb, 0, none⟩) 1 1] w (InsPost base v n (L.take i ++ z :: L.drop i) w) := by
  have hL : L.length = n := by have := hown.1; rw [flat_len (fun x _ => encZ_len x)] at this; omega
  by_cases he : i = n
  · subst he
    exact insEnd_any w base i v L z vb hb hown hL hn (fun j u hu => by
      rw [cell_of_row w vb j _ _ (0, 0) hv]
      simpa [encZ] using hu) (Array.getElem?_eq_some_iff.1 hv).1
  · obtain ⟨g, cap, rfl⟩ : ∃ g cap, v = .slice (some ⟨g, 0, none⟩) n cap := by
      rcases hown.2 with ⟨rfl, h0⟩ | ⟨g, cap, cur, rfl, _⟩
      · omega
      · exact ⟨_, _, rfl⟩
    by_cases hr : n + 1 ≤ cap
    · exact insRoom_any w base g n cap i L z vb hown (by omega) hr hv (fun e => hvv (by rw [e]; rfl))
    · exact insGrow_any w base g n cap i L z vb hb hown (by omega) (by omega) hn hv
end Go.Proofs.YtkfmengdffpcnaaGreatDoor
namespace Go.Proofs.YtkfmengdffpcnaaGreatDoor
open Go.RowKit
structure NoteD where
  kind : Int
  node : Int
  src : Int
  dst : Int
  name : ByteArray
  had : Bool
  has : Bool
  old : ByteArray
  new : ByteArray
deriving DecidableEq
def encO (x : NoteD) : List Value := [.int .i64 x.kind, .int .i64 x.node, .int .i64 x.src, .int .i64 x.dst, .string x.name, .bool x.had, .bool x.has, .string x.old, .string x.new]
abbrev noteV (x : NoteD) : Value := .agg #[.int .i64 x.kind, .int .i64 x.node, .int .i64 x.src, .int .i64 x.dst, .string x.name, .bool x.had, .bool x.has, .string x.old, .string x.new]
theorem encO_len (x : NoteD) : (encO x).length = 9 := rfl
theorem encO_one (x : NoteD) : ∀ u ∈ encO x, u.oneCell' = true := by
  intro u hu
  simp [encO] at hu
  rcases hu with rfl | rfl | rfl | rfl | rfl | rfl | rfl | rfl | rfl <;> rfl
structure NoteOk (x : NoteD) : Prop where
  kind : In64 x.kind
  node : In64 x.node
  src : In64 x.src
  dst : In64 x.dst
  name : x.name.size ≤ maxLen
  old : x.old.size ≤ maxLen
  new : x.new.size ≤ maxLen
structure FldOk (x : NodeD) : Prop where
  name : x.core.name.size ≤ maxLen
  is : x.core.is.size ≤ maxLen
  data : x.core.data.size ≤ maxLen
  kind : In64 x.core.kind
  parent : In64 x.core.parent
  host : In64 x.core.host
  under : In64 x.core.under
  doc : In64 x.core.doc
  kids : ∀ z ∈ x.core.kids, In64 z
structure Turn (ρ : Nat → Nat) (W W2 : World) : Prop where
  os : W2.os = W.os
  tape : W2.tape = W.tape
  output : W2.output = W.output
  size : W.heap.size ≤ W2.heap.size
  quiet : ∀ k, k < W.heap.size → (ρ k = 0 ∨ ρ k = 5) → W2.heap[k]? = W.heap[k]?
theorem Turn.block {ρ : Nat → Nat} {W W2 : World} (h : Turn ρ W W2) : ∀ k, k < W.heap.size → ρ k = 0 → W2.heap[k]? = W.heap[k]? := fun k hk h0 => h.quiet k hk (.inl h0)
theorem Turn.refl (ρ : Nat → Nat) (W : World) : Turn ρ W W := ⟨rfl, rfl, rfl, Nat.le_refl _, fun _ _ _ => rfl⟩
theorem Turn.transQ {ρ ρ1 : Nat → Nat} {a b c : World} (h : Turn ρ a b) (he : ∀ k, k < a.heap.size → (ρ k = 0 ∨ ρ k = 5) → (ρ1 k = 0 ∨ ρ1 k = 5)) (k : Turn ρ1 b c) : Turn ρ a c :=
  ⟨k.os.trans h.os, k.tape.trans h.tape, k.output.trans h.output, Nat.le_trans h.size k.size, fun i hi h0 => (k.quiet i (Nat.lt_of_lt_of_le hi h.size) (he i hi h0)).trans (h.quiet i hi h0)⟩
theorem Turn.trans {ρ ρ1 : Nat → Nat} {a b c : World} (h : Turn ρ a b) (he : ∀ k, k < a.heap.size → ρ1 k = ρ k) (k : Turn ρ1 b c) : Turn ρ a c := h.transQ (fun i hi h0 => by rw [he i hi]; exact h0) k
theorem Turn.below {ρ : Nat → Nat} {W W2 : World} {B : Nat} (h : Turn ρ W W2) (hB : B ≤ W.heap.size) (h0 : ∀ k, k < B → ρ k = 0) : Below B W W2 := ⟨h.os, h.tape, h.output, h.size, fun k hk => h.block k (by omega) (h0 k hk)⟩
theorem Turn.of_below {ρ : Nat → Nat} {W W2 : World} (h : Below W.heap.size W W2) : Turn ρ W W2 := ⟨h.os, h.tape, h.output, h.size, fun k hk _ => h.block k hk⟩
theorem Turn.setCell {ρ : Nat → Nat} {W W2 : World} (h : Turn ρ W W2) {b : Nat} (hb : W.heap.size ≤ b ∨ (ρ b ≠ 0 ∧ ρ b ≠ 5)) (o : Nat) (u : Value) : Turn ρ W (W2.setCell ⟨b, o, none⟩ u) :=
  ⟨h.os, h.tape, h.output, by simpa [World.setCell] using h.size, fun k hk h0 => (Below.heap_setCell _ _ _ k (fun e => by
    have e : k = b := e
    rcases hb with hb | hb
    · omega
    · rw [← e] at hb; exact h0.elim hb.1 hb.2)).trans (h.quiet k hk h0)⟩
theorem Turn.keep {ρ : Nat → Nat} {a b c : World} (h : Turn ρ a b) (k : Below b.heap.size b c) : Turn ρ a c := h.trans (ρ1 := ρ) (fun _ _ => rfl) (Turn.of_below k)
theorem Turn.grown {ρ : Nat → Nat} {a b c : World} {row : Option Nat} (h : Turn ρ a b) (k : b.grownBy c row) (hr : ∀ k, row = some k → a.heap.size ≤ k ∨ (ρ k ≠ 0 ∧ ρ k ≠ 5)) : Turn ρ a c :=
  ⟨k.os.trans h.os, k.tape.trans h.tape, k.output.trans h.output, Nat.le_trans h.size k.size, fun i hi h0 => (k.block i (Nat.lt_of_lt_of_le hi h.size) (fun e => by
    rcases hr i e.symm with h1 | h1
    · omega
    · exact h0.elim h1.1 h1.2)).trans (h.quiet i hi h0)⟩
theorem Turn.cell {ρ : Nat → Nat} {W W2 : World} (h : Turn ρ W W2) {b o : Nat} (hb : b < W.heap.size) (h0 : ρ b = 0) : W2.cell? ⟨b, o, none⟩ = W.cell? ⟨b, o, none⟩ := World.cell?_of_block (w := W) (a := ⟨b, o, none⟩) (h.block b hb h0)
theorem Turn.frozen {ρ : Nat → Nat} {W W2 : World} (h : Turn ρ W W2) {b o : Nat} (hb : b < W.heap.size) (h0 : ρ b = 0) : W2.frozen? ⟨b, o, none⟩ = W.frozen? ⟨b, o, none⟩ := World.frozen?_of_block (w := W) (a := ⟨b, o, none⟩) (h.block b hb h0)
theorem Turn.srow {ρ : Nat → Nat} {W W2 : World} {α : Type} {enc : α → List Value} {size : Nat} {a : Option Addr} {len cap : Nat} {L : List α} (h : Turn ρ W W2) (hr : SRow enc size W a len cap L) (h0 : ∀ b off, a = some ⟨b, off, none⟩ → 0 < len → ρ b = 0) : SRow enc size W2 a len cap L := by
  refine ⟨hr.hlen, hr.hcap, hr.hmax, hr.henc, ?_⟩
  rcases Nat.eq_zero_or_pos len with e | e
  · exact .inl e
  · rcases hr.cells with e2 | ⟨b, off, ha, hlt, hc⟩
    · omega
    · refine .inr ⟨b, off, ha, Nat.lt_of_lt_of_le hlt h.size, fun i x j v hx hv => ?_⟩
      rw [h.cell hlt (h0 b off ha e)]
      exact hc i x j v hx hv
theorem Turn.introw {ρ : Nat → Nat} {W W2 : World} {a : Option Addr} {len cap : Nat} {L : List Int} (h : Turn ρ W W2) (hr : IntRow W a len cap L) (h0 : ∀ b off, a = some ⟨b, off, none⟩ → 0 < len → ρ b = 0) : IntRow W2 a len cap L := ⟨h.srow hr.row h0, hr.inb, hr.hnil⟩
def upd (ρ : Nat → Nat) (o : Option Nat) (r : Nat) : Nat → Nat := fun b => if o = some b then r else ρ b
theorem upd_old {ρ : Nat → Nat} {o : Option Nat} {r n : Nat} (h : ∀ b, o = some b → ρ b = r ∨ n ≤ b) : ∀ k, k < n → upd ρ o r k = ρ k := by
  intro k hk
  unfold upd
  by_cases e : o = some k
  · rw [if_pos e]
    rcases h k e with h | h
    · exact h.symm
    · omega
  · rw [if_neg e]
def Aft (ρ : Nat → Nat) (b : Nat) : Prop := ∃ g0, ρ g0 ≠ 0 ∧ g0 < b
theorem Aft.turn {ρ ρ' : Nat → Nat} {b n : Nat} (h : Aft ρ b) (hb : b < n) (he : ∀ k, k < n → ρ k ≠ 0 → ρ' k ≠ 0) : Aft ρ' b := by
  obtain ⟨g0, h1, h2⟩ := h
  exact ⟨g0, he g0 (by omega) h1, h2⟩
structure Wk (ρ : Nat → Nat) (W : World) (pw g cap len : Nat) (m : Int) (M : List NodeD) (v : Value) (N : List NoteD) : Prop where
  hlen : M.length = len
  hcap : len ≤ cap
  hmax : cap ≤ maxLen
  cells : ∀ (i : Nat) x j u, M[i]? = some x → (encN x)[j]? = some u → W.cell? ⟨g, i * 10 + j, none⟩ = some u
  gfree : ∀ o, W.frozen? ⟨g, o, none⟩ = false
  glt : g < W.heap.size
  kown : ∀ (i : Nat) x, M[i]? = some x → W.ownsRow 0 3 1 (.slice x.kA x.kN x.kC) x.kN (x.core.kids.flatMap encZ)
  krole : ∀ (i : Nat) x b, M[i]? = some x → Value.ownBlock (.slice x.kA x.kN x.kC) = some b → ρ b = i + 6
  aok : ∀ x ∈ M, AttrRow W x.aA x.aN x.aC x.core.attrs
  arole : ∀ x ∈ M, ∀ b off, x.aA = some ⟨b, off, none⟩ → 0 < x.aN → ρ b = 0 ∧ Aft ρ b
  fld : ∀ x ∈ M, FldOk x
  c0 : W.cell? ⟨pw, 0, none⟩ = some (.slice (some ⟨g, 0, none⟩) len cap)
  c1 : W.cell? ⟨pw, 1, none⟩ = some (.int .i64 m)
  c2 : W.cell? ⟨pw, 2, none⟩ = some v
  pfree : ∀ o, W.frozen? ⟨pw, o, none⟩ = false
  plt : pw < W.heap.size
  nown : W.ownsRow 0 71 9 v N.length (N.flatMap encO)
  nrole : ∀ b, v.ownBlock = some b → ρ b = 3
  nok : ∀ x ∈ N, NoteOk x
  prole : ρ pw = 1
  grole : ρ g = 2
  fresh : ∀ b, W.heap.size ≤ b → ρ b = 0
  gown : W.ownsRow 0 36 10 (.slice (some ⟨g, 0, none⟩) len cap) len (M.flatMap encN)
section
variable {ρ : Nat → Nat} {W W1 W2 : World} {pw g cap len : Nat} {m : Int} {M : List NodeD} {v : Value} {N : List NoteD}
theorem own_same {w w2 : World} {base : Nat} {e : TypeId} {size n : Nat} {u : Value} {xs : List Value} (h : w.ownsRow base e size u n xs) (hb : ∀ b, u.ownBlock = some b → w2.heap[b]? = w.heap[b]?) : w2.ownsRow base e size u n xs := by
  refine ⟨h.1, ?_⟩
  rcases h.2 with h0 | ⟨g, cap, cur, hv, hlo, hg, h3⟩
  · exact .inl h0
  · exact .inr ⟨g, cap, cur, hv, hlo, (hb g (by rw [hv]; rfl)).trans hg, h3⟩
theorem own_block_lt {w : World} {base : Nat} {e : TypeId} {size n : Nat} {u : Value} {xs : List Value} (h : w.ownsRow base e size u n xs) {b : Nat} (hb : u.ownBlock = some b) : b < w.heap.size := (h.lt b hb).2
theorem Wk.kidsRow (h : Wk ρ W pw g cap len m M v N) {i : Nat} {x : NodeD} (hx : M[i]? = some x) : IntRow W x.kA x.kN x.kC x.core.kids := by
  have ho := h.kown i x hx
  have hl : x.core.kids.length = x.kN := by have := ho.1; rw [flat_len (fun z _ => encZ_len z)] at this; omega
  obtain ⟨a, c, he, hr, _⟩ := IntRow.of_own_new hl ho (h.fld x (List.mem_of_getElem? hx)).kids
  injection he with e1 e2 e3
  rw [e1, e3]
  exact hr
theorem Wk.ok (h : Wk ρ W pw g cap len m M v N) {x : NodeD} (hx : x ∈ M) : NodeOk W x := by
  obtain ⟨i, hi⟩ := List.getElem?_of_mem hx
  have f := h.fld x hx
  exact ⟨h.aok x hx, h.kidsRow hi, f.name, f.is, f.data, f.kind, f.parent, f.host, f.under, f.doc⟩
theorem Wk.row (h : Wk ρ W pw g cap len m M v N) : NodeRow W (some ⟨g, 0, none⟩) len cap M :=
  ⟨⟨h.hlen, h.hcap, h.hmax, fun x _ => encN_len x, .inr ⟨g, 0, rfl, h.glt, fun i x j u hx hu => by rw [Nat.zero_add]; exact h.cells i x j u hx hu⟩⟩, fun x hx => h.ok hx, fun e => by cases e⟩
theorem Wk.at_ (h : Wk ρ W pw g cap len m M v N) {k : Nat} {x : NodeD} (hk : M[k]? = some x) : NodeAt W g (k * 10) x :=
  ⟨h.cells k x 0 _ hk rfl, h.cells k x 1 _ hk rfl, h.cells k x 2 _ hk rfl, h.cells k x 3 _ hk rfl, h.cells k x 4 _ hk rfl, h.cells k x 5 _ hk rfl, h.cells k x 6 _ hk rfl, h.cells k x 7 _ hk rfl, h.cells k x 8 _ hk rfl, h.cells k x 9 _ hk rfl⟩
theorem attr_block_lt {a : Option Addr} {n c : Nat} {l : AL} (hr : AttrRow W a n c l) {b off : Nat} (he : a = some ⟨b, off, none⟩) (hp : 0 < n) : b < W.heap.size := by
  rcases hr.row.cells with e0 | ⟨b2, off2, ha2, hlt, _⟩
  · omega
  · rw [he] at ha2
    injection ha2 with ha2
    injection ha2 with e1
    omega
theorem Wk.keep (h : Wk ρ W pw g cap len m M v N) (hb : Below W.heap.size W W2) : Wk ρ W2 pw g cap len m M v N where
  hlen := h.hlen
  hcap := h.hcap
  hmax := h.hmax
  cells i x j u hx hu := (hb.cell (p := ⟨g, i * 10 + j, none⟩) h.glt).trans (h.cells i x j u hx hu)
  gfree o := (hb.frozen (p := ⟨g, o, none⟩) h.glt).trans (h.gfree o)
  glt := Nat.lt_of_lt_of_le h.glt hb.size
  kown i x hx := own_below (h.kown i x hx) hb
  krole := h.krole
  aok x hx := (h.aok x hx).below hb
  arole := h.arole
  fld := h.fld
  c0 := (hb.cell (p := ⟨pw, 0, none⟩) h.plt).trans h.c0
  c1 := (hb.cell (p := ⟨pw, 1, none⟩) h.plt).trans h.c1
  c2 := (hb.cell (p := ⟨pw, 2, none⟩) h.plt).trans h.c2
  pfree o := (hb.frozen (p := ⟨pw, o, none⟩) h.plt).trans (h.pfree o)
  plt := Nat.lt_of_lt_of_le h.plt hb.size
  nown := own_below h.nown hb
  nrole := h.nrole
  nok := h.nok
  prole := h.prole
  grole := h.grole
  fresh b hb2 := h.fresh b (Nat.le_trans hb.size hb2)
  gown := own_below h.gown hb
theorem Wk.markR (h : Wk ρ W pw g cap len m M v N) {b : Nat} (r : Nat) (hb : b < W.heap.size) (h0 : ρ b = 0) (ha : ∀ x ∈ M, ∀ b' off, x.aA = some ⟨b', off, none⟩ → 0 < x.aN → b' ≠ b) : Wk (upd ρ (some b) r) W pw g cap len m M v N where
  hlen := h.hlen
  hcap := h.hcap
  hmax := h.hmax
  cells := h.cells
  gfree := h.gfree
  glt := h.glt
  kown := h.kown
  krole i x b' hx hb' := by
    unfold upd
    have := h.krole i x b' hx hb'
    rw [if_neg (fun e => by injection e with e; rw [e] at h0; omega)]
    exact this
  aok := h.aok
  arole x hx b' off e hp := by
    have h1 := h.arole x hx b' off e hp
    refine ⟨?_, h1.2.turn (attr_block_lt (h.aok x hx) e hp) (fun k _ h2 => ?_)⟩
    · unfold upd
      rw [if_neg (fun e2 => by injection e2 with e2; exact ha x hx b' off e hp e2.symm)]
      exact h1.1
    · unfold upd
      rw [if_neg (fun e2 => by injection e2 with e2; rw [e2] at h0; omega)]
      exact h2
  fld := h.fld
  c0 := h.c0
  c1 := h.c1
  c2 := h.c2
  pfree := h.pfree
  plt := h.plt
  nown := h.nown
  nrole b' hb' := by
    unfold upd
    have := h.nrole b' hb'
    rw [if_neg (fun e => by injection e with e; rw [e] at h0; omega)]
    exact this
  nok := h.nok
  prole := by
    unfold upd
    have := h.prole
    rw [if_neg (fun e => by injection e with e; rw [e] at h0; omega)]
    exact this
  grole := by
    unfold upd
    have := h.grole
    rw [if_neg (fun e => by injection e with e; rw [e] at h0; omega)]
    exact this
  fresh b' hb' := by
    unfold upd
    rw [if_neg (fun e => by injection e with e; omega)]
    exact h.fresh b' hb'
  gown := h.gown
theorem Wk.mark (h : Wk ρ W pw g cap len m M v N) {b : Nat} (hb : b < W.heap.size) (h0 : ρ b = 0) (ha : ∀ x ∈ M, ∀ b' off, x.aA = some ⟨b', off, none⟩ → 0 < x.aN → b' ≠ b) : Wk (upd ρ (some b) 4) W pw g cap len m M v N := h.markR 4 hb h0 ha
theorem Wk.otherR (h : Wk ρ W pw g cap len m M v N) {b : Nat} (h4 : ρ b = 4 ∨ ρ b = 5) (o : Nat) (u : Value) : Wk ρ (W.setCell ⟨b, o, none⟩ u) pw g cap len m M v N where
  hlen := h.hlen
  hcap := h.hcap
  hmax := h.hmax
  cells i x j u' hx hu := (World.cell?_setCell_other _ _ _ _ (fun e => by injection e with e _; have := h.grole; rw [← e] at this; omega)).trans (h.cells i x j u' hx hu)
  gfree o := by rw [World.frozen?_setCell]; exact h.gfree o
  glt := by simpa [World.setCell] using h.glt
  kown i x hx := own_same (h.kown i x hx) (fun b' hb' => Below.heap_setCell _ _ _ b' (fun e => by have e : b' = b := e; have := h.krole i x b' hx hb'; rw [e] at this; omega))
  krole := h.krole
  aok x hx := ⟨(h.aok x hx).row.keep (by simp [World.setCell]) (fun b' off he hp o' => World.cell?_setCell_other _ _ _ _ (fun e => by injection e with e _; have := (h.arole x hx b' off he hp).1; rw [← e] at this; omega)), (h.aok x hx).small, (h.aok x hx).hnil⟩
  arole := h.arole
  fld := h.fld
  c0 := (World.cell?_setCell_other _ _ _ _ (fun e => by injection e with e _; have := h.prole; rw [← e] at this; omega)).trans h.c0
  c1 := (World.cell?_setCell_other _ _ _ _ (fun e => by injection e with e _; have := h.prole; rw [← e] at this; omega)).trans h.c1
  c2 := (World.cell?_setCell_other _ _ _ _ (fun e => by injection e with e _; have := h.prole; rw [← e] at this; omega)).trans h.c2
  pfree o := by rw [World.frozen?_setCell]; exact h.pfree o
  plt := by simpa [World.setCell] using h.plt
  nown := own_same h.nown (fun b' hb' => Below.heap_setCell _ _ _ b' (fun e => by have e : b' = b := e; have := h.nrole b' hb'; rw [e] at this; omega))
  nrole := h.nrole
  nok := h.nok
  prole := h.prole
  grole := h.grole
  fresh b' hb' := h.fresh b' (by simpa [World.setCell] using hb')
  gown := own_same h.gown (fun b' hb' => Below.heap_setCell _ _ _ b' (fun e => by
    have e : b' = b := e
    have hb' : some g = some b' := hb'
    injection hb' with e2
    have := h.grole
    rw [e2, e] at this
    omega))
theorem Wk.other (h : Wk ρ W pw g cap len m M v N) {b : Nat} (h4 : ρ b = 4) (o : Nat) (u : Value) : Wk ρ (W.setCell ⟨b, o, none⟩ u) pw g cap len m M v N := h.otherR (.inl h4) o u
theorem Wk.setG (h : Wk ρ W pw g cap len m M v N) {k j : Nat} {x y : NodeD} {u : Value} (hk : M[k]? = some x) (hj : j < 10) (he : encN y = (encN x).set j u) (hkid : y.kA = x.kA ∧ y.kN = x.kN ∧ y.kC = x.kC ∧ y.core.kids = x.core.kids)
    (ha : AttrRow W y.aA y.aN y.aC y.core.attrs) (har : ∀ b off, y.aA = some ⟨b, off, none⟩ → 0 < y.aN → ρ b = 0 ∧ Aft ρ b) (hf : FldOk y) : Wk ρ (W.setCell ⟨g, k * 10 + j, none⟩ u) pw g cap len m (M.set k y) v N := by
  obtain ⟨hkl, _⟩ := List.getElem?_eq_some_iff.1 hk
  have gne : ∀ b o, ρ b ≠ 2 → (W.setCell ⟨g, k * 10 + j, none⟩ u).cell? ⟨b, o, none⟩ = W.cell? ⟨b, o, none⟩ := fun b o hb => World.cell?_setCell_other _ _ _ _ (fun e => by injection e with e _; exact hb (by rw [← e]; exact h.grole))
  have bne : ∀ b, ρ b ≠ 2 → (W.setCell ⟨g, k * 10 + j, none⟩ u).heap[b]? = W.heap[b]? := fun b hb => Below.heap_setCell _ _ _ b (fun e => hb (by have e : b = g := e; rw [e]; exact h.grole))
  have arow : ∀ {a : Option Addr} {n c : Nat} {l : AL}, AttrRow W a n c l → (∀ b off, a = some ⟨b, off, none⟩ → 0 < n → ρ b = 0 ∧ Aft ρ b) → AttrRow (W.setCell ⟨g, k * 10 + j, none⟩ u) a n c l := fun hr h0 => ⟨hr.row.keep (by simp [World.setCell]) (fun b off he hp o' => gne b o' (by rw [(h0 b off he hp).1]; decide)), hr.small, hr.hnil⟩
  have getM : ∀ {i : Nat} {z : NodeD}, (M.set k y)[i]? = some z → (i = k ∧ z = y) ∨ (i ≠ k ∧ M[i]? = some z) := fun {i z} hz => by
    by_cases e : i = k
    · subst e
      rw [List.getElem?_set_self hkl] at hz
      exact .inl ⟨rfl, (Option.some.inj hz).symm⟩
    · rw [List.getElem?_set_ne (fun e2 => e e2.symm)] at hz
      exact .inr ⟨e, hz⟩
  refine ⟨by rw [List.length_set]; exact h.hlen, h.hcap, h.hmax, fun i z j' u' hz hu => ?_, fun o => by rw [World.frozen?_setCell]; exact h.gfree o, by simpa [World.setCell] using h.glt, fun i z hz => ?_, fun i z b hz hb => ?_, fun z hz => ?_, fun z hz => ?_, fun z hz => ?_,
    (gne _ _ (by rw [h.prole]; decide)).trans h.c0, (gne _ _ (by rw [h.prole]; decide)).trans h.c1, (gne _ _ (by rw [h.prole]; decide)).trans h.c2, fun o => by rw [World.frozen?_setCell]; exact h.pfree o, by simpa [World.setCell] using h.plt,
    own_same h.nown (fun b hb => bne b (by rw [h.nrole b hb]; decide)), h.nrole, h.nok, h.prole, h.grole, fun b hb => h.fresh b (by simpa [World.setCell] using hb), ?_⟩
  · have hj' : j' < 10 := by have := (List.getElem?_eq_some_iff.1 hu).1; rwa [encN_len] at this
    rcases getM hz with ⟨rfl, rfl⟩ | ⟨hne, hz⟩
    · rw [he] at hu
      by_cases ej : j = j'
      · subst ej
        rw [List.getElem?_set_self (by rw [encN_len]; exact hj)] at hu
        rw [← Option.some.inj hu]
        obtain ⟨v0, hv0⟩ : ∃ v0, (encN x)[j]? = some v0 := ⟨_, List.getElem?_eq_getElem (by rw [encN_len]; exact hj)⟩
        exact World.cell?_setCell_same _ _ _ (h.cells _ x j v0 hk hv0)
      · rw [List.getElem?_set_ne ej] at hu
        rw [World.cell?_setCell_other _ _ _ _ (fun e' => by injection e' with _ e'; omega)]
        exact h.cells _ x j' u' hk hu
    · rw [World.cell?_setCell_other _ _ _ _ (fun e' => by injection e' with _ e'; omega)]
      exact h.cells i z j' u' hz hu
  · have key : ∀ (i : Nat) (z : NodeD), M[i]? = some z → (W.setCell ⟨g, k * 10 + j, none⟩ u).ownsRow 0 3 1 (.slice z.kA z.kN z.kC) z.kN (z.core.kids.flatMap encZ) := fun i z hz => own_same (h.kown i z hz) (fun b hb => bne b (by rw [h.krole i z b hz hb]; omega))
    rcases getM hz with ⟨rfl, rfl⟩ | ⟨_, hz⟩
    · rw [hkid.1, hkid.2.1, hkid.2.2.1, hkid.2.2.2]
      exact key _ x hk
    · exact key i z hz
  · rcases getM hz with ⟨rfl, rfl⟩ | ⟨_, hz⟩
    · rw [hkid.1, hkid.2.1, hkid.2.2.1] at hb
      exact h.krole _ x b hk hb
    · exact h.krole i z b hz hb
  · rcases List.mem_or_eq_of_mem_set hz with hz | rfl
    · exact arow (h.aok z hz) (h.arole z hz)
    · exact arow ha har
  · rcases List.mem_or_eq_of_mem_set hz with hz | rfl
    · exact h.arole z hz
    · exact har
  · rcases List.mem_or_eq_of_mem_set hz with hz | rfl
    · exact h.fld z hz
    · exact hf
  · have hl := h.hlen
    have := own_setCell h.gown (j := k * 10 + j) (by omega) u
    rwa [flat_set (fun z _ => encN_len z) hk he hj] at this
theorem Wk.setP (h : Wk ρ W pw g cap len m M v N) {k : Nat} {x : NodeD} (hk : M[k]? = some x) {p : Int} (hp : In64 p) : Wk ρ (W.setCell ⟨g, k * 10 + 5, none⟩ (.int .i64 p)) pw g cap len m (M.set k (withP x p)) v N := by
  have hm := List.mem_of_getElem? hk
  have f := h.fld x hm
  exact h.setG hk (by omega) rfl ⟨rfl, rfl, rfl, rfl⟩ (h.aok x hm) (h.arole x hm) ⟨f.name, f.is, f.data, f.kind, hp, f.host, f.under, f.doc, f.kids⟩
theorem Wk.setD (h : Wk ρ W pw g cap len m M v N) {k : Nat} {x : NodeD} (hk : M[k]? = some x) {d : Int} (hd : In64 d) : Wk ρ (W.setCell ⟨g, k * 10 + 9, none⟩ (.int .i64 d)) pw g cap len m (M.set k (withD x d)) v N := by
  have hm := List.mem_of_getElem? hk
  have f := h.fld x hm
  exact h.setG hk (by omega) rfl ⟨rfl, rfl, rfl, rfl⟩ (h.aok x hm) (h.arole x hm) ⟨f.name, f.is, f.data, f.kind, f.parent, f.host, f.under, hd, f.kids⟩
structure Mid (ρ : Nat → Nat) (W1 : World) (pw g cap len : Nat) (m : Int) (M : List NodeD) (v : Value) (N : List NoteD) : Prop where
  cells : ∀ (i : Nat) x j u, M[i]? = some x → (encN x)[j]? = some u → W1.cell? ⟨g, i * 10 + j, none⟩ = some u
  gfree : ∀ o, W1.frozen? ⟨g, o, none⟩ = false
  c0 : W1.cell? ⟨pw, 0, none⟩ = some (.slice (some ⟨g, 0, none⟩) len cap)
theorem Wk.mid (h : Wk ρ W pw g cap len m M v N) {row : Option Nat} (hg : W.grownBy W1 row) (hr : ∀ b, row = some b → 6 ≤ ρ b) : Mid ρ W1 pw g cap len m M v N := by
  have same : ∀ b, b < W.heap.size → ρ b < 6 → W1.heap[b]? = W.heap[b]? := fun b hb h5 => hg.block b hb (fun e => by have := hr b e.symm; omega)
  have sg := same g h.glt (by rw [h.grole]; decide)
  exact ⟨fun i x j u hx hu => (World.cell?_of_block (w := W) (a := ⟨g, i * 10 + j, none⟩) sg).trans (h.cells i x j u hx hu), fun o => (World.frozen?_of_block (w := W) (a := ⟨g, o, none⟩) sg).trans (h.gfree o), (World.cell?_of_block (w := W) (a := ⟨pw, 0, none⟩) (same pw h.plt (by rw [h.prole]; decide))).trans h.c0⟩
theorem Wk.setK (h : Wk ρ W pw g cap len m M v N) {k : Nat} {x : NodeD} (hk : M[k]? = some x) (hg : W.grownBy W1 (Value.ownBlock (.slice x.kA x.kN x.kC))) {a : Option Addr} {n c : Nat} {l : List Int} (ho : W1.ownsRow 0 3 1 (.slice a n c) n (l.flatMap encZ))
    (hb : ∀ b, Value.ownBlock (.slice a n c) = some b → Value.ownBlock (.slice x.kA x.kN x.kC) = some b ∨ W.heap.size ≤ b) (hl : ∀ z ∈ l, In64 z) :
    Wk (upd ρ (Value.ownBlock (.slice a n c)) (k + 6)) (W1.setCell ⟨g, k * 10 + 6, none⟩ (.slice a n c)) pw g cap len m (M.set k (withK x a n c l)) v N := by
  obtain ⟨hkl, _⟩ := List.getElem?_eq_some_iff.1 hk
  have hm := List.mem_of_getElem? hk
  have rold : ∀ b, Value.ownBlock (.slice x.kA x.kN x.kC) = some b → ρ b = k + 6 := fun b hb => h.krole k x b hk hb
  have same1 : ∀ b, b < W.heap.size → ρ b ≠ k + 6 → W1.heap[b]? = W.heap[b]? := fun b hb1 h5 => hg.block b hb1 (fun e => h5 (rold b e.symm))
  have same : ∀ b, b < W.heap.size → ρ b ≠ k + 6 → ρ b ≠ 2 → (W1.setCell ⟨g, k * 10 + 6, none⟩ (.slice a n c)).heap[b]? = W.heap[b]? := fun b hb1 h5 h2 => (Below.heap_setCell _ _ _ b (fun e => h2 (by have e : b = g := e; rw [e]; exact h.grole))).trans (same1 b hb1 h5)
  have cel : ∀ b o, b < W.heap.size → ρ b ≠ k + 6 → ρ b ≠ 2 → (W1.setCell ⟨g, k * 10 + 6, none⟩ (.slice a n c)).cell? ⟨b, o, none⟩ = W.cell? ⟨b, o, none⟩ := fun b o h1 h2 h3 => World.cell?_of_block (w := W) (a := ⟨b, o, none⟩) (same b h1 h2 h3)
  have mid := h.mid hg (fun b hb => by rw [rold b hb]; omega)
  have old := upd_old (ρ := ρ) (o := Value.ownBlock (.slice a n c)) (r := k + 6) (n := W.heap.size) (fun b hb2 => (hb b hb2).imp (rold b) id)
  have hsz : W.heap.size ≤ (W1.setCell ⟨g, k * 10 + 6, none⟩ (.slice a n c)).heap.size := by simpa [World.setCell] using hg.size
  have nb : ∀ b, Value.ownBlock (.slice a n c) = some b → b < W1.heap.size ∧ b ≠ g := fun b hb2 => ⟨own_block_lt ho hb2, fun e => by
    rcases hb b hb2 with h1 | h1
    · have := rold b h1
      rw [e, h.grole] at this
      omega
    · have := h.glt
      omega⟩
  have getM : ∀ {i : Nat} {z : NodeD}, (M.set k (withK x a n c l))[i]? = some z → (i = k ∧ z = withK x a n c l) ∨ (i ≠ k ∧ M[i]? = some z) := fun {i z} hz => by
    by_cases e : i = k
    · subst e
      rw [List.getElem?_set_self hkl] at hz
      exact .inl ⟨rfl, (Option.some.inj hz).symm⟩
    · rw [List.getElem?_set_ne (fun e2 => e e2.symm)] at hz
      exact .inr ⟨e, hz⟩
  have arow : ∀ {a' : Option Addr} {n' c' : Nat} {l' : AL}, AttrRow W a' n' c' l' → (∀ b off, a' = some ⟨b, off, none⟩ → 0 < n' → ρ b = 0 ∧ Aft ρ b) → AttrRow (W1.setCell ⟨g, k * 10 + 6, none⟩ (.slice a n c)) a' n' c' l' := fun {a' n' c' l'} hr h0 => ⟨hr.row.keep hsz (fun b off he hp o' => by
    have hlt : b < W.heap.size := by
      rcases hr.row.cells with e0 | ⟨b2, off2, ha2, hlt, _⟩
      · omega
      · rw [he] at ha2
        injection ha2 with ha2
        injection ha2 with e1
        omega
    exact cel b o' hlt (by rw [(h0 b off he hp).1]; omega) (by rw [(h0 b off he hp).1]; decide)), hr.small, hr.hnil⟩
  have f := h.fld x hm
  have p3 : ρ pw ≠ k + 6 ∧ ρ pw ≠ 2 := by rw [h.prole]; omega
  refine ⟨by rw [List.length_set]; exact h.hlen, h.hcap, h.hmax, fun i z j' u' hz hu => ?_, fun o => by rw [World.frozen?_setCell]; exact mid.gfree o, Nat.lt_of_lt_of_le h.glt hsz, fun i z hz => ?_, fun i z b hz hb2 => ?_, fun z hz => ?_, fun z hz b off he hp => ?_, fun z hz => ?_,
    (cel _ _ h.plt p3.1 p3.2).trans h.c0, (cel _ _ h.plt p3.1 p3.2).trans h.c1, (cel _ _ h.plt p3.1 p3.2).trans h.c2, fun o => (World.frozen?_of_block (w := W) (a := ⟨pw, o, none⟩) (same pw h.plt p3.1 p3.2)).trans (h.pfree o), Nat.lt_of_lt_of_le h.plt hsz,
    own_same h.nown (fun b hb2 => same b (own_block_lt h.nown hb2) (by rw [h.nrole b hb2]; omega) (by rw [h.nrole b hb2]; decide)), fun b hb2 => by rw [old b (own_block_lt h.nown hb2)]; exact h.nrole b hb2, h.nok, by rw [old pw h.plt]; exact h.prole, by rw [old g h.glt]; exact h.grole, fun b hb2 => ?_, ?_⟩
  · have hj' : j' < 10 := by have := (List.getElem?_eq_some_iff.1 hu).1; rwa [encN_len] at this
    rcases getM hz with ⟨rfl, rfl⟩ | ⟨hne, hz⟩
    · by_cases ej : j' = 6
      · subst ej
        have hu : some (Value.slice a n c) = some u' := hu
        rw [← Option.some.inj hu]
        exact World.cell?_setCell_same _ _ _ (mid.cells i x 6 _ hk rfl)
      · rw [World.cell?_setCell_other _ _ _ _ (fun e' => by injection e' with _ e'; omega)]
        refine mid.cells i x j' u' hk ?_
        rw [show encN (withK x a n c l) = (encN x).set 6 (.slice a n c) from rfl, List.getElem?_set_ne (fun e => ej e.symm)] at hu
        exact hu
    · rw [World.cell?_setCell_other _ _ _ _ (fun e' => by injection e' with _ e'; omega)]
      exact mid.cells i z j' u' hz hu
  · rcases getM hz with ⟨rfl, rfl⟩ | ⟨hne, hz⟩
    · exact own_same ho (fun b hb2 => Below.heap_setCell _ _ _ b (nb b hb2).2)
    · refine own_same (h.kown i z hz) (fun b hb2 => same b (own_block_lt (h.kown i z hz) hb2) ?_ ?_)
      · rw [h.krole i z b hz hb2]; omega
      · rw [h.krole i z b hz hb2]; omega
  · rcases getM hz with ⟨rfl, rfl⟩ | ⟨hne, hz⟩
    · have hb2 : Value.ownBlock (.slice a n c) = some b := hb2
      unfold upd
      rw [if_pos hb2]
    · rw [old b (own_block_lt (h.kown i z hz) hb2)]
      exact h.krole i z b hz hb2
  · rcases List.mem_or_eq_of_mem_set hz with hz | rfl
    · exact arow (h.aok z hz) (h.arole z hz)
    · exact arow (h.aok x hm) (h.arole x hm)
  · have key : ∀ z ∈ M, z.aA = some ⟨b, off, none⟩ → 0 < z.aN → upd ρ (Value.ownBlock (.slice a n c)) (k + 6) b = 0 ∧ Aft (upd ρ (Value.ownBlock (.slice a n c)) (k + 6)) b := fun z hz he hp => by
      have hlt : b < W.heap.size := by
        rcases (h.aok z hz).row.cells with e0 | ⟨b2, off2, ha2, hlt, _⟩
        · omega
        · rw [he] at ha2
          injection ha2 with ha2
          injection ha2 with e1
          omega
      have h1 := h.arole z hz b off he hp
      exact ⟨(old b hlt).trans h1.1, h1.2.turn hlt (fun k' hk' h2 => by rw [old k' hk']; exact h2)⟩
    rcases List.mem_or_eq_of_mem_set hz with hz | rfl
    · exact key z hz he hp
    · exact key x hm he hp
  · rcases List.mem_or_eq_of_mem_set hz with hz | rfl
    · exact h.fld z hz
    · exact ⟨f.name, f.is, f.data, f.kind, f.parent, f.host, f.under, f.doc, hl⟩
  · have hb3 : W1.heap.size ≤ b := by simpa [World.setCell] using hb2
    unfold upd
    rw [if_neg (fun e => by have := (nb b e).1; omega)]
    exact h.fresh b (Nat.le_trans hg.size hb3)
  · have hl := h.hlen
    have h1 := own_same (w2 := W1) h.gown (fun b hb2 => by
      have hb2 : some g = some b := hb2
      injection hb2 with e2
      rw [← e2]
      exact same1 g h.glt (by rw [h.grole]; omega))
    have := own_setCell h1 (j := k * 10 + 6) (by omega) (.slice a n c)
    rwa [flat_set (fun z _ => encN_len z) hk (y := withK x a n c l) rfl (by decide)] at this
theorem Wk.note (h : Wk ρ W pw g cap len m M v N) {x : NoteD} (hx : NoteOk x) {v' : Value} (hg : W.grownBy W1 v.ownBlock) (ho : W1.ownsRow 0 71 9 v' (N.length + 1) ((N ++ [x]).flatMap encO)) (hb : ∀ b, v'.ownBlock = some b → v.ownBlock = some b ∨ W.heap.size ≤ b) :
    Wk (upd ρ v'.ownBlock 3) (W1.setCell ⟨pw, 2, none⟩ v') pw g cap len m M v' (N ++ [x]) := by
  have same1 : ∀ b, b < W.heap.size → ρ b ≠ 3 → W1.heap[b]? = W.heap[b]? := fun b hb1 h5 => hg.block b hb1 (fun e => h5 (h.nrole b e.symm))
  have same : ∀ b, b < W.heap.size → ρ b ≠ 3 → ρ b ≠ 1 → (W1.setCell ⟨pw, 2, none⟩ v').heap[b]? = W.heap[b]? := fun b hb1 h5 h2 => (Below.heap_setCell _ _ _ b (fun e => h2 (by have e : b = pw := e; rw [e]; exact h.prole))).trans (same1 b hb1 h5)
  have cel : ∀ b o, b < W.heap.size → ρ b ≠ 3 → ρ b ≠ 1 → (W1.setCell ⟨pw, 2, none⟩ v').cell? ⟨b, o, none⟩ = W.cell? ⟨b, o, none⟩ := fun b o h1 h2 h3 => World.cell?_of_block (w := W) (a := ⟨b, o, none⟩) (same b h1 h2 h3)
  have sp := same1 pw h.plt (by rw [h.prole]; decide)
  have pc : ∀ o, W1.cell? ⟨pw, o, none⟩ = W.cell? ⟨pw, o, none⟩ := fun o => World.cell?_of_block (w := W) (a := ⟨pw, o, none⟩) sp
  have old := upd_old (ρ := ρ) (o := v'.ownBlock) (r := 3) (n := W.heap.size) (fun b hb2 => (hb b hb2).imp (h.nrole b) id)
  have hsz : W.heap.size ≤ (W1.setCell ⟨pw, 2, none⟩ v').heap.size := by simpa [World.setCell] using hg.size
  have nb : ∀ b, v'.ownBlock = some b → b < W1.heap.size ∧ b ≠ pw := fun b hb2 => ⟨own_block_lt ho hb2, fun e => by
    rcases hb b hb2 with h1 | h1
    · have := h.nrole b h1
      rw [e, h.prole] at this
      omega
    · have := h.plt
      omega⟩
  have g3 : ρ g ≠ 3 ∧ ρ g ≠ 1 := by rw [h.grole]; decide
  refine ⟨h.hlen, h.hcap, h.hmax, fun i z j' u' hz hu => (cel _ _ h.glt g3.1 g3.2).trans (h.cells i z j' u' hz hu), fun o => (World.frozen?_of_block (w := W) (a := ⟨g, o, none⟩) (same g h.glt g3.1 g3.2)).trans (h.gfree o), Nat.lt_of_lt_of_le h.glt hsz,
    fun i z hz => own_same (h.kown i z hz) (fun b hb2 => same b (own_block_lt (h.kown i z hz) hb2) (by rw [h.krole i z b hz hb2]; omega) (by rw [h.krole i z b hz hb2]; omega)), fun i z b hz hb2 => by rw [old b (own_block_lt (h.kown i z hz) hb2)]; exact h.krole i z b hz hb2,
    fun z hz => ⟨(h.aok z hz).row.keep hsz (fun b off he hp o' => ?_), (h.aok z hz).small, (h.aok z hz).hnil⟩, fun z hz b off he hp => ?_, h.fld,
    (World.cell?_setCell_other _ _ _ _ (fun e => by injection e with _ e; omega)).trans ((pc 0).trans h.c0), (World.cell?_setCell_other _ _ _ _ (fun e => by injection e with _ e; omega)).trans ((pc 1).trans h.c1), World.cell?_setCell_same _ _ _ ((pc 2).trans h.c2),
    fun o => by rw [World.frozen?_setCell]; exact (World.frozen?_of_block (w := W) (a := ⟨pw, o, none⟩) sp).trans (h.pfree o), Nat.lt_of_lt_of_le h.plt hsz, by rw [List.length_append]; exact own_same ho (fun b hb2 => Below.heap_setCell _ _ _ b (nb b hb2).2), fun b hb2 => by unfold upd; rw [if_pos hb2],
    fun z hz => by rcases List.mem_append.1 hz with hz | hz; exact h.nok z hz; rw [List.mem_singleton.1 hz]; exact hx, by rw [old pw h.plt]; exact h.prole, by rw [old g h.glt]; exact h.grole, fun b hb2 => ?_, own_same h.gown (fun b hb2 => by
      have hb2 : some g = some b := hb2
      injection hb2 with e2
      rw [← e2]
      exact same g h.glt g3.1 g3.2)⟩
  · have hlt := attr_block_lt (h.aok z hz) he hp
    exact cel b o' hlt (by rw [(h.arole z hz b off he hp).1]; decide) (by rw [(h.arole z hz b off he hp).1]; decide)
  · have h1 := h.arole z hz b off he hp
    have hlt := attr_block_lt (h.aok z hz) he hp
    exact ⟨(old b hlt).trans h1.1, h1.2.turn hlt (fun k' hk' h2 => by rw [old k' hk']; exact h2)⟩
  · have hb3 : W1.heap.size ≤ b := by simpa [World.setCell] using hb2
    unfold upd
    rw [if_neg (fun e => by have := (nb b e).1; omega)]
    exact h.fresh b (Nat.le_trans hg.size hb3)
end
end Go.Proofs.YtkfmengdffpcnaaGreatDoor
