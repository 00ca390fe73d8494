/- Texts joined in build order: MoveIns. -/
import Derived.Test.YtnjoimedilonnaaGreatC25
namespace Go.Proofs.YtnjoimedilonnaaGreat
open Go.RowKit Go.Lib
theorem lay_grow {cs : List Value} {z : Value} {zs : List Value} {n i : Nat} (hc : cs.length = n) (hi : i < n) (hz : zs.length = n + 1 - i) : layL (layL (cs.take i ++ zs) i [z]) (i + 1) (cs.drop i) = cs.take i ++ z :: cs.drop i := by
  have hl : (cs.take i).length = i := by rw [List.length_take]; omega
  have ht : (cs.take i ++ zs).take i = cs.take i := by
    rw [List.take_append_of_le_length (by omega), List.take_of_length_le (by omega)]
  have h1 : layL (cs.take i ++ zs) i [z] = (cs.take i ++ [z]) ++ (cs.take i ++ zs).drop (i + 1) := by
    unfold layL
    rw [ht]
    rfl
  rw [h1]
  have hl2 : (cs.take i ++ [z]).length = i + 1 := by rw [List.length_append, hl]; rfl
  have hd : ((cs.take i ++ [z]) ++ (cs.take i ++ zs).drop (i + 1)).drop (i + 1 + (cs.drop i).length) = [] := List.drop_eq_nil_of_le (by
    rw [List.length_append, hl2, List.length_drop, List.length_append, hl, hz, List.length_drop, hc]
    omega)
  have ht2 : ((cs.take i ++ [z]) ++ (cs.take i ++ zs).drop (i + 1)).take (i + 1) = cs.take i ++ [z] := by
    rw [List.take_append_of_le_length (by omega), List.take_of_length_le (by omega)]
  unfold layL
  rw [hd, ht2]
  simp
set_option maxHeartbeats 8000000 in
set_option maxRecDepth 100000 in
theorem insGrow_any (w : World) (base g n cap i : Nat) (L : List Int) (z : Int) (vb : Nat) (hb : base ≤ w.heap.size) (hown : w.ownsRow base 3 1 (.slice (some ⟨g, 0, none⟩) n cap) n (L.flatMap encZ)) (hi : i < n) (hroom : cap < n + 1) (hn : n ≤ 100000) (hv : w.heap[vb]? = some (.cells #[.int .i64 z] 3 (0, 0))) :
    Calls Tryz.prog 91 #[.slice (some ⟨g, 0, none⟩) n cap, .int .i64 i, .slice (some ⟨vb, 0, none⟩) 1 1] w (InsPost base (.slice (some ⟨g, 0, none⟩) n cap) n (L.take i ++ z :: L.drop i) w) := by
  obtain ⟨i0, hi0, hz0, hzs, hzb⟩ := info_parts int_info
  obtain ⟨hsh, hcap, hmax, hfz, hsome, hglt, hbase⟩ := own_shape hown
  obtain ⟨cs, hcs⟩ : ∃ cs, L.flatMap encZ = cs := ⟨_, rfl⟩
  have hcl : cs.length = n := by rw [← hcs]; have := hown.1; omega
  have hcells : ∀ k u, cs[k]? = some u → w.cell? ⟨g, k, none⟩ = some u := fun k u hu => by
    rw [← hcs] at hu
    have := hown.cells (g := g) rfl k u hu
    rwa [Go.WideShapes.add_plain, Nat.zero_add] at this
  have h1c : ∀ u ∈ cs, u.oneCell' = true := fun u hu => by
    rw [← hcs] at hu
    obtain ⟨x, _, hxu⟩ := List.mem_flatMap.1 hu
    exact encZ_one x u hxu
  have hvc : w.cell? ⟨vb, 0, none⟩ = some (.int .i64 z) := by
    rw [cell_of_row w vb 0 _ _ (0, 0) hv]
    rfl
  have hvw : vb < w.heap.size := (Array.getElem?_eq_some_iff.1 hv).1
  have u0 := run_underlying (P := Tryz.prog) Tryz.underlying27
  have hz2 : ¬ ((i : Int) = (n : Int)) := by omega
  have hz3 : (cap : Int) < (n : Int) + 1 := by omega
  have hsz : (Tryz.prog.info? 3).map (·.size) = some 1 := by rw [hi0]; simp [hzs]
  have hkk : (n : Int) + 1 - (i : Int) = ((n + 1 - i : Nat) : Int) := by omega
  have hik : i + (n + 1 - i) = n + 1 := by omega
  have hold : (Builtin.firstCells i0.size i (.slice (some ⟨g, 0, none⟩) i cap)).run Tryz.prog w.drew = .ok (cs.take i).toArray w.drew := by
    rw [hzs]
    exact run_firstCells_some w.drew 1 i ⟨g, 0, none⟩ i cap (cs.take i) (by rw [List.length_take]; omega) (fun j v hj => by
      rw [Addr.add_lit, Nat.zero_add]
      rw [List.getElem?_take] at hj
      split at hj
      · exact hcells j v hj
      · cases hj)
  have hrz : ∀ ty, (Builtin.append_ #[27, 3] ty #[.slice (some ⟨g, 0, none⟩) i cap, .int .i64 ((n : Int) + 1 - (i : Int))]).run Tryz.prog w =
      .ok (.slice (some ⟨w.heap.size, 0, none⟩) (n + 1) (grownCap w (n + 1) cap 3)) (w.drew.alloc (.cells ((cs.take i).toArray ++ Builtin.zeroCells (Value.int .i64 0).cells (n + 1 - i) ++ Builtin.zeroCells (Value.int .i64 0).cells (grownCap w (n + 1) cap 3 - (n + 1))) 3)) := fun ty => by
    have h := Lib.run_append_grow_zeros w 27 3 ty 3 i0 _ .i64 .i64 Tryz.underlying27 Tryz.underlying3 hi0 hz0 (some ⟨g, 0, none⟩) i cap (cs.take i) hold (n + 1 - i) (by omega) (by omega) (by omega) (by omega) (by rw [hzb]; omega) (by rw [hzb, hik]; exact growslice_fits hroom (by omega))
    rw [hik] at h
    rw [hkk]
    exact h
  obtain ⟨G, hG⟩ : ∃ G, G = grownCap w (n + 1) cap 3 := ⟨_, rfl⟩
  have hGn : n + 1 ≤ G := by rw [hG]; exact grownCap_ge w _ _ _
  have hGmax : G ≤ maxLen := by rw [hG]; exact grownCap_le_maxLen w (n + 1) cap 3 (by unfold maxLen; omega)
  obtain ⟨ROW, hROW⟩ : ∃ ROW : Array Value, ROW = (cs.take i).toArray ++ Builtin.zeroCells (Value.int .i64 0).cells (n + 1 - i) ++ Builtin.zeroCells (Value.int .i64 0).cells (G - (n + 1)) := ⟨_, rfl⟩
  rw [← hG] at hrz
  rw [← hROW] at hrz
  have hzl : ∀ k, (Builtin.zeroCells (Value.int .i64 0).cells k).toList.length = k := fun k => by simp [Builtin.zeroCells, Value.cells]
  have hROWl : ROW.size = G := by
    have h1 := hzl (n + 1 - i)
    have h2 := hzl (G - (n + 1))
    rw [Array.length_toList] at h1 h2
    rw [hROW]
    simp only [Array.size_append, h1, h2, List.size_toArray, List.length_take]
    omega
  obtain ⟨W1, hW1⟩ : ∃ W1, W1 = w.drew.alloc (.cells ROW 3) := ⟨_, rfl⟩
  rw [← hW1] at hrz
  have hO0 : W1.ownsRow base 3 1 (.slice (some ⟨w.heap.size, 0, none⟩) (n + 1) G) (n + 1) (cs.take i ++ (Builtin.zeroCells (Value.int .i64 0).cells (n + 1 - i)).toList) := by
    have htl : (cs.take i ++ (Builtin.zeroCells (Value.int .i64 0).cells (n + 1 - i)).toList).length = n + 1 := by
      rw [List.length_append, hzl, List.length_take]
      omega
    refine ⟨by omega, .inr ⟨w.heap.size, G, ROW, rfl, hb, by rw [hW1]; exact heap_alloc_new w.drew _, hGn, hGmax, by omega, ?_⟩⟩
    rw [hROW, Array.toList_append, Array.toList_append, Nat.mul_one]
    rw [List.take_append_of_le_length (Nat.le_of_eq htl.symm)]
    exact List.take_of_length_le (Nat.le_of_eq htl)
  have hO1 := own_setCells [.int .i64 z] i hO0 (by simp; omega)
  have hO2 := own_setCells (cs.drop i) (i + 1) (own_drew hO1) (by rw [List.length_drop]; omega)
  rw [lay_grow hcl hi (by rw [hzl])] at hO2
  obtain ⟨-, -, -, hf1, hs1, -, -⟩ := own_shape hO0
  obtain ⟨-, -, -, hf2, hs2, -, -⟩ := own_shape hO1
  have hbel : Below w.heap.size w W1 := by rw [hW1]; exact ((Below.refl _ _).drew).alloc (Nat.le_refl _) _
  obtain ⟨W2, hW2⟩ : ∃ W2, W2 = W1.setCells w.heap.size i [.int .i64 z] := ⟨_, rfl⟩
  rw [← hW2] at hO2 hf2 hs2
  have hbel2 : Below w.heap.size w W2 := by rw [hW2]; exact below_setCells (Nat.le_refl _) _ _ _ hbel
  have hcpA : ∀ ty dc, (Builtin.copy_ #[27, 27] ty #[.slice (some ⟨w.heap.size, i, none⟩) (n + 1 - i) dc, .slice (some ⟨vb, 0, none⟩) 1 1]).run Tryz.prog W1 = .ok (goInt 1) W2 := fun ty dc => by
    rw [hW2]
    exact run_copy_cells W1 _ _ ty 3 w.heap.size i (n + 1 - i) dc ⟨vb, 0, none⟩ 1 1 [.int .i64 z] Tryz.underlying27 hsz (by simp only [Nat.min_def, List.length_singleton]; split <;> omega)
      (fun j v hj => by
        obtain ⟨hl, hg⟩ := List.getElem?_eq_some_iff.1 hj
        have hj0 : j = 0 := by simpa using hl
        subst hj0
        simp at hg
        subst hg
        simpa [Addr.add_lit] using (hbel.cell (p := ⟨vb, 0, none⟩) hvw).trans hvc)
      (fun j hj => hs1 _ (by simp at hj; omega)) (fun j hj => hf1 _) (fun v hv => by simp at hv; rw [hv]; rfl)
  obtain ⟨W3, hW3⟩ : ∃ W3, W3 = W2.drew.setCells w.heap.size (i + 1) (cs.drop i) := ⟨_, rfl⟩
  have hcpB : ∀ ty dc sc, (Builtin.copy_ #[27, 27] ty #[.slice (some ⟨w.heap.size, i + 1, none⟩) (n - i) dc, .slice (some ⟨g, i, none⟩) (n - i) sc]).run Tryz.prog W2.drew = .ok (goInt (cs.drop i).length) W3 := fun ty dc sc => by
    rw [hW3]
    exact run_copy_cells W2.drew _ _ ty 3 w.heap.size (i + 1) (n - i) dc ⟨g, i, none⟩ (n - i) sc (cs.drop i) Tryz.underlying27 hsz (by rw [List.length_drop, hcl]; simp only [Nat.min_def]; split <;> omega)
      (fun j v hj => by
        rw [Addr.add_lit]
        rw [List.getElem?_drop] at hj
        exact (hbel2.cell (p := ⟨g, i + j, none⟩) hglt).trans (hcells (i + j) v hj))
      (fun j hj => hs2 _ (by rw [List.length_drop] at hj; omega)) (fun j hj => hf2 _) (fun v hv => h1c v (List.mem_of_mem_drop hv))
  have HEND : Hid (W3.ownsRow base 3 1 (.slice (some ⟨w.heap.size, 0, none⟩) (n + 1) G) (n + 1) ((L.take i ++ z :: L.drop i).flatMap encZ) ∧ w.grownBy W3 (some g)) := Lib.hid (by
    have e : (L.take i ++ z :: L.drop i).flatMap encZ = cs.take i ++ Value.int .i64 z :: cs.drop i := by
      rw [← hcs, flat_encI, flat_encI, List.map_append, List.map_cons, List.map_take, List.map_drop]
    rw [e]
    refine ⟨by rw [hW3]; exact hO2, ?_⟩
    have hb3 : Below w.heap.size w W3 := by rw [hW3]; exact below_setCells (Nat.le_refl _) _ _ _ hbel2.drew
    exact ⟨hb3.os, hb3.tape, hb3.output, hb3.size, fun k hk _ => hb3.block k hk⟩)
  have hG63 : G ≤ 9223372036854775807 := by unfold maxLen at hGmax; omega
  have hGi : ¬ (G = i) := by omega
  have hGim : ¬ (G = i + 1) := by omega
  have hci : ¬ (cap = i) := by omega
  have hw1 : IntKind.i64.wrap ((i : Int) + 1) = (i : Int) + 1 := by rw [IntKind.wrap_i64]; omega
  have hb1 : (0 : Int) ≤ (i : Int) + 1 := by omega
  have hin : i ≤ n := by omega
  have htn : ((i : Int) + 1).toNat = i + 1 := by omega
  have hb3 : (i : Int) ≤ (n : Int) := by omega
  have hc63 : cap ≤ 9223372036854775807 := by unfold maxLen at hmax; omega
  clear hkk hik hold hROW hROWl hG hown hcells h1c hv hvc hsh hmax hfz hsome hO0 hO1 hO2 hf1 hs1 hf2 hs2 hbel hbel2 hW1 hW2 hW3 hsz hzl hGmax
  go_enter Tryz.func91, Tryz.ntmps91
  go_wp2_with (first
    | (at_builtin; refine Lib.wpList_append_run _ rfl _ _ _ _ rfl _ _ rfl rfl _ _ (hrz _) ?_)
    | (at_builtin; refine Go.Proofs.wpList_copy_runI _ rfl _ _ 27 27 rfl _ _ rfl rfl (hcpA _ _) ?_))
  go_region_law (refine Go.Proofs.step_copy_runI rfl _ _ 27 27 rfl _ _ (by simp [Act.eval, Act.put]) (by simp [Act.eval, Act.put]) (hcpB _ _ _) ?_)
  go_wp2
  go_ret
  exact ⟨_, rfl, HEND.out.1, HEND.out.2, fun b h => .inr (by
    have h2 : w.heap.size = b := by injection h
    omega)⟩
theorem insertI_any (w : World) (base n i : Nat) (v : Value) (L : List Int) (z : Int) (vb : Nat) (hb : base ≤ w.heap.size) (hown : w.ownsRow base 3 1 v n (L.flatMap encZ)) (hi : i ≤ n) (hn : n ≤ 100000) (hv : w.heap[vb]? = some (.cells #[.int .i64 z] 3 (0, 0))) (hvv : v.ownBlock ≠ some vb) :
    Calls Tryz.prog 91 #[v, .int .i64 i, .slice (some ⟨vb, 0, none⟩) 1 1] w (InsPost base v n (L.take i ++ z :: L.drop i) w) := by
  have hL : L.length = n := by have := hown.1; rw [flat_len (fun x _ => encZ_len x)] at this; omega
  by_cases he : i = n
  · subst he
    exact insEnd_any w base i v L z vb hb hown hL hn (fun j u hu => by
      rw [cell_of_row w vb j _ _ (0, 0) hv]
      simpa [encZ] using hu) (Array.getElem?_eq_some_iff.1 hv).1
  · obtain ⟨g, cap, rfl⟩ : ∃ g cap, v = .slice (some ⟨g, 0, none⟩) n cap := by
      rcases hown.2 with ⟨rfl, h0⟩ | ⟨g, cap, cur, rfl, _⟩
      · omega
      · exact ⟨_, _, rfl⟩
    by_cases hr : n + 1 ≤ cap
    · exact insRoom_any w base g n cap i L z vb hown (by omega) hr hv (fun e => hvv (by rw [e]; rfl))
    · exact insGrow_any w base g n cap i L z vb hb hown (by omega) (by omega) hn hv
end Go.Proofs.YtnjoimedilonnaaGreat
