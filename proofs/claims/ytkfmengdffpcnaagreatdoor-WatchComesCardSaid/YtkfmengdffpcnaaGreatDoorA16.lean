/- Texts joined in build order: MoveInts. -/
import Derived.Test.YtkfmengdffpcnaaGreatDoorA12
import Derived.Test.YtkfmengdffpcnaaGreatDoorA11
import Derived.Test.YtkfmengdffpcnaaGreatDoorA08
import Derived.Test.YtkfmengdffpcnaaGreatDoorA15
import Derived.Shelf.Spec.SlicesInsertGrow
namespace Go.Proofs.YtkfmengdffpcnaaGreatDoor
open Go.RowKit Go.Lib
def layL (xs : List Value) (o : Nat) (vs : List Value) : List Value := xs.take o ++ vs ++ xs.drop (o + vs.length)
theorem layL_nil (xs : List Value) (o : Nat) : layL xs o [] = xs := by simp [layL]
theorem layL_cons {xs : List Value} {o : Nat} {v : Value} {vs : List Value} (h : o < xs.length) : layL (xs.set o v) (o + 1) vs = layL xs o (v :: vs) := by
  have e : xs.take o ++ v :: xs.drop (o + 1) = xs.set o v := by
    rw [List.set_eq_take_append_cons_drop, if_pos h]
  unfold layL
  rw [← e]
  have hl : (xs.take o).length = o := by rw [List.length_take]; omega
  rw [List.take_append, List.drop_append, hl, List.take_of_length_le (by omega : (xs.take o).length ≤ o + 1), List.drop_eq_nil_of_le (by omega : (xs.take o).length ≤ o + 1 + vs.length)]
  simp only [Nat.add_sub_cancel_left, List.nil_append, List.append_assoc, List.length_cons]
  rw [show o + 1 + vs.length - o = vs.length + 1 by omega]
  simp only [List.take_succ_cons, List.take_zero, List.drop_succ_cons, List.drop_drop]
  rw [show o + (vs.length + 1) = o + 1 + vs.length by omega]
  simp
theorem own_setCells {base : Nat} {e : TypeId} {g n cap : Nat} : ∀ (vs : List Value) (o : Nat) {w : World} {xs : List Value}, w.ownsRow base e 1 (.slice (some ⟨g, 0, none⟩) n cap) n xs → o + vs.length ≤ n → (w.setCells g o vs).ownsRow base e 1 (.slice (some ⟨g, 0, none⟩) n cap) n (layL xs o vs)
  | [], o, w, xs, h, _ => by rw [layL_nil]; exact h
  | v :: r, o, w, xs, h, hl => by
    have hx : xs.length = n := by have := h.1; omega
    rw [List.length_cons] at hl
    have h1 := own_setCell h (j := o) (by omega) v
    have h2 := own_setCells r (o + 1) h1 (by omega)
    rw [layL_cons (by omega)] at h2
    exact h2
theorem own_extend {w : World} {base : Nat} {e : TypeId} {g n cap : Nat} {xs : List Value} (h : w.ownsRow base e 1 (.slice (some ⟨g, 0, none⟩) n cap) n xs) (hc : n < cap) : ∃ u, w.ownsRow base e 1 (.slice (some ⟨g, 0, none⟩) (n + 1) cap) (n + 1) (xs ++ [u]) := by
  rcases h.2 with ⟨hv, _⟩ | ⟨g', cap', cur, hv, hb, hg, h1, h2, h3, h4⟩
  · cases hv
  · injection hv with hv1 hv2 hv3
    injection hv1 with hv1
    injection hv1 with hv1
    subst hv1; subst hv3
    have hlt : n < cur.toList.length := by rw [Array.length_toList]; omega
    have hx := h.1
    refine ⟨cur.toList[n], by rw [List.length_append, hx]; simp, .inr ⟨g, cap, cur, rfl, hb, hg, by omega, h2, h3, ?_⟩⟩
    rw [Nat.mul_one] at h4 ⊢
    rw [List.take_add_one, h4, List.getElem?_eq_getElem hlt]
    rfl
theorem own_shape {w : World} {base : Nat} {e : TypeId} {g n cap : Nat} {xs : List Value} (h : w.ownsRow base e 1 (.slice (some ⟨g, 0, none⟩) n cap) n xs) : w.shape? g = some (e, cap) ∧ n ≤ cap ∧ cap ≤ maxLen ∧ (∀ k, w.frozen? ⟨g, k, none⟩ = false) ∧ (∀ k, k < cap → (w.cell? ⟨g, k, none⟩).isSome = true) ∧ g < w.heap.size ∧ base ≤ g := by
  rcases h.2 with ⟨hv, _⟩ | ⟨g', cap', cur, hv, hb, hg, h1, h2, h3, h4⟩
  · cases hv
  · injection hv with hv1 hv2 hv3
    injection hv1 with hv1
    injection hv1 with hv1
    subst hv1; subst hv3
    refine ⟨by unfold World.shape?; rw [hg]; simp [h3], h1, h2, fun k => by simp [World.frozen?, hg], fun k hk => ?_, (Array.getElem?_eq_some_iff.1 hg).1, hb⟩
    rw [cell_of_row w g k cur e (0, 0) hg, Array.getElem?_eq_getElem (by omega)]
    rfl
theorem grown_setCells {w : World} {g : Nat} : ∀ (vs : List Value) (o : Nat) {W : World}, w.grownBy W (some g) → w.grownBy (W.setCells g o vs) (some g)
  | [], _, _, h => h
  | v :: r, o, W, h => grown_setCells r (o + 1) (W := W.setCell ⟨g, o, none⟩ v) ⟨h.os, h.tape, h.output, by simpa [World.setCell] using h.size, fun k hk hne => (Below.heap_setCell _ _ _ k (fun e => hne (by rw [e]))).trans (h.block k hk hne)⟩
theorem own_drew {w : World} {base : Nat} {e : TypeId} {size n : Nat} {v : Value} {xs : List Value} (h : w.ownsRow base e size v n xs) : w.drew.ownsRow base e size v n xs := h
theorem flat_encI (l : List Int) : l.flatMap encZ = l.map (fun z => Value.int .i64 z) := by
  induction l with
  | nil => rfl
  | cons a r ih => rw [List.flatMap_cons, List.map_cons, ih]; rfl
theorem run_clear_int (w : World) (ty : TypeId) (b o c : Nat) (hc : (w.cell? ⟨b, o, none⟩).isSome = true) (hf : w.frozen? ⟨b, o, none⟩ = false) :
    (Builtin.clear_ #[34] ty #[.slice (some ⟨b, o, none⟩) 1 c]).run Tryz.prog w = .ok (.tuple #[]) (w.setCells b o [.int .i64 0]) := by
  have hst := run_storeCells_cells (P := Tryz.prog) b o [.int .i64 0] 0 w (by simpa using hc) (by simpa using hf) (by intro v hv'; simp at hv'; rw [hv']; rfl)
  simp only [Nat.add_zero] at hst
  have hz2 : (Value.int .i64 0).cells = #[Value.int .i64 0] := by simp [Value.cells]
  simp [Builtin.clear_, run_underlying Tryz.underlying34, hz2, Builtin.zeroCells, hst]
set_option maxHeartbeats 8000000 in
set_option maxRecDepth 100000 in
theorem deleteI_any (w : World) (base g n cap : Nat) (L : List Int) (i : Nat) (hown : w.ownsRow base 3 1 (.slice (some ⟨g, 0, none⟩) n cap) n (L.flatMap encZ)) (hi : i < n) :
    Calls Tryz.prog 86 #[.slice (some ⟨g, 0, none⟩) n cap, .int .i64 i, .int .i64 ((i : Int) + 1)] w fun e w' => e = .returned (.slice (some ⟨g, 0, none⟩) (n - 1) cap) ∧ w'.ownsRow base 3 1 (.slice (some ⟨g, 0, none⟩) (n - 1) cap) (n - 1) ((L.eraseIdx i).flatMap encZ) ∧ w.grownBy w' (some g) := by
  obtain ⟨i0, hi0, hz0, hz1, hz2⟩ := info_parts int_info
  obtain ⟨-, hcap, hmax, hfro, hsome, hglt, hbase⟩ := own_shape hown
  have hL : L.length = n := by have := hown.1; rw [flat_len (fun x _ => encZ_len x)] at this; omega
  have hcells : ∀ k u, (L.flatMap encZ)[k]? = some u → w.cell? ⟨g, k, none⟩ = some u := fun k u hu => by
    have := hown.cells (g := g) rfl k u hu
    rwa [Go.WideShapes.add_plain, Nat.zero_add] at this
  have hfl : (L.flatMap encZ).length = n := by rw [flat_len (fun x _ => encZ_len x), hL]; omega
  obtain ⟨news, hnews⟩ : ∃ news, news = (L.flatMap encZ).drop (i + 1) := ⟨_, rfl⟩
  have hnl : news.length = n - (i + 1) := by rw [hnews, List.length_drop, hfl]
  have hone : ∀ u ∈ news, u.oneCell' = true := fun u hu => by
    rw [hnews] at hu
    obtain ⟨x, _, hxu⟩ := List.mem_flatMap.1 (List.mem_of_mem_drop hu)
    exact encZ_one x u hxu
  obtain ⟨A, hA, hsrc⟩ : ∃ A : Addr, (if cap = i + 1 then some (⟨g, 0, none⟩ : Addr) else some ⟨g, i + 1, none⟩) = some A ∧ Hid (∀ t u, news[t]? = some u → w.drew.cell? (A.add t) = some u) := by
    by_cases h : cap = i + 1
    · refine ⟨⟨g, 0, none⟩, by simp [h], Lib.hid fun t u hu => ?_⟩
      have h0 : news.length = 0 := by rw [hnl]; omega
      rw [List.length_eq_zero_iff.1 h0] at hu
      simp at hu
    · refine ⟨⟨g, i + 1, none⟩, by simp [h], Lib.hid fun t u hu => ?_⟩
      rw [Go.WideShapes.add_plain]
      rw [hnews, List.getElem?_drop] at hu
      exact hcells _ _ hu
  have S1 := Lib.hid (show news.length = (n - (i + 1)) * 1 by omega)
  have S2 := Lib.hid hone
  have S3 : Hid (∀ t, t < news.length → (w.drew.cell? ⟨g, 0 + i * 1 + t, none⟩).isSome = true ∧ w.drew.frozen? ⟨g, 0 + i * 1 + t, none⟩ = false) := Lib.hid (fun t ht => ⟨hsome _ (by omega), hfro _⟩)
  obtain ⟨W1, hW1⟩ : ∃ W1, W1 = w.drew.setCells g (0 + i * 1) news := ⟨_, rfl⟩
  have hO1 : W1.ownsRow base 3 1 (.slice (some ⟨g, 0, none⟩) n cap) n (layL (L.flatMap encZ) i news) := by
    rw [hW1, show 0 + i * 1 = i by omega]
    exact own_setCells news i (own_drew hown) (by omega)
  obtain ⟨-, -, -, hfro1, hsome1, -, -⟩ := own_shape hO1
  have HCL : Hid (∀ ty c, (Builtin.clear_ #[34] ty #[.slice (some ⟨g, n - 1, none⟩) 1 c]).run Tryz.prog W1 = .ok (.tuple #[]) (W1.setCells g (n - 1) [.int .i64 0])) := Lib.hid (fun ty c => run_clear_int W1 ty g (n - 1) c (hsome1 _ (by omega)) (hfro1 _))
  have HEND : Hid ((W1.setCells g (n - 1) [.int .i64 0]).ownsRow base 3 1 (.slice (some ⟨g, 0, none⟩) (n - 1) cap) (n - 1) ((L.eraseIdx i).flatMap encZ) ∧ w.grownBy (W1.setCells g (n - 1) [.int .i64 0]) (some g)) := Lib.hid (by
    have h2 := own_setCells [.int .i64 0] (n - 1) hO1 (by simp; omega)
    obtain ⟨m, hm⟩ : ∃ m, n = m + 1 := ⟨n - 1, by omega⟩
    subst hm
    rw [Nat.add_sub_cancel] at h2 ⊢
    refine ⟨?_, grown_setCells _ _ (by rw [hW1]; exact grown_setCells _ _ ⟨rfl, rfl, rfl, Nat.le_refl _, fun _ _ _ => rfl⟩)⟩
    have e1 : layL (layL (L.flatMap encZ) i news) m [.int .i64 0] = (L.eraseIdx i).flatMap encZ ++ [.int .i64 0] := by
      have e2 : (L.eraseIdx i).flatMap encZ = (L.flatMap encZ).take i ++ news := by
        rw [hnews, flat_encI, flat_encI, List.eraseIdx_eq_take_drop_succ, List.map_append, List.map_take, List.map_drop]
      have hle : ((L.eraseIdx i).flatMap encZ).length = m := by rw [flat_encI, List.length_map, List.length_eraseIdx, hL, if_pos hi]; omega
      unfold layL
      rw [show i + news.length = m by omega, ← e2, List.take_append_of_le_length (by omega), List.take_of_length_le (by omega)]
      rw [List.drop_eq_nil_of_le (by rw [List.length_append, List.length_drop, hle, hfl]; simp)]
      simp
    rw [e1] at h2
    exact own_prefix h2 (by rw [flat_len (fun x _ => encZ_len x), List.length_eraseIdx, hL, if_pos hi]; omega))
  have HW := Lib.hid hW1
  have hic : i ≤ cap := by omega
  have hjc : i + 1 ≤ cap := by omega
  have hij : i + 1 ≤ n := by omega
  have hcap64 : cap ≤ 9223372036854775807 := by unfold maxLen at hmax; omega
  clear hown hcells hfl hsome hfro hnews hnl hone hW1 hsome1 hfro1 hmax hO1
  go_enter Tryz.func86, Tryz.ntmps86
  go_wp2_with fail
  have q1 : (0 : Int) ≤ (i : Int) + 1 := by omega
  have q2 : (i : Int) + 1 ≤ (n : Int) := by omega
  go_region_law (refine step_append_room rfl (.tmp 22) (.tmp 25) 34 rfl 3 i0 1 Tryz.underlying34 hi0 hz1 g 0 i cap (by simp [Act.eval, Act.put]) A (n - (i + 1)) (cap - (i + 1)) news (by simp [Act.eval, Act.put]) S1.out hsrc.out S2.out (by omega) S3.out ?_; rw [← HW.out])
  have e : i + (n - (i + 1)) = n - 1 := by omega
  rw [e]
  obtain ⟨m, hm⟩ : ∃ m, n = m + 1 := ⟨n - 1, by omega⟩
  subst hm
  clear e q1 q2 hA
  have hcm : m < cap := by omega
  rw [Nat.add_sub_cancel] at HCL HEND ⊢
  obtain ⟨W2, hW2⟩ : ∃ W2, W2 = W1.setCells g m [.int .i64 0] := ⟨_, rfl⟩
  have hcl := HCL.out 0 (cap - m)
  rw [← hW2] at hcl HEND
  clear hW2
  go_wp2_with fail
  go_ret
  exact ⟨by rw [Nat.add_sub_cancel]; rfl, HEND.out.1, HEND.out.2⟩
def InsPost (base : Nat) (v : Value) (n : Nat) (l : List Int) (w : World) (e : Ending) (w' : World) : Prop := ∃ v', e = .returned v' ∧ w'.ownsRow base 3 1 v' (n + 1) (l.flatMap encZ) ∧ w.grownBy w' v.ownBlock ∧ ∀ b, v'.ownBlock = some b → v.ownBlock = some b ∨ w.heap.size ≤ b
theorem insert_end {L : List Int} {z : Int} {n : Nat} (hL : L.length = n) : L ++ [z] = L.take n ++ z :: L.drop n := by
  rw [List.take_of_length_le (by omega), List.drop_eq_nil_of_le (by omega)]
set_option maxHeartbeats 8000000 in
set_option maxRecDepth 100000 in
theorem insEnd_any (w : World) (base n : Nat) (v : Value) (L : List Int) (z : Int) (vb : Nat) (hb : base ≤ w.heap.size) (hown : w.ownsRow base 3 1 v n (L.flatMap encZ)) (hL : L.length = n) (hn : n ≤ 100000) (hv : ∀ j u, (encZ z)[j]? = some u → w.cell? ⟨vb, j, none⟩ = some u) (hvb : vb < w.heap.size) :
    Calls Tryz.prog 115 #[v, .int .i64 n, .slice (some ⟨vb, 0, none⟩) 1 1] w (InsPost base v n (L.take n ++ z :: L.drop n) w) := by
  obtain ⟨i0, hi0, hz0, hz1, hz2⟩ := info_parts int_info
  have HO := Lib.hid hown
  have HV : Hid (SRow encZ 1 w (some ⟨vb, 0, none⟩) 1 1 [z]) := Lib.hid ⟨rfl, Nat.le_refl _, by unfold maxLen; omega, fun x _ => encZ_len x, .inr ⟨vb, 0, rfl, hvb, fun i x j u hx hu => by
    obtain ⟨hl, hg⟩ := List.getElem?_eq_some_iff.1 hx
    have hi : i = 0 := by simpa using hl
    subst hi
    simp at hg
    subst hg
    simpa using hv j u hu⟩⟩
  have HE : Hid ((L ++ [z]) = L.take n ++ z :: L.drop n) := Lib.hid (insert_end hL)
  obtain ⟨a, cap, rfl⟩ : ∃ a cap, v = .slice a n cap := by
    rcases hown.2 with ⟨rfl, rfl⟩ | ⟨g, cap, cur, rfl, _⟩
    · exact ⟨_, _, rfl⟩
    · exact ⟨_, _, rfl⟩
  have hnc : n ≤ cap := by
    rcases hown.2 with ⟨hq, h0⟩ | ⟨g, cap', cur, hq, _, _, h1, _⟩
    · omega
    · injection hq with h1' h2' h3'
      omega
  have E9 : Hid (∀ c, (Value.slice a n c).ownBlock = (Value.slice a n cap).ownBlock) := Lib.hid (fun c => by cases a <;> rfl)
  have hc64 : (cap : Int) ≤ 9223372036854775807 := by
    rcases hown.2 with ⟨hq, h0⟩ | ⟨g, cap', cur, hq, _, _, _, h2, _⟩
    · injection hq with h1' h2' h3'
      omega
    · injection hq with h1' h2' h3'
      unfold maxLen at h2
      omega
  clear hown hv
  go_enter Tryz.func115, Tryz.ntmps115
  go_wp2_with (at_builtin
               refine wpList_append_rows rfl (.tmp 23) (.tmp 24) 34 rfl 3 i0 _ 1 8 Tryz.underlying34 hi0 hz0 hz1 hz2 rfl (by decide) base (.slice a n cap) n L [z] rfl HO.out _ 1 1 rfl HV.out (fun x _ => encZ_one x) (by unfold maxLen; omega) (by omega) hb (fun h => by cases h) ?_
               intro v3 w3 hown3 hg3 hat3
               have HO3 := Lib.hid hown3
               have HG3 := Lib.hid hg3
               have HA3 := Lib.hid hat3
               clear hown3 hg3 hat3)
  all_goals
    go_ret
    refine ⟨v3, rfl, by rw [← HE.out]; exact HO3.out, by rw [E9.out]; exact HG3.out, fun b hb2 => ?_⟩
    rw [E9.out]
    rcases HA3.out with h | h
    · exact .inl (h.symm.trans hb2)
    · rw [h] at hb2
      injection hb2 with hb2
      exact .inr (by omega)
theorem lay_insert {cs : List Value} {u z : Value} {n i : Nat} (hc : cs.length = n) (hi : i < n) : layL (layL (cs ++ [u]) (i + 1) (cs.drop i)) i [z] = cs.take i ++ z :: cs.drop i := by
  have hd : (cs ++ [u]).drop (i + 1 + (cs.drop i).length) = [] := List.drop_eq_nil_of_le (by rw [List.length_append, List.length_drop, hc]; simp; omega)
  have ht : (cs ++ [u]).take (i + 1) = cs.take (i + 1) := List.take_append_of_le_length (by omega)
  have h1 : layL (cs ++ [u]) (i + 1) (cs.drop i) = cs.take (i + 1) ++ cs.drop i := by
    unfold layL
    rw [hd, ht, List.append_nil]
  rw [h1]
  unfold layL
  have ht2 : (cs.take (i + 1) ++ cs.drop i).take i = cs.take i := by
    rw [List.take_append_of_le_length (by rw [List.length_take]; omega), List.take_take, Nat.min_eq_left (by omega)]
  have hl : (cs.take (i + 1)).length = i + 1 := by rw [List.length_take]; omega
  have hd2 : (cs.take (i + 1) ++ cs.drop i).drop (i + [z].length) = cs.drop i := by
    rw [List.drop_append, hl, List.drop_eq_nil_of_le (by rw [hl]; simp)]
    simp
  rw [ht2, hd2]
  simp
set_option maxHeartbeats 8000000 in
set_option maxRecDepth 100000 in
theorem insRoom_any (w : World) (base g n cap i : Nat) (L : List Int) (z : Int) (vb : Nat) (hown : w.ownsRow base 3 1 (.slice (some ⟨g, 0, none⟩) n cap) n (L.flatMap encZ)) (hi : i < n) (hroom : n + 1 ≤ cap) (hv : w.heap[vb]? = some (.cells #[.int .i64 z] 3 (0, 0))) (hvg : vb ≠ g) :
    Calls Tryz.prog 115 #[.slice (some ⟨g, 0, none⟩) n cap, .int .i64 i, .slice (some ⟨vb, 0, none⟩) 1 1] w (InsPost base (.slice (some ⟨g, 0, none⟩) n cap) n (L.take i ++ z :: L.drop i) w) := by
  obtain ⟨hsh, hcap, hmax, hfz, hsome, hglt, hbase⟩ := own_shape hown
  obtain ⟨cs, hcs⟩ : ∃ cs, L.flatMap encZ = cs := ⟨_, rfl⟩
  have hcl : cs.length = n := by rw [← hcs]; have := hown.1; omega
  have hc63 : cap ≤ 9223372036854775807 := by unfold maxLen at hmax; omega
  have hcells : ∀ k u, cs[k]? = some u → w.cell? ⟨g, k, none⟩ = some u := fun k u hu => by
    rw [← hcs] at hu
    have := hown.cells (g := g) rfl k u hu
    rwa [Go.WideShapes.add_plain, Nat.zero_add] at this
  have h1c : ∀ u ∈ cs, u.oneCell' = true := fun u hu => by
    rw [← hcs] at hu
    obtain ⟨x, _, hxu⟩ := List.mem_flatMap.1 hu
    exact encZ_one x u hxu
  have hvc : w.cell? ⟨vb, 0, none⟩ = some (.int .i64 z) := by
    rw [cell_of_row w vb 0 _ _ (0, 0) hv]
    rfl
  have hsa : w.shape? vb = some (3, 1) := by unfold World.shape?; rw [hv]; rfl
  have hfa : ∀ j, w.frozen? ⟨vb, j, none⟩ = false := fun j => by simp [World.frozen?, hv]
  have u0 := run_underlying (P := Tryz.prog) Tryz.underlying34
  have hz2 : ¬ ((i : Int) = (n : Int)) := by omega
  have hsz : (Tryz.prog.info? 3).map (·.size) = some 1 := by
    obtain ⟨i0, hi0, h0, h1, h2⟩ := info_parts int_info
    rw [hi0]
    simp [h1]
  have hso : ∀ w, (Go.sizeOf 3).run Tryz.prog w = .ok 1 w := fun w => by kernel_rfl
  have hov : ∀ lb cb, (callFunc 131 #[.slice (some ⟨vb, 0, none⟩) 1 1, .slice (some ⟨g, i + 1, none⟩) lb cb]).run Tryz.prog w = .ok (.value (.bool false)) w := fun lb cb => by
    rw [run_callFunc_extern Tryz.func131 (by kernel_rfl) (by kernel_rfl) (by kernel_rfl) (e := Extern.SlicesOverlaps.overlaps #[34, 34] #[4]) (by kernel_rfl),
      Lib.run_overlaps_apart w 34 4 3 Tryz.underlying34 1 hso ⟨vb, 0, none⟩ ⟨g, i + 1, none⟩ 1 1 lb cb hvg 3 3 1 cap hsa hsh (by omega) (hfa 0) (hfa 1)]
    rfl
  have hdl : (cs.drop i).length = n - i := by rw [List.length_drop, hcl]
  have hw1 : IntKind.i64.wrap ((i : Int) + 1) = (i : Int) + 1 := by rw [IntKind.wrap_i64]; omega
  have hb1 : (0 : Int) ≤ (i : Int) + 1 := by omega
  have hin : i ≤ n := by omega
  have htn : ((i : Int) + 1).toNat = i + 1 := by omega
  have hb2 : ¬ (cap = i + 1) := by omega
  have hb3 : (i : Int) ≤ (n : Int) + 1 := by omega
  have hb4 : ¬ (cap = i) := by omega
  have hcp1 : ∀ ty dc sc, (Builtin.copy_ #[34, 34] ty #[.slice (some ⟨g, i + 1, none⟩) (n - i) dc, .slice (some ⟨g, i, none⟩) (n + 1 - i) sc]).run Tryz.prog w.drew = .ok (goInt (cs.drop i).length) (w.drew.setCells g (i + 1) (cs.drop i)) := fun ty dc sc =>
    run_copy_cells w.drew _ _ ty 3 g (i + 1) (n - i) dc ⟨g, i, none⟩ (n + 1 - i) sc (cs.drop i) Tryz.underlying34 hsz (by rw [hdl]; simp only [Nat.min_def]; split <;> omega)
      (fun j v hj => by rw [Addr.add_lit]; exact hcells (i + j) v (by rwa [List.getElem?_drop] at hj))
      (fun j hj => hsome _ (by omega)) (fun j hj => hfz _) (fun v hv => h1c v (List.mem_of_mem_drop hv))
  obtain ⟨W1, hW1⟩ : ∃ W1, W1 = w.drew.setCells g (i + 1) (cs.drop i) := ⟨_, rfl⟩
  obtain ⟨u, hu⟩ := own_extend hown (by omega)
  rw [hcs] at hu
  have hO1 : W1.ownsRow base 3 1 (.slice (some ⟨g, 0, none⟩) (n + 1) cap) (n + 1) (layL (cs ++ [u]) (i + 1) (cs.drop i)) := by
    rw [hW1]
    exact own_setCells _ _ (own_drew hu) (by omega)
  obtain ⟨-, -, -, hfz1, hsome1, -, -⟩ := own_shape hO1
  have hv1 : W1.cell? ⟨vb, 0, none⟩ = some (.int .i64 z) := by
    rw [hW1, World.cell?_setCells_out g _ _ _ _ (fun h _ => absurd h hvg)]
    exact hvc
  have hcp2 : ∀ ty dc, (Builtin.copy_ #[34, 34] ty #[.slice (some ⟨g, i, none⟩) (n + 1 - i) dc, .slice (some ⟨vb, 0, none⟩) 1 1]).run Tryz.prog W1 = .ok (goInt 1) (W1.setCells g i [.int .i64 z]) := fun ty dc =>
    run_copy_cells W1 _ _ ty 3 g i (n + 1 - i) dc ⟨vb, 0, none⟩ 1 1 [.int .i64 z] Tryz.underlying34 hsz (by simp only [Nat.min_def, List.length_singleton]; split <;> omega)
      (fun j v hj => by
        obtain ⟨hl, hg⟩ := List.getElem?_eq_some_iff.1 hj
        have hj0 : j = 0 := by simpa using hl
        subst hj0
        simp at hg
        subst hg
        simpa [Addr.add_lit] using hv1)
      (fun j hj => hsome1 _ (by simp at hj; omega)) (fun j hj => hfz1 _) (fun v hv => by simp at hv; rw [hv]; rfl)
  have HEND : Hid ((W1.setCells g i [.int .i64 z]).ownsRow base 3 1 (.slice (some ⟨g, 0, none⟩) (n + 1) cap) (n + 1) ((L.take i ++ z :: L.drop i).flatMap encZ) ∧ w.grownBy (W1.setCells g i [.int .i64 z]) (some g)) := Lib.hid (by
    have h2 := own_setCells [.int .i64 z] i hO1 (by simp; omega)
    rw [lay_insert hcl hi] at h2
    refine ⟨?_, grown_setCells _ _ (by rw [hW1]; exact grown_setCells _ _ ⟨rfl, rfl, rfl, Nat.le_refl _, fun _ _ _ => rfl⟩)⟩
    have e : (L.take i ++ z :: L.drop i).flatMap encZ = cs.take i ++ Value.int .i64 z :: cs.drop i := by
      rw [← hcs, flat_encI, flat_encI, List.map_append, List.map_cons, List.map_take, List.map_drop]
    rw [e]
    exact h2)
  have HW := Lib.hid hW1
  rw [← hW1] at hcp1
  obtain ⟨W2, hW2⟩ : ∃ W2, W2 = W1.setCells g i [.int .i64 z] := ⟨_, rfl⟩
  rw [← hW2] at hcp2 HEND
  clear hown hcells h1c hv hvc hsh hmax hfz hsome hu hO1 hfz1 hsome1 hv1 hW1 hW2 hso hsz hsa hfa
  go_enter Tryz.func115, Tryz.ntmps115
  go_wp2_with (simp only [hov])
  go_region_law (refine Go.Proofs.step_copy_runI rfl _ _ 34 34 rfl _ _ (by simp [Act.eval, Act.put]) (by simp [Act.eval, Act.put]) (hcp1 _ _ _) ?_)
  go_wp2_with (at_builtin; refine Go.Proofs.wpList_copy_runI _ rfl _ _ 34 34 rfl _ _ rfl rfl (hcp2 _ _) ?_)
  go_ret
  exact ⟨_, rfl, HEND.out.1, HEND.out.2, fun b h => .inl h⟩
end Go.Proofs.YtkfmengdffpcnaaGreatDoor
