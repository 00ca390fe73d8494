/- Texts joined in build order: AttrClone AttrDelete. -/
import Derived.Test.YtnjoimedilonnaaGreatDoorA10
import Derived.Lib.SliceRun
import Derived.Deep.RegionLaw
import Derived.Laws.IdiomCopy
import Derived.Deep.MidRow
namespace Go.Proofs.YtnjoimedilonnaaGreatDoor
open Go.RowKit
def OwnPost (w : World) (L : AL) (e : Ending) (w' : World) : Prop := ∃ v, e = .returned v ∧ w'.ownsRow w.heap.size 70 2 v L.length (L.flatMap encA) ∧ Below w.heap.size w w'
set_option maxHeartbeats 4000000 in
theorem clone_any (a : Option Addr) (len cap : Nat) (L : AL) (w : World) (h : AttrRow w a len cap L) (h40 : len ≤ 1000000) :
    Calls Tryz.prog 52 #[.slice a len cap] w (OwnPost w L) := by
  obtain ⟨i0, hi0, hz0, hz1, hz2⟩ := info_parts attr_info
  have HL := Lib.hid h.hlen
  have q22 : ∀ (w : World) (a : Option Addr) (n c n' c' : Nat), (binOp .eql 32 (.slice a n c) (.slice none n' c')).run Tryz.prog w = .ok (.bool a.isNone) w := fun w a n c n' c' => Lib.run_eql_slice_nil w _ _ a n c n' c' Tryz.underlying32
  rcases a with _ | ad
  · have hc : cap = 0 := h.hnil rfl
    have h0 : len = 0 := by have := h.row.hcap; omega
    have hLn : L = [] := List.eq_nil_of_length_eq_zero (by rw [h.hlen, h0])
    subst hc; subst h0; subst hLn
    clear h
    go_enter Tryz.func52, Tryz.ntmps52
    go_wp2
    go_ret
    exact ⟨_, rfl, World.ownsRow_nil _ _ _ _, Below.refl _ _⟩
  · have H := Lib.hid h
    have hE := own_empty (α := ByteArray × ByteArray) (enc := encA) (size := 2) w w.heap.size 70 (Nat.le_refl _)
    have HE := Lib.hid hE
    clear h hE
    go_enter Tryz.func52, Tryz.ntmps52
    go_wp2_with (first
      | (at_builtin
         refine wpList_append_rows rfl (.tmp 5) (.tmp 6) 32 rfl 70 i0 _ 2 32 Tryz.underlying32 hi0 hz0 hz1 hz2 rfl (by decide) w.heap.size _ 0 _ L rfl HE.out (some ad) len cap rfl (H.out.below ((Below.refl _ _).alloc (Nat.le_refl _) _)).row (fun x _ => encA_one x) (by unfold maxLen; omega) (by omega) (by simp) (fun h => by cases h) ?_
         intro v2 w2 hown2 hg2 hat2
         have HB2 := below_new (Below.refl _ _) hg2
         have HO2 := Lib.hid hown2
         clear hown2 hg2 hat2))
    go_ret
    refine ⟨_, rfl, ?_, HB2⟩
    have := HO2.out
    rw [HL.out]
    simpa using this
set_option maxHeartbeats 4000000 in
theorem attrget_any (a : Option Addr) (len cap : Nat) (L : AL) (n : ByteArray) (w : World) (h : AttrRow w a len cap L) (hn : n.size ≤ maxLen) :
    Calls Tryz.prog 13 #[.slice a len cap, .string n] w fun e w' => e = .returned (.tuple #[.string (valA L n.toList), .bool (hasA L n.toList)]) ∧ Below w.heap.size w w' := by
  have C1 := Lib.hid (find_any a len cap L n w h hn)
  have H := Lib.hid h
  by_cases hg : (rightA L && rightL n.toList) = true
  rotate_left
  · have hg : (rightA L && rightL n.toList) = false := by simpa using hg
    have HR : Hid (hasA L n.toList = false) := Lib.hid (by unfold hasA; rw [hg]; rfl)
    have HV : Hid (valA L n.toList = ofL []) := Lib.hid (by unfold valA; rw [HR.out]; rfl)
    have E1 : findI L n.toList = -1 := by unfold findI; rw [hg]; rfl
    have C2 := C1.out
    rw [E1] at C2
    have C3 := Lib.hid C2
    by_cases hz : findE L n.toList = 0
    · exfalso
      unfold findE at hz
      revert hg hz
      cases rightA L <;> cases rightL n.toList <;> simp
    · have z1 : (findE L n.toList == 0) = false := beq_eq_false_iff_ne.2 hz
      have z2 : (findE L n.toList != 0) = true := by unfold bne; rw [z1]; rfl
      clear h hn hg E1 C2 C1 hz
      go_enter Tryz.func13, Tryz.ntmps13
      go_wp2_with (first
        | (go_at_call 33; refine C3.out.mono ?_; rintro e w' ⟨rfl, HB⟩))
      go_ret2
      exact ⟨by rw [HR.out, HV.out]; rfl, HB⟩
  have E3 : findE L n.toList = 0 := by
    unfold findE
    revert hg
    cases rightA L <;> cases rightL n.toList <;> simp
  by_cases hp : placeA L n.toList < L.length
  · have E1 : findI L n.toList = (placeA L n.toList : Int) := by unfold findI; rw [hg, ← atL_place hp]; rfl
    have hp' : placeA L n.toList < len := by rw [← h.hlen]; exact hp
    obtain ⟨b, off, xn, xv, rfl, hblt, hx, hc1, hc2, _, _⟩ := H.out.get hp'
    have HR : Hid (hasA L n.toList = true) := Lib.hid (by unfold hasA; rw [hg, decide_eq_true hp]; rfl)
    have HV : Hid (valA L n.toList = xv) := Lib.hid (by unfold valA; rw [HR.out, hx]; rfl)
    have C2 := C1.out
    rw [E1, E3] at C2
    obtain ⟨p, hpp⟩ : ∃ p, placeA L n.toList = p := ⟨_, rfl⟩
    rw [hpp] at C2 hp' hc1 hc2
    have C3 := Lib.hid C2
    have hl := h.len64
    have z1 : ((p : Int) == -1) = false := beq_eq_false_iff_ne.2 (by omega)
    clear h hn hg E1 E3 C2 C1 hpp hx hp
    go_enter Tryz.func13, Tryz.ntmps13
    go_wp2_with (first
      | (go_at_call 33; refine C3.out.mono ?_; rintro e w' ⟨rfl, HB⟩; have hd := (HB.cell (p := ⟨b, off + p * 2 + 1, none⟩) hblt).trans hc2))
    go_ret2
    exact ⟨by rw [HR.out, HV.out]; rfl, HB⟩
  · have E1 : findI L n.toList = -1 := by unfold findI; rw [hg, ← atL_noplace hp]; rfl
    have HR : Hid (hasA L n.toList = false) := Lib.hid (by unfold hasA; rw [decide_eq_false hp]; simp)
    have HV : Hid (valA L n.toList = ofL []) := Lib.hid (by unfold valA; rw [HR.out]; rfl)
    have C2 := C1.out
    rw [E1, E3] at C2
    have C3 := Lib.hid C2
    clear h hn hg E1 E3 C2 C1 hp
    go_enter Tryz.func13, Tryz.ntmps13
    go_wp2_with (first
      | (go_at_call 33; refine C3.out.mono ?_; rintro e w' ⟨rfl, HB⟩))
    go_ret2
    exact ⟨by rw [HR.out, HV.out]; rfl, HB⟩
end Go.Proofs.YtnjoimedilonnaaGreatDoor
namespace Go.Proofs.YtnjoimedilonnaaGreatDoor
open Go.RowKit
theorem below_setCells {B g : Nat} {a : World} (hg : B ≤ g) : ∀ (vs : List Value) (o : Nat) (w : World), Below B a w → Below B a (w.setCells g o vs)
  | [], _, _, h => h
  | v :: r, o, w, h => below_setCells hg r (o + 1) (w.setCell ⟨g, o, none⟩ v) (h.setCell hg v)
theorem size_setCells (g : Nat) : ∀ (vs : List Value) (o : Nat) (w : World), (w.setCells g o vs).heap.size = w.heap.size
  | [], _, _ => rfl
  | v :: r, o, w => by
    show ((w.setCell ⟨g, o, none⟩ v).setCells g (o + 1) r).heap.size = _
    rw [size_setCells g r]
    simp [World.setCell]
theorem run_clear_attrs (w : World) (ty : TypeId) (b o n c : Nat) (hn : 0 < n) (hc : ∀ j, j < n * 2 → (w.cell? ⟨b, o + j, none⟩).isSome = true) (hf : ∀ j, j < n * 2 → w.frozen? ⟨b, o + j, none⟩ = false) :
    (Builtin.clear_ #[32] ty #[.slice (some ⟨b, o, none⟩) n c]).run Tryz.prog w = .ok (.tuple #[]) (w.setCells b o (List.replicate (n * 2) (.string ⟨#[]⟩))) := by
  have hzc : (Builtin.zeroCells #[Value.string ⟨#[]⟩, .string ⟨#[]⟩] n).toList = List.replicate (n * 2) (.string ⟨#[]⟩) := by
    simp [Builtin.zeroCells]
    apply List.ext_getElem
    · simp
    · intro i h1 h2
      have : i % 2 = 0 ∨ i % 2 = 1 := by omega
      rcases this with h | h <;> simp [h]
  have hst := run_storeCells_cells (P := Tryz.prog) b o (List.replicate (n * 2) (.string ⟨#[]⟩)) 0 w (by simpa using hc) (by simpa using hf) (by intro v hv'; rw [List.eq_of_mem_replicate hv']; rfl)
  simp only [Nat.add_zero] at hst
  obtain ⟨m, rfl⟩ : ∃ m, n = m + 1 := ⟨n - 1, by omega⟩
  have hz2 : (Value.agg #[.string ⟨#[]⟩, .string ⟨#[]⟩]).cells = #[Value.string ⟨#[]⟩, .string ⟨#[]⟩] := by simp [Value.cells]
  simp [Builtin.clear_, run_underlying Tryz.underlying32, hz2, hzc, hst]
theorem eraseIdx_cells {L : AL} {i : Nat} (k : Nat) : (L.eraseIdx i)[k]? = if k < i then L[k]? else L[k + 1]? := by
  rw [List.getElem?_eraseIdx]
theorem delete_row {w w' : World} {g n cap i : Nat} {L : AL} (hL : L.length = n) (hi : i < n) (hcap : n ≤ cap) (hmax : cap ≤ maxLen) (hs : ∀ x ∈ L, x.1.size ≤ maxLen ∧ x.2.size ≤ maxLen) (hg : g < w'.heap.size)
    (h : ∀ k u, (L.flatMap encA)[k]? = some u → w.cell? ⟨g, k, none⟩ = some u)
    (hlo : ∀ k, k < i * 2 → w'.cell? ⟨g, k, none⟩ = w.cell? ⟨g, k, none⟩) (hhi : ∀ k, i * 2 ≤ k → k < (n - 1) * 2 → w'.cell? ⟨g, k, none⟩ = w.cell? ⟨g, k + 2, none⟩) :
    AttrRow w' (some ⟨g, 0, none⟩) (n - 1) cap (L.eraseIdx i) := by
  have hlen : (L.eraseIdx i).length = n - 1 := by rw [List.length_eraseIdx, hL, if_pos hi]
  refine ⟨⟨hlen, by omega, hmax, fun x _ => encA_len x, .inr ⟨g, 0, rfl, hg, fun k x j v hx hv => ?_⟩⟩, fun x hx => hs x (List.mem_of_mem_eraseIdx hx), fun h => by cases h⟩
  have hj : j < 2 := (List.getElem?_eq_some_iff.1 hv).1
  have hk : k < n - 1 := by rw [← hlen]; exact (List.getElem?_eq_some_iff.1 hx).1
  rw [eraseIdx_cells] at hx
  rw [Nat.zero_add]
  by_cases hki : k < i
  · rw [if_pos hki] at hx
    rw [hlo _ (by omega)]
    exact h _ _ ((flat_get (fun x _ => encA_len x) hx hj).trans hv)
  · rw [if_neg hki] at hx
    rw [hhi _ (by omega) (by omega), show k * 2 + j + 2 = (k + 1) * 2 + j by omega]
    exact h _ _ ((flat_get (fun x _ => encA_len x) hx hj).trans hv)
def DelPost (base g n cap : Nat) (L : AL) (i : Nat) (w : World) (e : Ending) (w' : World) : Prop := e = .returned (.slice (some ⟨g, 0, none⟩) (n - 1) cap) ∧ AttrRow w' (some ⟨g, 0, none⟩) (n - 1) cap (L.eraseIdx i) ∧ Below base w w'
set_option maxHeartbeats 8000000 in
set_option maxRecDepth 100000 in
theorem delete_any (w : World) (base g n cap : Nat) (L : AL) (i : Nat) (hown : w.ownsRow base 70 2 (.slice (some ⟨g, 0, none⟩) n cap) n (L.flatMap encA)) (hL : L.length = n) (hs : ∀ x ∈ L, x.1.size ≤ maxLen ∧ x.2.size ≤ maxLen) (hi : i < n) (hn : n ≤ 1000) :
    Calls Tryz.prog 66 #[.slice (some ⟨g, 0, none⟩) n cap, .int .i64 i, .int .i64 ((i : Int) + 1)] w (DelPost base g n cap L i w) := by
  obtain ⟨i0, hi0, hz0, hz1, hz2⟩ := info_parts attr_info
  have hcells : ∀ k u, (L.flatMap encA)[k]? = some u → w.cell? ⟨g, k, none⟩ = some u := fun k u hu => by
    have := hown.cells (g := g) rfl k u hu
    rwa [Go.WideShapes.add_plain, Nat.zero_add] at this
  have hfl : (L.flatMap encA).length = n * 2 := by rw [flat_len (fun x _ => encA_len x), hL]
  have hbase : base ≤ g := (hown.lt g rfl).1
  have hglt : g < w.heap.size := (hown.lt g rfl).2
  have hsome : ∀ k, k < n * 2 → (w.cell? ⟨g, k, none⟩).isSome = true := fun k hk => by
    rw [hcells k _ (List.getElem?_eq_getElem (by omega : k < (L.flatMap encA).length))]; rfl
  obtain ⟨hcap, hmax, hfro⟩ : n ≤ cap ∧ cap ≤ maxLen ∧ ∀ k, w.frozen? ⟨g, k, none⟩ = false := by
    rcases hown.2 with ⟨h, _⟩ | ⟨g', cap', cur, hv, _, hh, h1, h2, _⟩
    · cases h
    · injection hv with hv1 hv2 hv3
      injection hv1 with hv1
      injection hv1 with hv1
      subst hv1; subst hv3
      exact ⟨h1, h2, fun k => by simp [World.frozen?, hh]⟩
  obtain ⟨news, hnews⟩ : ∃ news, news = (L.flatMap encA).drop ((i + 1) * 2) := ⟨_, rfl⟩
  have hnl : news.length = (n - (i + 1)) * 2 := by rw [hnews, List.length_drop, hfl]; omega
  have hone : ∀ u ∈ news, u.oneCell' = true := fun u hu => by
    rw [hnews] at hu
    obtain ⟨x, _, hxu⟩ := List.mem_flatMap.1 (List.mem_of_mem_drop hu)
    exact encA_one x u hxu
  obtain ⟨A, hA, hsrc⟩ : ∃ A : Addr, (if cap = i + 1 then some (⟨g, 0, none⟩ : Addr) else some ⟨g, (i + 1) * 2, none⟩) = some A ∧ Hid (∀ t u, news[t]? = some u → w.drew.cell? (A.add t) = some u) := by
    by_cases h : cap = i + 1
    · refine ⟨⟨g, 0, none⟩, by simp [h], Lib.hid fun t u hu => ?_⟩
      have h0 : news.length = 0 := by rw [hnl]; omega
      rw [List.length_eq_zero_iff.1 h0] at hu
      simp at hu
    · refine ⟨⟨g, (i + 1) * 2, none⟩, by simp [h], Lib.hid fun t u hu => ?_⟩
      rw [Go.WideShapes.add_plain]
      rw [hnews, List.getElem?_drop] at hu
      exact hcells _ _ hu
  have S1 := Lib.hid hnl
  have S2 := Lib.hid hone
  have S3 : Hid (∀ t, t < news.length → (w.drew.cell? ⟨g, 0 + i * 2 + t, none⟩).isSome = true ∧ w.drew.frozen? ⟨g, 0 + i * 2 + t, none⟩ = false) := Lib.hid (fun t ht => ⟨hsome _ (by omega), hfro _⟩)
  obtain ⟨W1, hW1⟩ : ∃ W1, W1 = w.drew.setCells g (0 + i * 2) news := ⟨_, rfl⟩
  have hsome1 : ∀ k, k < n * 2 → (W1.cell? ⟨g, k, none⟩).isSome = true := fun k hk => by rw [hW1]; exact World.isSome_setCells g news _ _ _ (hsome k hk)
  have hfro1 : ∀ k, W1.frozen? ⟨g, k, none⟩ = false := fun k => by rw [hW1, World.frozen?_setCells]; exact hfro k
  have HCL : Hid (∀ ty o c, o = (n - 1) * 2 → (Builtin.clear_ #[32] ty #[.slice (some ⟨g, o, none⟩) 1 c]).run Tryz.prog W1 = .ok (.tuple #[]) (W1.setCells g o (List.replicate (1 * 2) (.string ⟨#[]⟩)))) := Lib.hid (fun ty o c ho => run_clear_attrs W1 ty g o 1 c (by omega) (fun j hj => hsome1 _ (by omega)) (fun j hj => hfro1 _))
  have HEND : Hid (∀ W2, W2 = W1.setCells g ((n - 1) * 2) (List.replicate (1 * 2) (.string ⟨#[]⟩)) → AttrRow W2 (some ⟨g, 0, none⟩) (n - 1) cap (L.eraseIdx i) ∧ Below base w W2) := Lib.hid (fun W2 hW2 => by
    have hb1 : Below base w W1 := by rw [hW1]; exact below_setCells hbase _ _ _ ((Below.refl _ _).drew)
    refine ⟨delete_row (w := w) hL hi hcap hmax hs ?_ hcells (fun k hk => ?_) (fun k hk1 hk2 => ?_), by rw [hW2]; exact below_setCells hbase _ _ _ hb1⟩
    · rw [hW2, size_setCells, hW1, size_setCells]; exact hglt
    · rw [hW2, World.cell?_setCells_out g _ _ _ _ (fun _ _ => .inl (show k < (n - 1) * 2 by omega)), hW1, World.cell?_setCells_out g _ _ _ _ (fun _ _ => .inl (show k < 0 + i * 2 by omega))]
      rfl
    · have hkn : k - i * 2 < news.length := by rw [hnl]; omega
      have h1 := World.cell?_setCells_in g news (0 + i * 2) w.drew (fun j hj => (S3.out j hj).1) (k - i * 2) hkn
      rw [show 0 + i * 2 + (k - i * 2) = k by omega, ← hW1] at h1
      rw [hW2, World.cell?_setCells_out g _ _ _ _ (fun _ _ => .inl (show k < (n - 1) * 2 by omega)), h1]
      have h2 : (L.flatMap encA)[k + 2]? = some (news[k - i * 2]'hkn) := by
        rw [← List.getElem?_eq_getElem hkn, hnews, List.getElem?_drop]
        congr 1
        omega
      exact (hcells _ _ h2).symm)
  have HW := Lib.hid hW1
  have hic : i ≤ cap := by omega
  have hjc : i + 1 ≤ cap := by omega
  have hij : i + 1 ≤ n := by omega
  have hcap64 : cap ≤ 9223372036854775807 := by unfold maxLen at hmax; omega
  clear hown hcells hfl hsome hfro hnews hnl hone hW1 hsome1 hfro1 hmax
  go_enter Tryz.func66, Tryz.ntmps66
  go_wp2_with fail
  have q1 : (0 : Int) ≤ (i : Int) + 1 := by omega
  have q2 : (i : Int) + 1 ≤ (n : Int) := by omega
  go_region_law (refine step_append_room rfl (.tmp 22) (.tmp 25) 32 rfl 70 i0 2 Tryz.underlying32 hi0 hz1 g 0 i cap (by simp [Act.eval, Act.put]) A (n - (i + 1)) (cap - (i + 1)) news (by simp [Act.eval, Act.put]) S1.out hsrc.out S2.out (by omega) S3.out ?_; rw [← HW.out])
  have e : i + (n - (i + 1)) = n - 1 := by omega
  rw [e]
  obtain ⟨m, hm⟩ : ∃ m, n = m + 1 := ⟨n - 1, by omega⟩
  subst hm
  clear e q1 q2 hA
  have hcm : m < cap := by omega
  rw [Nat.add_sub_cancel] at HCL HEND ⊢
  obtain ⟨W2, hW2⟩ : ∃ W2, W2 = W1.setCells g (m * 2) (List.replicate (1 * 2) (.string ⟨#[]⟩)) := ⟨_, rfl⟩
  have hcl := HCL.out 0 (m * 2) (cap - m) rfl
  rw [← hW2] at hcl
  have HE := Lib.hid (HEND.out W2 hW2)
  clear hW2
  go_wp2_with fail
  go_ret
  exact ⟨by rw [Nat.add_sub_cancel]; rfl, HE.out.1, HE.out.2⟩
end Go.Proofs.YtnjoimedilonnaaGreatDoor
