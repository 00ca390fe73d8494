/- Texts joined in build order: ForestFit4 AttrDelete. -/
import Derived.Test.YtclledmgiliggaaGreatDoorP06
import Derived.Test.YtclledmgiliggaaGreatDoorP08
import Derived.Deep.RegionLaw
import Derived.Laws.IdiomCopy
import Derived.Deep.MidRow
namespace Go.Proofs.YtclledmgiliggaaGreatDoor
open Go.RowKit
def elemNameB (l : List UInt8) : Bool := rightL l && (smallL l == l)
set_option maxHeartbeats 2000000 in
theorem elemName_any (s : ByteArray) (w : World) (hs : s.size ≤ maxLen) :
    Calls Tryz.prog 143 #[.string s] w fun e w' => e = .returned (.bool (elemNameB s.toList)) ∧ Below w.heap.size w w' := by
  have C1 := Lib.hid (fit_any s w hs)
  by_cases hr : rightL s.toList = true
  rotate_left
  · have hr : rightL s.toList = false := by simpa using hr
    have HR : Hid (elemNameB s.toList = false) := Lib.hid (by unfold elemNameB; rw [hr]; rfl)
    have e1 : fitE s.toList = 4 := by unfold fitE; rw [hr]; rfl
    rw [e1] at C1
    clear hr e1
    go_enter Tryz.func143, Tryz.ntmps143
    go_wp2_with (go_at_call 67; refine C1.out.mono ?_; rintro e w' ⟨rfl, hb⟩)
    go_ret
    exact ⟨ret_bool HR.out.symm, by assumption⟩
  have e1 : fitE s.toList = 0 := by unfold fitE; rw [hr]; rfl
  have e2 : fitL s.toList = smallL s.toList := by unfold fitL; rw [hr]; rfl
  rw [e1, e2] at C1
  have HR : Hid (elemNameB s.toList = (smallL s.toList == s.toList)) := Lib.hid (by unfold elemNameB; rw [hr]; rfl)
  clear hr e1 e2
  cases hsm : (smallL s.toList == s.toList) with
  | false =>
    rw [hsm] at HR
    go_enter Tryz.func143, Tryz.ntmps143
    go_wp2_with (go_at_call 67; refine C1.out.mono ?_; rintro e w' ⟨rfl, hb⟩)
    go_ret
    exact ⟨ret_bool HR.out.symm, by assumption⟩
  | true =>
    rw [hsm] at HR
    go_enter Tryz.func143, Tryz.ntmps143
    go_wp2_with (go_at_call 67; refine C1.out.mono ?_; rintro e w' ⟨rfl, hb⟩)
    go_ret
    exact ⟨ret_bool HR.out.symm, by assumption⟩
def fieldsB (x : Core) : Bool :=
  if x.kind = 1 then elemNameB x.name.toList && (x.is.toList == [] || customL x.is.toList) && (x.data.toList == []) && rightA x.attrs
  else if x.kind = 0 ∨ x.kind = 3 ∨ x.kind = 4 then (x.data.toList == []) && (x.name.toList == []) && (x.is.toList == []) && decide (x.attrs.length = 0)
  else if x.kind = 2 then (x.name.toList == []) && (x.is.toList == []) && decide (x.data.size ≤ 200) && decide (x.attrs.length = 0)
  else false
structure NKeep (w W : World) (x : NodeD) : Prop where
  box : NBox w W w.heap.size x
  below : Below w.heap.size w W
theorem NKeep.start {w : World} {x : NodeD} (h : NodeOk w x) : NKeep w (w.alloc (nodB x)) x := by
  have c : ∀ (j : Nat), (w.alloc (nodB x)).cell? ⟨w.heap.size, j, none⟩ = (#[.int .i64 x.core.kind, .string x.core.name, .string x.core.is, .string x.core.data, .slice x.aA x.aN x.aC, .int .i64 x.core.parent, .slice x.kA x.kN x.kC, .int .i64 x.core.host, .int .i64 x.core.under, .int .i64 x.core.doc] : Array Value)[j]? := fun j =>
    cell_of_row (w.alloc (nodB x)) w.heap.size j _ 46 (0, 0) (heap_alloc_new _ _)
  exact ⟨⟨by simp, c 0, c 1, c 2, c 3, c 4, c 5, c 6, c 7, c 8, c 9, h.below (below_box w _)⟩, below_box w _⟩
theorem NKeep.keep {w W W2 : World} {x : NodeD} (h : NKeep w W x) (hb : Below W.heap.size W W2) : NKeep w W2 x := ⟨h.box.keep hb, h.below.trans (hb.mono h.below.size)⟩
set_option maxHeartbeats 8000000 in
set_option maxRecDepth 100000 in
theorem fieldsFit_any (x : NodeD) (w : World) (h : NodeOk w x) :
    Calls Tryz.prog 113 #[nodVal x] w fun e w' => e = .returned (.bool (fieldsB x.core)) ∧ Below w.heap.size w w' := by
  obtain ⟨⟨kind, name, is, data, attrs, parent, kids, host, under, doc⟩, aA, aN, aC, kA, kN, kC⟩ := x
  have HN1 : Hid (name.size ≤ maxLen) := Lib.hid h.name
  have HN2 : Hid (is.size ≤ maxLen) := Lib.hid h.is
  have hal : aN ≤ 9223372036854775807 := h.attrs.len64
  have hdl : data.size ≤ 9223372036854775807 := by have : data.size ≤ maxLen := h.data; unfold maxLen at this; omega
  have HAL : Hid (attrs.length = aN) := Lib.hid h.attrs.hlen
  have HH := Lib.hid h
  clear h
  by_cases k1 : kind = 1
  · subst k1
    have NK := Lib.hid (NKeep.start HH.out)
    clear HH
    have HR : Hid (fieldsB ⟨1, name, is, data, attrs, parent, kids, host, under, doc⟩ = (elemNameB name.toList && (is.toList == [] || customL is.toList) && (data.toList == []) && rightA attrs)) := Lib.hid rfl
    obtain ⟨-, x0, x1, x2, x3, x4, x5, x6, x7, x8, x9, -⟩ := NK.out.box
    go_enter Tryz.func113, Tryz.ntmps113
    go_wp2_with (first
                    | (go_at_call 143; (refine (elemName_any _ _ HN1.out).mono ?_); rintro e w1 ⟨rfl, hb⟩; have NK := Lib.hid (NK.out.keep hb); obtain ⟨-, x0, x1, x2, x3, x4, x5, x6, x7, x8, x9, -⟩ := NK.out.box; clear hb)
                    | (go_at_call 144; (refine (custom_any _ _ HN2.out).mono ?_); rintro e w1 ⟨rfl, hb⟩; have NK := Lib.hid (NK.out.keep hb); obtain ⟨-, x0, x1, x2, x3, x4, x5, x6, x7, x8, x9, -⟩ := NK.out.box; clear hb)
                    | (go_at_call 145; (refine (right_any' _ _ _ _ _ NK.out.box.ok.attrs).mono ?_); rintro e w1 ⟨rfl, hb⟩; have NK := Lib.hid (NK.out.keep hb); obtain ⟨-, x0, x1, x2, x3, x4, x5, x6, x7, x8, x9, -⟩ := NK.out.box; clear hb))
    all_goals (go_ret; exact ⟨ret_bool (by rw [HR.out]; first | (simp [*]; done) | (rw [Bool.eq_iff_iff]; simp [*])), by first | exact NK.out.below | assumption⟩)
  by_cases k2 : kind = 2
  · subst k2
    clear HH
    have HR : Hid (fieldsB ⟨2, name, is, data, attrs, parent, kids, host, under, doc⟩ = ((name.toList == []) && (is.toList == []) && decide (data.size ≤ 200) && decide (aN = 0))) := Lib.hid (by rw [← HAL.out]; rfl)
    clear k1
    go_enter Tryz.func113, Tryz.ntmps113
    go_wp2
    all_goals (go_ret; exact ⟨ret_bool (by rw [HR.out]; first | (simp [*]; done) | (rw [Bool.eq_iff_iff]; simp [*]; done) | (rw [Bool.eq_iff_iff]; simp [*]; omega)), below_box _ _⟩)
  by_cases k3 : kind = 0 ∨ kind = 3 ∨ kind = 4
  · have HR : Hid (fieldsB ⟨kind, name, is, data, attrs, parent, kids, host, under, doc⟩ = ((data.toList == []) && (name.toList == []) && (is.toList == []) && decide (aN = 0))) := Lib.hid (by
      unfold fieldsB
      rw [if_neg k1]
      dsimp only
      rw [if_pos k3, HAL.out])
    clear k1 k2 HH
    by_cases d0 : data.toList = []
    · have hd : (data.size : Int) ≤ 200 := by
        have : data.size = 0 := by rw [← tl_len, d0]; rfl
        omega
      have hd2 : (!data.toList.isEmpty) = false := by rw [d0]; rfl
      have hd3 : data.toList.isEmpty = true := by rw [d0]; rfl
      rcases k3 with k3 | k3 | k3
      all_goals
        subst k3
        go_enter Tryz.func113, Tryz.ntmps113
        go_wp2
        all_goals (go_ret; exact ⟨ret_bool (by rw [HR.out]; first | (simp [*]; done) | (rw [Bool.eq_iff_iff]; simp [*]; done) | (rw [Bool.eq_iff_iff]; simp [*]; omega)), below_box _ _⟩)
    · have hd3 : data.toList.isEmpty = false := by
        cases hh : data.toList with
        | nil => exact absurd hh d0
        | cons _ _ => rfl
      have hd2 : (!data.toList.isEmpty) = true := by rw [hd3]; rfl
      rcases k3 with k3 | k3 | k3
      all_goals
        subst k3
        go_enter Tryz.func113, Tryz.ntmps113
        go_wp2
        all_goals (go_ret; exact ⟨ret_bool (by rw [HR.out]; simp [*]), below_box _ _⟩)
  have HR : Hid (fieldsB ⟨kind, name, is, data, attrs, parent, kids, host, under, doc⟩ = false) := Lib.hid (by unfold fieldsB; dsimp only; rw [if_neg k1, if_neg k3, if_neg k2])
  have f0 : (kind == 0) = false := beq_eq_false_iff_ne.2 (fun e => k3 (.inl e))
  have f1 : (kind == 1) = false := beq_eq_false_iff_ne.2 k1
  have f2 : (kind == 2) = false := beq_eq_false_iff_ne.2 k2
  have f3 : (kind == 3) = false := beq_eq_false_iff_ne.2 (fun e => k3 (.inr (.inl e)))
  have f4 : (kind == 4) = false := beq_eq_false_iff_ne.2 (fun e => k3 (.inr (.inr e)))
  clear k1 k2 k3 HH
  go_enter Tryz.func113, Tryz.ntmps113
  go_wp2
  go_ret
  exact ⟨ret_bool HR.out.symm, below_box _ _⟩
end Go.Proofs.YtclledmgiliggaaGreatDoor
namespace Go.Proofs.YtclledmgiliggaaGreatDoor
open Go.RowKit
theorem below_setCells {B g : Nat} {a : World} (hg : B ≤ g) : ∀ (vs : List Value) (o : Nat) (w : World), Below B a w → Below B a (w.setCells g o vs)
  | [], _, _, h => h
  | v :: r, o, w, h => below_setCells hg r (o + 1) (w.setCell ⟨g, o, none⟩ v) (h.setCell hg v)
theorem size_setCells (g : Nat) : ∀ (vs : List Value) (o : Nat) (w : World), (w.setCells g o vs).heap.size = w.heap.size
  | [], _, _ => rfl
  | v :: r, o, w => by
    show ((w.setCell ⟨g, o, none⟩ v).setCells g (o + 1) r).heap.size = _
    rw [size_setCells g r]
    simp [World.setCell]
theorem run_clear_attrs (w : World) (ty : TypeId) (b o n c : Nat) (hn : 0 < n) (hc : ∀ j, j < n * 2 → (w.cell? ⟨b, o + j, none⟩).isSome = true) (hf : ∀ j, j < n * 2 → w.frozen? ⟨b, o + j, none⟩ = false) :
    (Builtin.clear_ #[43] ty #[.slice (some ⟨b, o, none⟩) n c]).run Tryz.prog w = .ok (.tuple #[]) (w.setCells b o (List.replicate (n * 2) (.string ⟨#[]⟩))) := by
  have hzc : (Builtin.zeroCells #[Value.string ⟨#[]⟩, .string ⟨#[]⟩] n).toList = List.replicate (n * 2) (.string ⟨#[]⟩) := by
    simp [Builtin.zeroCells]
    apply List.ext_getElem
    · simp
    · intro i h1 h2
      have : i % 2 = 0 ∨ i % 2 = 1 := by omega
      rcases this with h | h <;> simp [h]
  have hst := run_storeCells_cells (P := Tryz.prog) b o (List.replicate (n * 2) (.string ⟨#[]⟩)) 0 w (by simpa using hc) (by simpa using hf) (by intro v hv'; rw [List.eq_of_mem_replicate hv']; rfl)
  simp only [Nat.add_zero] at hst
  obtain ⟨m, rfl⟩ : ∃ m, n = m + 1 := ⟨n - 1, by omega⟩
  have hz2 : (Value.agg #[.string ⟨#[]⟩, .string ⟨#[]⟩]).cells = #[Value.string ⟨#[]⟩, .string ⟨#[]⟩] := by simp [Value.cells]
  simp [Builtin.clear_, run_underlying Tryz.underlying43, hz2, hzc, hst]
theorem eraseIdx_cells {L : AL} {i : Nat} (k : Nat) : (L.eraseIdx i)[k]? = if k < i then L[k]? else L[k + 1]? := by
  rw [List.getElem?_eraseIdx]
theorem delete_row {w w' : World} {g n cap i : Nat} {L : AL} (hL : L.length = n) (hi : i < n) (hcap : n ≤ cap) (hmax : cap ≤ maxLen) (hs : ∀ x ∈ L, x.1.size ≤ maxLen ∧ x.2.size ≤ maxLen) (hg : g < w'.heap.size)
    (h : ∀ k u, (L.flatMap encA)[k]? = some u → w.cell? ⟨g, k, none⟩ = some u)
    (hlo : ∀ k, k < i * 2 → w'.cell? ⟨g, k, none⟩ = w.cell? ⟨g, k, none⟩) (hhi : ∀ k, i * 2 ≤ k → k < (n - 1) * 2 → w'.cell? ⟨g, k, none⟩ = w.cell? ⟨g, k + 2, none⟩) :
    AttrRow w' (some ⟨g, 0, none⟩) (n - 1) cap (L.eraseIdx i) := by
  have hlen : (L.eraseIdx i).length = n - 1 := by rw [List.length_eraseIdx, hL, if_pos hi]
  refine ⟨⟨hlen, by omega, hmax, fun x _ => encA_len x, .inr ⟨g, 0, rfl, hg, fun k x j v hx hv => ?_⟩⟩, fun x hx => hs x (List.mem_of_mem_eraseIdx hx), fun h => by cases h⟩
  have hj : j < 2 := (List.getElem?_eq_some_iff.1 hv).1
  have hk : k < n - 1 := by rw [← hlen]; exact (List.getElem?_eq_some_iff.1 hx).1
  rw [eraseIdx_cells] at hx
  rw [Nat.zero_add]
  by_cases hki : k < i
  · rw [if_pos hki] at hx
    rw [hlo _ (by omega)]
    exact h _ _ ((flat_get (fun x _ => encA_len x) hx hj).trans hv)
  · rw [if_neg hki] at hx
    rw [hhi _ (by omega) (by omega), show k * 2 + j + 2 = (k + 1) * 2 + j by omega]
    exact h _ _ ((flat_get (fun x _ => encA_len x) hx hj).trans hv)
def DelPost (base g n cap : Nat) (L : AL) (i : Nat) (w : World) (e : Ending) (w' : World) : Prop := e = .returned (.slice (some ⟨g, 0, none⟩) (n - 1) cap) ∧ AttrRow w' (some ⟨g, 0, none⟩) (n - 1) cap (L.eraseIdx i) ∧ Below base w w'
set_option maxHeartbeats 8000000 in
set_option maxRecDepth 100000 in
theorem delete_any (w : World) (base g n cap : Nat) (L : AL) (i : Nat) (hown : w.ownsRow base 146 2 (.slice (some ⟨g, 0, none⟩) n cap) n (L.flatMap encA)) (hL : L.length = n) (hs : ∀ x ∈ L, x.1.size ≤ maxLen ∧ x.2.size ≤ maxLen) (hi : i < n) (hn : n ≤ 1000) :
    Calls Tryz.prog 123 #[.slice (some ⟨g, 0, none⟩) n cap, .int .i64 i, .int .i64 ((i : Int) + 1)] w (DelPost base g n cap L i w) := by
  obtain ⟨i0, hi0, hz0, hz1, hz2⟩ := info_parts attr_info
  have hcells : ∀ k u, (L.flatMap encA)[k]? = some u → w.cell? ⟨g, k, none⟩ = some u := fun k u hu => by
    have := hown.cells (g := g) rfl k u hu
    rwa [Go.WideShapes.add_plain, Nat.zero_add] at this
  have hfl : (L.flatMap encA).length = n * 2 := by rw [flat_len (fun x _ => encA_len x), hL]
  have hbase : base ≤ g := (hown.lt g rfl).1
  have hglt : g < w.heap.size := (hown.lt g rfl).2
  have hsome : ∀ k, k < n * 2 → (w.cell? ⟨g, k, none⟩).isSome = true := fun k hk => by
    rw [hcells k _ (List.getElem?_eq_getElem (by omega : k < (L.flatMap encA).length))]; rfl
  obtain ⟨hcap, hmax, hfro⟩ : n ≤ cap ∧ cap ≤ maxLen ∧ ∀ k, w.frozen? ⟨g, k, none⟩ = false := by
    rcases hown.2 with ⟨h, _⟩ | ⟨g', cap', cur, hv, _, hh, h1, h2, _⟩
    · cases h
    · injection hv with hv1 hv2 hv3
      injection hv1 with hv1
      injection hv1 with hv1
      subst hv1; subst hv3
      exact ⟨h1, h2, fun k => by simp [World.frozen?, hh]⟩
  obtain ⟨news, hnews⟩ : ∃ news, news = (L.flatMap encA).drop ((i + 1) * 2) := ⟨_, rfl⟩
  have hnl : news.length = (n - (i + 1)) * 2 := by rw [hnews, List.length_drop, hfl]; omega
  have hone : ∀ u ∈ news, u.oneCell' = true := fun u hu => by
    rw [hnews] at hu
    obtain ⟨x, _, hxu⟩ := List.mem_flatMap.1 (List.mem_of_mem_drop hu)
    exact encA_one x u hxu
  obtain ⟨A, hA, hsrc⟩ : ∃ A : Addr, (if cap = i + 1 then some (⟨g, 0, none⟩ : Addr) else some ⟨g, (i + 1) * 2, none⟩) = some A ∧ Hid (∀ t u, news[t]? = some u → w.drew.cell? (A.add t) = some u) := by
    by_cases h : cap = i + 1
    · refine ⟨⟨g, 0, none⟩, by simp [h], Lib.hid fun t u hu => ?_⟩
      have h0 : news.length = 0 := by rw [hnl]; omega
      rw [List.length_eq_zero_iff.1 h0] at hu
      simp at hu
    · refine ⟨⟨g, (i + 1) * 2, none⟩, by simp [h], Lib.hid fun t u hu => ?_⟩
      rw [Go.WideShapes.add_plain]
      rw [hnews, List.getElem?_drop] at hu
      exact hcells _ _ hu
  have S1 := Lib.hid hnl
  have S2 := Lib.hid hone
  have S3 : Hid (∀ t, t < news.length → (w.drew.cell? ⟨g, 0 + i * 2 + t, none⟩).isSome = true ∧ w.drew.frozen? ⟨g, 0 + i * 2 + t, none⟩ = false) := Lib.hid (fun t ht => ⟨hsome _ (by omega), hfro _⟩)
  obtain ⟨W1, hW1⟩ : ∃ W1, W1 = w.drew.setCells g (0 + i * 2) news := ⟨_, rfl⟩
  have hsome1 : ∀ k, k < n * 2 → (W1.cell? ⟨g, k, none⟩).isSome = true := fun k hk => by rw [hW1]; exact World.isSome_setCells g news _ _ _ (hsome k hk)
  have hfro1 : ∀ k, W1.frozen? ⟨g, k, none⟩ = false := fun k => by rw [hW1, World.frozen?_setCells]; exact hfro k
  have HCL : Hid (∀ ty o c, o = (n - 1) * 2 → (Builtin.clear_ #[43] ty #[.slice (some ⟨g, o, none⟩) 1 c]).run Tryz.prog W1 = .ok (.tuple #[]) (W1.setCells g o (List.replicate (1 * 2) (.string ⟨#[]⟩)))) := Lib.hid (fun ty o c ho => run_clear_attrs W1 ty g o 1 c (by omega) (fun j hj => hsome1 _ (by omega)) (fun j hj => hfro1 _))
  have HEND : Hid (∀ W2, W2 = W1.setCells g ((n - 1) * 2) (List.replicate (1 * 2) (.string ⟨#[]⟩)) → AttrRow W2 (some ⟨g, 0, none⟩) (n - 1) cap (L.eraseIdx i) ∧ Below base w W2) := Lib.hid (fun W2 hW2 => by
    have hb1 : Below base w W1 := by rw [hW1]; exact below_setCells hbase _ _ _ ((Below.refl _ _).drew)
    refine ⟨delete_row (w := w) hL hi hcap hmax hs ?_ hcells (fun k hk => ?_) (fun k hk1 hk2 => ?_), by rw [hW2]; exact below_setCells hbase _ _ _ hb1⟩
    · rw [hW2, size_setCells, hW1, size_setCells]; exact hglt
    · rw [hW2, World.cell?_setCells_out g _ _ _ _ (fun _ _ => .inl (show k < (n - 1) * 2 by omega)), hW1, World.cell?_setCells_out g _ _ _ _ (fun _ _ => .inl (show k < 0 + i * 2 by omega))]
      rfl
    · have hkn : k - i * 2 < news.length := by rw [hnl]; omega
      have h1 := World.cell?_setCells_in g news (0 + i * 2) w.drew (fun j hj => (S3.out j hj).1) (k - i * 2) hkn
      rw [show 0 + i * 2 + (k - i * 2) = k by omega, ← hW1] at h1
      rw [hW2, World.cell?_setCells_out g _ _ _ _ (fun _ _ => .inl (show k < (n - 1) * 2 by omega)), h1]
      have h2 : (L.flatMap encA)[k + 2]? = some (news[k - i * 2]'hkn) := by
        rw [← List.getElem?_eq_getElem hkn, hnews, List.getElem?_drop]
        congr 1
        omega
      exact (hcells _ _ h2).symm)
  have HW := Lib.hid hW1
  have hic : i ≤ cap := by omega
  have hjc : i + 1 ≤ cap := by omega
  have hij : i + 1 ≤ n := by omega
  have hcap64 : cap ≤ 9223372036854775807 := by unfold maxLen at hmax; omega
  clear hown hcells hfl hsome hfro hnews hnl hone hW1 hsome1 hfro1 hmax
  go_enter Tryz.func123, Tryz.ntmps123
  go_wp2_with fail
  have q1 : (0 : Int) ≤ (i : Int) + 1 := by omega
  have q2 : (i : Int) + 1 ≤ (n : Int) := by omega
  go_region_law (refine step_append_room rfl (.tmp 22) (.tmp 25) 43 rfl 146 i0 2 Tryz.underlying43 hi0 hz1 g 0 i cap (by simp [Act.eval, Act.put]) A (n - (i + 1)) (cap - (i + 1)) news (by simp [Act.eval, Act.put]) S1.out hsrc.out S2.out (by omega) S3.out ?_; rw [← HW.out])
  have e : i + (n - (i + 1)) = n - 1 := by omega
  rw [e]
  obtain ⟨m, hm⟩ : ∃ m, n = m + 1 := ⟨n - 1, by omega⟩
  subst hm
  clear e q1 q2 hA
  have hcm : m < cap := by omega
  rw [Nat.add_sub_cancel] at HCL HEND ⊢
  obtain ⟨W2, hW2⟩ : ∃ W2, W2 = W1.setCells g (m * 2) (List.replicate (1 * 2) (.string ⟨#[]⟩)) := ⟨_, rfl⟩
  have hcl := HCL.out 0 (m * 2) (cap - m) rfl
  rw [← hW2] at hcl
  have HE := Lib.hid (HEND.out W2 hW2)
  clear hW2
  go_wp2_with fail
  go_ret
  exact ⟨by rw [Nat.add_sub_cancel]; rfl, HE.out.1, HE.out.2⟩
end Go.Proofs.YtclledmgiliggaaGreatDoor
