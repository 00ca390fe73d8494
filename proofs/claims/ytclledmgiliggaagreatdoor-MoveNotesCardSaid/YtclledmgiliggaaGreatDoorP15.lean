/- Texts joined in build order: ForestCopy. -/
import Derived.Test.YtclledmgiliggaaGreatDoorP14
namespace Go.Proofs.YtclledmgiliggaaGreatDoor
open Go.RowKit
attribute [local go_sem ↓] Go.wp_at_zero Go.wp_at_succ
theorem own_setCell {w : World} {base : Nat} {e : TypeId} {size g n cap : Nat} {xs : List Value} (h : w.ownsRow base e size (.slice (some ⟨g, 0, none⟩) n cap) n xs) {j : Nat} (hj : j < n * size) (u : Value) :
    (w.setCell ⟨g, j, none⟩ u).ownsRow base e size (.slice (some ⟨g, 0, none⟩) n cap) n (xs.set j u) := by
  refine ⟨by rw [List.length_set]; exact h.1, ?_⟩
  rcases h.2 with ⟨hv, _⟩ | ⟨g', cap', cur, hv, hb, hg, h1, h2, h3, h4⟩
  · cases hv
  · injection hv with hv1 hv2 hv3
    injection hv1 with hv1
    injection hv1 with hv1
    subst hv1
    subst hv3
    obtain ⟨hlt, hk⟩ := Array.getElem?_eq_some_iff.1 hg
    have hjc : j < cur.size := by
      rw [h3]
      exact Nat.lt_of_lt_of_le hj (Nat.mul_le_mul_right _ h1)
    refine .inr ⟨g, cap, cur.set j u hjc, rfl, hb, ?_, h1, h2, by rw [Array.size_set]; exact h3, ?_⟩
    · show (w.heap.modify g _)[g]? = _
      rw [Array.getElem?_eq_getElem (by rw [Array.size_modify]; exact hlt), Array.getElem_modify_self, hk]
      simp [Array.setIfInBounds, hjc]
    · rw [Array.toList_set, List.take_set, h4]
theorem flat_set {α : Type} {enc : α → List Value} {size : Nat} : ∀ {L : List α}, (∀ x ∈ L, (enc x).length = size) → ∀ {i j : Nat} {y : α} {u : Value} {x : α}, L[i]? = some x → (enc y) = (enc x).set j u → j < size → (L.flatMap enc).set (i * size + j) u = (L.set i y).flatMap enc
  | [], _, _, _, _, _, _, hx, _, _ => by simp at hx
  | a :: r, h, 0, j, y, u, x, hx, he, hj => by
    simp at hx
    subst hx
    have hl := h a (by simp)
    rw [List.flatMap_cons, Nat.zero_mul, Nat.zero_add, List.set_append_left _ _ (by omega), List.set_cons_zero, List.flatMap_cons, he]
  | a :: r, h, i + 1, j, y, u, x, hx, he, hj => by
    have hl := h a (by simp)
    have ih := flat_set (L := r) (fun z hz => h z (by simp [hz])) (i := i) (j := j) (y := y) (u := u) (x := x) (by simpa using hx) he hj
    have e1 : (i + 1) * size + j - (enc a).length = i * size + j := by rw [hl, Nat.add_mul]; omega
    rw [List.flatMap_cons, List.set_append_right _ _ (by rw [hl, Nat.add_mul]; omega), List.set_cons_succ, List.flatMap_cons, ← ih, e1]
structure Copy (lo : Nat) (w W : World) (v : Value) (n : Nat) (M : List NodeD) (F : List Core) : Prop where
  own : W.ownsRow w.heap.size 46 10 v n (M.flatMap encN)
  hl : M.length = n
  core : coreL M = F
  ok : ∀ x ∈ M, NodeOk W x
  away : ∀ g, (lo ≤ g ∧ g < w.heap.size) ∨ v.ownBlock = some g → ∀ x ∈ M, NodeAway g x
  below : Below w.heap.size w W
theorem Copy.keep {lo : Nat} {w W W2 : World} {v : Value} {n : Nat} {M : List NodeD} {F : List Core} (h : Copy lo w W v n M F) (hb : Below W.heap.size W W2) : Copy lo w W2 v n M F :=
  ⟨own_below h.own hb, h.hl, h.core, fun x hx => (h.ok x hx).below hb, h.away, h.below.trans (hb.mono h.below.size)⟩
theorem Copy.row {lo : Nat} {w W : World} {v : Value} {n : Nat} {M : List NodeD} {F : List Core} (h : Copy lo w W v n M F) : ∃ a cap, v = .slice a n cap ∧ NodeRow W a n cap M ∧ ∀ b off, a = some ⟨b, off, none⟩ → w.heap.size ≤ b ∧ off = 0 := by
  rcases h.own.2 with ⟨rfl, h0⟩ | ⟨g, cap, cur, rfl, hb, _⟩
  · have hM : M = [] := List.eq_nil_of_length_eq_zero (by rw [h.hl, h0])
    subst hM
    subst h0
    exact ⟨none, 0, rfl, ⟨SRow.nil, (fun x hx => by cases hx), fun _ => rfl⟩, fun b off h => by cases h⟩
  · obtain ⟨a, cap', he, hr, hl⟩ := SRow.of_own (fun x _ => encN_len x) h.hl h.own
    injection he with h1 h2 h3
    subst h1; subst h3
    exact ⟨_, _, rfl, ⟨hr, h.ok, fun h => by cases h⟩, fun b off h => by injection h with h; injection h with h1 h2; exact ⟨by omega, h2.symm⟩⟩
theorem Copy.set {lo : Nat} {w W : World} {g n cap : Nat} {M : List NodeD} {F : List Core} (h : Copy lo w W (.slice (some ⟨g, 0, none⟩) n cap) n M F) (hg : w.heap.size ≤ g) {k : Nat} {x : NodeD} (hk : M[k]? = some x) {aA kA : Option Addr} {aC kC : Nat}
    (ha : AttrRow W aA x.core.attrs.length aC x.core.attrs) (hkk : IntRow W kA x.core.kids.length kC x.core.kids) (hw : ∀ g', (lo ≤ g' ∧ g' < w.heap.size) ∨ g' = g → NodeAway g' ⟨x.core, aA, x.core.attrs.length, aC, kA, x.core.kids.length, kC⟩) :
    Copy lo w ((W.setCell ⟨g, k * 10 + 4, none⟩ (.slice aA x.core.attrs.length aC)).setCell ⟨g, k * 10 + 6, none⟩ (.slice kA x.core.kids.length kC)) (.slice (some ⟨g, 0, none⟩) n cap) n (M.set k ⟨x.core, aA, x.core.attrs.length, aC, kA, x.core.kids.length, kC⟩) F := by
  obtain ⟨hl, he⟩ := List.getElem?_eq_some_iff.1 hk
  have hxm := List.mem_of_getElem? hk
  have hox := h.ok x hxm
  have hkn : k < n := by have := h.hl; omega
  have o1 := own_setCell h.own (j := k * 10 + 4) (by omega) (.slice aA x.core.attrs.length aC)
  rw [flat_set (L := M) (fun z _ => encN_len z) (i := k) (j := 4) (y := ⟨x.core, aA, x.core.attrs.length, aC, x.kA, x.kN, x.kC⟩) hk rfl (by omega)] at o1
  have o2 := own_setCell o1 (j := k * 10 + 6) (by omega) (.slice kA x.core.kids.length kC)
  rw [flat_set (L := M.set k ⟨x.core, aA, x.core.attrs.length, aC, x.kA, x.kN, x.kC⟩) (fun z _ => encN_len z) (i := k) (j := 6) (y := ⟨x.core, aA, x.core.attrs.length, aC, kA, x.core.kids.length, kC⟩) (u := .slice kA x.core.kids.length kC) (x := ⟨x.core, aA, x.core.attrs.length, aC, x.kA, x.kN, x.kC⟩) (List.getElem?_set_self hl) rfl (by omega), List.set_set] at o2
  refine ⟨o2, by rw [List.length_set]; exact h.hl, ?_, fun y hy => ?_, fun g' hg' y hy => ?_, (h.below.setCell (p := ⟨g, k * 10 + 4, none⟩) hg _).setCell (p := ⟨g, k * 10 + 6, none⟩) hg _⟩
  · rw [← h.core]
    unfold coreL
    rw [List.map_set]
    have : (M.map (·.core))[k]? = some x.core := by rw [List.getElem?_map, hk]; rfl
    obtain ⟨hl2, he2⟩ := List.getElem?_eq_some_iff.1 this
    show (M.map (·.core)).set k x.core = _
    rw [← he2, List.set_getElem_self]
  · have haw := h.away g (.inr rfl)
    have hw := hw g (.inr rfl)
    rcases List.mem_or_eq_of_mem_set hy with hy | rfl
    · exact ((h.ok y hy).setCell (haw y hy) _).setCell (haw y hy) _
    · have hq : NodeOk W ⟨x.core, aA, x.core.attrs.length, aC, kA, x.core.kids.length, kC⟩ := ⟨ha, hkk, hox.name, hox.is, hox.data, hox.kind, hox.parent, hox.host, hox.under, hox.doc⟩
      exact (hq.setCell hw _).setCell hw _
  · rcases List.mem_or_eq_of_mem_set hy with hy | rfl
    · exact h.away g' hg' y hy
    · refine hw g' ?_
      rcases hg' with h | h
      · exact .inl h
      · injection h with h
        exact .inr h.symm
theorem own_otherCell {w : World} {base : Nat} {e : TypeId} {size n g o : Nat} {v : Value} {xs : List Value} (h : w.ownsRow base e size v n xs) (hg : g < base) (u : Value) : (w.setCell ⟨g, o, none⟩ u).ownsRow base e size v n xs := by
  refine ⟨h.1, ?_⟩
  rcases h.2 with h0 | ⟨g', cap, cur, hv, hb, hg', h3⟩
  · exact .inl h0
  · exact .inr ⟨g', cap, cur, hv, hb, (Below.heap_setCell _ _ _ g' (by show g' ≠ g; omega)).trans hg', h3⟩
theorem own_base {w : World} {b1 b2 : Nat} {e : TypeId} {size n : Nat} {v : Value} {xs : List Value} (h : w.ownsRow b2 e size v n xs) (hb : b1 ≤ b2) : w.ownsRow b1 e size v n xs := by
  refine ⟨h.1, ?_⟩
  rcases h.2 with h | ⟨g, cap, cur, h1, h2, h3⟩
  · exact .inl h
  · exact .inr ⟨g, cap, cur, h1, Nat.le_trans hb h2, h3⟩
theorem Copy.finish {w w0 W : World} {v : Value} {n : Nat} {M : List NodeD} {F : List Core} (h : Copy w.heap.size w0 W v n M F) (hb : Below w.heap.size w w0) {g : Nat} (h1 : w.heap.size ≤ g) (h2 : g < w0.heap.size) (o1 o2 : Nat) (u1 u2 : Value) :
    Copy w.heap.size w ((W.setCell ⟨g, o1, none⟩ u1).setCell ⟨g, o2, none⟩ u2) v n M F := by
  refine ⟨own_base (own_otherCell (own_otherCell h.own h2 u1) h2 u2) hb.size, h.hl, h.core, fun x hx => ?_, fun g' hg' => ?_, ((hb.trans (h.below.mono hb.size)).setCell (p := ⟨g, o1, none⟩) h1 u1).setCell (p := ⟨g, o2, none⟩) h1 u2⟩
  · have ha := h.away g (.inl ⟨h1, h2⟩) x hx
    exact ((h.ok x hx).setCell ha u1).setCell ha u2
  · rcases hg' with hg' | hg'
    · omega
    · exact h.away g' (.inr hg')
def newLists (B : Nat) (x : NodeD) : Prop := (∀ b off, x.aA = some ⟨b, off, none⟩ → B ≤ b) ∧ (∀ b off, x.kA = some ⟨b, off, none⟩ → B ≤ b)
theorem newLists.away {B g : Nat} {x : NodeD} (h : newLists B x) (hg : g < B) : NodeAway g x := ⟨fun b off ha _ e => by have := h.1 b off ha; omega, fun b off ha _ e => by have := h.2 b off ha; omega⟩
def CopyPost (w : World) (n : Nat) (F : List Core) (m : Int) (e : Ending) (w' : World) : Prop := ∃ v M, e = .returned (.agg #[v, .int .i64 m]) ∧ Copy w.heap.size w w' v n M F ∧ ∀ x ∈ M, newLists w.heap.size x
theorem own_free {w : World} {base : Nat} {e : TypeId} {size g n cap : Nat} {xs : List Value} (h : w.ownsRow base e size (.slice (some ⟨g, 0, none⟩) n cap) n xs) (j : Nat) : w.frozen? ⟨g, j, none⟩ = false := by
  rcases h.2 with ⟨hv, _⟩ | ⟨g', cap', cur, hv, hb, hg, _⟩
  · cases hv
  · injection hv with hv1
    injection hv1 with hv1
    injection hv1 with hv1
    subst hv1
    exact row_free hg j
theorem Copy.start {w w0 W : World} {v : Value} {n : Nat} {L : List NodeD} (hl : L.length = n) (hok : ∀ x ∈ L, NodeOk w x) (hb : Below w.heap.size w w0) (hb2 : Below w0.heap.size w0 W) (h : W.ownsRow w0.heap.size 46 10 v L.length (L.flatMap encN)) : Copy w.heap.size w0 W v n L (coreL L) := by
  refine ⟨hl ▸ h, hl, rfl, fun x hx => ((hok x hx).below hb).below hb2, fun g hg x hx => ?_, hb2⟩
  rcases hg with hg | hg
  · exact (hok x hx).away hg.1
  rcases h.2 with ⟨rfl, _⟩ | ⟨g', cap, cur, rfl, hlo, _⟩
  · cases hg
  · injection hg with hg
    have hg2 : g' = g := hg
    subst hg2
    exact (hok x hx).away (Nat.le_trans hb.size hlo)
structure CopyIn (lo : Nat) (w W : World) (g n cap k : Nat) (M : List NodeD) (F : List Core) (b : Nat) (x : NodeD) : Prop where
  copy : Copy lo w W (.slice (some ⟨g, 0, none⟩) n cap) n M F
  low : w.heap.size ≤ g
  hx : M[k]? = some x
  lt : b < W.heap.size
  c4 : W.cell? ⟨b, 4, none⟩ = some (.slice x.aA x.aN x.aC)
  c6 : W.cell? ⟨b, 6, none⟩ = some (.slice x.kA x.kN x.kC)
theorem CopyIn.keep {lo : Nat} {w W W2 : World} {g n cap k : Nat} {M : List NodeD} {F : List Core} {b : Nat} {x : NodeD} (h : CopyIn lo w W g n cap k M F b x) (hb : Below W.heap.size W W2) : CopyIn lo w W2 g n cap k M F b x :=
  ⟨h.copy.keep hb, h.low, h.hx, Nat.lt_of_lt_of_le h.lt hb.size, (hb.cell (p := ⟨b, 4, none⟩) h.lt).trans h.c4, (hb.cell (p := ⟨b, 6, none⟩) h.lt).trans h.c6⟩
theorem CopyIn.ok {lo : Nat} {w W : World} {g n cap k : Nat} {M : List NodeD} {F : List Core} {b : Nat} {x : NodeD} (h : CopyIn lo w W g n cap k M F b x) : NodeOk W x := h.copy.ok x (List.mem_of_getElem? h.hx)
theorem CopyIn.at {lo : Nat} {w W : World} {g n cap k : Nat} {M : List NodeD} {F : List Core} {b : Nat} {x : NodeD} (h : CopyIn lo w W g n cap k M F b x) : NodeAt W g (k * 10) x := by
  obtain ⟨a, cap', he, hr, _⟩ := h.copy.row
  injection he with e1 e2 e3
  subst e1
  have hk : k < n := by
    have := (List.getElem?_eq_some_iff.1 h.hx).1
    rw [h.copy.hl] at this
    exact this
  obtain ⟨b', off, y, hab, _, hy, hat, _⟩ := hr.get hk
  injection hab with hab
  injection hab with e1 e2
  subst e1 e2
  obtain rfl : x = y := Option.some.inj (h.hx.symm.trans hy)
  rwa [Nat.zero_add] at hat
structure ForBox (w W : World) (g a : Nat) (m : Int) : Prop where
  lt : g < W.heap.size
  c0 : W.cell? ⟨g, 0, none⟩ = some (.slice none 0 0)
  c1 : W.cell? ⟨g, 1, none⟩ = some (.int .i64 0)
  f0 : W.frozen? ⟨g, 0, none⟩ = false
  f1 : W.frozen? ⟨g, 1, none⟩ = false
  d1 : W.cell? ⟨a, 1, none⟩ = some (.int .i64 m)
theorem ForBox.keep {w W W2 : World} {g a : Nat} {m : Int} (h : ForBox w W g a m) (ha : a < W.heap.size) (hb : Below W.heap.size W W2) : ForBox w W2 g a m :=
  ⟨Nat.lt_of_lt_of_le h.lt hb.size, (hb.cell (p := ⟨g, 0, none⟩) h.lt).trans h.c0, (hb.cell (p := ⟨g, 1, none⟩) h.lt).trans h.c1, (hb.frozen (p := ⟨g, 0, none⟩) h.lt).trans h.f0, (hb.frozen (p := ⟨g, 1, none⟩) h.lt).trans h.f1, (hb.cell (p := ⟨a, 1, none⟩) ha).trans h.d1⟩
set_option maxHeartbeats 16000000 in
set_option maxRecDepth 100000 in
theorem cloneF_any (a : Option Addr) (len cap : Nat) (m : Int) (L : List NodeD) (w : World) (h : NodeRow w a len cap L) (hs : smallF L) :
    Calls Tryz.prog 90 #[forV a len cap m] w (CopyPost w len (coreL L) m) := by
  have HL := Lib.hid h.hlen
  have hlen : len ≤ 1000 := by rw [← h.hlen]; exact hs.1
  have HSM : Hid (∀ c ∈ coreL L, c.kids.length ≤ 1000 ∧ c.attrs.length ≤ 1000) := Lib.hid (fun c hc => by
    obtain ⟨x, hx, rfl⟩ := List.mem_map.1 hc
    exact ⟨(hs.2 x hx).1, (hs.2 x hx).2.1⟩)
  obtain ⟨w0, hw0, BX, FB⟩ : ∃ w0, (w.alloc (forB a len cap m)).alloc (.cells #[.slice none 0 0, .int .i64 0] 24) = w0 ∧ Box w w0 w.heap.size a len cap m L (coreL L) ∧ ForBox w w0 (w.heap.size + 1) w.heap.size m := by
    refine ⟨_, rfl, (Box.start (m := m) h).keep (below_box _ _), ?_⟩
    have e1 : (w.alloc (forB a len cap m)).heap.size = w.heap.size + 1 := by simp
    have c : ∀ j, ((w.alloc (forB a len cap m)).alloc (.cells #[.slice none 0 0, .int .i64 0] 24)).cell? ⟨w.heap.size + 1, j, none⟩ = (#[.slice none 0 0, .int .i64 0] : Array Value)[j]? := fun j => by
      have := cell_of_row ((w.alloc (forB a len cap m)).alloc (.cells #[.slice none 0 0, .int .i64 0] 24)) (w.alloc (forB a len cap m)).heap.size j _ 24 (0, 0) (heap_alloc_new _ _)
      rwa [e1] at this
    have f : ∀ j, ((w.alloc (forB a len cap m)).alloc (.cells #[.slice none 0 0, .int .i64 0] 24)).frozen? ⟨w.heap.size + 1, j, none⟩ = false := fun j => by
      have := row_free (heap_alloc_new (w.alloc (forB a len cap m)) (.cells #[.slice none 0 0, .int .i64 0] 24)) j
      rwa [e1] at this
    exact ⟨by simp, c 0, c 1, f 0, f 1, ((Box.start (m := m) h).keep (below_box _ _)).c1⟩
  have BX := Lib.hid BX
  have FB := Lib.hid FB
  have HW := Lib.hid hw0
  have HH := Lib.hid h
  have CN : Hid (∀ W, NodeRow W a len cap L → Calls Tryz.prog 133 #[.slice a len cap] W (OwnPostN W L)) := Lib.hid (fun W h => cloneN_any a len cap L W h (by omega))
  have z0 : ((w.alloc (forB a len cap m)).alloc (.cells #[.slice none 0 0, .int .i64 0] 24)).cell? ⟨w.heap.size, 0, none⟩ = some (.slice a len cap) := by rw [hw0]; exact BX.out.c0
  clear h hs hw0
  go_enter Tryz.func90, Tryz.ntmps90
  go_wp2_with (go_at_call 133; rw [HW.out]; refine (CN.out _ BX.out.row).mono ?_; intro e w1 hp; obtain ⟨v, rfl, hown, hb⟩ := hp; have CP := Lib.hid (Copy.start HL.out HH.out.ok BX.out.below hb hown); obtain ⟨a2, cap2, rfl, hr2, hlo2⟩ := CP.out.row; have FB1 := Lib.hid (FB.out.keep BX.out.lt hb); clear hown hb hr2 hlo2 z0)
  go_loopw [11] (fun i wr => ∃ (k : Nat) (M : List NodeD), k ≤ len ∧ i = .int .i64 k ∧ Hid (Copy w.heap.size w0 wr (.slice a2 len cap2) len M (coreL L)) ∧ Hid (∀ (j : Nat) x, j < k → M[j]? = some x → newLists w.heap.size x)) (fun i _ => len - (intOf i).toNat)
  case atStart => exact ⟨0, L, Nat.zero_le _, rfl, CP, Lib.hid (fun j x hj => absurd hj (by omega))⟩
  case round =>
    clear CP FB1
    obtain ⟨k, M, hk, rfl, CP, NL⟩ := hrel
    by_cases hlt : k < len
    · obtain ⟨a3, cap3, he3, hr3, hlo3⟩ := CP.out.row
      injection he3 with e1 e2 e3
      subst e1 e3
      obtain ⟨g, off, x, rfl, hg, hx, hat, hok⟩ := hr3.get hlt
      obtain ⟨hlo, rfl⟩ := hlo3 g off rfl
      rw [Nat.zero_add] at hat
      obtain ⟨W1, hW1, CI, hgl⟩ : ∃ W1, wr.alloc (nodB x) = W1 ∧ CopyIn w.heap.size w0 W1 g len cap2 k M (coreL L) wr.heap.size x ∧ g < W1.heap.size := by
        have hbx := (NKeep.start hok).box
        exact ⟨_, rfl, ⟨CP.out.keep (below_box _ _), hlo, hx, by simp, hbx.c4, hbx.c6⟩, by simp; omega⟩
      have CI := Lib.hid CI
      have HW1 := Lib.hid hW1
      have HGL := Lib.hid hgl
      have HGW := Lib.hid hg
      clear hW1 hgl
      obtain ⟨c0, c1, c2, c3, c4, c5, c6, c7, c8, c9⟩ := hat
      have hn3 : x.core.data.size ≤ 9223372036854775807 := by have := hok.data; unfold maxLen at this; omega
      have HXC : Hid (x.core ∈ coreL L) := Lib.hid (by rw [← CP.out.core]; exact List.mem_map.2 ⟨x, List.mem_of_getElem? hx, rfl⟩)
      have HAL := Lib.hid hok.attrs.hlen
      have HKL := Lib.hid hok.kids.hlen
      have CA : Hid (∀ W, AttrRow W x.aA x.aN x.aC x.core.attrs → Calls Tryz.prog 119 #[.slice x.aA x.aN x.aC] W (OwnPost W x.core.attrs)) := Lib.hid (fun W h => clone_any _ _ _ _ W h (by have := (HSM.out _ HXC.out).2; rw [HAL.out] at this; omega))
      have CK : Hid (∀ W, IntRow W x.kA x.kN x.kC x.core.kids → Calls Tryz.prog 134 #[.slice x.kA x.kN x.kC] W (OwnPostI W x.core.kids)) := Lib.hid (fun W h => cloneI_any _ _ _ _ W h (by have := (HSM.out _ HXC.out).1; rw [HKL.out] at this; omega))
      have HS1 := Lib.hid hok.attrs.small
      have HS2 := Lib.hid hok.kids.inb
      clear CP hr3 hlo3 hok hx
      go_wp2
      rw [HW1.out]
      clear c0 c1 c2 c3 c4 c5 c6 c7 c8 c9 hn3
      have x4 := CI.out.c4
      have x6 := CI.out.c6
      have hne1 : g ≠ wr.heap.size := Nat.ne_of_lt HGW.out
      have hne2 : wr.heap.size ≠ g := Nat.ne_of_gt HGW.out
      go_region_held3 (fun w' => w'.cell? ⟨wr.heap.size, 4, none⟩ = some (.slice x.aA x.aN x.aC) ∧ w'.cell? ⟨wr.heap.size, 6, none⟩ = some (.slice x.kA x.kN x.kC)) (go_keep)
        (first
          | (go_at_call 119; refine (CA.out _ CI.out.ok.attrs.drew).mono ?_; intro e w2 hp; obtain ⟨a4, c4, rfl, hrw, hlow, hb⟩ := hp.row HS1.out; have RA := Lib.hid hrw; have LA := Lib.hid hlow; have CI := Lib.hid (CI.out.keep ((Below.refl _ _).drew.trans hb)); have x4 := CI.out.c4; have x6 := CI.out.c6; have HG2 := Lib.hid (Nat.lt_of_lt_of_le HGL.out hb.size); clear hp hrw hlow hb)
          | (go_at_call 134; refine (CK.out _ CI.out.ok.kids).mono ?_; intro e w3 hp; obtain ⟨a6, c6, rfl, hrw, hlow, hb⟩ := hp.row HS2.out; have RK := Lib.hid hrw; have LK := Lib.hid hlow; have RA := Lib.hid (RA.out.below hb); have CI := Lib.hid (CI.out.keep hb); have x4 := CI.out.c4; have x6 := CI.out.c6; have d4 := CI.out.at.c4; have d6 := CI.out.at.c6; have f4 := own_free CI.out.copy.own (k * 10 + 4); have f6 := own_free CI.out.copy.own (k * 10 + 6); clear hp hrw hlow hb))
      have HW0 : Hid (w0.heap.size ≤ W1.heap.size) := Lib.hid (Nat.le_trans (Nat.le_of_lt (Nat.lt_of_le_of_lt CI.out.low HGL.out)) (Nat.le_refl _))
      have CP2 := Lib.hid (CI.out.copy.set CI.out.low CI.out.hx RA.out RK.out (fun g' hg' => ⟨fun b off hb _ => by
        have h1 : W1.drew.heap.size ≤ b := LA.out b off hb
        have h2 : W1.drew.heap.size = W1.heap.size := rfl
        have h3 := HGL.out
        have h4 := HW0.out
        rcases hg' with h | h <;> omega, fun b off hb _ => by
        have h1 := LK.out b off hb
        have h2 := HG2.out
        have h3 := CI.out.low
        rcases hg' with h | h <;> omega⟩))
      have NL2 : Hid (∀ (j : Nat) y, j < k + 1 → (M.set k ⟨x.core, a4, x.core.attrs.length, c4, a6, x.core.kids.length, c6⟩)[j]? = some y → newLists w.heap.size y) := Lib.hid (fun j y hj hy => by
        by_cases e : k = j
        · subst e
          rw [List.getElem?_set_self (List.getElem?_eq_some_iff.1 CI.out.hx).1] at hy
          rw [← Option.some.inj hy]
          have h0 := BX.out.below.size
          have h2 := HG2.out
          have h3 := CI.out.low
          refine ⟨fun b off hb => ?_, fun b off hb => ?_⟩
          · have h1 : W1.drew.heap.size ≤ b := LA.out b off hb
            have h4 : W1.drew.heap.size = W1.heap.size := rfl
            have h5 := HW0.out
            omega
          · have h1 := LK.out b off hb
            omega
        · rw [List.getElem?_set_ne e] at hy
          exact NL.out j y (by omega) hy)
      go_wp2
      go_roundw
      case rel => exact ⟨k + 1, _, by omega, by go_num, CP2, NL2⟩
      case measure => simp [intOf]; omega
    · have hkk : k = len := by omega
      subst hkk
      have FB2 := Lib.hid (FB.out.keep BX.out.lt CP.out.below)
      have d0 := FB2.out.c0
      have d1 := FB2.out.c1
      have f0 := FB2.out.f0
      have f1 := FB2.out.f1
      have z1 := FB2.out.d1
      go_wp2
      refine bodyPost_ret (v := .agg #[.slice a2 k cap2, .int .i64 m]) ?_ rfl ⟨_, M, rfl, CP.out.finish BX.out.below (by omega) FB.out.lt 0 1 _ _, fun x hx => ?_⟩
      · simp [results, Tryz.results90, go_sem, d0, d1]
      · obtain ⟨j, hj, he⟩ := List.mem_iff_getElem.1 hx
        exact NL.out j x (by rw [CP.out.hl] at hj; exact hj) (by rw [List.getElem?_eq_getElem hj, he])
end Go.Proofs.YtclledmgiliggaaGreatDoor
