/- Texts joined in build order: NodeRowW ForestAheadFn ForestOpen. -/
import Derived.Test.YtkgbgnmmgmnnlaaGreatDoorE17
import Derived.Test.YtkgbgnmmgmnnlaaGreatDoorE19
import Derived.Test.YtkgbgnmmgmnnlaaGreatDoorE20
import Derived.Test.YtkgbgnmmgmnnlaaGreatDoorE04
import Derived.OpenShut
namespace Go.Proofs.YtkgbgnmmgmnnlaaGreatDoor
open Go.RowKit
structure WRow (W : World) (g len cap : Nat) (M : List NodeD) : Prop where
  row : NodeRow W (some ⟨g, 0, none⟩) len cap M
  lt : g < W.heap.size
  free : ∀ o, W.frozen? ⟨g, o, none⟩ = false
  away : ∀ x ∈ M, NodeAway g x
theorem WRow.keep {W W2 : World} {g len cap : Nat} {M : List NodeD} (h : WRow W g len cap M) (hb : Below W.heap.size W W2) : WRow W2 g len cap M :=
  ⟨h.row.below hb, Nat.lt_of_lt_of_le h.lt hb.size, fun o => (hb.frozen (p := ⟨g, o, none⟩) h.lt).trans (h.free o), h.away⟩
theorem WRow.at_ {W : World} {g len cap : Nat} {M : List NodeD} (h : WRow W g len cap M) {k : Nat} {x : NodeD} (hk : M[k]? = some x) : NodeAt W g (k * 10) x ∧ NodeOk W x := by
  have hl : k < len := by have := (List.getElem?_eq_some_iff.1 hk).1; rwa [h.row.hlen] at this
  obtain ⟨b, off, y, hab, _, hy, hat, hok⟩ := h.row.get hl
  injection hab with hab
  injection hab with e1 e2
  subst e1 e2
  obtain rfl : x = y := Option.some.inj (hk.symm.trans hy)
  rw [Nat.zero_add] at hat
  exact ⟨hat, hok⟩
theorem WRow.of_own {W : World} {base n : Nat} {v : Value} {M : List NodeD} (hown : W.ownsRow base 37 10 v n (M.flatMap encN)) (hl : M.length = n) (hn : 0 < n) (hok : ∀ x ∈ M, NodeOk W x) (haw : ∀ g, v.ownBlock = some g → ∀ x ∈ M, NodeAway g x) :
    ∃ g cap, v = .slice (some ⟨g, 0, none⟩) n cap ∧ base ≤ g ∧ WRow W g n cap M := by
  obtain ⟨a, cap', he, hr, _⟩ := SRow.of_own (fun x _ => encN_len x) hl hown
  rcases hown.2 with ⟨_, h0⟩ | ⟨g, cap, cur, hv, hb, hg, _⟩
  · omega
  · rw [hv] at he
    injection he with h1 h2 h3
    subst h1; subst h3
    refine ⟨g, cap, hv, hb, ⟨hr, hok, fun h => by cases h⟩, (Array.getElem?_eq_some_iff.1 hg).1, fun o => row_free hg o, haw g (by rw [hv]; rfl)⟩
theorem WRow.set {W : World} {g len cap : Nat} {M : List NodeD} (h : WRow W g len cap M) {k j : Nat} {x y : NodeD} {u : Value} (hk : M[k]? = some x) (hj : j < 10) (he : encN y = (encN x).set j u) (hy : NodeOk W y) (hw : NodeAway g y) :
    WRow (W.setCell ⟨g, k * 10 + j, none⟩ u) g len cap (M.set k y) := by
  obtain ⟨hkl, _⟩ := List.getElem?_eq_some_iff.1 hk
  have hlen : k < len := by rw [h.row.hlen] at hkl; exact hkl
  have aw : ∀ z ∈ M.set k y, NodeAway g z := fun z hz => by
    rcases List.mem_or_eq_of_mem_set hz with hz | rfl
    · exact h.away z hz
    · exact hw
  have ok : ∀ z ∈ M.set k y, NodeOk W z := fun z hz => by
    rcases List.mem_or_eq_of_mem_set hz with hz | rfl
    · exact h.row.ok z hz
    · exact hy
  refine ⟨⟨⟨by rw [List.length_set]; exact h.row.hlen, h.row.row.hcap, h.row.row.hmax, fun z _ => encN_len z, .inr ⟨g, 0, rfl, by simpa [World.setCell] using h.lt, fun i z j' v hz hv => ?_⟩⟩, fun z hz => (ok z hz).setCell (aw z hz) u, fun e => by cases e⟩, by simpa [World.setCell] using h.lt, fun o => by rw [World.frozen?_setCell]; exact h.free o, aw⟩
  have hj' : j' < 10 := by
    have := (List.getElem?_eq_some_iff.1 hv).1
    rwa [encN_len] at this
  by_cases e : i = k
  · subst e
    rw [List.getElem?_set_self hkl] at hz
    obtain rfl : y = z := Option.some.inj hz
    rw [he] at hv
    by_cases ej : j = j'
    · subst ej
      rw [List.getElem?_set_self (by rw [encN_len]; exact hj)] at hv
      rw [← Option.some.inj hv, Nat.zero_add]
      have hc : ∃ v0, (encN x)[j]? = some v0 := ⟨_, List.getElem?_eq_getElem (by rw [encN_len]; exact hj)⟩
      obtain ⟨v0, hv0⟩ := hc
      rcases h.row.row.cells with h0 | ⟨b, off, ha, _, hcell⟩
      · omega
      · injection ha with ha
        injection ha with e1 e2
        subst e1 e2
        have := hcell i x j v0 hk hv0
        rw [Nat.zero_add] at this
        exact World.cell?_setCell_same _ _ _ this
    · rw [List.getElem?_set_ne ej] at hv
      rw [World.cell?_setCell_other _ _ _ _ (fun e' => by injection e' with _ e'; omega)]
      rcases h.row.row.cells with h0 | ⟨b, off, ha, _, hcell⟩
      · omega
      · injection ha with ha
        injection ha with e1 e2
        subst e1 e2
        exact hcell i x j' v hk hv
  · rw [List.getElem?_set_ne (fun e2 => e e2.symm)] at hz
    rw [World.cell?_setCell_other _ _ _ _ (fun e' => by injection e' with _ e'; have : k * 10 + j = 0 + i * 10 + j' := e'; omega)]
    rcases h.row.row.cells with h0 | ⟨b, off, ha, _, hcell⟩
    · omega
    · injection ha with ha
      injection ha with e1 e2
      subst e1 e2
      exact hcell i z j' v hz hv
theorem WRow.other {W : World} {g len cap : Nat} {M : List NodeD} (h : WRow W g len cap M) {b : Nat} (hb : b ≠ g) (ha : ∀ x ∈ M, NodeAway b x) (o : Nat) (u : Value) : WRow (W.setCell ⟨b, o, none⟩ u) g len cap M :=
  ⟨⟨h.row.row.keep (by simp [World.setCell]) (fun b' off he _ o' => World.cell?_setCell_other _ _ _ _ (fun e => by injection he with he; injection he with e1 _; injection e with e2 _; exact hb (e2.trans e1.symm))), fun x hx => (h.row.ok x hx).setCell (ha x hx) u, h.row.hnil⟩, by simpa [World.setCell] using h.lt, fun o' => by rw [World.frozen?_setCell]; exact h.free o', h.away⟩
def withK (x : NodeD) (a : Option Addr) (n c : Nat) (l : List Int) : NodeD := ⟨⟨x.core.kind, x.core.name, x.core.is, x.core.data, x.core.attrs, x.core.parent, l, x.core.host, x.core.under, x.core.doc⟩, x.aA, x.aN, x.aC, a, n, c⟩
def withP (x : NodeD) (p : Int) : NodeD := ⟨⟨x.core.kind, x.core.name, x.core.is, x.core.data, x.core.attrs, p, x.core.kids, x.core.host, x.core.under, x.core.doc⟩, x.aA, x.aN, x.aC, x.kA, x.kN, x.kC⟩
def withD (x : NodeD) (d : Int) : NodeD := ⟨⟨x.core.kind, x.core.name, x.core.is, x.core.data, x.core.attrs, x.core.parent, x.core.kids, x.core.host, x.core.under, d⟩, x.aA, x.aN, x.aC, x.kA, x.kN, x.kC⟩
theorem WRow.setK {W : World} {g len cap : Nat} {M : List NodeD} (h : WRow W g len cap M) {k : Nat} {x : NodeD} (hk : M[k]? = some x) {a : Option Addr} {n c : Nat} {l : List Int} (hl : IntRow W a n c l) (hw : ∀ b off, a = some ⟨b, off, none⟩ → 0 < n → b ≠ g) : WRow (W.setCell ⟨g, k * 10 + 6, none⟩ (.slice a n c)) g len cap (M.set k (withK x a n c l)) := by
  obtain ⟨_, hok⟩ := h.at_ hk
  have ha := h.away x (List.mem_of_getElem? hk)
  exact h.set hk (by omega) rfl ⟨hok.attrs, hl, hok.name, hok.is, hok.data, hok.kind, hok.parent, hok.host, hok.under, hok.doc⟩ ⟨ha.1, hw⟩
theorem WRow.setP {W : World} {g len cap : Nat} {M : List NodeD} (h : WRow W g len cap M) {k : Nat} {x : NodeD} (hk : M[k]? = some x) {p : Int} (hp : In64 p) : WRow (W.setCell ⟨g, k * 10 + 5, none⟩ (.int .i64 p)) g len cap (M.set k (withP x p)) := by
  obtain ⟨_, hok⟩ := h.at_ hk
  have ha := h.away x (List.mem_of_getElem? hk)
  exact h.set hk (by omega) rfl ⟨hok.attrs, hok.kids, hok.name, hok.is, hok.data, hok.kind, hp, hok.host, hok.under, hok.doc⟩ ha
theorem WRow.setD {W : World} {g len cap : Nat} {M : List NodeD} (h : WRow W g len cap M) {k : Nat} {x : NodeD} (hk : M[k]? = some x) {d : Int} (hd : In64 d) : WRow (W.setCell ⟨g, k * 10 + 9, none⟩ (.int .i64 d)) g len cap (M.set k (withD x d)) := by
  obtain ⟨_, hok⟩ := h.at_ hk
  have ha := h.away x (List.mem_of_getElem? hk)
  exact h.set hk (by omega) rfl ⟨hok.attrs, hok.kids, hok.name, hok.is, hok.data, hok.kind, hok.parent, hok.host, hok.under, hd⟩ ha
end Go.Proofs.YtkgbgnmmgmnnlaaGreatDoor
namespace Go.Proofs.YtkgbgnmmgmnnlaaGreatDoor
open Go.RowKit
theorem ahead_find {m : Int} {F : List Core} (hr : rightF m F = true) {x y : Nat} (hx : x < F.length) (hy : y < F.length) : aheadZ m F (x : Int) (y : Int) = decide (findZ (ordZ m F (rootF F x : Nat)) (x : Int) < findZ (ordZ m F (rootF F x : Nat)) (y : Int)) := by
  have T := tree_of_right hr
  have hrl := rootF_lt hr hx
  rw [aheadZ_eq hr hx hy, ordZ_eq hr hrl]
  have hf : ∀ (l : List Nat) (z : Nat), findZ (l.map Int.ofNat) (z : Int) = if posN l z < l.length then (posN l z : Int) else -1 := fun l z => by
    have h1 : findN (l.map Int.ofNat) (z : Int) = posN l z := by
      unfold findN posN
      rw [List.findIdx_map]
      congr 1
      funext q
      show (Int.ofNat q == (z : Int)) = (q == z)
      rw [Bool.eq_iff_iff]
      simp
      omega
    unfold findZ
    rw [h1, List.length_map]
  rw [hf, hf]
  have hxin : x ∈ ordF F (rootF F x) := T.in_root (f := F.length + 1) hx (by omega)
  have hpx := posN_mem hxin
  rw [if_pos hpx]
  unfold aheadF
  by_cases he : rootF F x = rootF F y
  · rw [decide_eq_true he, Bool.true_and]
    have hyin : y ∈ ordF F (rootF F x) := by
      rw [he]
      exact T.in_root (f := F.length + 1) hy (by omega)
    rw [if_pos (posN_mem hyin)]
    exact decide_eq_decide.2 (by omega)
  · rw [decide_eq_false he, Bool.false_and]
    have hyn : y ∉ ordF F (rootF F x) := fun hm => by
      have hh := (T.mem_ord _ _ hrl (by omega) y hy).1 hm
      have h2 : parF F (rootF F x) = none := T.root_top _ x hx (by have := T.rank_le x hx; omega)
      exact he (T.root_of (f := F.length + 1) hy (by have := T.rank_le y hy; omega) hh h2).symm
    have hpy : ¬ posN (ordF F (rootF F x)) y < (ordF F (rootF F x)).length := fun h => by
      have h2 : ((ordF F (rootF F x))[posN (ordF F (rootF F x)) y] == y) = true := List.findIdx_getElem (w := h)
      have h3 : (ordF F (rootF F x))[posN (ordF F (rootF F x)) y] = y := by simpa using h2
      exact hyn (h3 ▸ List.getElem_mem h)
    rw [if_neg hpy]
    exact (decide_eq_false (by omega)).symm
set_option maxHeartbeats 4000000 in
set_option maxRecDepth 100000 in
theorem aheadFn_any (a : Option Addr) (len cap : Nat) (m : Int) (L : List NodeD) (x y : Int) (w : World) (h : NodeRow w a len cap L) (hm : In64 m) (hx : In64 x) (hy : In64 y) (hs : smallF L) :
    Calls Tryz.prog 24 #[forV a len cap m, .int .i64 x, .int .i64 y] w fun e w' => e = .returned (.bool (aheadZ m (coreL L) x y)) ∧ Below w.heap.size w w' := by
  have HCL : Hid ((coreL L).length = len) := Lib.hid (by rw [coreL_len, h.hlen])
  have hlen := h.len64
  have BX := Lib.hid ((Box.start (m := m) h).keep (below_box _ (.cells #[.int .i64 x, .int .i64 y] 3)))
  have NB := Lib.hid (lit_two (w.alloc (forB a len cap m)) 3 x y hx hy)
  have CK : Hid (∀ W b, NodeRow W a len cap L → IntRow W b 2 2 [x, y] → Calls Tryz.prog 46 #[forV a len cap m, .slice b 2 2] W fun e w' => e = .returned (.bool (thereF m (coreL L) x && thereF m (coreL L) y)) ∧ Below W.heap.size W w') := Lib.hid (fun W b h1 h2 => by
    rw [← knowsB_two]
    exact knows_any a len cap m L b 2 2 [x, y] W h1 hm hs h2)
  simp only [World.size_alloc] at NB
  have z0 := BX.out.c0
  have z1 := BX.out.c1
  cases q : (thereF m (coreL L) x && thereF m (coreL L) y) with
  | false =>
    rw [q] at CK
    have HR : Hid (aheadZ m (coreL L) x y = false) := Lib.hid (by unfold aheadZ; rw [q]; rfl)
    clear q h hm hs hx hy
    go_enter Tryz.func24, Tryz.ntmps24
    go_wp2_with (first
                    | (go_at_call 46; ((with_reducible refine (CK.out _ _ BX.out.row NB.out).mono ?_); rintro e w1 ⟨rfl, hb⟩; have BX := Lib.hid (BX.out.keep hb); have z0 := BX.out.c0; have z1 := BX.out.c1; clear hb))
                    | (go_at_call 35; ((with_reducible refine (CU.out _ BX.out.row).mono ?_); rintro e w1 ⟨rfl, rfl⟩)))
    go_ret
    exact ⟨ret_bool HR.out.symm, BX.out.below⟩
  | true =>
    rw [q] at CK
    rw [Bool.and_eq_true] at q
    obtain ⟨hr, X, rfl, hX⟩ := there_nat q.1
    obtain ⟨-, Y, rfl, hY⟩ := there_nat q.2
    have HA := Lib.hid (ahead_find hr hX hY)
    have hRl := rootF_lt hr hX
    have CU : Hid (∀ W, NodeRow W a len cap L → Calls Tryz.prog 35 #[.slice a len cap, .int .i64 X] W fun e w' => e = .returned (.int .i64 (rootF (coreL L) X : Nat)) ∧ W = w') := Lib.hid (fun W h => rootUp_any a len cap m L X W h hr (by rw [← HCL.out]; exact hX))
    obtain ⟨R, hR⟩ : ∃ R, rootF (coreL L) X = R := ⟨_, rfl⟩
    rw [hR] at HA CU hRl
    have HRL : R < len := by rw [← HCL.out]; exact hRl
    have CO : Hid (∀ W, NodeRow W a len cap L → Calls Tryz.prog 34 #[.slice a len cap, .int .i64 R] W (OrdPost W (ordZ m (coreL L) R))) := Lib.hid (fun W h => by
      rw [ordZ_eq hr hRl]
      exact (wtree_any a len cap m L R W h hs hr HRL).mono fun _ _ h => h.post)
    clear q h hm hs hx hy hR hr
    go_enter Tryz.func24, Tryz.ntmps24
    go_wp2_with (first
                    | (go_at_call 46; ((with_reducible refine (CK.out _ _ BX.out.row NB.out).mono ?_); rintro e w1 ⟨rfl, hb⟩; have BX := Lib.hid (BX.out.keep hb); have z0 := BX.out.c0; have z1 := BX.out.c1; clear hb))
                    | (go_at_call 35; ((with_reducible refine (CU.out _ BX.out.row).mono ?_); rintro e w1 ⟨rfl, rfl⟩)))
    go_region_held3 (fun w' => w'.cell? ⟨w.heap.size, 0, none⟩ = some (.slice a len cap) ∧ w'.cell? ⟨w.heap.size, 1, none⟩ = some (.int .i64 m)) (go_keep)
      (first
        | (go_at_call 35; refine (CU.out _ (by first | exact BX.out.row | exact BX.out.row.drew)).mono ?_; rintro e w2 ⟨rfl, rfl⟩)
        | (go_at_call 34; refine (CO.out _ (by first | exact BX.out.row | exact BX.out.row.drew)).mono ?_; intro e w2 hp; obtain ⟨a2, n2, c2, rfl, hrow, hb⟩ := hp; have IR := Lib.hid hrow; have BX := Lib.hid (BX.out.keep ((Below.refl _ _).drew.trans hb)); have z0 := BX.out.c0; have z1 := BX.out.c1; clear hrow hb))
    go_wp2_with (go_at_call 47; refine (index_any _ _ _ _ _ _ IR.out).mono ?_; rintro e w3 ⟨rfl, rfl⟩)
    go_ret
    exact ⟨ret_bool HA.out.symm, BX.out.below⟩
end Go.Proofs.YtkgbgnmmgmnnlaaGreatDoor
namespace Go.Proofs.YtkgbgnmmgmnnlaaGreatDoor
open Go.RowKit Go.Deep Go.ChangeShapes Go.WideShapes
theorem in64_of {z : Int} (h : (Lit.int .i64 z).wf = true) : In64 z := by
  exact bounds_i64 h
theorem open_introw {H : Type} {enc : TypeId × Value → H} {W : World} {a : Option Addr} {len cap : Nat} {d : DataW H} {p : List MemPlace}
    (h : DataW.Trod enc Tryz.prog W 0 (fun _ => true) true 27 (.slice a len cap) d p) : ∃ L, IntRow W a len cap L := by
  obtain ⟨fuel, hf⟩ := h
  rcases open_slice Tryz.underlying27 hf with ⟨hcs, _⟩ | ⟨ad, l, c, m, n, D, Pl, hcs, _, hl, hm, hmm, _, hi⟩
  · simp [Value.cells] at hcs
    obtain ⟨rfl, rfl, rfl⟩ := hcs
    exact ⟨[], SRow.nil, by simp, fun _ => rfl⟩
  · simp [Value.cells] at hcs
    obtain ⟨rfl, rfl, rfl⟩ := hcs
    have hml : len ≤ m := by rw [hmm]; simpa using hl
    have ce : Tryz.prog.cellsOf 3 = 1 := by kernel_rfl
    have each : ∀ i, i < len → ∃ x : Int, W.cell? (ad.add i) = some (.int .i64 x) ∧ In64 x := by
      intro i hil
      obtain ⟨cs', h1, h2⟩ := hi i (by omega)
      rw [ce] at h1
      obtain ⟨_, hlen, hcell⟩ := World.cells?_some h1
      match cs', hlen with
      | [v0], _ =>
        have e0 := hcell 0 (by omega)
        rw [add_add] at e0
        obtain ⟨n0, hn0, _, hw0⟩ := DataW.trod_int Tryz.underlying3 h2
        simp at hn0
        subst hn0
        exact ⟨n0, by simpa using e0, in64_of hw0⟩
    obtain ⟨q, hq⟩ : ∃ q : Nat → Int, ∀ i, i < len → W.cell? (ad.add i) = some (.int .i64 (q i)) ∧ In64 (q i) := by
      refine ⟨fun i => if h : i < len then (each i h).choose else 0, fun i hil => ?_⟩
      simp only [dif_pos hil]
      exact (each i hil).choose_spec
    refine ⟨(List.range len).map q, ⟨by simp, hl, hm, fun x _ => rfl, ?_⟩, ?_, fun h => by cases h⟩
    · rcases Nat.eq_zero_or_pos len with h0 | h0
      · exact .inl h0
      · obtain ⟨b, off, spot⟩ := ad
        have hc := (hq 0 h0).1
        have hspot : spot = none := by simpa [Addr.add] using World.cell?_spot hc
        subst hspot
        refine .inr ⟨b, off, rfl, ?_, ?_⟩
        · have := block_lt hc
          rwa [add_plain] at this
        · intro i x j v hx hv
          obtain ⟨hil, hgx⟩ := List.getElem?_eq_some_iff.1 hx
          have hil' : i < len := by simpa using hil
          simp at hgx
          obtain ⟨h1, _⟩ := hq i hil'
          rw [add_plain] at h1
          rw [hgx] at h1
          obtain ⟨hjl, hgv⟩ := List.getElem?_eq_some_iff.1 hv
          match j, hjl with
          | 0, _ => simp [encZ] at hgv; subst hgv; simpa using h1
    · intro x hx
      obtain ⟨i, hi1, rfl⟩ := List.mem_map.1 hx
      exact (hq i (List.mem_range.1 hi1)).2
theorem slice_cells {H : Type} {enc : TypeId × Value → H} {W : World} {t e : TypeId} {fuel : Nat} {v : Value} {x : DataW H × List MemPlace} (ht : Tryz.prog.underlying t = some (.slice e))
    (h : DataW.trod enc Tryz.prog W 0 (fun _ => true) true fuel t [v] = some x) : ∃ a n c, v = .slice a n c := by
  rcases open_slice ht h with ⟨hcs, _⟩ | ⟨ad, l, c, m, n, D, Pl, hcs, _⟩
  · exact ⟨none, 0, 0, by simpa using hcs⟩
  · exact ⟨some ad, l, c, by simpa using hcs⟩
set_option maxRecDepth 100000 in
theorem open_nodecells {H : Type} {enc : TypeId × Value → H} {W : World} {cs : List Value} {d : DataW H} {p : List MemPlace} {fuel : Nat} (hc : cs.length = 10)
    (h : DataW.trod enc Tryz.prog W 0 (fun _ => true) true fuel 37 cs = some (d, p)) : ∃ x : NodeD, cs = encN x ∧ NodeOk W x := by
  obtain ⟨xs, k, _, _, _, hxl, hff⟩ := DataW.trod_struct Tryz.underlying37 h
  have c3 : Tryz.prog.cellsOf 3 = 1 := by kernel_rfl
  have c9 : Tryz.prog.cellsOf 9 = 1 := by kernel_rfl
  have ca : Tryz.prog.cellsOf 35 = 1 := by kernel_rfl
  have ci : Tryz.prog.cellsOf 27 = 1 := by kernel_rfl
  match cs, hc with
  | [v0, v1, v2, v3, v4, v5, v6, v7, v8, v9], _ =>
    match xs, hxl with
    | [y0, y1, y2, y3, y4, y5, y6, y7, y8, y9], _ =>
      have g0 := hff 0 _ rfl
      have g1 := hff 1 _ rfl
      have g2 := hff 2 _ rfl
      have g3 := hff 3 _ rfl
      have g4 := hff 4 _ rfl
      have g5 := hff 5 _ rfl
      have g6 := hff 6 _ rfl
      have g7 := hff 7 _ rfl
      have g8 := hff 8 _ rfl
      have g9 := hff 9 _ rfl
      simp [c3, c9, ca, ci] at g0 g1 g2 g3 g4 g5 g6 g7 g8 g9
      obtain ⟨n0, hn0, _, hw0⟩ := DataW.trod_int Tryz.underlying3 g0
      obtain ⟨s1, hs1, _, hl1⟩ := DataW.trod_string Tryz.underlying9 g1
      obtain ⟨s2, hs2, _, hl2⟩ := DataW.trod_string Tryz.underlying9 g2
      obtain ⟨s3, hs3, _, hl3⟩ := DataW.trod_string Tryz.underlying9 g3
      obtain ⟨n5, hn5, _, hw5⟩ := DataW.trod_int Tryz.underlying3 g5
      obtain ⟨n7, hn7, _, hw7⟩ := DataW.trod_int Tryz.underlying3 g7
      obtain ⟨n8, hn8, _, hw8⟩ := DataW.trod_int Tryz.underlying3 g8
      obtain ⟨n9, hn9, _, hw9⟩ := DataW.trod_int Tryz.underlying3 g9
      simp at hn0 hs1 hs2 hs3 hn5 hn7 hn8 hn9
      subst hn0 hs1 hs2 hs3 hn5 hn7 hn8 hn9
      obtain ⟨a4, l4, c4, rfl⟩ := slice_cells Tryz.underlying35 g4
      obtain ⟨a6, l6, c6, rfl⟩ := slice_cells Tryz.underlying27 g6
      obtain ⟨A, hA⟩ := open_attrs (enc := enc) (W := W) (a := a4) (len := l4) (cap := c4) (d := y4.1) (p := y4.2) ⟨k, by simpa [Value.cells] using g4⟩
      obtain ⟨K, hK⟩ := open_introw (enc := enc) (W := W) (a := a6) (len := l6) (cap := c6) (d := y6.1) (p := y6.2) ⟨k, by simpa [Value.cells] using g6⟩
      exact ⟨⟨⟨n0, s1, s2, s3, A, n5, K, n7, n8, n9⟩, a4, l4, c4, a6, l6, c6⟩, rfl, hA, hK, hl1, hl2, hl3, in64_of hw0, in64_of hw5, in64_of hw7, in64_of hw8, in64_of hw9⟩
theorem open_noderow {H : Type} {enc : TypeId × Value → H} {W : World} {a : Option Addr} {len cap : Nat} {d : DataW H} {p : List MemPlace}
    (h : DataW.Trod enc Tryz.prog W 0 (fun _ => true) true 22 (.slice a len cap) d p) : ∃ L, NodeRow W a len cap L := by
  obtain ⟨fuel, hf⟩ := h
  rcases open_slice Tryz.underlying22 hf with ⟨hcs, _⟩ | ⟨ad, l, c, m, n, D, Pl, hcs, _, hl, hm, hmm, _, hi⟩
  · simp [Value.cells] at hcs
    obtain ⟨rfl, rfl, rfl⟩ := hcs
    exact ⟨[], SRow.nil, by simp, fun _ => rfl⟩
  · simp [Value.cells] at hcs
    obtain ⟨rfl, rfl, rfl⟩ := hcs
    have hml : len ≤ m := by rw [hmm]; simpa using hl
    have ce : Tryz.prog.cellsOf 37 = 10 := by kernel_rfl
    have each : ∀ i, i < len → ∃ x : NodeD, NodeOk W x ∧ ∀ j v, (encN x)[j]? = some v → W.cell? (ad.add (i * 10 + j)) = some v := by
      intro i hil
      obtain ⟨cs', h1, h2⟩ := hi i (by omega)
      rw [ce] at h1
      obtain ⟨_, hlen, hcell⟩ := World.cells?_some h1
      obtain ⟨x, hx, hok⟩ := open_nodecells hlen h2
      refine ⟨x, hok, fun j v hv => ?_⟩
      have hj : j < 10 := (List.getElem?_eq_some_iff.1 hv).1
      have e0 := hcell j hj
      rw [add_add, hx, hv] at e0
      exact e0
    obtain ⟨q, hq⟩ : ∃ q : Nat → NodeD, ∀ i, i < len → NodeOk W (q i) ∧ ∀ j v, (encN (q i))[j]? = some v → W.cell? (ad.add (i * 10 + j)) = some v := by
      rcases Nat.eq_zero_or_pos len with h0 | h0
      · exact ⟨fun _ => ⟨⟨0, ByteArray.empty, ByteArray.empty, ByteArray.empty, [], 0, [], 0, 0, 0⟩, none, 0, 0, none, 0, 0⟩, fun i hi => by omega⟩
      · refine ⟨fun i => if h : i < len then (each i h).choose else (each 0 h0).choose, fun i hil => ?_⟩
        simp only [dif_pos hil]
        exact (each i hil).choose_spec
    refine ⟨(List.range len).map q, ⟨by simp, hl, hm, fun x _ => rfl, ?_⟩, ?_, fun h => by cases h⟩
    · rcases Nat.eq_zero_or_pos len with h0 | h0
      · exact .inl h0
      · obtain ⟨b, off, spot⟩ := ad
        have hc := (hq 0 h0).2 0 _ rfl
        have hspot : spot = none := by simpa [Addr.add] using World.cell?_spot hc
        subst hspot
        refine .inr ⟨b, off, rfl, ?_, ?_⟩
        · have := block_lt hc
          rwa [add_plain] at this
        · intro i x j v hx hv
          obtain ⟨hil, hgx⟩ := List.getElem?_eq_some_iff.1 hx
          have hil' : i < len := by simpa using hil
          simp at hgx
          have h1 := (hq i hil').2 j v (by rw [hgx]; exact hv)
          rw [add_plain] at h1
          simpa [Nat.add_assoc] using h1
    · intro x hx
      obtain ⟨i, hi1, rfl⟩ := List.mem_map.1 hx
      exact (hq i (List.mem_range.1 hi1)).1
set_option maxRecDepth 100000 in
theorem open_forest {H : Type} {enc : TypeId × Value → H} {W : World} {r : Reach} {b0 : Nat} {v : Value} {d : DataW H} {p : List MemPlace} (hv : Value.okWide Tryz.prog W r b0 24 v)
    (h : DataW.Trod enc Tryz.prog W 0 (fun _ => true) true 24 v d p) : ∃ a len cap m L, v = .agg #[.slice a len cap, .int .i64 m] ∧ NodeRow W a len cap L ∧ In64 m := by
  obtain ⟨cs, rfl, hsz⟩ := okWide_struct Tryz.underlying24 hv
  have hC : Tryz.prog.cellsOf 24 = 2 := by kernel_rfl
  have c3 : Tryz.prog.cellsOf 3 = 1 := by kernel_rfl
  have cn : Tryz.prog.cellsOf 22 = 1 := by kernel_rfl
  obtain ⟨l⟩ := cs
  match l, hsz.trans hC with
  | [v0, v1], _ =>
    obtain ⟨fuel, hf⟩ := h
    obtain ⟨xs, k, _, _, _, hxl, hff⟩ := DataW.trod_struct Tryz.underlying24 hf
    match xs, hxl with
    | [y0, y1], _ =>
      have g0 := hff 0 _ rfl
      have g1 := hff 1 _ rfl
      simp [c3, cn, Value.cells] at g0 g1
      obtain ⟨n1, hn1, _, hw1⟩ := DataW.trod_int Tryz.underlying3 g1
      simp at hn1
      subst hn1
      obtain ⟨a4, l4, c4, rfl⟩ := slice_cells Tryz.underlying22 g0
      obtain ⟨L, hL⟩ := open_noderow (enc := enc) (W := W) (a := a4) (len := l4) (cap := c4) (d := y0.1) (p := y0.2) ⟨k, by simpa [Value.cells] using g0⟩
      exact ⟨a4, l4, c4, n1, L, rfl, hL, in64_of hw1⟩
end Go.Proofs.YtkgbgnmmgmnnlaaGreatDoor
