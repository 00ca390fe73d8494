/- Texts joined in build order: NodeRowW WalkOrder ForestOrderFn ShadeAllFn ForestAheadFn Ref3Bare Ref3New StepRows Ref3Two DueRow DeskFns. -/
import Derived.Test.YtkfmengdffpcnaaGreatDoorA15
import Derived.Test.YtkfmengdffpcnaaGreatDoorA12
import Derived.Test.YtkfmengdffpcnaaGreatDoorA13
import Derived.Test.YtkfmengdffpcnaaGreatDoorA01
namespace Go.Proofs.YtkfmengdffpcnaaGreatDoor
open Go.RowKit
structure WRow (W : World) (g len cap : Nat) (M : List NodeD) : Prop where
  row : NodeRow W (some ⟨g, 0, none⟩) len cap M
  lt : g < W.heap.size
  free : ∀ o, W.frozen? ⟨g, o, none⟩ = false
  away : ∀ x ∈ M, NodeAway g x
theorem WRow.keep {W W2 : World} {g len cap : Nat} {M : List NodeD} (h : WRow W g len cap M) (hb : Below W.heap.size W W2) : WRow W2 g len cap M :=
  ⟨h.row.below hb, Nat.lt_of_lt_of_le h.lt hb.size, fun o => (hb.frozen (p := ⟨g, o, none⟩) h.lt).trans (h.free o), h.away⟩
theorem WRow.at_ {W : World} {g len cap : Nat} {M : List NodeD} (h : WRow W g len cap M) {k : Nat} {x : NodeD} (hk : M[k]? = some x) : NodeAt W g (k * 10) x ∧ NodeOk W x := by
  have hl : k < len := by have := (List.getElem?_eq_some_iff.1 hk).1; rwa [h.row.hlen] at this
  obtain ⟨b, off, y, hab, _, hy, hat, hok⟩ := h.row.get hl
  injection hab with hab
  injection hab with e1 e2
  subst e1 e2
  obtain rfl : x = y := Option.some.inj (hk.symm.trans hy)
  rw [Nat.zero_add] at hat
  exact ⟨hat, hok⟩
theorem WRow.of_own {W : World} {base n : Nat} {v : Value} {M : List NodeD} (hown : W.ownsRow base 36 10 v n (M.flatMap encN)) (hl : M.length = n) (hn : 0 < n) (hok : ∀ x ∈ M, NodeOk W x) (haw : ∀ g, v.ownBlock = some g → ∀ x ∈ M, NodeAway g x) :
    ∃ g cap, v = .slice (some ⟨g, 0, none⟩) n cap ∧ base ≤ g ∧ WRow W g n cap M := by
  obtain ⟨a, cap', he, hr, _⟩ := SRow.of_own (fun x _ => encN_len x) hl hown
  rcases hown.2 with ⟨_, h0⟩ | ⟨g, cap, cur, hv, hb, hg, _⟩
  · omega
  · rw [hv] at he
    injection he with h1 h2 h3
    subst h1; subst h3
    refine ⟨g, cap, hv, hb, ⟨hr, hok, fun h => by cases h⟩, (Array.getElem?_eq_some_iff.1 hg).1, fun o => row_free hg o, haw g (by rw [hv]; rfl)⟩
theorem WRow.set {W : World} {g len cap : Nat} {M : List NodeD} (h : WRow W g len cap M) {k j : Nat} {x y : NodeD} {u : Value} (hk : M[k]? = some x) (hj : j < 10) (he : encN y = (encN x).set j u) (hy : NodeOk W y) (hw : NodeAway g y) :
    WRow (W.setCell ⟨g, k * 10 + j, none⟩ u) g len cap (M.set k y) := by
  obtain ⟨hkl, _⟩ := List.getElem?_eq_some_iff.1 hk
  have hlen : k < len := by rw [h.row.hlen] at hkl; exact hkl
  have aw : ∀ z ∈ M.set k y, NodeAway g z := fun z hz => by
    rcases List.mem_or_eq_of_mem_set hz with hz | rfl
    · exact h.away z hz
    · exact hw
  have ok : ∀ z ∈ M.set k y, NodeOk W z := fun z hz => by
    rcases List.mem_or_eq_of_mem_set hz with hz | rfl
    · exact h.row.ok z hz
    · exact hy
  refine ⟨⟨⟨by rw [List.length_set]; exact h.row.hlen, h.row.row.hcap, h.row.row.hmax, fun z _ => encN_len z, .inr ⟨g, 0, rfl, by simpa [World.setCell] using h.lt, fun i z j' v hz hv => ?_⟩⟩, fun z hz => (ok z hz).setCell (aw z hz) u, fun e => by cases e⟩, by simpa [World.setCell] using h.lt, fun o => by rw [World.frozen?_setCell]; exact h.free o, aw⟩
  have hj' : j' < 10 := by
    have := (List.getElem?_eq_some_iff.1 hv).1
    rwa [encN_len] at this
  by_cases e : i = k
  · subst e
    rw [List.getElem?_set_self hkl] at hz
    obtain rfl : y = z := Option.some.inj hz
    rw [he] at hv
    by_cases ej : j = j'
    · subst ej
      rw [List.getElem?_set_self (by rw [encN_len]; exact hj)] at hv
      rw [← Option.some.inj hv, Nat.zero_add]
      have hc : ∃ v0, (encN x)[j]? = some v0 := ⟨_, List.getElem?_eq_getElem (by rw [encN_len]; exact hj)⟩
      obtain ⟨v0, hv0⟩ := hc
      rcases h.row.row.cells with h0 | ⟨b, off, ha, _, hcell⟩
      · omega
      · injection ha with ha
        injection ha with e1 e2
        subst e1 e2
        have := hcell i x j v0 hk hv0
        rw [Nat.zero_add] at this
        exact World.cell?_setCell_same _ _ _ this
    · rw [List.getElem?_set_ne ej] at hv
      rw [World.cell?_setCell_other _ _ _ _ (fun e' => by injection e' with _ e'; omega)]
      rcases h.row.row.cells with h0 | ⟨b, off, ha, _, hcell⟩
      · omega
      · injection ha with ha
        injection ha with e1 e2
        subst e1 e2
        exact hcell i x j' v hk hv
  · rw [List.getElem?_set_ne (fun e2 => e e2.symm)] at hz
    rw [World.cell?_setCell_other _ _ _ _ (fun e' => by injection e' with _ e'; have : k * 10 + j = 0 + i * 10 + j' := e'; omega)]
    rcases h.row.row.cells with h0 | ⟨b, off, ha, _, hcell⟩
    · omega
    · injection ha with ha
      injection ha with e1 e2
      subst e1 e2
      exact hcell i z j' v hz hv
theorem WRow.other {W : World} {g len cap : Nat} {M : List NodeD} (h : WRow W g len cap M) {b : Nat} (hb : b ≠ g) (ha : ∀ x ∈ M, NodeAway b x) (o : Nat) (u : Value) : WRow (W.setCell ⟨b, o, none⟩ u) g len cap M :=
  ⟨⟨h.row.row.keep (by simp [World.setCell]) (fun b' off he _ o' => World.cell?_setCell_other _ _ _ _ (fun e => by injection he with he; injection he with e1 _; injection e with e2 _; exact hb (e2.trans e1.symm))), fun x hx => (h.row.ok x hx).setCell (ha x hx) u, h.row.hnil⟩, by simpa [World.setCell] using h.lt, fun o' => by rw [World.frozen?_setCell]; exact h.free o', h.away⟩
def withK (x : NodeD) (a : Option Addr) (n c : Nat) (l : List Int) : NodeD := ⟨⟨x.core.kind, x.core.name, x.core.is, x.core.data, x.core.attrs, x.core.parent, l, x.core.host, x.core.under, x.core.doc⟩, x.aA, x.aN, x.aC, a, n, c⟩
def withP (x : NodeD) (p : Int) : NodeD := ⟨⟨x.core.kind, x.core.name, x.core.is, x.core.data, x.core.attrs, p, x.core.kids, x.core.host, x.core.under, x.core.doc⟩, x.aA, x.aN, x.aC, x.kA, x.kN, x.kC⟩
def withD (x : NodeD) (d : Int) : NodeD := ⟨⟨x.core.kind, x.core.name, x.core.is, x.core.data, x.core.attrs, x.core.parent, x.core.kids, x.core.host, x.core.under, d⟩, x.aA, x.aN, x.aC, x.kA, x.kN, x.kC⟩
theorem WRow.setK {W : World} {g len cap : Nat} {M : List NodeD} (h : WRow W g len cap M) {k : Nat} {x : NodeD} (hk : M[k]? = some x) {a : Option Addr} {n c : Nat} {l : List Int} (hl : IntRow W a n c l) (hw : ∀ b off, a = some ⟨b, off, none⟩ → 0 < n → b ≠ g) : WRow (W.setCell ⟨g, k * 10 + 6, none⟩ (.slice a n c)) g len cap (M.set k (withK x a n c l)) := by
  obtain ⟨_, hok⟩ := h.at_ hk
  have ha := h.away x (List.mem_of_getElem? hk)
  exact h.set hk (by omega) rfl ⟨hok.attrs, hl, hok.name, hok.is, hok.data, hok.kind, hok.parent, hok.host, hok.under, hok.doc⟩ ⟨ha.1, hw⟩
theorem WRow.setP {W : World} {g len cap : Nat} {M : List NodeD} (h : WRow W g len cap M) {k : Nat} {x : NodeD} (hk : M[k]? = some x) {p : Int} (hp : In64 p) : WRow (W.setCell ⟨g, k * 10 + 5, none⟩ (.int .i64 p)) g len cap (M.set k (withP x p)) := by
  obtain ⟨_, hok⟩ := h.at_ hk
  have ha := h.away x (List.mem_of_getElem? hk)
  exact h.set hk (by omega) rfl ⟨hok.attrs, hok.kids, hok.name, hok.is, hok.data, hok.kind, hp, hok.host, hok.under, hok.doc⟩ ha
theorem WRow.setD {W : World} {g len cap : Nat} {M : List NodeD} (h : WRow W g len cap M) {k : Nat} {x : NodeD} (hk : M[k]? = some x) {d : Int} (hd : In64 d) : WRow (W.setCell ⟨g, k * 10 + 9, none⟩ (.int .i64 d)) g len cap (M.set k (withD x d)) := by
  obtain ⟨_, hok⟩ := h.at_ hk
  have ha := h.away x (List.mem_of_getElem? hk)
  exact h.set hk (by omega) rfl ⟨hok.attrs, hok.kids, hok.name, hok.is, hok.data, hok.kind, hok.parent, hok.host, hok.under, hd⟩ ha
end Go.Proofs.YtkfmengdffpcnaaGreatDoor
namespace Go.Proofs.YtkfmengdffpcnaaGreatDoor
open Go.RowKit Go.Shelf
attribute [local go_sem] Oper.semAt_some
set_option maxHeartbeats 8000000 in
set_option maxRecDepth 100000 in
theorem worder_any (a : Option Addr) (len cap : Nat) (m : Int) (L : List NodeD) (n : Nat) (sh : Bool) (w : World) (h : NodeRow w a len cap L) (hs : smallF L) (hr : rightF m (coreL L) = true) (hkl : n < len) :
    Calls Tryz.prog 90 #[.slice a len cap, .int .i64 n, .bool sh] w (OwnPostI w (ordB sh (coreL L) n)) := by
  have hk : n < (coreL L).length := by rw [coreL_len, h.hlen]; exact hkl
  have hn : In64 (n : Int) := ⟨by omega, by have := h.len64; omega⟩
  have NR := Lib.hid h
  have HRT := Lib.hid hr
  have HL := Lib.hid h.hlen
  have HS := Lib.hid hs
  obtain ⟨b, off, x0, rfl, hb1, -, -, -⟩ := h.get (k := n) hkl
  clear h hs hn hr
  refine callsIn_wide (n := 8) |>.1 ?_
  refine callsIn_of_wp_marks Tryz.func90 rfl trivial ?_ rfl
  simp only [Tryz.ntmps90, List.size_toArray, List.length_cons, List.length_nil, Nat.reduceAdd, Nat.reduceSub, Array.replicate_succ, Array.replicate_zero, List.push_toArray, List.append_toArray, List.nil_append, List.cons_append]
  gi_wp2
  obtain ⟨i0, hi0, hz0, hz1, hz2⟩ := info_parts int_info
  have HN : Hid ((ordB sh (coreL L) n).length ≤ 1000) := Lib.hid (Nat.le_trans (ordB_len HRT.out hk) (by rw [coreL_len]; exact HS.out.1))
  have GO0 := Lib.hid (GoingB.start (sh := sh) hk)
  have HA0 : Hid (Hand w ((w.alloc (.cells #[.int .i64 n] 3)).alloc (.cells #[.slice (some ⟨w.heap.size, 0, none⟩) 1 1] 34)) w.heap.size (w.heap.size + 1) w.heap.size 1 (.slice none 0 0) [] [(n : Int)]) := Lib.hid (by
    have h1 : (w.alloc (.cells #[.int .i64 n] 3)).heap.size = w.heap.size + 1 := by simp
    have h2 := World.ownsRow_lit (base := w.heap.size) (e := 3) (size := 1) w #[.int .i64 n] 1 (Nat.le_refl _) (by unfold maxLen; omega) (by simp)
    refine ⟨(below_box w _).alloc (by simp) _, ?_, by omega, h2.alloc _, World.ownsRow_nil _ _ _ _, by simp [Value.ownBlock]⟩
    have := Boxed.new (w.alloc (.cells #[.int .i64 n] 3)) 34 (.slice (some ⟨w.heap.size, 0, none⟩) 1 1)
    rwa [h1] at this)
  have HKN0 := Lib.hid hk
  clear hk
  refine wpIn_loop (fun a' W => ∃ (ds : List Nat) (out P : List Int) (vo : Value) (Bp g cp : Nat) (u9 u10 u11 u12 u13 u16 u17 u18 u19 u20 u21 u22 u23 u24 u25 u26 u27 u28 u29 u30 u31 u32 u33 u34 u35 u36 u37 u38 u39 u40 u41 u42 u43 u44 u45 u46 u47 u48 u49 u50 u51 u52 u53 u54 u55 u56 u57 u58 u59 u60 : Value), Hid (Hand w W w.heap.size Bp g cp vo out P) ∧ Hid (GoingB sh (coreL L) n out P) ∧ Hid (Marks w.heap.size ds W) ∧ a' = { tmps := #[.slice (some ⟨b, off, none⟩) len cap, .int .i64 n, .bool sh, undef, undef, undef, .slice none 0 0, vo, .pointer (some ⟨Bp, 0, none⟩), u9, u10, u11, u12, u13, .int .i64 n, .slice (some ⟨w.heap.size, 0, none⟩) 1 1, u16, u17, u18, u19, u20, u21, u22, u23, u24, u25, u26, u27, u28, u29, u30, u31, u32, u33, u34, u35, u36, u37, u38, u39, u40, u41, u42, u43, u44, u45, u46, u47, u48, u49, u50, u51, u52, u53, u54, u55, u56, u57, u58, u59, u60], defers := ds.map markD })
    (fun a' _ => (ordB sh (coreL L) n).length - sliceN (a'.tmps.getD 7 undef)) ?_ ?_
  · exact ⟨[], [], [(n : Int)], _, _, _, _, _, _, _, _, _, _, _, _, _, _, _, _, _, _, _, _, _, _, _, _, _, _, _, _, _, _, _, _, _, _, _, _, _, _, _, _, _, _, _, _, _, _, _, _, _, _, _, _, _, _, HA0, GO0, Lib.hid ⟨List.nodup_nil, fun D hD => by cases hD⟩, rfl⟩
  · clear GO0 HA0
    rintro a' W ⟨ds, out, P, vo, Bp, g, cp, u9, u10, u11, u12, u13, u16, u17, u18, u19, u20, u21, u22, u23, u24, u25, u26, u27, u28, u29, u30, u31, u32, u33, u34, u35, u36, u37, u38, u39, u40, u41, u42, u43, u44, u45, u46, u47, u48, u49, u50, u51, u52, u53, u54, u55, u56, u57, u58, u59, u60, HA, GO, MK, rfl⟩
    rcases List.eq_nil_or_concat P with rfl | ⟨Q, z, hP⟩
    · have pc : W.cell? ⟨Bp, 0, none⟩ = some (.slice (some ⟨g, 0, none⟩) 0 cp) := HA.out.pile.cell
      gi_wp2
      refine leaves_marks w.heap.size (fun W => W.ownsRow w.heap.size 3 1 vo out.length (out.map encI) ∧ Below w.heap.size w W) ?_ ?_ ds W MK.out ⟨HA.out.orow, HA.out.below⟩
      · rintro W5 D ⟨h1, h2⟩ hD hK
        have hlt := (Array.getElem?_eq_some_iff.1 hK).1
        refine ⟨h1.kept (grownBy_putObj' W5 D _) ?_, (h2.grown (grownBy_putObj' W5 D _) (by omega) (fun k e => by injection e with e; omega))⟩
        cases hv : vo.ownBlock with
        | none => exact .inl rfl
        | some k =>
          refine .inr (fun e => ?_)
          injection e with e
          obtain ⟨c, t, f, hc⟩ := own_cells h1 k hv
          rw [e, hK] at hc
          cases hc
      · rintro W5 ⟨h1, h2⟩
        rw [map_encI] at h1
        have hout : out = ordB sh (coreL L) n := by
          have := GO.out.eq
          simpa using this
        rw [hout] at h1
        exact ⟨vo, by simp [results, Tryz.results90], vo, rfl, h1, h2⟩
    · rw [List.concat_eq_append] at hP
      subst hP
      have pc : W.cell? ⟨Bp, 0, none⟩ = some (.slice (some ⟨g, 0, none⟩) (Q.length + 1) cp) := by simpa using HA.out.pile.cell
      have pf := HA.out.pile.frozen
      have zc : W.cell? ⟨g, Q.length, none⟩ = some (.int .i64 z) := by
        have := HA.out.prow.cells (g := g) rfl Q.length (.int .i64 z) (by simp)
        rwa [Go.WideShapes.add_plain, Nat.zero_add] at this
      obtain ⟨hz0, hz1'⟩ := GO.out.inF z (by simp)
      obtain ⟨zi, rfl⟩ : ∃ zi : Nat, z = zi := ⟨z.toNat, by omega⟩
      have hzl : zi < len := by rw [coreL_len, HL.out] at hz1'; omega
      have hcp : (Q.length : Int) ≤ (cp : Int) := by
        rcases HA.out.prow.2 with ⟨hv, _⟩ | ⟨_, _, _, hv, _, _, h1, _⟩
        · cases hv
        · injection hv with _ _ h3
          subst h3
          simp at h1
          omega
      have HA1 := Lib.hid HA.out.pop
      have hsz := HA.out.size
      have hlen := GO.out.len
      have hln := HN.out
      have hq64 : Q.length ≤ 1000 := by simp at hlen; omega
      have ho64 : out.length ≤ 1000 := by omega
      clear hz0 hz1' hlen hln
      gi_wp2_with (first
        | (gi_at_builtin
           refine wpListIn_append_keep _ rfl _ _ 34 rfl w.heap.size 3 i0 _ 1 8 Tryz.underlying34 hi0 hz0 hz1 hz2 rfl (by decide) vo out.length (out.map encI) rfl (HA1.out.orow.alloc _) ⟨W.heap.size, 0, none⟩ 1 1 [encI (zi : Int)] rfl rfl (by simpa using cell_one_new (W.setCell ⟨Bp, 0, none⟩ (.slice (some ⟨g, 0, none⟩) Q.length cp)) (encI (zi : Int)) 3) (by simp [Value.oneCell']) (by decide) (by unfold maxLen; omega) (by omega) (by simp; omega) ?_
           intro g2 cap2 w2 hown2 hold2 hg2 hat2 hlt2
           have HA2 := Lib.hid (HA1.out.more hown2 hg2 hat2)
           have BX2 := Lib.hid (NR.out.below HA2.out.below)
           obtain ⟨b', off', y, hab, hb2, hx, hat, hok⟩ := BX2.out.get hzl
           injection hab with hab
           injection hab with e1 e2
           subst e1 e2
           have c6 := hat.c6
           have HX := Lib.hid hx
           have HKR := Lib.hid (hok.kids)
           have HKN : Hid (y.kN ≤ 1000) := Lib.hid (by rw [← hok.kids.hlen]; exact (HS.out.2 y (List.mem_of_getElem? hx)).1)
           have HLOW : Hid (∀ b' off', y.kA = some ⟨b', off', none⟩ → 0 < y.kN → b' < w.heap.size) := Lib.hid (fun b' off' ha hp => by
             obtain ⟨_, _, y2, e1, _, hy, _, hoky⟩ := NR.out.get hzl
             obtain rfl : y = y2 := Option.some.inj (hx.symm.trans hy)
             rcases hoky.kids.row.cells with h0 | ⟨b2, o2, ha2, hlt, _⟩
             · omega
             · rw [ha] at ha2
               injection ha2 with ha2
               injection ha2 with e3
               omega)
           have MK2 := Lib.hid (((MK.out.kept (grownBy_setCell' W Bp _) (fun r e => .inl (by cases e; exact ⟨_, _, _, HA.out.pile⟩))).kept (World.grownBy_alloc _ (.cells #[.int .i64 (zi : Int)] 3) none) (fun r e => by cases e)).kept hg2 (fun r e => .inl (own_cells (HA1.out.orow.alloc _) r e)))
           clear hat hx hok hold2 hown2 hg2 hat2)
        | (refine ⟨trivial, ?_⟩; gi_at_call 116; refine (callsIn_wide.2 (backward_any _ _ _ _)).mono ?_; rintro e w3 ⟨rfl, rfl⟩))
      have hbs := Boxed.new w2 34 (.slice y.kA y.kN y.kC)
      have hsz2 := HA2.out.size
      refine wpIn_rangeFunc_ownG (F := Fence.wide) (n := 8) rfl (by decide) (gf := 133) (lb := #[.pointer (some ⟨w2.heap.size, 0, none⟩)]) rfl trivial (enters_of Tryz.func133 (by kernel_rfl) rfl)
        (back_stops Fence.wide 7 trivial rfl (by decide) w2.heap.size w.heap.size y.kA y.kN y.kC y.core.kids (w2.alloc (.cells #[.slice y.kA y.kN y.kC] 34)) (by simp) hbs.cell (HKR.out.below (below_box _ _)) HLOW.out)
        (fun h k => ⟨k.1.trans h.1, h.2.trans k.2⟩) (fun W l o o' hl h hc hw => ⟨World.putObj_heap_other (by simp at hl; omega), belowK_b (w := w2.alloc (.cells #[.slice y.kA y.kN y.kC] 34)) (by simp; omega) W l o o' hl h hc hw⟩) (Below.refl _ _) (fun _ => rfl)
        (fun pre W' => ∃ g cp, Hand w W' w.heap.size Bp g cp (.slice (some ⟨g2, 0, none⟩) (out.length + 1) cap2) (out ++ [(zi : Int)]) (Q ++ pre.map Prod.snd) ∧ Boxed W' w2.heap.size 34 (.slice y.kA y.kN y.kC) ∧ Marks w.heap.size ds W')
        (fun _ _ _ => False)
        (fun pre X Y row h hg hr => by
          obtain ⟨g, cp, hh, hb, hm⟩ := h
          refine ⟨g, cp, hh.other hg (fun r e => ⟨by have := (hr r e).1; simp at this; omega, (hr r e).2⟩), hb.kept hg (fun e => ?_), hm.kept hg (fun r e => .inr (fun hd => ?_))⟩
          · have := (hr _ e.symm).1
            simp at this
            omega
          · have h1 := (hr r e).1
            have h2 := (Array.getElem?_eq_some_iff.1 (MK2.out.at_ r hd).2).1
            simp at h1
            omega)
        (fun _ _ _ _ _ hs _ _ => hs)
        ⟨g, cp, by simpa using HA2.out.alloc _, hbs, MK2.out.kept (World.grownBy_alloc _ _ none) (fun r e => by cases e)⟩
        (fun x => { tmps := #[.slice (some ⟨b, off, none⟩) len cap, .int .i64 n, .bool sh, undef, undef, undef, .slice none 0 0, .slice (some ⟨g2, 0, none⟩) (out.length + 1) cap2, .pointer (some ⟨Bp, 0, none⟩), .int .i64 (Q.length : Int), .int .i64 (zi : Int), u11, .int .i64 x.2, u13, .int .i64 n, .slice (some ⟨w.heap.size, 0, none⟩) 1 1, .slice (some ⟨g, 0, none⟩) (Q.length + 1) cp, .int .i64 ((Q.length : Int) + 1), .bool true, .slice (some ⟨g, 0, none⟩) (Q.length + 1) cp, .int .i64 ((Q.length : Int) + 1), .int .i64 (Q.length : Int), .slice (some ⟨g, 0, none⟩) (Q.length + 1) cp, .int .i64 (Q.length : Int), .pointer (some ⟨g, Q.length, none⟩), .int .i64 (zi : Int), .slice (some ⟨g, 0, none⟩) (Q.length + 1) cp, .int .i64 (Q.length : Int), .slice (some ⟨g, 0, none⟩) Q.length cp, vo, .int .i64 (zi : Int), .slice (some ⟨W.heap.size, 0, none⟩) 1 1, .slice (some ⟨g2, 0, none⟩) (out.length + 1) cap2, .slice (some ⟨b, off, none⟩) len cap, .int .i64 (zi : Int), .pointer (some ⟨b, off + zi * 10, none⟩), .pointer (some ⟨b, off + zi * 10 + 6, none⟩), .slice y.kA y.kN y.kC, .func (.func 133) #[] #[.pointer (some ⟨w2.heap.size, 0, none⟩)], .int .i64 x.1, .int .i64 x.2, u41, u42, u43, u44, u45, u46, u47, u48, u49, u50, u51, u52, u53, u54, u55, u56, u57, u58, u59, u60], defers := [] }) ?assign ?body ?done ?stop
      case assign =>
        intro l x W K hK
        gi_wp2
        exact hK
      case body =>
        rintro l pre x W5 ⟨g5, cp5, HH, hbx, hm⟩ hlt
        have pc5 := HH.pile.cell
        have hsz5 := HH.size
        have hkn := HKN.out
        have hpl : (Q ++ pre.map Prod.snd).length ≤ 2000 := by simp; omega
        obtain ⟨k5, hk5⟩ : ∃ k5, (Q ++ pre.map Prod.snd).length = k5 := ⟨_, rfl⟩
        have HK5 := Lib.hid hk5
        have HP := Lib.hid HH
        rw [hk5] at pc5 hpl
        have hrow := HH.prow
        rw [hk5] at hrow
        have HROW := Lib.hid hrow
        clear hrow hk5 HH
        gi_wp2_with (gi_at_builtin
                     refine wpListIn_append_keep _ rfl _ _ 34 rfl w.heap.size 3 i0 _ 1 8 Tryz.underlying34 hi0 hz0 hz1 hz2 rfl (by decide) (.slice (some ⟨g5, 0, none⟩) k5 cp5) k5 ((Q ++ pre.map Prod.snd).map encI) rfl (HROW.out.alloc _) ⟨W5.heap.size, 0, none⟩ 1 1 [encI x.2] rfl rfl (cell_one_new W5 (encI x.2) 3) (by simp [Value.oneCell']) (by decide) (by unfold maxLen; omega) (by omega) (by simp; omega) ?_
                     intro g6 cap6 w6 hown6 hold6 hg6 hat6 hlt6
                     obtain ⟨hb6, hh6⟩ := HP.out.push (by rw [HK5.out]; exact hown6) (by rw [HK5.out]; exact hg6) (by rw [HK5.out]; exact hat6)
                     obtain ⟨-, -, -, hk6, hbl6⟩ := HP.out.pile.appended (by decide) HP.out.prow HP.out.size HP.out.low (by rw [← HK5.out] at hown6; exact hown6) (by rw [HK5.out]; exact hg6)
                     have c6 := hb6.cell
                     have f6 := hb6.frozen
                     rw [HK5.out] at c6 hh6 hk6 hbl6)
        have hne6 : w2.heap.size ≠ Bp := Nat.ne_of_gt HA2.out.pile.lt
        have hbx6 := (hbx.alloc (.cells #[encI x.2] 3)).kept hg6 ((hbx.alloc (.cells #[encI x.2] 3)).not_row (by decide) (HROW.out.alloc _))
        have hbx7 := hbx6.kept (grownBy_setCell' w6 Bp (.slice (some ⟨g6, 0, none⟩) (k5 + 1) cap6)) (fun e => hne6 (by injection e))
        have hm6 := ((hm.kept (World.grownBy_alloc _ (.cells #[encI x.2] 3) none) (fun r e => by cases e)).kept hg6 (fun r e => .inl (own_cells (HROW.out.alloc _) r e))).kept (grownBy_setCell' w6 Bp (.slice (some ⟨g6, 0, none⟩) (k5 + 1) cap6)) (fun r e => .inl (by cases e; exact ⟨_, _, _, hb6⟩))
        exact ⟨hk6.from _, ⟨hbx7.trans hbx.symm, hbl6⟩, g6, cap6, by simpa using hh6, hbx7, hm6⟩
      case done =>
        rintro D ys W4 hD rfl ⟨g4, cp4, HH, hbx, hm⟩ hK
        have hkl := HKR.out.hlen
        rw [← hkl, backTo_snd] at HH
        have pc4 := HH.pile.cell
        have hsz4 := HH.size
        have HP := Lib.hid HH
        have GO2 := Lib.hid (GO.out.step HRT.out (z := (zi : Int)) (x := y.core) (by rw [Int.toNat_natCast]; exact coreL_get HX.out))
        have SN1 := Lib.hid (sliceN_own HA.out.orow)
        have BX4 := Lib.hid (NR.out.below HP.out.below)
        obtain ⟨b', off', y', hab, hb4, hx4, hat4, -⟩ := BX4.out.get hzl
        injection hab with hab
        injection hab with e1 e2
        subst e1 e2
        obtain rfl : y = y' := Option.some.inj (HX.out.symm.trans hx4)
        have c8 := hat4.c8
        clear hx4 hat4
        have MD : Hid (Marks w.heap.size (D :: ds) W4) := Lib.hid ⟨List.nodup_cons.2 ⟨fun hd => by
          have h2 := (Array.getElem?_eq_some_iff.1 (MK2.out.at_ D hd).2).1
          simp at hD
          omega, hm.nd⟩, fun E hE => by
          rcases List.mem_cons.1 hE with rfl | hE
          · exact ⟨by simp at hD; omega, hK⟩
          · exact hm.at_ E hE⟩
        have MEA : Hid (∀ cap : Nat, (ordB sh (coreL L) n).length - sliceN (.slice (some ⟨g2, 0, none⟩) (out.length + 1) cap) < (ordB sh (coreL L) n).length - sliceN vo) := Lib.hid (fun cap => by
          show (ordB sh (coreL L) n).length - (out.length + 1) < (ordB sh (coreL L) n).length - sliceN vo
          rw [SN1.out]
          have h1 := GO.out.len
          rw [List.length_append] at h1
          simp at h1
          omega)
        have hkn := HKN.out
        have hpl : (Q ++ y.core.kids.reverse).length ≤ 2000 := by rw [List.length_append, List.length_reverse]; omega
        obtain ⟨k4, hk4⟩ : ∃ k4, (Q ++ y.core.kids.reverse).length = k4 := ⟨_, rfl⟩
        have HK4 := Lib.hid hk4
        rw [hk4] at pc4 hpl
        have hrow := HH.prow
        rw [hk4] at hrow
        have HROW := Lib.hid hrow
        clear HH hrow hk4 hkl hkn
        cases sh with
        | false =>
          have HNX := Lib.hid HP.out.next
          rw [HK4.out] at HNX
          have GO3 : Hid (GoingB false (coreL L) n (out ++ [(zi : Int)]) (Q ++ y.core.kids.reverse)) := Lib.hid (by
            have := GO2.out
            unfold undB at this
            rwa [if_neg (by decide), List.append_nil] at this)
          gi_wp2
          refine ⟨⟨D :: ds, out ++ [(zi : Int)], Q ++ y.core.kids.reverse, _, W4.heap.size, ⟨g4, cp4, HNX⟩, GO3, Lib.hid (MD.out.kept (World.grownBy_alloc _ _ none) (fun r e => by cases e)), ⟨rfl, rfl⟩, rfl⟩, ?_⟩
          exact MEA.out _
        | true =>
          by_cases hu : y.core.under = -1
          · have HNX := Lib.hid HP.out.next
            rw [HK4.out] at HNX
            have GO3 : Hid (GoingB true (coreL L) n (out ++ [(zi : Int)]) (Q ++ y.core.kids.reverse)) := Lib.hid (by
              have := GO2.out
              unfold undB undL at this
              rw [if_pos rfl] at this
              rwa [if_pos hu, List.append_nil] at this)
            rw [hu] at c8
            clear hu
            gi_wp2
            refine ⟨⟨D :: ds, out ++ [(zi : Int)], Q ++ y.core.kids.reverse, _, W4.heap.size, ⟨g4, cp4, HNX⟩, GO3, Lib.hid (MD.out.kept (World.grownBy_alloc _ _ none) (fun r e => by cases e)), ⟨rfl, rfl⟩, rfl⟩, ?_⟩
            exact MEA.out _
          · obtain ⟨s, u, hs, hsg, -⟩ := right_under HRT.out (coreL_get HX.out) hu
            have hsl := (List.getElem?_eq_some_iff.1 hsg).1
            rw [coreL_len, HL.out] at hsl
            have GO3 : Hid (GoingB true (coreL L) n (out ++ [(zi : Int)]) (Q ++ y.core.kids.reverse ++ [(s : Int)])) := Lib.hid (by
              have := GO2.out
              unfold undB undL at this
              rw [if_pos rfl] at this
              rwa [if_neg hu, hs] at this)
            rw [hs] at c8
            have hsn : ((s : Int) != -1) = true := bne_iff_ne.2 (by omega)
            clear hu hs hsg
            gi_wp2_with (gi_at_builtin
                         refine wpListIn_append_keep _ rfl _ _ 34 rfl w.heap.size 3 i0 _ 1 8 Tryz.underlying34 hi0 hz0 hz1 hz2 rfl (by decide) (.slice (some ⟨g4, 0, none⟩) k4 cp4) k4 ((Q ++ y.core.kids.reverse).map encI) rfl (HROW.out.alloc _) ⟨W4.heap.size, 0, none⟩ 1 1 [encI (s : Int)] rfl rfl (cell_one_new W4 (encI (s : Int)) 3) (by simp [Value.oneCell']) (by decide) (by unfold maxLen; omega) (by omega) (by simp; omega) ?_
                         intro g6 cap6 w6 hown6 hold6 hg6 hat6 hlt6
                         obtain ⟨hb6, hh6⟩ := HP.out.push (by rw [HK4.out]; exact hown6) (by rw [HK4.out]; exact hg6) (by rw [HK4.out]; exact hat6)
                         have c6 := hb6.cell
                         have f6 := hb6.frozen
                         rw [HK4.out] at c6 hh6
                         have H6 := Lib.hid hh6
                         have M6 := Lib.hid (((MD.out.kept (World.grownBy_alloc _ (.cells #[encI (s : Int)] 3) none) (fun r e => by cases e)).kept hg6 (fun r e => .inl (own_cells (HROW.out.alloc _) r e))).kept (grownBy_setCell' w6 Bp (.slice (some ⟨g6, 0, none⟩) (k4 + 1) cap6)) (fun r e => .inl (by cases e; exact ⟨_, _, _, hb6⟩)))
                         clear hh6 hg6 hat6 hown6 hold6)
            have HNX := Lib.hid H6.out.next
            rw [List.length_append, HK4.out] at HNX
            refine ⟨⟨D :: ds, out ++ [(zi : Int)], Q ++ y.core.kids.reverse ++ [(s : Int)], _, (w6.setCell ⟨Bp, 0, none⟩ (.slice (some ⟨g6, 0, none⟩) (k4 + 1) cap6)).heap.size, ⟨g6, cap6, HNX⟩, GO3, Lib.hid (M6.out.kept (World.grownBy_alloc _ _ none) (fun r e => by cases e)), ⟨rfl, by simp [World.setCell]⟩, rfl⟩, ?_⟩
            exact MEA.out _
      case stop =>
        rintro D c pre W _ _ h _
        exact h.elim
end Go.Proofs.YtkfmengdffpcnaaGreatDoor
namespace Go.Proofs.YtkfmengdffpcnaaGreatDoor
open Go.RowKit Go.Shelf
theorem OwnPostI.new {w w' : World} {l : List Int} {e : Ending} (h : OwnPostI w l e w') (hin : ∀ z ∈ l, In64 z) : ∃ a len cap, e = .returned (.slice a len cap) ∧ IntRow w' a len cap l ∧ Below w.heap.size w w' ∧ ∀ b off, a = some ⟨b, off, none⟩ → w.heap.size ≤ b := by
  obtain ⟨v, he, ho, hb⟩ := h
  obtain ⟨a9, cap9, hv9, hr9, hlo9⟩ := IntRow.of_own_new (M := l) (n := l.length) rfl ho hin
  exact ⟨a9, l.length, cap9, by rw [he, hv9], hr9, hb, hlo9⟩
def OrdNew (w : World) (l : List Int) (e : Ending) (w' : World) : Prop := ∃ a len cap, e = .returned (.slice a len cap) ∧ IntRow w' a len cap l ∧ Below w.heap.size w w' ∧ ∀ b off, a = some ⟨b, off, none⟩ → w.heap.size ≤ b
theorem OrdNew.post {w w' : World} {l : List Int} {e : Ending} (h : OrdNew w l e w') : OrdPost w l e w' := by
  obtain ⟨a, len, cap, h1, h2, h3, _⟩ := h
  exact ⟨a, len, cap, h1, h2, h3⟩
theorem ordB_in {m : Int} {sh : Bool} {F : List Core} (hr : rightF m F = true) {n : Nat} (hn : n < F.length) : ∀ z ∈ ordB sh F (n : Int), ∃ t : Nat, z = t ∧ t < F.length := by
  intro z hz
  cases sh
  · have hz : z ∈ ordI F (n : Int) := hz
    unfold ordI at hz
    obtain ⟨k, hk, rfl⟩ := List.mem_map.1 hz
    exact ⟨k, rfl, (tree_of_right hr).ord_lt _ n hn k (by rw [Int.toNat_natCast] at hk; exact hk)⟩
  · have hz : z ∈ allI F (n : Int) := hz
    unfold allI at hz
    obtain ⟨k, hk, rfl⟩ := List.mem_map.1 hz
    exact ⟨k, rfl, (treeS hr).ord_lt _ _ hn k (by rw [Int.toNat_natCast] at hk; exact hk)⟩
set_option maxHeartbeats 4000000 in
theorem wfull_any (a : Option Addr) (len cap : Nat) (m : Int) (L : List NodeD) (n : Nat) (w : World) (h : NodeRow w a len cap L) (hs : smallF L) (hr : rightF m (coreL L) = true) (hn : n < len) :
    Calls Tryz.prog 59 #[.slice a len cap, .int .i64 n] w (OrdNew w (allI (coreL L) n)) := by
  have CO : Hid (Calls Tryz.prog 90 #[.slice a len cap, .int .i64 n, .bool true] w (OwnPostI w (allI (coreL L) n))) := Lib.hid (worder_any a len cap m L n true w h hs hr hn)
  have HIN : Hid (∀ z ∈ allI (coreL L) n, In64 z) := Lib.hid (fun z hz => by
    obtain ⟨t, rfl, ht⟩ := ordB_in (sh := true) hr (by rw [coreL_len, h.hlen]; exact hn) z hz
    rw [coreL_len, h.hlen] at ht
    have := h.len64
    exact ⟨by omega, by omega⟩)
  clear h hs hr
  go_enter Tryz.func59, Tryz.ntmps59
  go_wp2_with (go_at_call 90; (with_reducible refine CO.out.mono ?_); intro e w1 hp; obtain ⟨a9, len9, cap9, rfl, hr9, hb9, hlo9⟩ := hp.new HIN.out)
  go_ret
  exact ⟨a9, len9, cap9, rfl, hr9, hb9, hlo9⟩
end Go.Proofs.YtkfmengdffpcnaaGreatDoor
namespace Go.Proofs.YtkfmengdffpcnaaGreatDoor
open Go.RowKit Go.Shelf
set_option maxHeartbeats 8000000 in
set_option maxRecDepth 100000 in
theorem allNot_any (a : Option Addr) (len cap : Nat) (m : Int) (L : List NodeD) (n : Int) (w : World) (h : NodeRow w a len cap L) (hm : In64 m) (hn : In64 n) (hs : smallF L) (hq : thereF m (coreL L) n = false) :
    Calls Tryz.prog 31 #[forV a len cap m, .int .i64 n] w (OrdPost w (allZ m (coreL L) n)) := by
  have BX := Lib.hid ((Box.start (m := m) h).keep (below_box _ (.cells #[.int .i64 n] 3)))
  have NB := Lib.hid (lit_one (w.alloc (forB a len cap m)) 3 n hn)
  have CK : Hid (∀ W b, NodeRow W a len cap L → IntRow W b 1 1 [n] → Calls Tryz.prog 47 #[forV a len cap m, .slice b 1 1] W fun e w' => e = .returned (.bool false) ∧ Below W.heap.size W w') := Lib.hid (fun W b h1 h2 => by
    rw [← hq, ← knowsB_one]
    exact shknows_any a len cap m L b 1 1 [n] W h1 hm hs h2)
  simp only [World.size_alloc] at NB
  have z0 := BX.out.c0
  have z1 := BX.out.c1
  have HR : Hid (allZ m (coreL L) n = []) := Lib.hid (by unfold allZ; rw [hq]; rfl)
  clear h hm hs hn hq
  go_enter Tryz.func31, Tryz.ntmps31
  go_wp2_with (go_at_call 47; ((with_reducible refine (CK.out _ _ BX.out.row NB.out).mono ?_); rintro e w1 ⟨rfl, hb⟩; have BX := Lib.hid (BX.out.keep hb); have z0 := BX.out.c0; have z1 := BX.out.c1; clear hb))
  go_ret
  exact ⟨none, 0, 0, rfl, by rw [HR.out]; exact ⟨SRow.nil, (fun z hz => by cases hz), fun _ => rfl⟩, BX.out.below⟩
set_option maxHeartbeats 4000000 in
set_option maxRecDepth 100000 in
theorem allNew_any (a : Option Addr) (len cap : Nat) (m : Int) (L : List NodeD) (n : Nat) (w : World) (h : NodeRow w a len cap L) (hm : In64 m) (hs : smallF L) (hq : thereF m (coreL L) n = true) :
    Calls Tryz.prog 31 #[forV a len cap m, .int .i64 n] w (OrdNew w (allZ m (coreL L) n)) := by
  have hn : In64 (n : Int) := ⟨by omega, by have h1 := (there_nat hq).2; obtain ⟨k, h2, h3⟩ := h1; rw [coreL_len, h.hlen] at h3; have := h.len64; omega⟩
  have BX := Lib.hid ((Box.start (m := m) h).keep (below_box _ (.cells #[.int .i64 n] 3)))
  have NB := Lib.hid (lit_one (w.alloc (forB a len cap m)) 3 n hn)
  have CK : Hid (∀ W b, NodeRow W a len cap L → IntRow W b 1 1 [(n : Int)] → Calls Tryz.prog 47 #[forV a len cap m, .slice b 1 1] W fun e w' => e = .returned (.bool true) ∧ Below W.heap.size W w') := Lib.hid (fun W b h1 h2 => by
    rw [← hq, ← knowsB_one]
    exact shknows_any a len cap m L b 1 1 [(n : Int)] W h1 hm hs h2)
  simp only [World.size_alloc] at NB
  have z0 := BX.out.c0
  have z1 := BX.out.c1
  obtain ⟨hr, k, hkn, hk⟩ := there_nat hq
  obtain rfl : n = k := Int.ofNat.inj hkn
  have HZ : Hid (allZ m (coreL L) n = allI (coreL L) n) := Lib.hid (allZ_eq hr hk)
  rw [coreL_len, h.hlen] at hk
  have CT : Hid (∀ W, NodeRow W a len cap L → Calls Tryz.prog 59 #[.slice a len cap, .int .i64 n] W (OrdNew W (allI (coreL L) n))) := Lib.hid (fun W h1 => wfull_any a len cap m L n W h1 hs hr hk)
  clear h hm hs hn hq hr hkn hk
  go_enter Tryz.func31, Tryz.ntmps31
  go_wp2_with (first
    | (go_at_call 47; ((with_reducible refine (CK.out _ _ BX.out.row NB.out).mono ?_); rintro e w1 ⟨rfl, hb⟩; have BX := Lib.hid (BX.out.keep hb); have z0 := BX.out.c0; have z1 := BX.out.c1; clear hb))
    | (go_at_call 59; (with_reducible refine (CT.out _ BX.out.row).mono ?_); rintro e w2 ⟨a9, len9, cap9, rfl, hr9, hb9, hlo9⟩; have HSZ0 := Lib.hid BX.out.below.size; have BX := Lib.hid (BX.out.keep hb9)))
  go_ret
  exact ⟨a9, len9, cap9, rfl, by rw [HZ.out]; exact hr9, BX.out.below, fun b off h => Nat.le_trans HSZ0.out (hlo9 b off h)⟩
theorem allIs_any (a : Option Addr) (len cap : Nat) (m : Int) (L : List NodeD) (n : Nat) (w : World) (h : NodeRow w a len cap L) (hm : In64 m) (hs : smallF L) (hq : thereF m (coreL L) n = true) :
    Calls Tryz.prog 31 #[forV a len cap m, .int .i64 n] w (OrdPost w (allZ m (coreL L) n)) := (allNew_any a len cap m L n w h hm hs hq).mono fun _ _ h => h.post
end Go.Proofs.YtkfmengdffpcnaaGreatDoor
namespace Go.Proofs.YtkfmengdffpcnaaGreatDoor
open Go.RowKit
end Go.Proofs.YtkfmengdffpcnaaGreatDoor
namespace Go.Proofs.YtkfmengdffpcnaaGreatDoor
open Go.RowKit
end Go.Proofs.YtkfmengdffpcnaaGreatDoor
namespace Go.Proofs.YtkfmengdffpcnaaGreatDoor
open Go.RowKit
end Go.Proofs.YtkfmengdffpcnaaGreatDoor
namespace Go.Proofs.YtkfmengdffpcnaaGreatDoor
open Go.RowKit
theorem step_append_rows {P : Program} {α : Type} {enc : α → List Value} {w : World} {ops : Array Oper} {o : Oper} {a : Act} {K : Act → World → Prop} {Q : Exit → Act → World → Prop} {E : Prop} (hgd : o.guard = none) (s x : Operand) (t : TypeId)
    (ho : o.op = .call { callee := .builtin .append, args := #[s, x], argTypes := #[t, t] })
    (e : TypeId) (i : TypeInfo) (z : Value) (size bytes : Nat) (ht : P.underlying t = some (.slice e)) (hi : P.info? e = some i) (hz : i.zero = some z)
    (hsize : i.size = size) (hby : i.bytes = bytes) (hzs : z.cells.size = size) (hsz : 0 < size) (base : Nat)
    (v : Value) (n : Nat) (L M : List α) (hs : a.eval s = v) (hown : w.ownsRow base e size v n (L.flatMap enc)) (ad : Option Addr) (m c : Nat) (hx : a.eval x = .slice ad m c) (hsrc : SRow enc size w ad m c M) (h1 : ∀ x ∈ M, ∀ u ∈ enc x, u.oneCell' = true)
    (h63 : n + m ≤ maxLen) (hbytes : (n + m) * bytes ≤ 140737488355328) (hbase : base ≤ w.heap.size) (hnil : ad = none → c = 0)
    (h : ∀ v' w', w'.ownsRow base e size v' (n + m) ((L ++ M).flatMap enc) → w.grownBy w' v.ownBlock → (v'.ownBlock = v.ownBlock ∨ v'.ownBlock = some w.heap.size) → K (a.put o.dst v') w') :
    if Region.wanted o (yielded ops a.tmps) = true then Oper.wp P o a w K Q else E := by
  have hw : Region.wanted o (yielded ops a.tmps) = true := by simp [Region.wanted, hgd]
  rw [if_pos hw]
  obtain ⟨v', w', hr, h2, h3, h4⟩ := run_append_rows (P := P) w t o.type e i z size bytes ht hi hz hsize hby hzs hsz base v n L M hown ad m c hsrc h1 h63 hbytes hbase hnil
  unfold Oper.wp execOp
  simp only [ho, resolve, invoke, builtin, Sem.run_bind, Sem.run_pure, Result.andThen_ok, List.map_toArray, List.map_cons, List.map_nil, hs, hx, hr]
  exact h v' w' h2 h3 h4
end Go.Proofs.YtkfmengdffpcnaaGreatDoor
namespace Go.Proofs.YtkfmengdffpcnaaGreatDoor
open Go.RowKit
structure RowOf (W V : World) (v : Value) (n : Nat) (L : List NodeD) : Prop where
  own : V.ownsRow W.heap.size 36 10 v n (L.flatMap encN)
  below : Below W.heap.size W V
structure LitOf (W V : World) (g : Nat) (y : NodeD) : Prop where
  row : SRow encN 10 V (some ⟨g, 0, none⟩) 1 1 [y]
  ge : W.heap.size ≤ g
  lt : g < V.heap.size
structure NilOf (W V : World) (g : Nat) : Prop where
  own : V.ownsRow W.heap.size 36 10 (.slice (some ⟨g, 0, none⟩) 0 0) 0 (([] : List NodeD).flatMap encN)
theorem RowOf.keep {W V V2 : World} {v : Value} {n : Nat} {L : List NodeD} (h : RowOf W V v n L) (hb : Below V.heap.size V V2) : RowOf W V2 v n L := ⟨own_below h.own hb, h.below.trans (hb.mono h.below.size)⟩
theorem LitOf.keep {W V V2 : World} {g : Nat} {y : NodeD} (h : LitOf W V g y) (hb : Below V.heap.size V V2) : LitOf W V2 g y := ⟨h.row.below hb, h.ge, Nat.lt_of_lt_of_le h.lt hb.size⟩
theorem NilOf.keep {W V V2 : World} {g : Nat} (h : NilOf W V g) (hb : Below V.heap.size V V2) : NilOf W V2 g := ⟨own_below h.own hb⟩
theorem LitOf.new {W V : World} {g : Nat} {y : NodeD} (hb : Below W.heap.size W V) (hg : g = V.heap.size) : LitOf W (V.alloc (nodB y)) g y := by
  subst hg
  exact ⟨own_one V 36 y (encN y).toArray (by simp) rfl, hb.size, by simp⟩
theorem NilOf.new {W V : World} {g : Nat} (hb : Below W.heap.size W V) (hg : g = V.heap.size) : NilOf W (V.alloc (.cells #[] 36)) g := by
  subst hg
  exact ⟨World.ownsRow_lit (base := W.heap.size) (e := 36) (size := 10) V #[] 0 hb.size (Nat.zero_le _) (by simp)⟩
theorem LitOf.grown {W V V2 : World} {g : Nat} {y : NodeD} {row : Option Nat} (h : LitOf W V g y) (hg : V.grownBy V2 row) (hne : some g ≠ row) : LitOf W V2 g y :=
  ⟨h.row.grown hg (fun b off e _ => by
    injection e with e
    injection e with e1
    rw [← e1]
    exact hne), h.ge, Nat.lt_of_lt_of_le h.lt hg.size⟩
theorem Box2.newAt {W : World} {g : Nat} {u v : Value} {t : TypeId} (hg : g = W.heap.size) : Box2 (W.alloc (.cells #[u, v] t)) g u v := by
  subst hg
  exact Box2.new W u v t
end Go.Proofs.YtkfmengdffpcnaaGreatDoor
namespace Go.Proofs.YtkfmengdffpcnaaGreatDoor
open Go.RowKit
structure TodoD where
  kind : Int
  dfn : Int
  name : ByteArray
  had : Bool
  has : Bool
  old : ByteArray
  new : ByteArray
  src : Int
  dst : Int
  on : Bool
deriving DecidableEq
structure DueD where
  node : Int
  todo : TodoD
deriving DecidableEq
abbrev todoL (x : TodoD) : List Value := [.int .i64 x.kind, .int .i64 x.dfn, .string x.name, .bool x.had, .bool x.has, .string x.old, .string x.new, .int .i64 x.src, .int .i64 x.dst, .bool x.on]
def encU (x : DueD) : List Value := .int .i64 x.node :: todoL x.todo
theorem encU_len (x : DueD) : (encU x).length = 11 := rfl
theorem encU_one (x : DueD) : ∀ u ∈ encU x, u.oneCell' = true := by
  intro u hu
  simp [encU] at hu
  rcases hu with rfl | rfl | rfl | rfl | rfl | rfl | rfl | rfl | rfl | rfl | rfl <;> rfl
structure DueRow (w : World) (a : Option Addr) (len cap : Nat) (L : List DueD) : Prop where
  row : SRow encU 11 w a len cap L
  hnil : a = none → cap = 0
theorem DueRow.below {w w' : World} {a : Option Addr} {len cap : Nat} {L : List DueD} (h : DueRow w a len cap L) (hb : Below w.heap.size w w') : DueRow w' a len cap L := ⟨h.row.below hb, h.hnil⟩
theorem DueRow.nil (w : World) : DueRow w none 0 0 [] := ⟨SRow.nil, fun _ => rfl⟩
def DuePost (w : World) (l : List DueD) (e : Ending) (w' : World) : Prop := ∃ a len cap, e = .returned (.slice a len cap) ∧ DueRow w' a len cap l ∧ Below w.heap.size w w'
theorem DueRow.of_own {w : World} {base n : Nat} {v : Value} {L : List DueD} (hl : L.length = n) (h : w.ownsRow base 59 11 v n (L.flatMap encU)) : ∃ a c, v = .slice a n c ∧ DueRow w a n c L := by
  obtain ⟨a, c, e, hr, hn⟩ := SRow.of_own (fun z _ => encU_len z) hl h
  refine ⟨a, c, e, hr, fun ha => ?_⟩
  subst ha
  rcases h.2 with ⟨hv, _⟩ | ⟨g, cap, cur, hv, _⟩
  · rw [e] at hv
    injection hv
  · rw [e] at hv
    cases hv
theorem due_info : (Tryz.prog.info? 59).map (fun i => (i.zero, i.size, i.bytes)) = some (some (.agg #[.int .i64 0, .int .i64 0, .int .i64 0, .string ⟨#[]⟩, .bool false, .bool false, .string ⟨#[]⟩, .string ⟨#[]⟩, .int .i64 0, .int .i64 0, .bool false]), 11, 104) := by kernel_rfl
abbrev upT (d : Int) : TodoD := ⟨9, d, ⟨#[]⟩, false, false, ⟨#[]⟩, ⟨#[]⟩, 0, 0, false⟩
end Go.Proofs.YtkfmengdffpcnaaGreatDoor
namespace Go.Proofs.YtkfmengdffpcnaaGreatDoor
open Go.RowKit
def ifRight (D : DeskD) (z : Int) : Int := if rightK D = true then z else -1
end Go.Proofs.YtkfmengdffpcnaaGreatDoor
