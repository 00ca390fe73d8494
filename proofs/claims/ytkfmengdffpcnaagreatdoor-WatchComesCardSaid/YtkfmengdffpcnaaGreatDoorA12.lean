/- Texts joined in build order: ForestClone ForestCopy ForestMakeFn ForestNew. -/
import Derived.Test.YtkfmengdffpcnaaGreatDoorA11
import Derived.Test.YtkfmengdffpcnaaGreatDoorA08
import Derived.Deep.RegionHeld3
import Derived.Deep.DrawnRows
import Derived.Test.YtkfmengdffpcnaaGreatDoorA02
namespace Go.Proofs.YtkfmengdffpcnaaGreatDoor
open Go.RowKit
attribute [local go_sem ↓] Go.wp_at_zero Go.wp_at_succ
theorem node_info : (Tryz.prog.info? 36).map (fun i => (i.zero, i.size, i.bytes)) = some (some (.agg #[.int .i64 0, .string ⟨#[]⟩, .string ⟨#[]⟩, .string ⟨#[]⟩, .slice none 0 0, .int .i64 0, .slice none 0 0, .int .i64 0, .int .i64 0, .int .i64 0]), 10, 136) := by kernel_rfl
def OwnPostI (w : World) (L : List Int) (e : Ending) (w' : World) : Prop := ∃ v, e = .returned v ∧ w'.ownsRow w.heap.size 3 1 v L.length (L.flatMap encZ) ∧ Below w.heap.size w w'
def OwnPostN (w : World) (L : List NodeD) (e : Ending) (w' : World) : Prop := ∃ v, e = .returned v ∧ w'.ownsRow w.heap.size 36 10 v L.length (L.flatMap encN) ∧ Below w.heap.size w w'
set_option maxHeartbeats 4000000 in
theorem cloneI_any (a : Option Addr) (len cap : Nat) (L : List Int) (w : World) (h : IntRow w a len cap L) (h40 : len ≤ 1000000) :
    Calls Tryz.prog 83 #[.slice a len cap] w (OwnPostI w L) := by
  obtain ⟨i0, hi0, hz0, hz1, hz2⟩ := info_parts int_info
  have HL := Lib.hid h.hlen
  have q22 : ∀ (w : World) (a : Option Addr) (n c n' c' : Nat), (binOp .eql 34 (.slice a n c) (.slice none n' c')).run Tryz.prog w = .ok (.bool a.isNone) w := fun w a n c n' c' => Lib.run_eql_slice_nil w _ _ a n c n' c' Tryz.underlying34
  rcases a with _ | ad
  · have hc : cap = 0 := h.hnil rfl
    have h0 : len = 0 := by have := h.row.hcap; omega
    have hLn : L = [] := List.eq_nil_of_length_eq_zero (by rw [h.hlen, h0])
    subst hc; subst h0; subst hLn
    clear h
    go_enter Tryz.func83, Tryz.ntmps83
    go_wp2
    go_ret
    exact ⟨_, rfl, World.ownsRow_nil _ _ _ _, Below.refl _ _⟩
  · have H := Lib.hid h
    have HE := Lib.hid (own_empty (α := Int) (enc := encZ) (size := 1) w w.heap.size 3 (Nat.le_refl _))
    clear h
    go_enter Tryz.func83, Tryz.ntmps83
    go_wp2_with (first
      | (at_builtin
         refine wpList_append_rows rfl (.tmp 5) (.tmp 6) 34 rfl 3 i0 _ 1 8 Tryz.underlying34 hi0 hz0 hz1 hz2 rfl (by decide) w.heap.size _ 0 _ L rfl HE.out (some ad) len cap rfl (H.out.below ((Below.refl _ _).alloc (Nat.le_refl _) _)).row (fun x _ => encZ_one x) (by unfold maxLen; omega) (by omega) (by simp) (fun h => by cases h) ?_
         intro v2 w2 hown2 hg2 hat2
         have HB2 := below_new (Below.refl _ _) hg2
         have HO2 := Lib.hid hown2
         clear hown2 hg2 hat2))
    go_ret
    refine ⟨_, rfl, ?_, HB2⟩
    have := HO2.out
    rw [HL.out]
    simpa using this
set_option maxHeartbeats 4000000 in
theorem cloneN_any (a : Option Addr) (len cap : Nat) (L : List NodeD) (w : World) (h : NodeRow w a len cap L) (h40 : len ≤ 1000000) :
    Calls Tryz.prog 100 #[.slice a len cap] w (OwnPostN w L) := by
  obtain ⟨i0, hi0, hz0, hz1, hz2⟩ := info_parts node_info
  have HL := Lib.hid h.hlen
  have q22 : ∀ (w : World) (a : Option Addr) (n c n' c' : Nat), (binOp .eql 22 (.slice a n c) (.slice none n' c')).run Tryz.prog w = .ok (.bool a.isNone) w := fun w a n c n' c' => Lib.run_eql_slice_nil w _ _ a n c n' c' Tryz.underlying22
  rcases a with _ | ad
  · have hc : cap = 0 := h.hnil rfl
    have h0 : len = 0 := by have := h.row.hcap; omega
    have hLn : L = [] := List.eq_nil_of_length_eq_zero (by rw [h.hlen, h0])
    subst hc; subst h0; subst hLn
    clear h
    go_enter Tryz.func100, Tryz.ntmps100
    go_wp2
    go_ret
    exact ⟨_, rfl, World.ownsRow_nil _ _ _ _, Below.refl _ _⟩
  · have H := Lib.hid h
    have HE := Lib.hid (own_empty (α := NodeD) (enc := encN) (size := 10) w w.heap.size 36 (Nat.le_refl _))
    clear h
    go_enter Tryz.func100, Tryz.ntmps100
    go_wp2_with (first
      | (at_builtin
         refine wpList_append_rows rfl (.tmp 5) (.tmp 6) 22 rfl 36 i0 _ 10 136 Tryz.underlying22 hi0 hz0 hz1 hz2 rfl (by decide) w.heap.size _ 0 _ L rfl HE.out (some ad) len cap rfl (H.out.below ((Below.refl _ _).alloc (Nat.le_refl _) _)).row (fun x _ => encN_one x) (by unfold maxLen; omega) (by omega) (by simp) (fun h => by cases h) ?_
         intro v2 w2 hown2 hg2 hat2
         have HB2 := below_new (Below.refl _ _) hg2
         have HO2 := Lib.hid hown2
         clear hown2 hg2 hat2))
    go_ret
    refine ⟨_, rfl, ?_, HB2⟩
    have := HO2.out
    rw [HL.out]
    simpa using this
theorem IntRow.of_own_new {w : World} {base : Nat} {v : Value} {n : Nat} {M : List Int} (hl : M.length = n) (h : w.ownsRow base 3 1 v n (M.flatMap encZ)) (hs : ∀ x ∈ M, In64 x) :
    ∃ a cap, v = .slice a n cap ∧ IntRow w a n cap M ∧ ∀ b off, a = some ⟨b, off, none⟩ → base ≤ b := by
  rcases h.2 with ⟨rfl, h0⟩ | ⟨g, cap, cur, rfl, _⟩
  · subst h0
    have hL : M = [] := List.eq_nil_of_length_eq_zero hl
    subst hL
    exact ⟨none, 0, rfl, ⟨SRow.nil, hs, fun _ => rfl⟩, fun b off h => by cases h⟩
  · obtain ⟨a, cap', he, hr, hb⟩ := SRow.of_own (fun x _ => encZ_len x) hl h
    injection he with h1 h2 h3
    subst h1; subst h3
    exact ⟨_, _, rfl, ⟨hr, hs, fun h => by cases h⟩, hb⟩
def NodeAway (g : Nat) (x : NodeD) : Prop := (∀ b off, x.aA = some ⟨b, off, none⟩ → 0 < x.aN → b ≠ g) ∧ (∀ b off, x.kA = some ⟨b, off, none⟩ → 0 < x.kN → b ≠ g)
theorem NodeOk.away {w : World} {x : NodeD} {g : Nat} (h : NodeOk w x) (hg : w.heap.size ≤ g) : NodeAway g x := by
  refine ⟨fun b off ha hp e => ?_, fun b off ha hp e => ?_⟩
  · rcases h.attrs.row.cells with h0 | ⟨b', off', ha', hlt, _⟩
    · omega
    · rw [ha] at ha'
      injection ha' with ha'
      injection ha' with e1
      omega
  · rcases h.kids.row.cells with h0 | ⟨b', off', ha', hlt, _⟩
    · omega
    · rw [ha] at ha'
      injection ha' with ha'
      injection ha' with e1
      omega
theorem NodeOk.setCell {w : World} {x : NodeD} {g o : Nat} (h : NodeOk w x) (ha : NodeAway g x) (u : Value) : NodeOk (w.setCell ⟨g, o, none⟩ u) x := by
  have hs : w.heap.size ≤ (w.setCell ⟨g, o, none⟩ u).heap.size := by simp [World.setCell]
  have far : ∀ b o', b ≠ g → (w.setCell ⟨g, o, none⟩ u).cell? ⟨b, o', none⟩ = w.cell? ⟨b, o', none⟩ := fun b o' hne => World.cell?_setCell_other _ _ _ _ (fun e => hne (by injection e with e _; exact e.symm))
  exact ⟨⟨h.attrs.row.keep hs (fun b off he hp o' => far b o' (ha.1 b off he hp)), h.attrs.small, h.attrs.hnil⟩, ⟨h.kids.row.keep hs (fun b off he hp o' => far b o' (ha.2 b off he hp)), h.kids.inb, h.kids.hnil⟩, h.name, h.is, h.data, h.kind, h.parent, h.host, h.under, h.doc⟩
def aloneC (x : Core) (n : Int) : Core := ⟨x.kind, x.name, x.is, x.data, x.attrs, -1, [], -1, -1, if x.kind = 0 then n else x.doc⟩
def AlonePost (w : World) (x : Core) (n : Int) (e : Ending) (w' : World) : Prop := ∃ y : NodeD, e = .returned (nodVal y) ∧ y.core = aloneC x n ∧ NodeOk w' y ∧ Below w.heap.size w w' ∧ (∀ b off, y.aA = some ⟨b, off, none⟩ → w.heap.size ≤ b) ∧ y.kA = none
abbrev zeroNB : Obj := .cells #[.int .i64 0, .string ⟨#[]⟩, .string ⟨#[]⟩, .string ⟨#[]⟩, .slice none 0 0, .int .i64 0, .slice none 0 0, .int .i64 0, .int .i64 0, .int .i64 0] 36
structure Zero10 (W : World) (g : Nat) : Prop where
  lt : g < W.heap.size
  c : ∀ j v, (#[.int .i64 0, .string ⟨#[]⟩, .string ⟨#[]⟩, .string ⟨#[]⟩, .slice none 0 0, .int .i64 0, .slice none 0 0, .int .i64 0, .int .i64 0, .int .i64 0] : Array Value)[j]? = some v → W.cell? ⟨g, j, none⟩ = some v
  f : ∀ j, W.frozen? ⟨g, j, none⟩ = false
theorem Zero10.keep {W W2 : World} {g : Nat} (h : Zero10 W g) (hb : Below W.heap.size W W2) : Zero10 W2 g :=
  ⟨Nat.lt_of_lt_of_le h.lt hb.size, fun j v hv => (hb.cell (p := ⟨g, j, none⟩) h.lt).trans (h.c j v hv), fun j => (hb.frozen (p := ⟨g, j, none⟩) h.lt).trans (h.f j)⟩
theorem Zero10.new (W : World) : Zero10 (W.alloc zeroNB) W.heap.size :=
  ⟨by simp, fun j v hv => by rw [cell_of_row (W.alloc zeroNB) W.heap.size j _ 36 (0, 0) (heap_alloc_new W _), hv], fun j => row_free (heap_alloc_new W zeroNB) j⟩
structure AloneSt (w W : World) (x : NodeD) : Prop where
  a : NBox w W w.heap.size x
  z : Zero10 W (w.heap.size + 1)
  below : Below w.heap.size w W
theorem AloneSt.keep {w W W2 : World} {x : NodeD} (h : AloneSt w W x) (hb : Below W.heap.size W W2) : AloneSt w W2 x := ⟨h.a.keep hb, h.z.keep hb, h.below.trans (hb.mono h.below.size)⟩
theorem AloneSt.start {w : World} {x : NodeD} (h : NodeOk w x) : AloneSt w ((w.alloc (nodB x)).alloc zeroNB) x := by
  refine ⟨(NKeep.start h).box.keep (below_box _ _), ?_, (below_box w _).alloc (by simp) _⟩
  have := Zero10.new (w.alloc (nodB x))
  rwa [World.size_alloc] at this
theorem inM1 : In64 (-1) := ⟨by decide, by decide⟩
theorem OwnPost.row {w w' : World} {L : AL} {e : Ending} (h : OwnPost w L e w') (hs : ∀ x ∈ L, x.1.size ≤ maxLen ∧ x.2.size ≤ maxLen) : ∃ a cap, e = .returned (.slice a L.length cap) ∧ AttrRow w' a L.length cap L ∧ (∀ b off, a = some ⟨b, off, none⟩ → w.heap.size ≤ b) ∧ Below w.heap.size w w' := by
  obtain ⟨v, he, hown, hb⟩ := h
  obtain ⟨a, cap, hv, hr, hl⟩ := AttrRow.of_own_new (M := L) (n := L.length) rfl hown hs
  exact ⟨a, cap, by rw [he, hv], hr, hl, hb⟩
theorem OwnPostI.row {w w' : World} {L : List Int} {e : Ending} (h : OwnPostI w L e w') (hs : ∀ x ∈ L, In64 x) : ∃ a cap, e = .returned (.slice a L.length cap) ∧ IntRow w' a L.length cap L ∧ (∀ b off, a = some ⟨b, off, none⟩ → w.heap.size ≤ b) ∧ Below w.heap.size w w' := by
  obtain ⟨v, he, hown, hb⟩ := h
  obtain ⟨a, cap, hv, hr, hl⟩ := IntRow.of_own_new (M := L) (n := L.length) rfl hown hs
  exact ⟨a, cap, by rw [he, hv], hr, hl, hb⟩
set_option maxHeartbeats 8000000 in
set_option maxRecDepth 100000 in
theorem alone_any (x : NodeD) (n : Int) (w : World) (h : NodeOk w x) (hn : In64 n) (ha : x.core.attrs.length ≤ 1000) :
    Calls Tryz.prog 64 #[nodVal x, .int .i64 n] w (AlonePost w x.core n) := by
  obtain ⟨⟨kind, name, is, data, attrs, parent, kids, host, under, doc⟩, aA, aN, aC, kA, kN, kC⟩ := x
  have HAN : Hid (aN ≤ 1000) := Lib.hid (by have : attrs.length = aN := h.attrs.hlen; dsimp only at ha; omega)
  have HN := Lib.hid hn
  by_cases k0 : kind = 0
  · subst k0
    obtain ⟨W0, hW0, ST⟩ : ∃ W0, (w.alloc (nodB ⟨⟨0, name, is, data, attrs, parent, kids, host, under, doc⟩, aA, aN, aC, kA, kN, kC⟩)).alloc zeroNB = W0 ∧ AloneSt w W0 ⟨⟨0, name, is, data, attrs, parent, kids, host, under, doc⟩, aA, aN, aC, kA, kN, kC⟩ := ⟨_, rfl, AloneSt.start h⟩
    have ST := Lib.hid ST
    have HW := Lib.hid hW0
    have HZ : Hid (w.heap.size + 1 < W0.heap.size) := Lib.hid ST.out.z.lt
    have HH := Lib.hid h
    have CA : Hid (∀ W, AttrRow W aA aN aC attrs → Calls Tryz.prog 96 #[.slice aA aN aC] W (OwnPost W attrs)) := Lib.hid (fun W h => clone_any aA aN aC attrs W h (by have := HAN.out; omega))
    have HSM := Lib.hid h.attrs.small
    clear h hn ha hW0
    go_enter Tryz.func64, Tryz.ntmps64
    go_wp2
    rw [HW.out]
    obtain ⟨-, x0, x1, x2, x3, x4, x5, x6, x7, x8, x9, -⟩ := ST.out.a
    dsimp only at x0 x1 x2 x3 x4
    go_region_held3 (fun w' => w'.cell? ⟨w.heap.size, 0, none⟩ = some (.int .i64 0) ∧ w'.cell? ⟨w.heap.size, 1, none⟩ = some (.string name) ∧ w'.cell? ⟨w.heap.size, 2, none⟩ = some (.string is) ∧ w'.cell? ⟨w.heap.size, 3, none⟩ = some (.string data) ∧ w'.cell? ⟨w.heap.size, 4, none⟩ = some (.slice aA aN aC)) (go_keep)
      (first | (go_at_call 96; refine (CA.out _ ST.out.a.ok.attrs.drew).mono ?_; intro e w1 hp; obtain ⟨a2, c2, rfl, hrw, hlow, hb⟩ := hp.row HSM.out; have HRW := Lib.hid hrw; have HLW := Lib.hid hlow; have ST := Lib.hid (ST.out.keep ((Below.refl _ _).drew.trans hb)); obtain ⟨-, x0, x1, x2, x3, x4, x5, x6, x7, x8, x9, -⟩ := ST.out.a; dsimp only at x0 x1 x2 x3 x4; have d0 := ST.out.z.c 0 _ rfl; have d1 := ST.out.z.c 1 _ rfl; have d2 := ST.out.z.c 2 _ rfl; have d3 := ST.out.z.c 3 _ rfl; have d4 := ST.out.z.c 4 _ rfl; have d5 := ST.out.z.c 5 _ rfl; have d6 := ST.out.z.c 6 _ rfl; have d7 := ST.out.z.c 7 _ rfl; have d8 := ST.out.z.c 8 _ rfl; have d9 := ST.out.z.c 9 _ rfl; have f0 := ST.out.z.f 0; have f1 := ST.out.z.f 1; have f2 := ST.out.z.f 2; have f3 := ST.out.z.f 3; have f4 := ST.out.z.f 4; have f5 := ST.out.z.f 5; have f6 := ST.out.z.f 6; have f7 := ST.out.z.f 7; have f8 := ST.out.z.f 8; have f9 := ST.out.z.f 9; clear x5 x6 x7 x8 x9 hb hp hrw hlow))
    go_wp2
    have HG : w.heap.size + 1 < W0.heap.size := HZ.out
    have hk : NodeOk w1 ⟨⟨0, name, is, data, attrs, -1, [], -1, -1, n⟩, a2, attrs.length, c2, none, 0, 0⟩ := ⟨HRW.out, ⟨SRow.nil, (fun z hz => by cases hz), fun _ => rfl⟩, HH.out.name, HH.out.is, HH.out.data, HH.out.kind, inM1, inM1, inM1, HN.out⟩
    have haw : NodeAway (w.heap.size + 1) ⟨⟨0, name, is, data, attrs, -1, [], -1, -1, n⟩, a2, attrs.length, c2, none, 0, 0⟩ := ⟨fun b off hb _ e => by have := HLW.out b off hb; simp at this; omega, fun b off hb => by cases hb⟩
    refine bodyPost_ret (v := nodVal ⟨⟨0, name, is, data, attrs, -1, [], -1, -1, n⟩, a2, attrs.length, c2, none, 0, 0⟩) ?_ rfl ⟨_, rfl, rfl, ((((((((((hk.setCell haw _).setCell haw _).setCell haw _).setCell haw _).setCell haw _).setCell haw _).setCell haw _).setCell haw _).setCell haw _).setCell haw _), ?_, fun b off hb => ?_, rfl⟩
    · simp [results, Tryz.results64, go_sem, d0, d1, d2, d3, d4, d5, d6, d7, d8, d9]
    · exact (((((((((ST.out.below.setCell (p := ⟨w.heap.size + 1, 0, none⟩) (by simp) _).setCell (p := ⟨w.heap.size + 1, 1, none⟩) (by simp) _).setCell (p := ⟨w.heap.size + 1, 2, none⟩) (by simp) _).setCell (p := ⟨w.heap.size + 1, 3, none⟩) (by simp) _).setCell (p := ⟨w.heap.size + 1, 4, none⟩) (by simp) _).setCell (p := ⟨w.heap.size + 1, 5, none⟩) (by simp) _).setCell (p := ⟨w.heap.size + 1, 6, none⟩) (by simp) _).setCell (p := ⟨w.heap.size + 1, 7, none⟩) (by simp) _).setCell (p := ⟨w.heap.size + 1, 8, none⟩) (by simp) _).setCell (p := ⟨w.heap.size + 1, 9, none⟩) (by simp) _
    · have := HLW.out b off hb
      simp at this
      omega
  · have HAC : Hid ((⟨kind, name, is, data, attrs, -1, [], -1, -1, doc⟩ : Core) = aloneC ⟨kind, name, is, data, attrs, parent, kids, host, under, doc⟩ n) := Lib.hid (by unfold aloneC; dsimp only; rw [if_neg k0])
    have f0 : (kind == 0) = false := beq_eq_false_iff_ne.2 k0
    clear k0
    obtain ⟨W0, hW0, ST⟩ : ∃ W0, (w.alloc (nodB ⟨⟨kind, name, is, data, attrs, parent, kids, host, under, doc⟩, aA, aN, aC, kA, kN, kC⟩)).alloc zeroNB = W0 ∧ AloneSt w W0 ⟨⟨kind, name, is, data, attrs, parent, kids, host, under, doc⟩, aA, aN, aC, kA, kN, kC⟩ := ⟨_, rfl, AloneSt.start h⟩
    have ST := Lib.hid ST
    have HW := Lib.hid hW0
    have HZ : Hid (w.heap.size + 1 < W0.heap.size) := Lib.hid ST.out.z.lt
    have HH := Lib.hid h
    have CA : Hid (∀ W, AttrRow W aA aN aC attrs → Calls Tryz.prog 96 #[.slice aA aN aC] W (OwnPost W attrs)) := Lib.hid (fun W h => clone_any aA aN aC attrs W h (by have := HAN.out; omega))
    have HSM := Lib.hid h.attrs.small
    clear h hn ha hW0
    go_enter Tryz.func64, Tryz.ntmps64
    go_wp2
    rw [HW.out]
    obtain ⟨-, x0, x1, x2, x3, x4, x5, x6, x7, x8, x9, -⟩ := ST.out.a
    dsimp only at x0 x1 x2 x3 x4
    go_region_held3 (fun w' => w'.cell? ⟨w.heap.size, 0, none⟩ = some (.int .i64 kind) ∧ w'.cell? ⟨w.heap.size, 1, none⟩ = some (.string name) ∧ w'.cell? ⟨w.heap.size, 2, none⟩ = some (.string is) ∧ w'.cell? ⟨w.heap.size, 3, none⟩ = some (.string data) ∧ w'.cell? ⟨w.heap.size, 4, none⟩ = some (.slice aA aN aC)) (go_keep)
      (first | (go_at_call 96; refine (CA.out _ ST.out.a.ok.attrs.drew).mono ?_; intro e w1 hp; obtain ⟨a2, c2, rfl, hrw, hlow, hb⟩ := hp.row HSM.out; have HRW := Lib.hid hrw; have HLW := Lib.hid hlow; have ST := Lib.hid (ST.out.keep ((Below.refl _ _).drew.trans hb)); obtain ⟨-, x0, x1, x2, x3, x4, x5, x6, x7, x8, x9, -⟩ := ST.out.a; dsimp only at x0 x1 x2 x3 x4; have d0 := ST.out.z.c 0 _ rfl; have d1 := ST.out.z.c 1 _ rfl; have d2 := ST.out.z.c 2 _ rfl; have d3 := ST.out.z.c 3 _ rfl; have d4 := ST.out.z.c 4 _ rfl; have d5 := ST.out.z.c 5 _ rfl; have d6 := ST.out.z.c 6 _ rfl; have d7 := ST.out.z.c 7 _ rfl; have d8 := ST.out.z.c 8 _ rfl; have d9 := ST.out.z.c 9 _ rfl; have f0 := ST.out.z.f 0; have f1 := ST.out.z.f 1; have f2 := ST.out.z.f 2; have f3 := ST.out.z.f 3; have f4 := ST.out.z.f 4; have f5 := ST.out.z.f 5; have f6 := ST.out.z.f 6; have f7 := ST.out.z.f 7; have f8 := ST.out.z.f 8; have f9 := ST.out.z.f 9; clear x5 x6 x7 x8 x9 hb hp hrw hlow))
    go_wp2
    have HG : w.heap.size + 1 < W0.heap.size := HZ.out
    have hk : NodeOk w1 ⟨⟨kind, name, is, data, attrs, -1, [], -1, -1, doc⟩, a2, attrs.length, c2, none, 0, 0⟩ := ⟨HRW.out, ⟨SRow.nil, (fun z hz => by cases hz), fun _ => rfl⟩, HH.out.name, HH.out.is, HH.out.data, HH.out.kind, inM1, inM1, inM1, HH.out.doc⟩
    have haw : NodeAway (w.heap.size + 1) ⟨⟨kind, name, is, data, attrs, -1, [], -1, -1, doc⟩, a2, attrs.length, c2, none, 0, 0⟩ := ⟨fun b off hb _ e => by have := HLW.out b off hb; simp at this; omega, fun b off hb => by cases hb⟩
    refine bodyPost_ret (v := nodVal ⟨⟨kind, name, is, data, attrs, -1, [], -1, -1, doc⟩, a2, attrs.length, c2, none, 0, 0⟩) ?_ rfl ⟨_, rfl, HAC.out, ((((((((((hk.setCell haw _).setCell haw _).setCell haw _).setCell haw _).setCell haw _).setCell haw _).setCell haw _).setCell haw _).setCell haw _).setCell haw _), ?_, fun b off hb => ?_, rfl⟩
    · simp [results, Tryz.results64, go_sem, d0, d1, d2, d3, d4, d5, d6, d7, d8, d9]
    · exact (((((((((ST.out.below.setCell (p := ⟨w.heap.size + 1, 0, none⟩) (by simp) _).setCell (p := ⟨w.heap.size + 1, 1, none⟩) (by simp) _).setCell (p := ⟨w.heap.size + 1, 2, none⟩) (by simp) _).setCell (p := ⟨w.heap.size + 1, 3, none⟩) (by simp) _).setCell (p := ⟨w.heap.size + 1, 4, none⟩) (by simp) _).setCell (p := ⟨w.heap.size + 1, 5, none⟩) (by simp) _).setCell (p := ⟨w.heap.size + 1, 6, none⟩) (by simp) _).setCell (p := ⟨w.heap.size + 1, 7, none⟩) (by simp) _).setCell (p := ⟨w.heap.size + 1, 8, none⟩) (by simp) _).setCell (p := ⟨w.heap.size + 1, 9, none⟩) (by simp) _
    · have := HLW.out b off hb
      simp at this
      omega
end Go.Proofs.YtkfmengdffpcnaaGreatDoor
namespace Go.Proofs.YtkfmengdffpcnaaGreatDoor
open Go.RowKit
attribute [local go_sem ↓] Go.wp_at_zero Go.wp_at_succ
theorem own_setCell {w : World} {base : Nat} {e : TypeId} {size g n cap : Nat} {xs : List Value} (h : w.ownsRow base e size (.slice (some ⟨g, 0, none⟩) n cap) n xs) {j : Nat} (hj : j < n * size) (u : Value) :
    (w.setCell ⟨g, j, none⟩ u).ownsRow base e size (.slice (some ⟨g, 0, none⟩) n cap) n (xs.set j u) := by
  refine ⟨by rw [List.length_set]; exact h.1, ?_⟩
  rcases h.2 with ⟨hv, _⟩ | ⟨g', cap', cur, hv, hb, hg, h1, h2, h3, h4⟩
  · cases hv
  · injection hv with hv1 hv2 hv3
    injection hv1 with hv1
    injection hv1 with hv1
    subst hv1
    subst hv3
    obtain ⟨hlt, hk⟩ := Array.getElem?_eq_some_iff.1 hg
    have hjc : j < cur.size := by
      rw [h3]
      exact Nat.lt_of_lt_of_le hj (Nat.mul_le_mul_right _ h1)
    refine .inr ⟨g, cap, cur.set j u hjc, rfl, hb, ?_, h1, h2, by rw [Array.size_set]; exact h3, ?_⟩
    · show (w.heap.modify g _)[g]? = _
      rw [Array.getElem?_eq_getElem (by rw [Array.size_modify]; exact hlt), Array.getElem_modify_self, hk]
      simp [Array.setIfInBounds, hjc]
    · rw [Array.toList_set, List.take_set, h4]
theorem flat_set {α : Type} {enc : α → List Value} {size : Nat} : ∀ {L : List α}, (∀ x ∈ L, (enc x).length = size) → ∀ {i j : Nat} {y : α} {u : Value} {x : α}, L[i]? = some x → (enc y) = (enc x).set j u → j < size → (L.flatMap enc).set (i * size + j) u = (L.set i y).flatMap enc
  | [], _, _, _, _, _, _, hx, _, _ => by simp at hx
  | a :: r, h, 0, j, y, u, x, hx, he, hj => by
    simp at hx
    subst hx
    have hl := h a (by simp)
    rw [List.flatMap_cons, Nat.zero_mul, Nat.zero_add, List.set_append_left _ _ (by omega), List.set_cons_zero, List.flatMap_cons, he]
  | a :: r, h, i + 1, j, y, u, x, hx, he, hj => by
    have hl := h a (by simp)
    have ih := flat_set (L := r) (fun z hz => h z (by simp [hz])) (i := i) (j := j) (y := y) (u := u) (x := x) (by simpa using hx) he hj
    have e1 : (i + 1) * size + j - (enc a).length = i * size + j := by rw [hl, Nat.add_mul]; omega
    rw [List.flatMap_cons, List.set_append_right _ _ (by rw [hl, Nat.add_mul]; omega), List.set_cons_succ, List.flatMap_cons, ← ih, e1]
structure Copy (lo : Nat) (w W : World) (v : Value) (n : Nat) (M : List NodeD) (F : List Core) : Prop where
  own : W.ownsRow w.heap.size 36 10 v n (M.flatMap encN)
  hl : M.length = n
  core : coreL M = F
  ok : ∀ x ∈ M, NodeOk W x
  away : ∀ g, (lo ≤ g ∧ g < w.heap.size) ∨ v.ownBlock = some g → ∀ x ∈ M, NodeAway g x
  below : Below w.heap.size w W
theorem Copy.keep {lo : Nat} {w W W2 : World} {v : Value} {n : Nat} {M : List NodeD} {F : List Core} (h : Copy lo w W v n M F) (hb : Below W.heap.size W W2) : Copy lo w W2 v n M F :=
  ⟨own_below h.own hb, h.hl, h.core, fun x hx => (h.ok x hx).below hb, h.away, h.below.trans (hb.mono h.below.size)⟩
theorem Copy.row {lo : Nat} {w W : World} {v : Value} {n : Nat} {M : List NodeD} {F : List Core} (h : Copy lo w W v n M F) : ∃ a cap, v = .slice a n cap ∧ NodeRow W a n cap M ∧ ∀ b off, a = some ⟨b, off, none⟩ → w.heap.size ≤ b ∧ off = 0 := by
  rcases h.own.2 with ⟨rfl, h0⟩ | ⟨g, cap, cur, rfl, hb, _⟩
  · have hM : M = [] := List.eq_nil_of_length_eq_zero (by rw [h.hl, h0])
    subst hM
    subst h0
    exact ⟨none, 0, rfl, ⟨SRow.nil, (fun x hx => by cases hx), fun _ => rfl⟩, fun b off h => by cases h⟩
  · obtain ⟨a, cap', he, hr, hl⟩ := SRow.of_own (fun x _ => encN_len x) h.hl h.own
    injection he with h1 h2 h3
    subst h1; subst h3
    exact ⟨_, _, rfl, ⟨hr, h.ok, fun h => by cases h⟩, fun b off h => by injection h with h; injection h with h1 h2; exact ⟨by omega, h2.symm⟩⟩
theorem Copy.set {lo : Nat} {w W : World} {g n cap : Nat} {M : List NodeD} {F : List Core} (h : Copy lo w W (.slice (some ⟨g, 0, none⟩) n cap) n M F) (hg : w.heap.size ≤ g) {k : Nat} {x : NodeD} (hk : M[k]? = some x) {aA kA : Option Addr} {aC kC : Nat}
    (ha : AttrRow W aA x.core.attrs.length aC x.core.attrs) (hkk : IntRow W kA x.core.kids.length kC x.core.kids) (hw : ∀ g', (lo ≤ g' ∧ g' < w.heap.size) ∨ g' = g → NodeAway g' ⟨x.core, aA, x.core.attrs.length, aC, kA, x.core.kids.length, kC⟩) :
    Copy lo w ((W.setCell ⟨g, k * 10 + 4, none⟩ (.slice aA x.core.attrs.length aC)).setCell ⟨g, k * 10 + 6, none⟩ (.slice kA x.core.kids.length kC)) (.slice (some ⟨g, 0, none⟩) n cap) n (M.set k ⟨x.core, aA, x.core.attrs.length, aC, kA, x.core.kids.length, kC⟩) F := by
  obtain ⟨hl, he⟩ := List.getElem?_eq_some_iff.1 hk
  have hxm := List.mem_of_getElem? hk
  have hox := h.ok x hxm
  have hkn : k < n := by have := h.hl; omega
  have o1 := own_setCell h.own (j := k * 10 + 4) (by omega) (.slice aA x.core.attrs.length aC)
  rw [flat_set (L := M) (fun z _ => encN_len z) (i := k) (j := 4) (y := ⟨x.core, aA, x.core.attrs.length, aC, x.kA, x.kN, x.kC⟩) hk rfl (by omega)] at o1
  have o2 := own_setCell o1 (j := k * 10 + 6) (by omega) (.slice kA x.core.kids.length kC)
  rw [flat_set (L := M.set k ⟨x.core, aA, x.core.attrs.length, aC, x.kA, x.kN, x.kC⟩) (fun z _ => encN_len z) (i := k) (j := 6) (y := ⟨x.core, aA, x.core.attrs.length, aC, kA, x.core.kids.length, kC⟩) (u := .slice kA x.core.kids.length kC) (x := ⟨x.core, aA, x.core.attrs.length, aC, x.kA, x.kN, x.kC⟩) (List.getElem?_set_self hl) rfl (by omega), List.set_set] at o2
  refine ⟨o2, by rw [List.length_set]; exact h.hl, ?_, fun y hy => ?_, fun g' hg' y hy => ?_, (h.below.setCell (p := ⟨g, k * 10 + 4, none⟩) hg _).setCell (p := ⟨g, k * 10 + 6, none⟩) hg _⟩
  · rw [← h.core]
    unfold coreL
    rw [List.map_set]
    have : (M.map (·.core))[k]? = some x.core := by rw [List.getElem?_map, hk]; rfl
    obtain ⟨hl2, he2⟩ := List.getElem?_eq_some_iff.1 this
    show (M.map (·.core)).set k x.core = _
    rw [← he2, List.set_getElem_self]
  · have haw := h.away g (.inr rfl)
    have hw := hw g (.inr rfl)
    rcases List.mem_or_eq_of_mem_set hy with hy | rfl
    · exact ((h.ok y hy).setCell (haw y hy) _).setCell (haw y hy) _
    · have hq : NodeOk W ⟨x.core, aA, x.core.attrs.length, aC, kA, x.core.kids.length, kC⟩ := ⟨ha, hkk, hox.name, hox.is, hox.data, hox.kind, hox.parent, hox.host, hox.under, hox.doc⟩
      exact (hq.setCell hw _).setCell hw _
  · rcases List.mem_or_eq_of_mem_set hy with hy | rfl
    · exact h.away g' hg' y hy
    · refine hw g' ?_
      rcases hg' with h | h
      · exact .inl h
      · injection h with h
        exact .inr h.symm
theorem own_otherCell {w : World} {base : Nat} {e : TypeId} {size n g o : Nat} {v : Value} {xs : List Value} (h : w.ownsRow base e size v n xs) (hg : g < base) (u : Value) : (w.setCell ⟨g, o, none⟩ u).ownsRow base e size v n xs := by
  refine ⟨h.1, ?_⟩
  rcases h.2 with h0 | ⟨g', cap, cur, hv, hb, hg', h3⟩
  · exact .inl h0
  · exact .inr ⟨g', cap, cur, hv, hb, (Below.heap_setCell _ _ _ g' (by show g' ≠ g; omega)).trans hg', h3⟩
theorem own_base {w : World} {b1 b2 : Nat} {e : TypeId} {size n : Nat} {v : Value} {xs : List Value} (h : w.ownsRow b2 e size v n xs) (hb : b1 ≤ b2) : w.ownsRow b1 e size v n xs := by
  refine ⟨h.1, ?_⟩
  rcases h.2 with h | ⟨g, cap, cur, h1, h2, h3⟩
  · exact .inl h
  · exact .inr ⟨g, cap, cur, h1, Nat.le_trans hb h2, h3⟩
theorem Copy.finish {w w0 W : World} {v : Value} {n : Nat} {M : List NodeD} {F : List Core} (h : Copy w.heap.size w0 W v n M F) (hb : Below w.heap.size w w0) {g : Nat} (h1 : w.heap.size ≤ g) (h2 : g < w0.heap.size) (o1 o2 : Nat) (u1 u2 : Value) :
    Copy w.heap.size w ((W.setCell ⟨g, o1, none⟩ u1).setCell ⟨g, o2, none⟩ u2) v n M F := by
  refine ⟨own_base (own_otherCell (own_otherCell h.own h2 u1) h2 u2) hb.size, h.hl, h.core, fun x hx => ?_, fun g' hg' => ?_, ((hb.trans (h.below.mono hb.size)).setCell (p := ⟨g, o1, none⟩) h1 u1).setCell (p := ⟨g, o2, none⟩) h1 u2⟩
  · have ha := h.away g (.inl ⟨h1, h2⟩) x hx
    exact ((h.ok x hx).setCell ha u1).setCell ha u2
  · rcases hg' with hg' | hg'
    · omega
    · exact h.away g' (.inr hg')
def newLists (B : Nat) (x : NodeD) : Prop := (∀ b off, x.aA = some ⟨b, off, none⟩ → B ≤ b) ∧ (∀ b off, x.kA = some ⟨b, off, none⟩ → B ≤ b)
theorem newLists.away {B g : Nat} {x : NodeD} (h : newLists B x) (hg : g < B) : NodeAway g x := ⟨fun b off ha _ e => by have := h.1 b off ha; omega, fun b off ha _ e => by have := h.2 b off ha; omega⟩
theorem own_free {w : World} {base : Nat} {e : TypeId} {size g n cap : Nat} {xs : List Value} (h : w.ownsRow base e size (.slice (some ⟨g, 0, none⟩) n cap) n xs) (j : Nat) : w.frozen? ⟨g, j, none⟩ = false := by
  rcases h.2 with ⟨hv, _⟩ | ⟨g', cap', cur, hv, hb, hg, _⟩
  · cases hv
  · injection hv with hv1
    injection hv1 with hv1
    injection hv1 with hv1
    subst hv1
    exact row_free hg j
theorem Copy.start {w w0 W : World} {v : Value} {n : Nat} {L : List NodeD} (hl : L.length = n) (hok : ∀ x ∈ L, NodeOk w x) (hb : Below w.heap.size w w0) (hb2 : Below w0.heap.size w0 W) (h : W.ownsRow w0.heap.size 36 10 v L.length (L.flatMap encN)) : Copy w.heap.size w0 W v n L (coreL L) := by
  refine ⟨hl ▸ h, hl, rfl, fun x hx => ((hok x hx).below hb).below hb2, fun g hg x hx => ?_, hb2⟩
  rcases hg with hg | hg
  · exact (hok x hx).away hg.1
  rcases h.2 with ⟨rfl, _⟩ | ⟨g', cap, cur, rfl, hlo, _⟩
  · cases hg
  · injection hg with hg
    have hg2 : g' = g := hg
    subst hg2
    exact (hok x hx).away (Nat.le_trans hb.size hlo)
structure CopyIn (lo : Nat) (w W : World) (g n cap k : Nat) (M : List NodeD) (F : List Core) (b : Nat) (x : NodeD) : Prop where
  copy : Copy lo w W (.slice (some ⟨g, 0, none⟩) n cap) n M F
  low : w.heap.size ≤ g
  hx : M[k]? = some x
  lt : b < W.heap.size
  c4 : W.cell? ⟨b, 4, none⟩ = some (.slice x.aA x.aN x.aC)
  c6 : W.cell? ⟨b, 6, none⟩ = some (.slice x.kA x.kN x.kC)
theorem CopyIn.keep {lo : Nat} {w W W2 : World} {g n cap k : Nat} {M : List NodeD} {F : List Core} {b : Nat} {x : NodeD} (h : CopyIn lo w W g n cap k M F b x) (hb : Below W.heap.size W W2) : CopyIn lo w W2 g n cap k M F b x :=
  ⟨h.copy.keep hb, h.low, h.hx, Nat.lt_of_lt_of_le h.lt hb.size, (hb.cell (p := ⟨b, 4, none⟩) h.lt).trans h.c4, (hb.cell (p := ⟨b, 6, none⟩) h.lt).trans h.c6⟩
theorem CopyIn.ok {lo : Nat} {w W : World} {g n cap k : Nat} {M : List NodeD} {F : List Core} {b : Nat} {x : NodeD} (h : CopyIn lo w W g n cap k M F b x) : NodeOk W x := h.copy.ok x (List.mem_of_getElem? h.hx)
theorem CopyIn.at {lo : Nat} {w W : World} {g n cap k : Nat} {M : List NodeD} {F : List Core} {b : Nat} {x : NodeD} (h : CopyIn lo w W g n cap k M F b x) : NodeAt W g (k * 10) x := by
  obtain ⟨a, cap', he, hr, _⟩ := h.copy.row
  injection he with e1 e2 e3
  subst e1
  have hk : k < n := by
    have := (List.getElem?_eq_some_iff.1 h.hx).1
    rw [h.copy.hl] at this
    exact this
  obtain ⟨b', off, y, hab, _, hy, hat, _⟩ := hr.get hk
  injection hab with hab
  injection hab with e1 e2
  subst e1 e2
  obtain rfl : x = y := Option.some.inj (h.hx.symm.trans hy)
  rwa [Nat.zero_add] at hat
structure ForBox (w W : World) (g a : Nat) (m : Int) : Prop where
  lt : g < W.heap.size
  c0 : W.cell? ⟨g, 0, none⟩ = some (.slice none 0 0)
  c1 : W.cell? ⟨g, 1, none⟩ = some (.int .i64 0)
  f0 : W.frozen? ⟨g, 0, none⟩ = false
  f1 : W.frozen? ⟨g, 1, none⟩ = false
  d1 : W.cell? ⟨a, 1, none⟩ = some (.int .i64 m)
theorem ForBox.keep {w W W2 : World} {g a : Nat} {m : Int} (h : ForBox w W g a m) (ha : a < W.heap.size) (hb : Below W.heap.size W W2) : ForBox w W2 g a m :=
  ⟨Nat.lt_of_lt_of_le h.lt hb.size, (hb.cell (p := ⟨g, 0, none⟩) h.lt).trans h.c0, (hb.cell (p := ⟨g, 1, none⟩) h.lt).trans h.c1, (hb.frozen (p := ⟨g, 0, none⟩) h.lt).trans h.f0, (hb.frozen (p := ⟨g, 1, none⟩) h.lt).trans h.f1, (hb.cell (p := ⟨a, 1, none⟩) ha).trans h.d1⟩
end Go.Proofs.YtkfmengdffpcnaaGreatDoor
namespace Go.Proofs.YtkfmengdffpcnaaGreatDoor
open Go.RowKit
attribute [local go_sem ↓] Go.wp_at_zero Go.wp_at_succ
theorem NodeRow.drew {w : World} {a : Option Addr} {len cap : Nat} {L : List NodeD} (h : NodeRow w a len cap L) : NodeRow w.drew a len cap L := h.below (Below.refl _ _).drew
abbrev zeroFB : Obj := .cells #[.slice none 0 0, .int .i64 0] 24
structure Box2 (W : World) (g : Nat) (u v : Value) : Prop where
  lt : g < W.heap.size
  c0 : W.cell? ⟨g, 0, none⟩ = some u
  c1 : W.cell? ⟨g, 1, none⟩ = some v
  f0 : W.frozen? ⟨g, 0, none⟩ = false
  f1 : W.frozen? ⟨g, 1, none⟩ = false
theorem Box2.keep {W W2 : World} {g : Nat} {u v : Value} (h : Box2 W g u v) (hb : Below W.heap.size W W2) : Box2 W2 g u v :=
  ⟨Nat.lt_of_lt_of_le h.lt hb.size, (hb.cell (p := ⟨g, 0, none⟩) h.lt).trans h.c0, (hb.cell (p := ⟨g, 1, none⟩) h.lt).trans h.c1, (hb.frozen (p := ⟨g, 0, none⟩) h.lt).trans h.f0, (hb.frozen (p := ⟨g, 1, none⟩) h.lt).trans h.f1⟩
theorem Box2.new (W : World) (u v : Value) (t : TypeId) : Box2 (W.alloc (.cells #[u, v] t)) W.heap.size u v :=
  ⟨by simp, cell_of_row _ _ 0 _ t (0, 0) (heap_alloc_new W _), cell_of_row _ _ 1 _ t (0, 0) (heap_alloc_new W _), row_free (heap_alloc_new W (.cells #[u, v] t)) 0, row_free (heap_alloc_new W (.cells #[u, v] t)) 1⟩
theorem Box2.grown {W W2 : World} {g : Nat} {u v : Value} {row : Option Nat} (h : Box2 W g u v) (hg : W.grownBy W2 row) (hne : some g ≠ row) : Box2 W2 g u v := by
  have e := hg.block g h.lt hne
  exact ⟨Nat.lt_of_lt_of_le h.lt hg.size, (World.cell?_of_block (a := ⟨g, 0, none⟩) e).trans h.c0, (World.cell?_of_block (a := ⟨g, 1, none⟩) e).trans h.c1, (World.frozen?_of_block (a := ⟨g, 0, none⟩) e).trans h.f0, (World.frozen?_of_block (a := ⟨g, 1, none⟩) e).trans h.f1⟩
structure MakeSt (w W : World) (a : Option Addr) (len cap : Nat) (m : Int) (L : List NodeD) (x : NodeD) : Prop where
  box : Box w W w.heap.size a len cap m L (coreL L)
  node : NBox w W (w.heap.size + 1) x
  res : Box2 W (w.heap.size + 2) (.slice none 0 0) (.int .i64 0)
theorem MakeSt.keep {w W W2 : World} {a : Option Addr} {len cap : Nat} {m : Int} {L : List NodeD} {x : NodeD} (h : MakeSt w W a len cap m L x) (hb : Below W.heap.size W W2) : MakeSt w W2 a len cap m L x := ⟨h.box.keep hb, h.node.keep hb, h.res.keep hb⟩
theorem MakeSt.start {w : World} {a : Option Addr} {len cap : Nat} {m : Int} {L : List NodeD} {x : NodeD} (h : NodeRow w a len cap L) (hx : NodeOk w x) : MakeSt w (((w.alloc (forB a len cap m)).alloc (nodB x)).alloc zeroFB) a len cap m L x := by
  refine ⟨((Box.start h).keep (below_box _ _)).keep (below_box _ _), (NBox.next hx).keep (below_box _ _), ?_⟩
  have := Box2.new ((w.alloc (forB a len cap m)).alloc (nodB x)) (.slice none 0 0) (.int .i64 0) 24
  rwa [show ((w.alloc (forB a len cap m)).alloc (nodB x)).heap.size = w.heap.size + 2 by simp] at this
theorem own_boxCell {w : World} {base : Nat} {e : TypeId} {size n g o : Nat} {v : Value} {xs : List Value} (h : w.ownsRow base e size v n xs) (hne : v.ownBlock ≠ some g) (u : Value) : (w.setCell ⟨g, o, none⟩ u).ownsRow base e size v n xs := by
  refine ⟨h.1, ?_⟩
  rcases h.2 with h0 | ⟨g', cap, cur, hv, hb, hg', h3⟩
  · exact .inl h0
  · refine .inr ⟨g', cap, cur, hv, hb, (Below.heap_setCell _ _ _ g' (fun e => hne ?_)).trans hg', h3⟩
    have e2 : g' = g := e
    rw [hv, ← e2]
    rfl
theorem Copy.boxCell {lo : Nat} {w W : World} {v : Value} {n : Nat} {M : List NodeD} {F : List Core} (h : Copy lo w W v n M F) {g o : Nat} (hne : v.ownBlock ≠ some g) (haw : ∀ x ∈ M, NodeAway g x) (hb : ∀ u, Below w.heap.size w (W.setCell ⟨g, o, none⟩ u)) (u : Value) : Copy lo w (W.setCell ⟨g, o, none⟩ u) v n M F :=
  ⟨own_boxCell h.own hne u, h.hl, h.core, fun x hx => (h.ok x hx).setCell (haw x hx) u, h.away, hb u⟩
structure MakeCp (w w0 W : World) (len : Nat) (m : Int) (F : List Core) (q : Nat) (v : Value) (M : List NodeD) : Prop where
  copy : Copy w0.heap.size w0 W v len M F
  g : Box2 W q v (.int .i64 m)
  low : w0.heap.size ≤ q
  ne : v.ownBlock ≠ some q
  aq : ∀ y ∈ M, NodeAway q y
  ar : ∀ y ∈ M, NodeAway (w.heap.size + 2) y
theorem MakeCp.keep {w w0 W W2 : World} {len : Nat} {m : Int} {F : List Core} {q : Nat} {v : Value} {M : List NodeD} (h : MakeCp w w0 W len m F q v M) (hb : Below W.heap.size W W2) : MakeCp w w0 W2 len m F q v M :=
  ⟨h.copy.keep hb, h.g.keep hb, h.low, h.ne, h.aq, h.ar⟩
theorem Box2.set {W : World} {g : Nat} {u v : Value} (h : Box2 W g u v) (u2 v2 : Value) : Box2 ((W.setCell ⟨g, 0, none⟩ u2).setCell ⟨g, 1, none⟩ v2) g u2 v2 := by
  have e1 : (W.setCell ⟨g, 0, none⟩ u2).cell? ⟨g, 1, none⟩ = some v := by rw [World.cell?_setCell_other _ _ _ _ (fun e => by injection e with _ e; exact absurd e (by decide))]; exact h.c1
  refine ⟨by simpa [World.setCell] using h.lt, ?_, World.cell?_setCell_same _ _ _ e1, by rw [World.frozen?_setCell, World.frozen?_setCell]; exact h.f0, by rw [World.frozen?_setCell, World.frozen?_setCell]; exact h.f1⟩
  rw [World.cell?_setCell_other _ _ _ _ (fun e => by injection e with _ e; exact absurd e (by decide))]
  exact World.cell?_setCell_same _ _ _ h.c0
theorem own_not {w : World} {base : Nat} {e : TypeId} {size n g : Nat} {v : Value} {xs : List Value} (h : w.ownsRow base e size v n xs) (hg : g < base) : v.ownBlock ≠ some g := fun e => by
  have := (h.lt g e).1
  omega
theorem MakeCp.finish {w w0 W : World} {len : Nat} {m : Int} {F : List Core} {q : Nat} {v : Value} {M : List NodeD} (h : MakeCp w w0 W len m F q v M) (hsz : w.heap.size + 3 = w0.heap.size) (hb : Below w.heap.size w w0) (u1 u2 : Value) :
    ∃ a cap, v = .slice a len cap ∧ NodeRow ((W.setCell ⟨w.heap.size + 2, 0, none⟩ u1).setCell ⟨w.heap.size + 2, 1, none⟩ u2) a len cap M ∧ coreL M = F ∧ Below w.heap.size w ((W.setCell ⟨w.heap.size + 2, 0, none⟩ u1).setCell ⟨w.heap.size + 2, 1, none⟩ u2) := by
  have hne : v.ownBlock ≠ some (w.heap.size + 2) := own_not h.copy.own (by omega)
  have c2 : Copy w.heap.size w ((W.setCell ⟨w.heap.size + 2, 0, none⟩ u1).setCell ⟨w.heap.size + 2, 1, none⟩ u2) v len M F :=
    ⟨own_base (own_boxCell (own_boxCell h.copy.own hne _) hne _) hb.size, h.copy.hl, h.copy.core, fun x hx => ((h.copy.ok x hx).setCell (h.ar x hx) _).setCell (h.ar x hx) _, fun g hg => by
      rcases hg with hg | hg
      · omega
      · exact h.copy.away g (.inr hg), ((hb.trans (h.copy.below.mono hb.size)).setCell (p := ⟨w.heap.size + 2, 0, none⟩) (by show w.heap.size ≤ w.heap.size + 2; omega) _).setCell (p := ⟨w.heap.size + 2, 1, none⟩) (by show w.heap.size ≤ w.heap.size + 2; omega) _⟩
  obtain ⟨a, cap, hv, hr, _⟩ := c2.row
  exact ⟨a, cap, hv, hr, h.copy.core, c2.below⟩
theorem SRow.grown {α : Type} {enc : α → List Value} {size : Nat} {w w' : World} {a : Option Addr} {len cap : Nat} {L : List α} {row : Option Nat} (h : SRow enc size w a len cap L) (hg : w.grownBy w' row) (hne : ∀ b off, a = some ⟨b, off, none⟩ → 0 < len → some b ≠ row) : SRow enc size w' a len cap L :=
  h.keep hg.size (fun b off ha hp o => by
    rcases h.cells with h0 | ⟨b', off', ha', hlt, _⟩
    · omega
    · rw [ha] at ha'
      injection ha' with ha'
      injection ha' with e1
      subst e1
      exact World.cell?_of_block (a := ⟨b, o, none⟩) (hg.block b hlt (hne b off ha hp)))
theorem NodeOk.grown {w w' : World} {x : NodeD} {row : Option Nat} (h : NodeOk w x) (hg : w.grownBy w' row) (ha : ∀ g, row = some g → NodeAway g x) : NodeOk w' x :=
  ⟨⟨h.attrs.row.grown hg (fun b off he hp e => (ha b e.symm).1 b off he hp rfl), h.attrs.small, h.attrs.hnil⟩, ⟨h.kids.row.grown hg (fun b off he hp e => (ha b e.symm).2 b off he hp rfl), h.kids.inb, h.kids.hnil⟩, h.name, h.is, h.data, h.kind, h.parent, h.host, h.under, h.doc⟩
theorem MakeCp.grown {w w0 W W2 : World} {len : Nat} {m : Int} {F : List Core} {q : Nat} {v : Value} {M : List NodeD} (h : MakeCp w w0 W len m F q v M) (hg : W.grownBy W2 v.ownBlock) (ho : W2.ownsRow w0.heap.size 36 10 v len (M.flatMap encN)) : MakeCp w w0 W2 len m F q v M :=
  ⟨⟨ho, h.copy.hl, h.copy.core, fun x hx => (h.copy.ok x hx).grown hg (fun g e => h.copy.away g (.inr e) x hx), h.copy.away, h.copy.below.grown hg h.copy.below.size (fun k e => (h.copy.own.lt k e).1)⟩, h.g.grown hg (fun e => h.ne e.symm), h.low, h.ne, h.aq, h.ar⟩
structure NewRow (w w0 W : World) (len : Nat) (q g cap : Nat) (M : List NodeD) (y : NodeD) : Prop where
  own : W.ownsRow w0.heap.size 36 10 (.slice (some ⟨g, 0, none⟩) (len + 1) cap) (len + 1) ((M ++ [y]).flatMap encN)
  hl : M.length = len
  ok : ∀ z ∈ M ++ [y], NodeOk W z
  nq : g ≠ q
  aq : ∀ z ∈ M ++ [y], NodeAway q z
  ar : ∀ z ∈ M ++ [y], NodeAway (w.heap.size + 2) z
theorem NewRow.keep {w w0 W W2 : World} {len q g cap : Nat} {M : List NodeD} {y : NodeD} (h : NewRow w w0 W len q g cap M y) (hb : Below W.heap.size W W2) : NewRow w w0 W2 len q g cap M y :=
  ⟨own_below h.own hb, h.hl, fun z hz => (h.ok z hz).below hb, h.nq, h.aq, h.ar⟩
theorem NewRow.row {w w0 W : World} {len q g cap : Nat} {M : List NodeD} {y : NodeD} (h : NewRow w w0 W len q g cap M y) : NodeRow W (some ⟨g, 0, none⟩) (len + 1) cap (M ++ [y]) := by
  obtain ⟨a, cap', he, hr, _⟩ := SRow.of_own (L := M ++ [y]) (fun x _ => encN_len x) (by rw [List.length_append, h.hl]; rfl) h.own
  injection he with h1 h2 h3
  subst h1; subst h3
  exact ⟨hr, h.ok, fun h => by cases h⟩
theorem NewRow.new {w w0 W W2 : World} {len : Nat} {m : Int} {F : List Core} {q g cap : Nat} {v : Value} {M : List NodeD} {y : NodeD} (h : MakeCp w w0 W len m F q v M) (hy : NodeOk W y) {B : Nat} (hya : ∀ b off, y.aA = some ⟨b, off, none⟩ → B ≤ b) (hyk : y.kA = none) (hqB : q < B) (hvB : ∀ k, v.ownBlock = some k → k < B) (hsz : w.heap.size + 3 = w0.heap.size)
    (ho : W2.ownsRow w0.heap.size 36 10 (.slice (some ⟨g, 0, none⟩) (len + 1) cap) (len + 1) (M.flatMap encN ++ encN y)) (hg : W.grownBy W2 v.ownBlock) (hat : v.ownBlock = some g ∨ g = W.heap.size) : NewRow w w0 W2 len q g cap M y := by
  have away : ∀ k, k < B → NodeAway k y := fun k hk => ⟨fun b off hb _ e => by have := hya b off hb; omega, fun b off hb => by rw [hyk] at hb; cases hb⟩
  have hlow := h.low
  refine ⟨by simpa using ho, h.copy.hl, fun z hz => ?_, ?_, fun z hz => ?_, fun z hz => ?_⟩
  · rcases List.mem_append.1 hz with hz | hz
    · exact (h.copy.ok z hz).grown hg (fun k e => h.copy.away k (.inr e) z hz)
    · obtain rfl : z = y := by simpa using hz
      exact hy.grown hg (fun k e => away k (hvB k e))
  · rcases hat with hat | hat
    · intro e
      exact h.ne (by rw [hat, e])
    · have := h.g.lt
      omega
  · rcases List.mem_append.1 hz with hz | hz
    · exact h.aq z hz
    · obtain rfl : z = y := by simpa using hz
      exact away q hqB
  · rcases List.mem_append.1 hz with hz | hz
    · exact h.ar z hz
    · obtain rfl : z = y := by simpa using hz
      exact away _ (by omega)
theorem NewRow.finish {w w0 W : World} {len q g cap : Nat} {M : List NodeD} {y : NodeD} (h : NewRow w w0 W len q g cap M y) (hsz : w.heap.size + 3 = w0.heap.size) (hq : w0.heap.size ≤ q) (hb : Below w.heap.size w w0) (hb2 : Below w0.heap.size w0 W) (u0 u1 u2 : Value) :
    NodeRow (((W.setCell ⟨q, 0, none⟩ u0).setCell ⟨w.heap.size + 2, 0, none⟩ u1).setCell ⟨w.heap.size + 2, 1, none⟩ u2) (some ⟨g, 0, none⟩) (len + 1) cap (M ++ [y]) ∧ Below w.heap.size w (((W.setCell ⟨q, 0, none⟩ u0).setCell ⟨w.heap.size + 2, 0, none⟩ u1).setCell ⟨w.heap.size + 2, 1, none⟩ u2) := by
  have n1 : (Value.slice (some ⟨g, 0, none⟩) (len + 1) cap).ownBlock ≠ some q := fun e => h.nq (by injection e)
  have n2 : (Value.slice (some ⟨g, 0, none⟩) (len + 1) cap).ownBlock ≠ some (w.heap.size + 2) := own_not h.own (by omega)
  have c2 : NewRow w w0 (((W.setCell ⟨q, 0, none⟩ u0).setCell ⟨w.heap.size + 2, 0, none⟩ u1).setCell ⟨w.heap.size + 2, 1, none⟩ u2) len q g cap M y :=
    ⟨own_boxCell (own_boxCell (own_boxCell h.own n1 _) n2 _) n2 _, h.hl, fun z hz => (((h.ok z hz).setCell (h.aq z hz) _).setCell (h.ar z hz) _).setCell (h.ar z hz) _, h.nq, h.aq, h.ar⟩
  exact ⟨c2.row, (((hb.trans (hb2.mono hb.size)).setCell (p := ⟨q, 0, none⟩) (by show w.heap.size ≤ q; omega) _).setCell (p := ⟨w.heap.size + 2, 0, none⟩) (by show w.heap.size ≤ w.heap.size + 2; omega) _).setCell (p := ⟨w.heap.size + 2, 1, none⟩) (by show w.heap.size ≤ w.heap.size + 2; omega) _⟩
end Go.Proofs.YtkfmengdffpcnaaGreatDoor
namespace Go.Proofs.YtkfmengdffpcnaaGreatDoor
open Go.RowKit
def zeroD : NodeD := ⟨⟨0, ⟨#[]⟩, ⟨#[]⟩, ⟨#[]⟩, [], 0, [], 0, 0, 0⟩, none, 0, 0, none, 0, 0⟩
theorem zeroD_ok (w : World) : NodeOk w zeroD := by
  refine ⟨⟨SRow.nil, (fun z hz => by cases hz), fun _ => rfl⟩, ⟨SRow.nil, (fun z hz => by cases hz), fun _ => rfl⟩, ?_, ?_, ?_, ?_, ?_, ?_, ?_, ?_⟩
  · show 0 ≤ maxLen; decide
  · show 0 ≤ maxLen; decide
  · show 0 ≤ maxLen; decide
  all_goals exact ⟨by show (_ : Int) ≤ 0; decide, by show (0 : Int) ≤ _; decide⟩
theorem right_doc (m : Int) : rightF m [docC] = newOk m := by
  have h : ([docC].zipIdx.all (fun p => nodeOk [docC] p.2 p.1) && (List.range [docC].length).all (fun i => endsZ (nextUp [docC]) ([docC].length + 1) (i : Int)) && headDoc [docC]) = true := by decide +kernel
  simp only [Bool.and_eq_true] at h
  unfold rightF newOk
  rw [h.1.1, h.1.2, h.2, Bool.eq_iff_iff]
  simp
  omega
theorem doc_small {y : NodeD} (h : y.core = docC) : smallF [y] := by
  refine ⟨by simp, fun x hx => ?_⟩
  obtain rfl : x = y := by simpa using hx
  unfold smallN
  rw [h]
  exact ⟨by decide, by decide, by decide⟩
theorem NodeRow.boxCell {w : World} {b o g len cap : Nat} {L : List NodeD} (h : NodeRow w (some ⟨b, o, none⟩) len cap L) (hne : b ≠ g) (ha : ∀ x ∈ L, NodeAway g x) (o2 : Nat) (u : Value) : NodeRow (w.setCell ⟨g, o2, none⟩ u) (some ⟨b, o, none⟩) len cap L :=
  ⟨h.row.keep (by simp [World.setCell]) (fun b' off e _ o' => World.cell?_setCell_other _ _ _ _ (fun e2 => hne (by injection e with e; injection e with e; injection e2 with e2; omega))), fun x hx => (h.ok x hx).setCell (ha x hx) u, h.hnil⟩
set_option maxHeartbeats 8000000 in
set_option maxRecDepth 100000 in
theorem newFn_any (most : Int) (w : World) (hm : In64 most) : Calls Tryz.prog 37 #[.int .i64 most] w (ForPost w (newL most) (newM most) [.int .i64 (newE most)]) := by
  have HM := Lib.hid hm
  have CA : Hid (∀ W, Calls Tryz.prog 64 #[nodVal zeroD, .int .i64 0] W (AlonePost W zeroD.core 0)) := Lib.hid (fun W => alone_any zeroD 0 W (zeroD_ok W) ⟨by decide, by decide⟩ (by decide))
  have B0 := Lib.hid (Box2.new w (.slice none 0 0) (.int .i64 0) 24)
  clear hm
  go_enter Tryz.func37, Tryz.ntmps37
  go_wp2_with (go_at_call 64; refine (CA.out _).mono ?_; intro e w1 hp; obtain ⟨y, rfl, hyc, hyo, hb, hya, hyk⟩ := hp; have HY := Lib.hid hyo; have HYC := Lib.hid hyc; have HB := Lib.hid hb; have HYA := Lib.hid hya; have HYK := Lib.hid hyk; have B1 := Lib.hid (B0.out.keep hb); clear hyo hyc hb hya hyk)
  obtain ⟨W, hW, RW, BR, BG, BW⟩ : ∃ W, (w1.alloc (nodB y)).alloc (.cells #[.slice (some ⟨w1.heap.size, 0, none⟩) 1 1, .int .i64 most] 24) = W ∧ NodeRow W (some ⟨w1.heap.size, 0, none⟩) 1 1 [y] ∧ Box2 W w.heap.size (.slice none 0 0) (.int .i64 0) ∧ Box2 W (w1.heap.size + 1) (.slice (some ⟨w1.heap.size, 0, none⟩) 1 1) (.int .i64 most) ∧ Below w.heap.size w W := by
    have h1 : NodeRow (w1.alloc (nodB y)) (some ⟨w1.heap.size, 0, none⟩) 1 1 [y] := ⟨own_one w1 36 y (encN y).toArray (by simp) rfl, (fun z hz => by
      obtain rfl : z = y := by simpa using hz
      exact HY.out.below (below_box _ _)), fun h => by cases h⟩
    have hs : (w1.alloc (nodB y)).heap.size = w1.heap.size + 1 := by simp
    have h2 := Box2.new (w1.alloc (nodB y)) (.slice (some ⟨w1.heap.size, 0, none⟩) 1 1) (.int .i64 most) 24
    rw [hs] at h2
    exact ⟨_, rfl, h1.below (below_box _ _), (B1.out.keep (below_box _ _)).keep (below_box _ _), h2, ((below_box w _).trans ((HB.out.mono (by simp)).trans (((below_box w1 _).trans ((below_box _ _).mono (by simp))).mono (by have := HB.out.size; simp at this; omega))))⟩
  rw [hW]
  have RW := Lib.hid RW
  have BR := Lib.hid BR
  have BG := Lib.hid BG
  have BW := Lib.hid BW
  have CR : Hid (Calls Tryz.prog 20 #[forV (some ⟨w1.heap.size, 0, none⟩) 1 1 most] W fun e w' => e = .returned (.bool (newOk most)) ∧ Below W.heap.size W w') := Lib.hid (by
    have hc : coreL [y] = [docC] := by unfold coreL; rw [List.map_cons, List.map_nil, HYC.out]; rfl
    have := rightF_any (some ⟨w1.heap.size, 0, none⟩) 1 1 most [y] W RW.out HM.out (doc_small (by rw [HYC.out]; rfl))
    rwa [hc, right_doc] at this)
  clear hW
  cases hn : newOk most with
  | false =>
    rw [hn] at CR
    have HN : Hid (newL most = [] ∧ newM most = 0 ∧ newE most = 1) := Lib.hid (by unfold newL newM newE; rw [hn]; exact ⟨rfl, rfl, rfl⟩)
    clear hn
    go_wp2_with (refine CR.out.mono ?_; rintro e w2 ⟨rfl, hb⟩; have BR := Lib.hid (BR.out.keep hb); have BG := Lib.hid (BG.out.keep hb); have BW := Lib.hid (BW.out.trans (hb.mono BW.out.size)); have e0 := BR.out.c0; have e1 := BR.out.c1; have g0 := BR.out.f0; have g1 := BR.out.f1; clear hb)
    rw [HN.out.1, HN.out.2.1, HN.out.2.2]
    refine bodyPost_ret (v := .tuple #[forV none 0 0 0, .int .i64 1]) ?_ rfl ⟨none, 0, 0, [], rfl, ⟨SRow.nil, (fun x hx => by cases hx), fun _ => rfl⟩, rfl, (BW.out.setCell (p := ⟨w.heap.size, 0, none⟩) (Nat.le_refl _) _).setCell (p := ⟨w.heap.size, 1, none⟩) (Nat.le_refl _) _⟩
    simp [results, Tryz.results37, go_sem, e0, e1]
  | true =>
    rw [hn] at CR
    have HN : Hid (newL most = [docC] ∧ newM most = most ∧ newE most = 0) := Lib.hid (by unfold newL newM newE; rw [hn]; exact ⟨rfl, rfl, rfl⟩)
    have HNE : Hid (w1.heap.size ≠ w.heap.size) := Lib.hid (by have := HB.out.size; simp at this; omega)
    have HAW : Hid (∀ x ∈ [y], NodeAway w.heap.size x) := Lib.hid (fun x hx => by
      obtain rfl : x = y := by simpa using hx
      refine ⟨fun b off hb _ e => ?_, fun b off hb => by rw [HYK.out] at hb; cases hb⟩
      have := HYA.out b off hb
      simp at this
      omega)
    clear hn
    go_wp2_with (refine CR.out.mono ?_; rintro e w2 ⟨rfl, hb⟩; have BR := Lib.hid (BR.out.keep hb); have BG := Lib.hid (BG.out.keep hb); have BW := Lib.hid (BW.out.trans (hb.mono BW.out.size)); have RW := Lib.hid (RW.out.below hb); have d0 := BG.out.c0; have d1 := BG.out.c1; have e0 := BR.out.c0; have e1 := BR.out.c1; have g0 := BR.out.f0; have g1 := BR.out.f1; clear hb)
    rw [HN.out.1, HN.out.2.1, HN.out.2.2]
    refine bodyPost_ret (v := .tuple #[forV (some ⟨w1.heap.size, 0, none⟩) 1 1 most, .int .i64 0]) ?_ rfl ⟨_, 1, 1, [y], rfl, (RW.out.boxCell HNE.out HAW.out 0 _).boxCell HNE.out HAW.out 1 _, by unfold coreL; rw [List.map_cons, List.map_nil, HYC.out]; rfl, (BW.out.setCell (p := ⟨w.heap.size, 0, none⟩) (Nat.le_refl _) _).setCell (p := ⟨w.heap.size, 1, none⟩) (Nat.le_refl _) _⟩
    simp [results, Tryz.results37, go_sem, e0, e1]
end Go.Proofs.YtkfmengdffpcnaaGreatDoor
