/- Texts joined in build order: ForestClone. -/
import Derived.Test.YtnjoimedilonnaaGreatC21
import Derived.Test.YtnjoimedilonnaaGreatC18
import Derived.Deep.RegionHeld3
import Derived.Deep.DrawnRows
namespace Go.Proofs.YtnjoimedilonnaaGreat
open Go.RowKit
attribute [local go_sem ↓] Go.wp_at_zero Go.wp_at_succ
theorem node_info : (Tryz.prog.info? 37).map (fun i => (i.zero, i.size, i.bytes)) = some (some (.agg #[.int .i64 0, .string ⟨#[]⟩, .string ⟨#[]⟩, .string ⟨#[]⟩, .slice none 0 0, .int .i64 0, .slice none 0 0, .int .i64 0, .int .i64 0, .int .i64 0]), 10, 136) := by kernel_rfl
def OwnPostI (w : World) (L : List Int) (e : Ending) (w' : World) : Prop := ∃ v, e = .returned v ∧ w'.ownsRow w.heap.size 3 1 v L.length (L.flatMap encZ) ∧ Below w.heap.size w w'
def OwnPostN (w : World) (L : List NodeD) (e : Ending) (w' : World) : Prop := ∃ v, e = .returned v ∧ w'.ownsRow w.heap.size 37 10 v L.length (L.flatMap encN) ∧ Below w.heap.size w w'
set_option maxHeartbeats 4000000 in
theorem cloneI_any (a : Option Addr) (len cap : Nat) (L : List Int) (w : World) (h : IntRow w a len cap L) (h40 : len ≤ 1000000) :
    Calls Tryz.prog 55 #[.slice a len cap] w (OwnPostI w L) := by
  obtain ⟨i0, hi0, hz0, hz1, hz2⟩ := info_parts int_info
  have HL := Lib.hid h.hlen
  have q22 : ∀ (w : World) (a : Option Addr) (n c n' c' : Nat), (binOp .eql 27 (.slice a n c) (.slice none n' c')).run Tryz.prog w = .ok (.bool a.isNone) w := fun w a n c n' c' => Lib.run_eql_slice_nil w _ _ a n c n' c' Tryz.underlying27
  rcases a with _ | ad
  · have hc : cap = 0 := h.hnil rfl
    have h0 : len = 0 := by have := h.row.hcap; omega
    have hLn : L = [] := List.eq_nil_of_length_eq_zero (by rw [h.hlen, h0])
    subst hc; subst h0; subst hLn
    clear h
    go_enter Tryz.func55, Tryz.ntmps55
    go_wp2
    go_ret
    exact ⟨_, rfl, World.ownsRow_nil _ _ _ _, Below.refl _ _⟩
  · have H := Lib.hid h
    have HE := Lib.hid (own_empty (α := Int) (enc := encZ) (size := 1) w w.heap.size 3 (Nat.le_refl _))
    clear h
    go_enter Tryz.func55, Tryz.ntmps55
    go_wp2_with (first
      | (at_builtin
         refine wpList_append_rows rfl (.tmp 5) (.tmp 6) 27 rfl 3 i0 _ 1 8 Tryz.underlying27 hi0 hz0 hz1 hz2 rfl (by decide) w.heap.size _ 0 _ L rfl HE.out (some ad) len cap rfl (H.out.below ((Below.refl _ _).alloc (Nat.le_refl _) _)).row (fun x _ => encZ_one x) (by unfold maxLen; omega) (by omega) (by simp) (fun h => by cases h) ?_
         intro v2 w2 hown2 hg2 hat2
         have HB2 := below_new (Below.refl _ _) hg2
         have HO2 := Lib.hid hown2
         clear hown2 hg2 hat2))
    go_ret
    refine ⟨_, rfl, ?_, HB2⟩
    have := HO2.out
    rw [HL.out]
    simpa using this
set_option maxHeartbeats 4000000 in
theorem cloneN_any (a : Option Addr) (len cap : Nat) (L : List NodeD) (w : World) (h : NodeRow w a len cap L) (h40 : len ≤ 1000000) :
    Calls Tryz.prog 54 #[.slice a len cap] w (OwnPostN w L) := by
  obtain ⟨i0, hi0, hz0, hz1, hz2⟩ := info_parts node_info
  have HL := Lib.hid h.hlen
  have q22 : ∀ (w : World) (a : Option Addr) (n c n' c' : Nat), (binOp .eql 22 (.slice a n c) (.slice none n' c')).run Tryz.prog w = .ok (.bool a.isNone) w := fun w a n c n' c' => Lib.run_eql_slice_nil w _ _ a n c n' c' Tryz.underlying22
  rcases a with _ | ad
  · have hc : cap = 0 := h.hnil rfl
    have h0 : len = 0 := by have := h.row.hcap; omega
    have hLn : L = [] := List.eq_nil_of_length_eq_zero (by rw [h.hlen, h0])
    subst hc; subst h0; subst hLn
    clear h
    go_enter Tryz.func54, Tryz.ntmps54
    go_wp2
    go_ret
    exact ⟨_, rfl, World.ownsRow_nil _ _ _ _, Below.refl _ _⟩
  · have H := Lib.hid h
    have HE := Lib.hid (own_empty (α := NodeD) (enc := encN) (size := 10) w w.heap.size 37 (Nat.le_refl _))
    clear h
    go_enter Tryz.func54, Tryz.ntmps54
    go_wp2_with (first
      | (at_builtin
         refine wpList_append_rows rfl (.tmp 5) (.tmp 6) 22 rfl 37 i0 _ 10 136 Tryz.underlying22 hi0 hz0 hz1 hz2 rfl (by decide) w.heap.size _ 0 _ L rfl HE.out (some ad) len cap rfl (H.out.below ((Below.refl _ _).alloc (Nat.le_refl _) _)).row (fun x _ => encN_one x) (by unfold maxLen; omega) (by omega) (by simp) (fun h => by cases h) ?_
         intro v2 w2 hown2 hg2 hat2
         have HB2 := below_new (Below.refl _ _) hg2
         have HO2 := Lib.hid hown2
         clear hown2 hg2 hat2))
    go_ret
    refine ⟨_, rfl, ?_, HB2⟩
    have := HO2.out
    rw [HL.out]
    simpa using this
theorem IntRow.of_own_new {w : World} {base : Nat} {v : Value} {n : Nat} {M : List Int} (hl : M.length = n) (h : w.ownsRow base 3 1 v n (M.flatMap encZ)) (hs : ∀ x ∈ M, In64 x) :
    ∃ a cap, v = .slice a n cap ∧ IntRow w a n cap M ∧ ∀ b off, a = some ⟨b, off, none⟩ → base ≤ b := by
  rcases h.2 with ⟨rfl, h0⟩ | ⟨g, cap, cur, rfl, _⟩
  · subst h0
    have hL : M = [] := List.eq_nil_of_length_eq_zero hl
    subst hL
    exact ⟨none, 0, rfl, ⟨SRow.nil, hs, fun _ => rfl⟩, fun b off h => by cases h⟩
  · obtain ⟨a, cap', he, hr, hb⟩ := SRow.of_own (fun x _ => encZ_len x) hl h
    injection he with h1 h2 h3
    subst h1; subst h3
    exact ⟨_, _, rfl, ⟨hr, hs, fun h => by cases h⟩, hb⟩
def NodeAway (g : Nat) (x : NodeD) : Prop := (∀ b off, x.aA = some ⟨b, off, none⟩ → 0 < x.aN → b ≠ g) ∧ (∀ b off, x.kA = some ⟨b, off, none⟩ → 0 < x.kN → b ≠ g)
theorem NodeOk.away {w : World} {x : NodeD} {g : Nat} (h : NodeOk w x) (hg : w.heap.size ≤ g) : NodeAway g x := by
  refine ⟨fun b off ha hp e => ?_, fun b off ha hp e => ?_⟩
  · rcases h.attrs.row.cells with h0 | ⟨b', off', ha', hlt, _⟩
    · omega
    · rw [ha] at ha'
      injection ha' with ha'
      injection ha' with e1
      omega
  · rcases h.kids.row.cells with h0 | ⟨b', off', ha', hlt, _⟩
    · omega
    · rw [ha] at ha'
      injection ha' with ha'
      injection ha' with e1
      omega
theorem NodeOk.setCell {w : World} {x : NodeD} {g o : Nat} (h : NodeOk w x) (ha : NodeAway g x) (u : Value) : NodeOk (w.setCell ⟨g, o, none⟩ u) x := by
  have hs : w.heap.size ≤ (w.setCell ⟨g, o, none⟩ u).heap.size := by simp [World.setCell]
  have far : ∀ b o', b ≠ g → (w.setCell ⟨g, o, none⟩ u).cell? ⟨b, o', none⟩ = w.cell? ⟨b, o', none⟩ := fun b o' hne => World.cell?_setCell_other _ _ _ _ (fun e => hne (by injection e with e _; exact e.symm))
  exact ⟨⟨h.attrs.row.keep hs (fun b off he hp o' => far b o' (ha.1 b off he hp)), h.attrs.small, h.attrs.hnil⟩, ⟨h.kids.row.keep hs (fun b off he hp o' => far b o' (ha.2 b off he hp)), h.kids.inb, h.kids.hnil⟩, h.name, h.is, h.data, h.kind, h.parent, h.host, h.under, h.doc⟩
def aloneC (x : Core) (n : Int) : Core := ⟨x.kind, x.name, x.is, x.data, x.attrs, -1, [], -1, -1, if x.kind = 0 then n else x.doc⟩
def AlonePost (w : World) (x : Core) (n : Int) (e : Ending) (w' : World) : Prop := ∃ y : NodeD, e = .returned (nodVal y) ∧ y.core = aloneC x n ∧ NodeOk w' y ∧ Below w.heap.size w w' ∧ (∀ b off, y.aA = some ⟨b, off, none⟩ → w.heap.size ≤ b) ∧ y.kA = none
abbrev zeroNB : Obj := .cells #[.int .i64 0, .string ⟨#[]⟩, .string ⟨#[]⟩, .string ⟨#[]⟩, .slice none 0 0, .int .i64 0, .slice none 0 0, .int .i64 0, .int .i64 0, .int .i64 0] 37
structure Zero10 (W : World) (g : Nat) : Prop where
  lt : g < W.heap.size
  c : ∀ j v, (#[.int .i64 0, .string ⟨#[]⟩, .string ⟨#[]⟩, .string ⟨#[]⟩, .slice none 0 0, .int .i64 0, .slice none 0 0, .int .i64 0, .int .i64 0, .int .i64 0] : Array Value)[j]? = some v → W.cell? ⟨g, j, none⟩ = some v
  f : ∀ j, W.frozen? ⟨g, j, none⟩ = false
theorem Zero10.keep {W W2 : World} {g : Nat} (h : Zero10 W g) (hb : Below W.heap.size W W2) : Zero10 W2 g :=
  ⟨Nat.lt_of_lt_of_le h.lt hb.size, fun j v hv => (hb.cell (p := ⟨g, j, none⟩) h.lt).trans (h.c j v hv), fun j => (hb.frozen (p := ⟨g, j, none⟩) h.lt).trans (h.f j)⟩
theorem Zero10.new (W : World) : Zero10 (W.alloc zeroNB) W.heap.size :=
  ⟨by simp, fun j v hv => by rw [cell_of_row (W.alloc zeroNB) W.heap.size j _ 37 (0, 0) (heap_alloc_new W _), hv], fun j => row_free (heap_alloc_new W zeroNB) j⟩
structure AloneSt (w W : World) (x : NodeD) : Prop where
  a : NBox w W w.heap.size x
  z : Zero10 W (w.heap.size + 1)
  below : Below w.heap.size w W
theorem AloneSt.keep {w W W2 : World} {x : NodeD} (h : AloneSt w W x) (hb : Below W.heap.size W W2) : AloneSt w W2 x := ⟨h.a.keep hb, h.z.keep hb, h.below.trans (hb.mono h.below.size)⟩
theorem AloneSt.start {w : World} {x : NodeD} (h : NodeOk w x) : AloneSt w ((w.alloc (nodB x)).alloc zeroNB) x := by
  refine ⟨(NKeep.start h).box.keep (below_box _ _), ?_, (below_box w _).alloc (by simp) _⟩
  have := Zero10.new (w.alloc (nodB x))
  rwa [World.size_alloc] at this
theorem inM1 : In64 (-1) := ⟨by decide, by decide⟩
theorem OwnPost.row {w w' : World} {L : AL} {e : Ending} (h : OwnPost w L e w') (hs : ∀ x ∈ L, x.1.size ≤ maxLen ∧ x.2.size ≤ maxLen) : ∃ a cap, e = .returned (.slice a L.length cap) ∧ AttrRow w' a L.length cap L ∧ (∀ b off, a = some ⟨b, off, none⟩ → w.heap.size ≤ b) ∧ Below w.heap.size w w' := by
  obtain ⟨v, he, hown, hb⟩ := h
  obtain ⟨a, cap, hv, hr, hl⟩ := AttrRow.of_own_new (M := L) (n := L.length) rfl hown hs
  exact ⟨a, cap, by rw [he, hv], hr, hl, hb⟩
theorem OwnPostI.row {w w' : World} {L : List Int} {e : Ending} (h : OwnPostI w L e w') (hs : ∀ x ∈ L, In64 x) : ∃ a cap, e = .returned (.slice a L.length cap) ∧ IntRow w' a L.length cap L ∧ (∀ b off, a = some ⟨b, off, none⟩ → w.heap.size ≤ b) ∧ Below w.heap.size w w' := by
  obtain ⟨v, he, hown, hb⟩ := h
  obtain ⟨a, cap, hv, hr, hl⟩ := IntRow.of_own_new (M := L) (n := L.length) rfl hown hs
  exact ⟨a, cap, by rw [he, hv], hr, hl, hb⟩
set_option maxHeartbeats 8000000 in
set_option maxRecDepth 100000 in
theorem alone_any (x : NodeD) (n : Int) (w : World) (h : NodeOk w x) (hn : In64 n) (ha : x.core.attrs.length ≤ 1000) :
    Calls Tryz.prog 38 #[nodVal x, .int .i64 n] w (AlonePost w x.core n) := by
  obtain ⟨⟨kind, name, is, data, attrs, parent, kids, host, under, doc⟩, aA, aN, aC, kA, kN, kC⟩ := x
  have HAN : Hid (aN ≤ 1000) := Lib.hid (by have : attrs.length = aN := h.attrs.hlen; dsimp only at ha; omega)
  have HN := Lib.hid hn
  by_cases k0 : kind = 0
  · subst k0
    obtain ⟨W0, hW0, ST⟩ : ∃ W0, (w.alloc (nodB ⟨⟨0, name, is, data, attrs, parent, kids, host, under, doc⟩, aA, aN, aC, kA, kN, kC⟩)).alloc zeroNB = W0 ∧ AloneSt w W0 ⟨⟨0, name, is, data, attrs, parent, kids, host, under, doc⟩, aA, aN, aC, kA, kN, kC⟩ := ⟨_, rfl, AloneSt.start h⟩
    have ST := Lib.hid ST
    have HW := Lib.hid hW0
    have HZ : Hid (w.heap.size + 1 < W0.heap.size) := Lib.hid ST.out.z.lt
    have HH := Lib.hid h
    have CA : Hid (∀ W, AttrRow W aA aN aC attrs → Calls Tryz.prog 49 #[.slice aA aN aC] W (OwnPost W attrs)) := Lib.hid (fun W h => clone_any aA aN aC attrs W h (by have := HAN.out; omega))
    have HSM := Lib.hid h.attrs.small
    clear h hn ha hW0
    go_enter Tryz.func38, Tryz.ntmps38
    go_wp2
    rw [HW.out]
    obtain ⟨-, x0, x1, x2, x3, x4, x5, x6, x7, x8, x9, -⟩ := ST.out.a
    dsimp only at x0 x1 x2 x3 x4
    go_region_held3 (fun w' => w'.cell? ⟨w.heap.size, 0, none⟩ = some (.int .i64 0) ∧ w'.cell? ⟨w.heap.size, 1, none⟩ = some (.string name) ∧ w'.cell? ⟨w.heap.size, 2, none⟩ = some (.string is) ∧ w'.cell? ⟨w.heap.size, 3, none⟩ = some (.string data) ∧ w'.cell? ⟨w.heap.size, 4, none⟩ = some (.slice aA aN aC)) (go_keep)
      (first | (go_at_call 49; refine (CA.out _ ST.out.a.ok.attrs.drew).mono ?_; intro e w1 hp; obtain ⟨a2, c2, rfl, hrw, hlow, hb⟩ := hp.row HSM.out; have HRW := Lib.hid hrw; have HLW := Lib.hid hlow; have ST := Lib.hid (ST.out.keep ((Below.refl _ _).drew.trans hb)); obtain ⟨-, x0, x1, x2, x3, x4, x5, x6, x7, x8, x9, -⟩ := ST.out.a; dsimp only at x0 x1 x2 x3 x4; have d0 := ST.out.z.c 0 _ rfl; have d1 := ST.out.z.c 1 _ rfl; have d2 := ST.out.z.c 2 _ rfl; have d3 := ST.out.z.c 3 _ rfl; have d4 := ST.out.z.c 4 _ rfl; have d5 := ST.out.z.c 5 _ rfl; have d6 := ST.out.z.c 6 _ rfl; have d7 := ST.out.z.c 7 _ rfl; have d8 := ST.out.z.c 8 _ rfl; have d9 := ST.out.z.c 9 _ rfl; have f0 := ST.out.z.f 0; have f1 := ST.out.z.f 1; have f2 := ST.out.z.f 2; have f3 := ST.out.z.f 3; have f4 := ST.out.z.f 4; have f5 := ST.out.z.f 5; have f6 := ST.out.z.f 6; have f7 := ST.out.z.f 7; have f8 := ST.out.z.f 8; have f9 := ST.out.z.f 9; clear x5 x6 x7 x8 x9 hb hp hrw hlow))
    go_wp2
    have HG : w.heap.size + 1 < W0.heap.size := HZ.out
    have hk : NodeOk w1 ⟨⟨0, name, is, data, attrs, -1, [], -1, -1, n⟩, a2, attrs.length, c2, none, 0, 0⟩ := ⟨HRW.out, ⟨SRow.nil, (fun z hz => by cases hz), fun _ => rfl⟩, HH.out.name, HH.out.is, HH.out.data, HH.out.kind, inM1, inM1, inM1, HN.out⟩
    have haw : NodeAway (w.heap.size + 1) ⟨⟨0, name, is, data, attrs, -1, [], -1, -1, n⟩, a2, attrs.length, c2, none, 0, 0⟩ := ⟨fun b off hb _ e => by have := HLW.out b off hb; simp at this; omega, fun b off hb => by cases hb⟩
    refine bodyPost_ret (v := nodVal ⟨⟨0, name, is, data, attrs, -1, [], -1, -1, n⟩, a2, attrs.length, c2, none, 0, 0⟩) ?_ rfl ⟨_, rfl, rfl, ((((((((((hk.setCell haw _).setCell haw _).setCell haw _).setCell haw _).setCell haw _).setCell haw _).setCell haw _).setCell haw _).setCell haw _).setCell haw _), ?_, fun b off hb => ?_, rfl⟩
    · simp [results, Tryz.results38, go_sem, d0, d1, d2, d3, d4, d5, d6, d7, d8, d9]
    · exact (((((((((ST.out.below.setCell (p := ⟨w.heap.size + 1, 0, none⟩) (by simp) _).setCell (p := ⟨w.heap.size + 1, 1, none⟩) (by simp) _).setCell (p := ⟨w.heap.size + 1, 2, none⟩) (by simp) _).setCell (p := ⟨w.heap.size + 1, 3, none⟩) (by simp) _).setCell (p := ⟨w.heap.size + 1, 4, none⟩) (by simp) _).setCell (p := ⟨w.heap.size + 1, 5, none⟩) (by simp) _).setCell (p := ⟨w.heap.size + 1, 6, none⟩) (by simp) _).setCell (p := ⟨w.heap.size + 1, 7, none⟩) (by simp) _).setCell (p := ⟨w.heap.size + 1, 8, none⟩) (by simp) _).setCell (p := ⟨w.heap.size + 1, 9, none⟩) (by simp) _
    · have := HLW.out b off hb
      simp at this
      omega
  · have HAC : Hid ((⟨kind, name, is, data, attrs, -1, [], -1, -1, doc⟩ : Core) = aloneC ⟨kind, name, is, data, attrs, parent, kids, host, under, doc⟩ n) := Lib.hid (by unfold aloneC; dsimp only; rw [if_neg k0])
    have f0 : (kind == 0) = false := beq_eq_false_iff_ne.2 k0
    clear k0
    obtain ⟨W0, hW0, ST⟩ : ∃ W0, (w.alloc (nodB ⟨⟨kind, name, is, data, attrs, parent, kids, host, under, doc⟩, aA, aN, aC, kA, kN, kC⟩)).alloc zeroNB = W0 ∧ AloneSt w W0 ⟨⟨kind, name, is, data, attrs, parent, kids, host, under, doc⟩, aA, aN, aC, kA, kN, kC⟩ := ⟨_, rfl, AloneSt.start h⟩
    have ST := Lib.hid ST
    have HW := Lib.hid hW0
    have HZ : Hid (w.heap.size + 1 < W0.heap.size) := Lib.hid ST.out.z.lt
    have HH := Lib.hid h
    have CA : Hid (∀ W, AttrRow W aA aN aC attrs → Calls Tryz.prog 49 #[.slice aA aN aC] W (OwnPost W attrs)) := Lib.hid (fun W h => clone_any aA aN aC attrs W h (by have := HAN.out; omega))
    have HSM := Lib.hid h.attrs.small
    clear h hn ha hW0
    go_enter Tryz.func38, Tryz.ntmps38
    go_wp2
    rw [HW.out]
    obtain ⟨-, x0, x1, x2, x3, x4, x5, x6, x7, x8, x9, -⟩ := ST.out.a
    dsimp only at x0 x1 x2 x3 x4
    go_region_held3 (fun w' => w'.cell? ⟨w.heap.size, 0, none⟩ = some (.int .i64 kind) ∧ w'.cell? ⟨w.heap.size, 1, none⟩ = some (.string name) ∧ w'.cell? ⟨w.heap.size, 2, none⟩ = some (.string is) ∧ w'.cell? ⟨w.heap.size, 3, none⟩ = some (.string data) ∧ w'.cell? ⟨w.heap.size, 4, none⟩ = some (.slice aA aN aC)) (go_keep)
      (first | (go_at_call 49; refine (CA.out _ ST.out.a.ok.attrs.drew).mono ?_; intro e w1 hp; obtain ⟨a2, c2, rfl, hrw, hlow, hb⟩ := hp.row HSM.out; have HRW := Lib.hid hrw; have HLW := Lib.hid hlow; have ST := Lib.hid (ST.out.keep ((Below.refl _ _).drew.trans hb)); obtain ⟨-, x0, x1, x2, x3, x4, x5, x6, x7, x8, x9, -⟩ := ST.out.a; dsimp only at x0 x1 x2 x3 x4; have d0 := ST.out.z.c 0 _ rfl; have d1 := ST.out.z.c 1 _ rfl; have d2 := ST.out.z.c 2 _ rfl; have d3 := ST.out.z.c 3 _ rfl; have d4 := ST.out.z.c 4 _ rfl; have d5 := ST.out.z.c 5 _ rfl; have d6 := ST.out.z.c 6 _ rfl; have d7 := ST.out.z.c 7 _ rfl; have d8 := ST.out.z.c 8 _ rfl; have d9 := ST.out.z.c 9 _ rfl; have f0 := ST.out.z.f 0; have f1 := ST.out.z.f 1; have f2 := ST.out.z.f 2; have f3 := ST.out.z.f 3; have f4 := ST.out.z.f 4; have f5 := ST.out.z.f 5; have f6 := ST.out.z.f 6; have f7 := ST.out.z.f 7; have f8 := ST.out.z.f 8; have f9 := ST.out.z.f 9; clear x5 x6 x7 x8 x9 hb hp hrw hlow))
    go_wp2
    have HG : w.heap.size + 1 < W0.heap.size := HZ.out
    have hk : NodeOk w1 ⟨⟨kind, name, is, data, attrs, -1, [], -1, -1, doc⟩, a2, attrs.length, c2, none, 0, 0⟩ := ⟨HRW.out, ⟨SRow.nil, (fun z hz => by cases hz), fun _ => rfl⟩, HH.out.name, HH.out.is, HH.out.data, HH.out.kind, inM1, inM1, inM1, HH.out.doc⟩
    have haw : NodeAway (w.heap.size + 1) ⟨⟨kind, name, is, data, attrs, -1, [], -1, -1, doc⟩, a2, attrs.length, c2, none, 0, 0⟩ := ⟨fun b off hb _ e => by have := HLW.out b off hb; simp at this; omega, fun b off hb => by cases hb⟩
    refine bodyPost_ret (v := nodVal ⟨⟨kind, name, is, data, attrs, -1, [], -1, -1, doc⟩, a2, attrs.length, c2, none, 0, 0⟩) ?_ rfl ⟨_, rfl, HAC.out, ((((((((((hk.setCell haw _).setCell haw _).setCell haw _).setCell haw _).setCell haw _).setCell haw _).setCell haw _).setCell haw _).setCell haw _).setCell haw _), ?_, fun b off hb => ?_, rfl⟩
    · simp [results, Tryz.results38, go_sem, d0, d1, d2, d3, d4, d5, d6, d7, d8, d9]
    · exact (((((((((ST.out.below.setCell (p := ⟨w.heap.size + 1, 0, none⟩) (by simp) _).setCell (p := ⟨w.heap.size + 1, 1, none⟩) (by simp) _).setCell (p := ⟨w.heap.size + 1, 2, none⟩) (by simp) _).setCell (p := ⟨w.heap.size + 1, 3, none⟩) (by simp) _).setCell (p := ⟨w.heap.size + 1, 4, none⟩) (by simp) _).setCell (p := ⟨w.heap.size + 1, 5, none⟩) (by simp) _).setCell (p := ⟨w.heap.size + 1, 6, none⟩) (by simp) _).setCell (p := ⟨w.heap.size + 1, 7, none⟩) (by simp) _).setCell (p := ⟨w.heap.size + 1, 8, none⟩) (by simp) _).setCell (p := ⟨w.heap.size + 1, 9, none⟩) (by simp) _
    · have := HLW.out b off hb
      simp at this
      omega
end Go.Proofs.YtnjoimedilonnaaGreat
