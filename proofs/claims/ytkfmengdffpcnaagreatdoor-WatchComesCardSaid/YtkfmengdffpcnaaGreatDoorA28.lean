/- Texts joined in build order: ReaderAdd ReaderNew ReaderRec. -/
import Derived.Test.YtkfmengdffpcnaaGreatDoorA27
import Derived.Deep.RegionHeld3
namespace Go.Proofs.YtkfmengdffpcnaaGreatDoor
open Go.RowKit
section
variable {ρ : Nat → Nat} {W : World} {pr pw g cap len : Nat} {m : Int} {M : List NodeD} {v : Value} {N : List NoteD} {l l2 : BL} {doc : Int}
theorem Rd.box (h : Rd ρ W pr pw g cap len m M v N l doc) (B : Obj) : Rd (upd ρ (some W.heap.size) 5) (W.alloc B) pr pw g cap len m M v N l doc ∧ Gone pr ρ (upd ρ (some W.heap.size) 5) W (W.alloc B) ∧ upd ρ (some W.heap.size) 5 W.heap.size = 5 := by
  have hb := below_box W B
  have hk := h.keep hb
  have hs : (W.alloc B).heap.size = W.heap.size + 1 := by simp
  have hp := h.rlt
  have hm := hk.wk.markR (b := W.heap.size) 5 (by omega) (h.wk.fresh _ (Nat.le_refl _)) (fun x hx b off he hp => by have := attr_block_lt (h.wk.aok x hx) he hp; omega)
  refine ⟨⟨hm, hk.r0, hk.r1, hk.r2, hk.rf, hk.rlt, ?_, hk.small, hk.hdoc⟩, ⟨hb.os, hb.tape, hb.output, hb.size, fun b hb2 _ _ => hb.block b hb2, fun b hb2 _ => ?_⟩, ?_⟩
  · unfold upd
    rw [if_neg (fun e => by injection e with e; omega)]
    exact h.role
  · unfold upd
    rw [if_neg (fun e => by injection e with e; omega)]
  · unfold upd
    rw [if_pos rfl]
theorem Rd.put (h : Rd ρ W pr pw g cap len m M v N l doc) {b : Nat} (h5 : ρ b = 5) (hne : b ≠ pr) (o : Nat) (u : Value) : Rd ρ (W.setCell ⟨b, o, none⟩ u) pr pw g cap len m M v N l doc :=
  ⟨h.wk.otherR (.inr h5) o u, (World.cell?_setCell_other _ _ _ _ (fun e => by injection e with e _; exact hne e)).trans h.r0, (World.cell?_setCell_other _ _ _ _ (fun e => by injection e with e _; exact hne e)).trans h.r1, (World.cell?_setCell_other _ _ _ _ (fun e => by injection e with e _; exact hne e)).trans h.r2, fun o => by rw [World.frozen?_setCell]; exact h.rf o, by simpa [World.setCell] using h.rlt, h.role, h.small, h.hdoc⟩
theorem Gone.put {ρ' : Nat → Nat} {w w' : World} (h : Gone pr ρ ρ' w w') {b : Nat} (hb : w.heap.size ≤ b) (o : Nat) (u : Value) : Gone pr ρ ρ' w (w'.setCell ⟨b, o, none⟩ u) :=
  ⟨h.os, h.tape, h.output, by simpa [World.setCell] using h.size, fun k hk hne h0 => (Below.heap_setCell _ _ _ k (fun e => by have e : k = b := e; omega)).trans (h.quiet k hk hne h0), h.old⟩
def BoxPost (ρ : Nat → Nat) (w : World) (pr pw g cap len : Nat) (m : Int) (M : List NodeD) (v : Value) (N : List NoteD) (l2 : BL) (doc : Int) (u : Value) (e : Ending) (w' : World) : Prop :=
  e = .returned u ∧ ∃ ρ', Rd ρ' w' pr pw g cap len m M v N l2 doc ∧ Gone pr ρ ρ' w w'
set_option maxHeartbeats 4000000 in
set_option maxRecDepth 100000 in
theorem attr_any (w : World) (h : Rd ρ w pr pw g cap len m M v N l doc) {a : ByteArray × ByteArray} (ha : attrM l = some (a, l2)) :
    Calls Tryz.prog 136 #[ptrV pr] w (BoxPost ρ w pr pw g cap len m M v N l2 doc (.tuple #[.agg #[.string a.1, .string a.2], .bool true])) := by
  unfold attrM at ha
  cases hw : wordM l with
  | none => rw [hw] at ha; cases ha
  | some nl =>
  obtain ⟨n, l3⟩ := nl
  rw [hw] at ha
  dsimp only at ha
  cases hs : skipM l3 [61] with
  | none => rw [hs] at ha; cases ha
  | some l4 =>
  rw [hs] at ha
  dsimp only at ha
  cases hq : quoM l4 with
  | none => rw [hq] at ha; cases ha
  | some sl =>
  obtain ⟨s, l5⟩ := sl
  rw [hq] at ha
  have ha := Option.some.inj ha
  injection ha with ha1 ha2
  subst ha1 ha2
  obtain ⟨hR0, hG0, h5⟩ := h.box (.cells #[.string ⟨#[]⟩, .string ⟨#[]⟩] 99)
  have hplt := h.rlt
  obtain ⟨b, hb⟩ : ∃ b, w.heap.size = b := ⟨_, rfl⟩
  have hc0 : (w.alloc (.cells #[.string ⟨#[]⟩, .string ⟨#[]⟩] 99)).cell? ⟨b, 0, none⟩ = some (.string ⟨#[]⟩) := by rw [← hb]; exact cell_of_row _ w.heap.size 0 _ 99 (0, 0) (heap_alloc_new w _)
  have hc1 : (w.alloc (.cells #[.string ⟨#[]⟩, .string ⟨#[]⟩] 99)).cell? ⟨b, 1, none⟩ = some (.string ⟨#[]⟩) := by rw [← hb]; exact cell_of_row _ w.heap.size 1 _ 99 (0, 0) (heap_alloc_new w _)
  have hf : ∀ o, (w.alloc (.cells #[.string ⟨#[]⟩, .string ⟨#[]⟩] 99)).frozen? ⟨b, o, none⟩ = false := fun o => by rw [← hb]; exact row_free (heap_alloc_new w _) o
  have hlt : b < (w.alloc (.cells #[.string ⟨#[]⟩, .string ⟨#[]⟩] 99)).heap.size := by rw [← hb]; simp
  rw [hb] at hR0 hG0 h5
  obtain ⟨ρ0, hρ⟩ : ∃ ρ0, upd ρ (some b) 5 = ρ0 := ⟨_, rfl⟩
  obtain ⟨w0, hw0⟩ : ∃ w0, w.alloc (.cells #[.string ⟨#[]⟩, .string ⟨#[]⟩] 99) = w0 := ⟨_, rfl⟩
  rw [hρ, hw0] at hR0 hG0
  rw [hρ] at h5
  rw [hw0] at hc0 hc1 hf hlt
  have hbp : b ≠ pr := by omega
  have HW0 := Lib.hid hw0
  have HB := Lib.hid hb
  have HR0 := Lib.hid hR0
  have HG0 := Lib.hid hG0
  have CW := Lib.hid (word_any w0 hR0 hw)
  have CS : Hid (∀ W, Rd ρ0 W pr pw g cap len m M v N l3 doc → Calls Tryz.prog 117 #[ptrV pr, .string ⟨#[61]⟩] W (StepPost ρ0 W pr pw g cap len m M v N l4 doc (.bool true))) := Lib.hid (fun W h => skip_hit W h [61] hs)
  have CQ : Hid (∀ W, Rd ρ0 W pr pw g cap len m M v N l4 doc → Calls Tryz.prog 121 #[ptrV pr] W (StepPost ρ0 W pr pw g cap len m M v N l5 doc (.tuple #[.string (strB s), .bool true]))) := Lib.hid (fun W h => quoted_any W h hq)
  have HC : Hid (∀ W, Gone pr ρ0 ρ0 w0 W → W.cell? ⟨b, 0, none⟩ = some (.string ⟨#[]⟩) ∧ W.cell? ⟨b, 1, none⟩ = some (.string ⟨#[]⟩) ∧ (∀ o, W.frozen? ⟨b, o, none⟩ = false)) := Lib.hid (fun W hg => ⟨(hg.cell hlt hbp (.inr h5)).trans hc0, (hg.cell hlt hbp (.inr h5)).trans hc1, fun o => (hg.frozen hlt hbp (.inr h5)).trans (hf o)⟩)
  have H5 := Lib.hid h5
  clear h hw hs hq hR0 hG0 h5 hc0 hc1 hf hlt hρ hw0 hb
  go_enter Tryz.func136, Tryz.ntmps136
  go_upto_region 1 with fail
  rw [HW0.out, HB.out]
  go_upto_region 5 with (first
    | (go_at_call 135; (with_reducible refine CW.out.mono ?_); rintro e w1 ⟨rfl, hR, hG⟩; have HR := Lib.hid hR; have HG := Lib.hid hG; clear hR hG)
    | (go_at_call 117; (with_reducible refine (CS.out _ HR.out).mono ?_); rintro e w2 ⟨rfl, hR, hG⟩; have HR2 := Lib.hid hR; have HG2 := Lib.hid (HG.out.trans hG); clear hR hG)
    | (go_at_call 121; (with_reducible refine (CQ.out _ HR2.out).mono ?_); rintro e w3 ⟨rfl, hR, hG⟩; have HR3 := Lib.hid hR; have HG3 := Lib.hid (HG2.out.trans hG); clear hR hG))
  obtain ⟨d0, d1, df⟩ := HC.out _ HG3.out
  have f0 := df 0
  have f1 := df 1
  clear df
  go_wp2
  have q1 : ((w3.setCell ⟨b, 0, none⟩ (.string (strB n))).setCell ⟨b, 1, none⟩ (.string (strB s))).cell? ⟨b, 1, none⟩ = some (.string (strB s)) := World.cell?_setCell_same _ _ _ ((World.cell?_setCell_other _ _ _ _ (fun e => by injection e with _ e; omega)).trans d1)
  have q0 : ((w3.setCell ⟨b, 0, none⟩ (.string (strB n))).setCell ⟨b, 1, none⟩ (.string (strB s))).cell? ⟨b, 0, none⟩ = some (.string (strB n)) := (World.cell?_setCell_other _ _ _ _ (fun e => by injection e with _ e; omega)).trans (World.cell?_setCell_same _ _ _ d0)
  have hbw : w.heap.size ≤ b := by rw [HB.out]; exact Nat.le_refl _
  refine bodyPost_ret (v := .tuple #[.agg #[.string (strB n), .string (strB s)], .bool true]) ?_ rfl ⟨rfl, ρ0, (HR3.out.put H5.out hbp 0 _).put H5.out hbp 1 _, ((HG0.out.trans HG3.out).put hbw 0 _).put hbw 1 _⟩
  simp [results, Tryz.results136, go_sem, q0, q1]
end
end Go.Proofs.YtkfmengdffpcnaaGreatDoor
namespace Go.Proofs.YtkfmengdffpcnaaGreatDoor
open Go.RowKit
section
variable {ρ : Nat → Nat} {W : World} {pr pw g cap len : Nat} {m : Int} {M : List NodeD} {v : Value} {N : List NoteD} {l l2 : BL} {doc : Int}
theorem nodeOk_withD {w : World} {x : NodeD} {d : Int} (h : NodeOk w x) (hd : In64 d) : NodeOk w (withD x d) := ⟨h.attrs, h.kids, h.name, h.is, h.data, h.kind, h.parent, h.host, h.under, hd⟩
theorem Rd.added {w w' : World} (h : Rd ρ w pr pw g cap len m M v N l doc) {x : NodeD} (hsx : smallX x) (hl : len < 1000) {c : Core} {e : Ending} (hc : c = aloneC x.core len) (hp : AddPost ρ w pw g len m M v N c e w') :
    e = .returned (.int .i64 (len : Int)) ∧ ∃ (ρ' : Nat → Nat) (g' cap' : Nat) (y : NodeD), Rd ρ' w' pr pw g' cap' (len + 1) m (M ++ [y]) v N l doc ∧ y.core = c ∧ Gone pr ρ ρ' w w' := by
  obtain ⟨rfl, g2, cap2, y, hy, hwk, htu, hg2, hold⟩ := hp
  have hg := h.wk.glt
  have hgr := h.wk.grole
  have two : ∀ b, b < w.heap.size → (ρ b = 0 ∨ ρ b = 5) → addR ρ g g2 b = ρ b := fun b hb h0 => by
    have hne : b ≠ g := fun e => by rw [e, hgr] at h0; omega
    exact addR_other (by rcases hg2 with e | e; exact fun e2 => hne (e2.trans e); omega) hne
  have hpr := two pr h.rlt (.inr h.role)
  have hq : ∀ o, w'.cell? ⟨pr, o, none⟩ = w.cell? ⟨pr, o, none⟩ := fun o => World.cell?_of_block (w := w) (a := ⟨pr, o, none⟩) (htu.quiet pr h.rlt (.inr h.role))
  have hqf : ∀ o, w'.frozen? ⟨pr, o, none⟩ = w.frozen? ⟨pr, o, none⟩ := fun o => World.frozen?_of_block (w := w) (a := ⟨pr, o, none⟩) (htu.quiet pr h.rlt (.inr h.role))
  refine ⟨rfl, _, g2, cap2, y, ⟨hwk, (hq 0).trans h.r0, (hq 1).trans h.r1, (hq 2).trans h.r2, fun o => (hqf o).trans (h.rf o), Nat.lt_of_lt_of_le h.rlt htu.size, hpr.trans h.role, ?_, h.hdoc⟩, hy, Gone.of_turn htu two⟩
  have hml := h.wk.hlen
  refine ⟨by rw [List.length_append, hml]; simp; omega, fun z hz => ?_⟩
  rcases List.mem_append.1 hz with hz | hz
  · exact h.small.2 z hz
  · rw [List.mem_singleton.1 hz]
    unfold smallN
    rw [hy, hc]
    exact ⟨Nat.zero_le _, hsx⟩
set_option maxHeartbeats 4000000 in
set_option maxRecDepth 100000 in
theorem radd_any (w : World) (h : Rd ρ w pr pw g cap len m M v N l doc) (x : NodeD) (hx : NodeOk w x) (hsx : smallX x) (hl : len < 1000) :
    Calls Tryz.prog 120 #[ptrV pr, nodVal x] w fun e w' => e = .returned (.int .i64 (len : Int)) ∧ ∃ (ρ' : Nat → Nat) (g' cap' : Nat) (y : NodeD), Rd ρ' w' pr pw g' cap' (len + 1) m (M ++ [y]) v N l doc ∧ y.core = aloneC (withD x doc).core len ∧ Gone pr ρ ρ' w w' := by
  have hxd := nodeOk_withD hx h.hdoc
  have hbb := below_box w (nodB (withD x doc))
  have HB : Hid (Below w.heap.size w (w.alloc (nodB (withD x doc)))) := Lib.hid hbb
  have CA : Hid (∀ W, Below w.heap.size w W → Calls Tryz.prog 138 #[ptrV pw, nodVal (withD x doc)] W (fun e w' => e = .returned (.int .i64 (len : Int)) ∧ ∃ (ρ' : Nat → Nat) (g' cap' : Nat) (y : NodeD), Rd ρ' w' pr pw g' cap' (len + 1) m (M ++ [y]) v N l doc ∧ y.core = aloneC (withD x doc).core len ∧ Gone pr ρ ρ' W w')) := Lib.hid (fun W hb =>
    (madd_any W (h.wk.keep hb) (by omega) (withD x doc) (hxd.below hb) hsx).mono (fun e w' hp => (h.keep hb).added (x := withD x doc) hsx hl rfl hp))
  obtain ⟨-, x0, x1, x2, x3, x4, x5, x6, x7, x8, x9, -⟩ := NBox.one (w := w) hxd
  obtain ⟨w0, hw0⟩ : ∃ w0, w.alloc (nodB (withD x doc)) = w0 := ⟨_, rfl⟩
  have hr2 := h.r2
  have hr0 := (h.keep hbb).r0
  rw [hw0] at HB x0 x1 x2 x3 x4 x5 x6 x7 x8 x9 hr0
  have HW := Lib.hid hw0
  have hxn : x.core.data.size ≤ 9223372036854775807 := hx.data
  have r2 : ∀ o, (w.alloc o).cell? ⟨pr, 2, none⟩ = some (.int .i64 doc) := fun o => (h.keep (below_box w o)).r2
  clear h hxd hbb hx hsx hw0
  go_enter Tryz.func120, Tryz.ntmps120
  go_upto_region 2 with fail
  show Code.wp _ _ _ _ (w.alloc (nodB (withD x doc)))
  rw [HW.out]
  dsimp only [withD] at x0 x1 x2 x3 x4 x5 x6 x7 x8 x9
  have CA : Hid (∀ W, Below w.heap.size w W → Calls Tryz.prog 138 #[ptrV pw, .agg #[.int .i64 x.core.kind, .string x.core.name, .string x.core.is, .string x.core.data, .slice x.aA x.aN x.aC, .int .i64 x.core.parent, .slice x.kA x.kN x.kC, .int .i64 x.core.host, .int .i64 x.core.under, .int .i64 doc]] W (fun e w' => e = .returned (.int .i64 (len : Int)) ∧ ∃ (ρ' : Nat → Nat) (g' cap' : Nat) (y : NodeD), Rd ρ' w' pr pw g' cap' (len + 1) m (M ++ [y]) v N l doc ∧ y.core = aloneC (withD x doc).core len ∧ Gone pr ρ ρ' W w')) := CA
  go_region_with (go_at_call 138; (with_reducible refine (CA.out _ HB.out.drew).mono ?_); rintro e w1 ⟨rfl, hp⟩; have HP := Lib.hid hp; clear hp)
  all_goals go_wp2
  all_goals
    go_ret
    obtain ⟨ρ', g', cap', y, h1, h2, h3⟩ := HP.out
    exact ⟨rfl, ρ', g', cap', y, h1, h2, (Gone.of_below HB.out.drew).trans h3⟩
end
end Go.Proofs.YtkfmengdffpcnaaGreatDoor
namespace Go.Proofs.YtkfmengdffpcnaaGreatDoor
open Go.RowKit
def wiU (x : NodeD) (z : Int) : NodeD := ⟨⟨x.core.kind, x.core.name, x.core.is, x.core.data, x.core.attrs, x.core.parent, x.core.kids, x.core.host, z, x.core.doc⟩, x.aA, x.aN, x.aC, x.kA, x.kN, x.kC⟩
def wiH (x : NodeD) (z : Int) : NodeD := ⟨⟨x.core.kind, x.core.name, x.core.is, x.core.data, x.core.attrs, x.core.parent, x.core.kids, z, x.core.under, x.core.doc⟩, x.aA, x.aN, x.aC, x.kA, x.kN, x.kC⟩
theorem coreL_mod {M : List NodeD} {k : Nat} {x y : NodeD} {f : Core → Core} (hk : M[k]? = some x) (hy : y.core = f x.core) : coreL (M.set k y) = (coreL M).modify k f := by
  apply List.ext_getElem?
  intro i
  unfold coreL
  rw [List.getElem?_map, List.getElem?_modify, List.getElem?_map]
  have hkl := (List.getElem?_eq_some_iff.1 hk).1
  by_cases e : k = i
  · subst e
    rw [List.getElem?_set_self hkl, hk]
    simp [hy]
  · rw [List.getElem?_set_ne e]
    simp [e]
section
variable {ρ : Nat → Nat} {W : World} {pr pw g cap len : Nat} {m : Int} {M : List NodeD} {v : Value} {N : List NoteD} {l l2 : BL} {doc : Int}
theorem Wk.setU (h : Wk ρ W pw g cap len m M v N) {k : Nat} {x : NodeD} (hk : M[k]? = some x) {p : Int} (hp : In64 p) : Wk ρ (W.setCell ⟨g, k * 10 + 8, none⟩ (.int .i64 p)) pw g cap len m (M.set k (wiU x p)) v N := by
  have hm := List.mem_of_getElem? hk
  have f := h.fld x hm
  exact h.setG hk (by omega) rfl ⟨rfl, rfl, rfl, rfl⟩ (h.aok x hm) (h.arole x hm) ⟨f.name, f.is, f.data, f.kind, f.parent, f.host, hp, f.doc, f.kids⟩
theorem Wk.setHo (h : Wk ρ W pw g cap len m M v N) {k : Nat} {x : NodeD} (hk : M[k]? = some x) {p : Int} (hp : In64 p) : Wk ρ (W.setCell ⟨g, k * 10 + 7, none⟩ (.int .i64 p)) pw g cap len m (M.set k (wiH x p)) v N := by
  have hm := List.mem_of_getElem? hk
  have f := h.fld x hm
  exact h.setG hk (by omega) rfl ⟨rfl, rfl, rfl, rfl⟩ (h.aok x hm) (h.arole x hm) ⟨f.name, f.is, f.data, f.kind, f.parent, hp, f.under, f.doc, f.kids⟩
theorem Rd.turned {W2 : World} {M2 : List NodeD} (h : Rd ρ W pr pw g cap len m M v N l doc) (hw : Wk ρ W2 pw g cap len m M2 v N) (hq : W2.heap[pr]? = W.heap[pr]?) (hs : W.heap.size ≤ W2.heap.size) (hm : smallF M2) : Rd ρ W2 pr pw g cap len m M2 v N l doc :=
  ⟨hw, (World.cell?_of_block (w := W) (a := ⟨pr, 0, none⟩) hq).trans h.r0, (World.cell?_of_block (w := W) (a := ⟨pr, 1, none⟩) hq).trans h.r1, (World.cell?_of_block (w := W) (a := ⟨pr, 2, none⟩) hq).trans h.r2, fun o => (World.frozen?_of_block (w := W) (a := ⟨pr, o, none⟩) hq).trans (h.rf o), Nat.lt_of_lt_of_le h.rlt hs, h.role, hm, h.hdoc⟩
theorem small_set {y : NodeD} {k : Nat} (h : smallF M) (hy : smallN y) : smallF (M.set k y) :=
  ⟨by rw [List.length_set]; exact h.1, fun z hz => by
    rcases List.mem_or_eq_of_mem_set hz with hz | rfl
    · exact h.2 z hz
    · exact hy⟩
def ReadPost (ρ : Nat → Nat) (w : World) (pr pw : Nat) (m : Int) (N : List NoteD) (doc : Int) (l' : BL) (F' : List Core) (e : Ending) (w' : World) : Prop :=
  e = .returned (.bool true) ∧ ∃ (ρ' : Nat → Nat) (g cap len : Nat) (M : List NodeD) (v : Value), Rd ρ' w' pr pw g cap len m M v N l' doc ∧ coreL M = F' ∧ Gone pr ρ ρ' w w'
def NodeAtK (pr pw : Nat) (m : Int) (N : List NoteD) (doc : Int) (k : Nat) : Prop := ∀ (ρ : Nat → Nat) (w : World) (g cap len : Nat) (M : List NodeD) (v : Value) (l l' : BL) (F' : List Core), Rd ρ w pr pw g cap len m M v N l doc → readM doc k .node l (coreL M) = some (l', F') →
  Calls Tryz.prog 98 #[ptrV pr] w (ReadPost ρ w pr pw m N doc l' F')
def KidsAtK (pr pw : Nat) (m : Int) (N : List NoteD) (doc : Int) (k : Nat) : Prop := ∀ (ρ : Nat → Nat) (w : World) (g cap len : Nat) (M : List NodeD) (v : Value) (l : BL) (p : Nat) (stop l' : BL) (F' : List Core), Rd ρ w pr pw g cap len m M v N l doc → readM doc k (.kids p stop) l (coreL M) = some (l', F') →
  Calls Tryz.prog 119 #[ptrV pr, .int .i64 (p : Int), .string ⟨stop.toArray⟩] w (ReadPost ρ w pr pw m N doc l' F')
abbrev zD (kind doc : Int) : NodeD := ⟨⟨kind, ⟨#[]⟩, ⟨#[]⟩, ⟨#[]⟩, [], 0, [], 0, 0, doc⟩, none, 0, 0, none, 0, 0⟩
theorem zD_ok (w : World) {kind doc : Int} (hk : In64 kind) (hd : In64 doc) : NodeOk w (zD kind doc) := by
  have z0 : In64 0 := ⟨by decide, by decide⟩
  have e0 : (⟨#[]⟩ : ByteArray).size ≤ maxLen := by decide
  exact ⟨⟨SRow.nil, by simp, fun _ => rfl⟩, ⟨SRow.nil, by simp, fun _ => rfl⟩, e0, e0, e0, hk, z0, z0, z0, hd⟩
theorem in64_th {n : Nat} (h : n ≤ 1000) : In64 (n : Int) := ⟨by omega, by omega⟩
set_option maxHeartbeats 4000000 in
set_option maxRecDepth 100000 in
theorem shadow_hit (k : Nat) (K : KidsAtK pr pw m N doc k) (w : World) (h : Rd ρ w pr pw g cap len m M v N l doc) {l3 l4 : BL} {F2 F3 : List Core} {hst : Nat} (hh : hst < len) (hs : skipM l [123] = some l3) (ha : addM (coreL M) (nodeC 4 [] [] [] [] doc) = some F2) (hk : readM doc k (.kids len [125]) l3 (hangM F2 hst len) = some (l4, F3)) :
    Calls Tryz.prog 137 #[ptrV pr, .int .i64 (hst : Int)] w (ReadPost ρ w pr pw m N doc l4 F3) := by
  have hml := h.wk.hlen
  unfold addM at ha
  by_cases hl : (coreL M).length < 1000
  case neg => rw [if_neg hl] at ha; cases ha
  rw [if_pos hl] at ha
  have ha := Option.some.inj ha
  rw [coreL_len, hml] at ha hl
  have CS : Hid (Calls Tryz.prog 117 #[ptrV pr, .string ⟨#[123]⟩] w (StepPost ρ w pr pw g cap len m M v N l3 doc (.bool true))) := Lib.hid (skip_hit w h [123] hs)
  have CA : Hid (∀ W, Rd ρ W pr pw g cap len m M v N l3 doc → Calls Tryz.prog 120 #[ptrV pr, .agg #[.int .i64 4, .string ⟨#[]⟩, .string ⟨#[]⟩, .string ⟨#[]⟩, .slice none 0 0, .int .i64 0, .slice none 0 0, .int .i64 0, .int .i64 0, .int .i64 0]] W fun e w' => e = .returned (.int .i64 (len : Int)) ∧ ∃ (ρ' : Nat → Nat) (g' cap' : Nat) (y : NodeD), Rd ρ' w' pr pw g' cap' (len + 1) m (M ++ [y]) v N l3 doc ∧ y.core = aloneC (nodeC 4 [] [] [] [] doc) len ∧ Gone pr ρ ρ' W w') := Lib.hid (fun W hR =>
    radd_any W hR (zD 4 0) (zD_ok W ⟨by decide, by decide⟩ ⟨by decide, by decide⟩) ⟨by decide, by decide⟩ hl)
  have HK := Lib.hid K
  have HRK := Lib.hid hk
  have HA := Lib.hid ha
  have HML := Lib.hid hml
  have HSM := Lib.hid h.small
  have hl64 : (len : Int) + 1 ≤ 9223372036854775807 := by omega
  have hh64 : (hst : Int) ≤ 9223372036854775807 := by omega
  clear h hs hk K ha hml
  go_enter Tryz.func137, Tryz.ntmps137
  go_upto_region 4 with (first
    | (go_at_call 117; (with_reducible refine CS.out.mono ?_); rintro e w1 ⟨rfl, hR, hG⟩; have HR := Lib.hid hR; have HG := Lib.hid hG; clear hR hG)
    | (go_at_call 120; (with_reducible refine (CA.out _ HR.out).mono ?_); rintro e w2 ⟨rfl, ρ2, g2, cap2, y, hR, hy, hG⟩; have HR2 := Lib.hid hR; have HY := Lib.hid hy; have HG2 := Lib.hid (HG.out.trans hG); clear hR hG hy))
  obtain ⟨x, hx⟩ : ∃ x, M[hst]? = some x := ⟨_, List.getElem?_eq_getElem (by rw [HML.out]; exact hh)⟩
  have HX : Hid ((M ++ [y])[hst]? = some x) := Lib.hid (by rw [List.getElem?_append_left (by rw [HML.out]; exact hh)]; exact hx)
  have HYL : Hid ((M ++ [y])[len]? = some y) := Lib.hid (by rw [List.getElem?_append_right (by rw [HML.out]; exact Nat.le_refl _), HML.out, Nat.sub_self]; rfl)
  have r0 := HR2.out.r0
  have p0 := HR2.out.wk.c0
  have c8 := HR2.out.wk.cells hst x 8 _ HX.out rfl
  have c7 := HR2.out.wk.cells len y 7 _ HYL.out rfl
  have f8 := HR2.out.wk.gfree (hst * 10 + 8)
  have f7 := HR2.out.wk.gfree (len * 10 + 7)
  have hne : len * 10 + 7 ≠ hst * 10 + 8 := by omega
  have hlt1 : hst < len + 1 := by omega
  clear hx
  have hi1 : (hst : Int) < (len : Int) + 1 := by omega
  have hi2 : (len : Int) < (len : Int) + 1 := by omega
  have hlen1 : len < len + 1 := Nat.lt_succ_self _
  have hgp1 : g2 ≠ pr := fun e => by have h1 := HR2.out.wk.grole; rw [e, HR2.out.role] at h1; cases h1
  have hgp2 : g2 ≠ pw := fun e => by have h1 := HR2.out.wk.grole; rw [e, HR2.out.wk.prole] at h1; cases h1
  have hgp3 : pr ≠ g2 := fun e => hgp1 e.symm
  have hgp4 : pw ≠ g2 := fun e => hgp2 e.symm
  go_region_held3 (fun w' => w'.cell? ⟨pr, 0, none⟩ = some (ptrV pw) ∧ w'.cell? ⟨pw, 0, none⟩ = some (.slice (some ⟨g2, 0, none⟩) ((len : Nat) + 1) cap2)) (go_keep) (fail)
  clear r0 p0 c8 c7 f8 f7 hi1 hi2 hlen1 hgp1 hgp2 hgp3 hgp4 hlt1 hne
  have hl64' : In64 (len : Int) := in64_th (by omega)
  have hh64' : In64 (hst : Int) := in64_th (by omega)
  have hne2 : hst ≠ len := by omega
  have HYL2 : ((M ++ [y]).set hst (wiU x len))[len]? = some y := by rw [List.getElem?_set_ne hne2]; exact HYL.out
  have hW := (HR2.out.wk.setU HX.out hl64').setHo HYL2 hh64'
  have hgp : g2 ≠ pr := fun e => by have h1 := HR2.out.wk.grole; rw [e, HR2.out.role] at h1; cases h1
  have hsm1 : smallN x := HSM.out.2 x (by
    have h1 := HX.out
    rw [List.getElem?_append_left (by rw [HML.out]; exact hh)] at h1
    exact List.mem_of_getElem? h1)
  have hsm2 : smallN y := HR2.out.small.2 y (List.mem_of_getElem? HYL.out)
  have HR4' := Lib.hid (HR2.out.turned hW ((Below.heap_setCell _ _ _ pr (fun e => hgp e.symm)).trans (Below.heap_setCell _ _ _ pr (fun e => hgp e.symm))) (by simp [World.setCell]) (small_set (small_set HR2.out.small (y := wiU x len) hsm1) (y := wiH y hst) hsm2))
  have hgq : ∀ b, (ρ2 b = 0 ∨ ρ2 b = 5) → b ≠ g2 := fun b h0 e => by have h1 := HR2.out.wk.grole; rw [e, h1] at h0; omega
  have HG4' := Lib.hid (HG2.out.trans (c := (w2.setCell ⟨g2, hst * 10 + 8, none⟩ (.int .i64 (len : Int))).setCell ⟨g2, len * 10 + 7, none⟩ (.int .i64 (hst : Int))) ⟨rfl, rfl, rfl, by simp [World.setCell], fun b _ _ h0 => (Below.heap_setCell _ _ _ b (hgq b h0)).trans (Below.heap_setCell _ _ _ b (hgq b h0)), fun _ _ _ => rfl⟩)
  have hcore : coreL (((M ++ [y]).set hst (wiU x len)).set len (wiH y hst)) = hangM F2 hst len := by
    rw [coreL_mod HYL2 (f := fun c => ⟨c.kind, c.name, c.is, c.data, c.attrs, c.parent, c.kids, hst, c.under, c.doc⟩) rfl, coreL_mod HX.out (f := fun c => ⟨c.kind, c.name, c.is, c.data, c.attrs, c.parent, c.kids, c.host, len, c.doc⟩) rfl, ← HA.out]
    unfold hangM coreL
    rw [List.map_append, List.map_cons, List.map_nil, HY.out]
  have HR4 := Lib.hid (HR4'.out.keep ((Below.refl _ _).drew))
  have HG4 := Lib.hid (HG4'.out.trans (Gone.of_below ((Below.refl _ _).drew)))
  clear HR4' HG4'
  have CK : Hid (Calls Tryz.prog 119 #[ptrV pr, .int .i64 (len : Int), .string ⟨#[125]⟩] ((w2.setCell ⟨g2, hst * 10 + 8, none⟩ (.int .i64 (len : Int))).setCell ⟨g2, len * 10 + 7, none⟩ (.int .i64 (hst : Int))).drew (ReadPost ρ2 ((w2.setCell ⟨g2, hst * 10 + 8, none⟩ (.int .i64 (len : Int))).setCell ⟨g2, len * 10 + 7, none⟩ (.int .i64 (hst : Int))).drew pr pw m N doc l4 F3)) := Lib.hid (HK.out _ _ _ _ _ _ _ _ _ _ _ _ HR4.out (by rw [hcore]; exact HRK.out))
  clear hW hcore hgq hgp hsm1 hsm2 HYL2 hl64' hh64'
  generalize ((w2.setCell ⟨g2, hst * 10 + 8, none⟩ (.int .i64 (len : Int))).setCell ⟨g2, len * 10 + 7, none⟩ (.int .i64 (hst : Int))).drew = w4 at CK HG4 ⊢
  go_wp2_with (go_at_call 119; (with_reducible refine CK.out.mono ?_); rintro e w5 ⟨rfl, hp⟩; have HP := Lib.hid hp; clear hp)
  go_ret
  obtain ⟨ρ5, g5, cap5, len5, M5, v5, h1, h2, h3⟩ := HP.out
  exact ⟨rfl, ρ5, g5, cap5, len5, M5, v5, h1, h2, HG4.out.trans h3⟩
end
end Go.Proofs.YtkfmengdffpcnaaGreatDoor
