/- Texts joined in build order: ReaderAdd ReaderNew. -/
import Derived.Test.YtnjoimedilonnaaGreatC32
namespace Go.Proofs.YtnjoimedilonnaaGreat
open Go.RowKit
section
variable {ρ : Nat → Nat} {W : World} {pr pw g cap len : Nat} {m : Int} {M : List NodeD} {v : Value} {N : List NoteD} {l l2 : BL} {doc : Int}
theorem Rd.box (h : Rd ρ W pr pw g cap len m M v N l doc) (B : Obj) : Rd (upd ρ (some W.heap.size) 5) (W.alloc B) pr pw g cap len m M v N l doc ∧ Gone pr ρ (upd ρ (some W.heap.size) 5) W (W.alloc B) ∧ upd ρ (some W.heap.size) 5 W.heap.size = 5 := by
  have hb := below_box W B
  have hk := h.keep hb
  have hs : (W.alloc B).heap.size = W.heap.size + 1 := by simp
  have hp := h.rlt
  have hm := hk.wk.markR (b := W.heap.size) 5 (by omega) (h.wk.fresh _ (Nat.le_refl _)) (fun x hx b off he hp => by have := attr_block_lt (h.wk.aok x hx) he hp; omega)
  refine ⟨⟨hm, hk.r0, hk.r1, hk.r2, hk.rf, hk.rlt, ?_, hk.small, hk.hdoc⟩, ⟨hb.os, hb.tape, hb.output, hb.size, fun b hb2 _ _ => hb.block b hb2, fun b hb2 _ => ?_⟩, ?_⟩
  · unfold upd
    rw [if_neg (fun e => by injection e with e; omega)]
    exact h.role
  · unfold upd
    rw [if_neg (fun e => by injection e with e; omega)]
  · unfold upd
    rw [if_pos rfl]
theorem Rd.put (h : Rd ρ W pr pw g cap len m M v N l doc) {b : Nat} (h5 : ρ b = 5) (hne : b ≠ pr) (o : Nat) (u : Value) : Rd ρ (W.setCell ⟨b, o, none⟩ u) pr pw g cap len m M v N l doc :=
  ⟨h.wk.otherR (.inr h5) o u, (World.cell?_setCell_other _ _ _ _ (fun e => by injection e with e _; exact hne e)).trans h.r0, (World.cell?_setCell_other _ _ _ _ (fun e => by injection e with e _; exact hne e)).trans h.r1, (World.cell?_setCell_other _ _ _ _ (fun e => by injection e with e _; exact hne e)).trans h.r2, fun o => by rw [World.frozen?_setCell]; exact h.rf o, by simpa [World.setCell] using h.rlt, h.role, h.small, h.hdoc⟩
theorem Gone.put {ρ' : Nat → Nat} {w w' : World} (h : Gone pr ρ ρ' w w') {b : Nat} (hb : w.heap.size ≤ b) (o : Nat) (u : Value) : Gone pr ρ ρ' w (w'.setCell ⟨b, o, none⟩ u) :=
  ⟨h.os, h.tape, h.output, by simpa [World.setCell] using h.size, fun k hk hne h0 => (Below.heap_setCell _ _ _ k (fun e => by have e : k = b := e; omega)).trans (h.quiet k hk hne h0), h.old⟩
def BoxPost (ρ : Nat → Nat) (w : World) (pr pw g cap len : Nat) (m : Int) (M : List NodeD) (v : Value) (N : List NoteD) (l2 : BL) (doc : Int) (u : Value) (e : Ending) (w' : World) : Prop :=
  e = .returned u ∧ ∃ ρ', Rd ρ' w' pr pw g cap len m M v N l2 doc ∧ Gone pr ρ ρ' w w'
set_option maxHeartbeats 4000000 in
set_option maxRecDepth 100000 in
theorem attr_any (w : World) (h : Rd ρ w pr pw g cap len m M v N l doc) {a : ByteArray × ByteArray} (ha : attrM l = some (a, l2)) :
    Calls Tryz.prog 79 #[ptrV pr] w (BoxPost ρ w pr pw g cap len m M v N l2 doc (.tuple #[.agg #[.string a.1, .string a.2], .bool true])) := by
  unfold attrM at ha
  cases hw : wordM l with
  | none => rw [hw] at ha; cases ha
  | some nl =>
  obtain ⟨n, l3⟩ := nl
  rw [hw] at ha
  dsimp only at ha
  cases hs : skipM l3 [61] with
  | none => rw [hs] at ha; cases ha
  | some l4 =>
  rw [hs] at ha
  dsimp only at ha
  cases hq : quoM l4 with
  | none => rw [hq] at ha; cases ha
  | some sl =>
  obtain ⟨s, l5⟩ := sl
  rw [hq] at ha
  have ha := Option.some.inj ha
  injection ha with ha1 ha2
  subst ha1 ha2
  obtain ⟨hR0, hG0, h5⟩ := h.box (.cells #[.string ⟨#[]⟩, .string ⟨#[]⟩] 67)
  have hplt := h.rlt
  obtain ⟨b, hb⟩ : ∃ b, w.heap.size = b := ⟨_, rfl⟩
  have hc0 : (w.alloc (.cells #[.string ⟨#[]⟩, .string ⟨#[]⟩] 67)).cell? ⟨b, 0, none⟩ = some (.string ⟨#[]⟩) := by rw [← hb]; exact cell_of_row _ w.heap.size 0 _ 67 (0, 0) (heap_alloc_new w _)
  have hc1 : (w.alloc (.cells #[.string ⟨#[]⟩, .string ⟨#[]⟩] 67)).cell? ⟨b, 1, none⟩ = some (.string ⟨#[]⟩) := by rw [← hb]; exact cell_of_row _ w.heap.size 1 _ 67 (0, 0) (heap_alloc_new w _)
  have hf : ∀ o, (w.alloc (.cells #[.string ⟨#[]⟩, .string ⟨#[]⟩] 67)).frozen? ⟨b, o, none⟩ = false := fun o => by rw [← hb]; exact row_free (heap_alloc_new w _) o
  have hlt : b < (w.alloc (.cells #[.string ⟨#[]⟩, .string ⟨#[]⟩] 67)).heap.size := by rw [← hb]; simp
  rw [hb] at hR0 hG0 h5
  obtain ⟨ρ0, hρ⟩ : ∃ ρ0, upd ρ (some b) 5 = ρ0 := ⟨_, rfl⟩
  obtain ⟨w0, hw0⟩ : ∃ w0, w.alloc (.cells #[.string ⟨#[]⟩, .string ⟨#[]⟩] 67) = w0 := ⟨_, rfl⟩
  rw [hρ, hw0] at hR0 hG0
  rw [hρ] at h5
  rw [hw0] at hc0 hc1 hf hlt
  have hbp : b ≠ pr := by omega
  have HW0 := Lib.hid hw0
  have HB := Lib.hid hb
  have HR0 := Lib.hid hR0
  have HG0 := Lib.hid hG0
  have CW := Lib.hid (word_any w0 hR0 hw)
  have CS : Hid (∀ W, Rd ρ0 W pr pw g cap len m M v N l3 doc → Calls Tryz.prog 63 #[ptrV pr, .string ⟨#[61]⟩] W (StepPost ρ0 W pr pw g cap len m M v N l4 doc (.bool true))) := Lib.hid (fun W h => skip_hit W h [61] hs)
  have CQ : Hid (∀ W, Rd ρ0 W pr pw g cap len m M v N l4 doc → Calls Tryz.prog 67 #[ptrV pr] W (StepPost ρ0 W pr pw g cap len m M v N l5 doc (.tuple #[.string (strB s), .bool true]))) := Lib.hid (fun W h => quoted_any W h hq)
  have HC : Hid (∀ W, Gone pr ρ0 ρ0 w0 W → W.cell? ⟨b, 0, none⟩ = some (.string ⟨#[]⟩) ∧ W.cell? ⟨b, 1, none⟩ = some (.string ⟨#[]⟩) ∧ (∀ o, W.frozen? ⟨b, o, none⟩ = false)) := Lib.hid (fun W hg => ⟨(hg.cell hlt hbp (.inr h5)).trans hc0, (hg.cell hlt hbp (.inr h5)).trans hc1, fun o => (hg.frozen hlt hbp (.inr h5)).trans (hf o)⟩)
  have H5 := Lib.hid h5
  clear h hw hs hq hR0 hG0 h5 hc0 hc1 hf hlt hρ hw0 hb
  go_enter Tryz.func79, Tryz.ntmps79
  go_upto_region 1 with fail
  rw [HW0.out, HB.out]
  go_upto_region 5 with (first
    | (go_at_call 78; (with_reducible refine CW.out.mono ?_); rintro e w1 ⟨rfl, hR, hG⟩; have HR := Lib.hid hR; have HG := Lib.hid hG; clear hR hG)
    | (go_at_call 63; (with_reducible refine (CS.out _ HR.out).mono ?_); rintro e w2 ⟨rfl, hR, hG⟩; have HR2 := Lib.hid hR; have HG2 := Lib.hid (HG.out.trans hG); clear hR hG)
    | (go_at_call 67; (with_reducible refine (CQ.out _ HR2.out).mono ?_); rintro e w3 ⟨rfl, hR, hG⟩; have HR3 := Lib.hid hR; have HG3 := Lib.hid (HG2.out.trans hG); clear hR hG))
  obtain ⟨d0, d1, df⟩ := HC.out _ HG3.out
  have f0 := df 0
  have f1 := df 1
  clear df
  go_wp2
  have q1 : ((w3.setCell ⟨b, 0, none⟩ (.string (strB n))).setCell ⟨b, 1, none⟩ (.string (strB s))).cell? ⟨b, 1, none⟩ = some (.string (strB s)) := World.cell?_setCell_same _ _ _ ((World.cell?_setCell_other _ _ _ _ (fun e => by injection e with _ e; omega)).trans d1)
  have q0 : ((w3.setCell ⟨b, 0, none⟩ (.string (strB n))).setCell ⟨b, 1, none⟩ (.string (strB s))).cell? ⟨b, 0, none⟩ = some (.string (strB n)) := (World.cell?_setCell_other _ _ _ _ (fun e => by injection e with _ e; omega)).trans (World.cell?_setCell_same _ _ _ d0)
  have hbw : w.heap.size ≤ b := by rw [HB.out]; exact Nat.le_refl _
  refine bodyPost_ret (v := .tuple #[.agg #[.string (strB n), .string (strB s)], .bool true]) ?_ rfl ⟨rfl, ρ0, (HR3.out.put H5.out hbp 0 _).put H5.out hbp 1 _, ((HG0.out.trans HG3.out).put hbw 0 _).put hbw 1 _⟩
  simp [results, Tryz.results79, go_sem, q0, q1]
end
end Go.Proofs.YtnjoimedilonnaaGreat
namespace Go.Proofs.YtnjoimedilonnaaGreat
open Go.RowKit
section
variable {ρ : Nat → Nat} {W : World} {pr pw g cap len : Nat} {m : Int} {M : List NodeD} {v : Value} {N : List NoteD} {l l2 : BL} {doc : Int}
theorem nodeOk_withD {w : World} {x : NodeD} {d : Int} (h : NodeOk w x) (hd : In64 d) : NodeOk w (withD x d) := ⟨h.attrs, h.kids, h.name, h.is, h.data, h.kind, h.parent, h.host, h.under, hd⟩
theorem Rd.added {w w' : World} (h : Rd ρ w pr pw g cap len m M v N l doc) {x : NodeD} (hsx : smallX x) (hl : len < 1000) {c : Core} {e : Ending} (hc : c = aloneC x.core len) (hp : AddPost ρ w pw g len m M v N c e w') :
    e = .returned (.int .i64 (len : Int)) ∧ ∃ (ρ' : Nat → Nat) (g' cap' : Nat) (y : NodeD), Rd ρ' w' pr pw g' cap' (len + 1) m (M ++ [y]) v N l doc ∧ y.core = c ∧ Gone pr ρ ρ' w w' := by
  obtain ⟨rfl, g2, cap2, y, hy, hwk, htu, hg2, hold⟩ := hp
  have hg := h.wk.glt
  have hgr := h.wk.grole
  have two : ∀ b, b < w.heap.size → (ρ b = 0 ∨ ρ b = 5) → addR ρ g g2 b = ρ b := fun b hb h0 => by
    have hne : b ≠ g := fun e => by rw [e, hgr] at h0; omega
    exact addR_other (by rcases hg2 with e | e; exact fun e2 => hne (e2.trans e); omega) hne
  have hpr := two pr h.rlt (.inr h.role)
  have hq : ∀ o, w'.cell? ⟨pr, o, none⟩ = w.cell? ⟨pr, o, none⟩ := fun o => World.cell?_of_block (w := w) (a := ⟨pr, o, none⟩) (htu.quiet pr h.rlt (.inr h.role))
  have hqf : ∀ o, w'.frozen? ⟨pr, o, none⟩ = w.frozen? ⟨pr, o, none⟩ := fun o => World.frozen?_of_block (w := w) (a := ⟨pr, o, none⟩) (htu.quiet pr h.rlt (.inr h.role))
  refine ⟨rfl, _, g2, cap2, y, ⟨hwk, (hq 0).trans h.r0, (hq 1).trans h.r1, (hq 2).trans h.r2, fun o => (hqf o).trans (h.rf o), Nat.lt_of_lt_of_le h.rlt htu.size, hpr.trans h.role, ?_, h.hdoc⟩, hy, Gone.of_turn htu two⟩
  have hml := h.wk.hlen
  refine ⟨by rw [List.length_append, hml]; simp; omega, fun z hz => ?_⟩
  rcases List.mem_append.1 hz with hz | hz
  · exact h.small.2 z hz
  · rw [List.mem_singleton.1 hz]
    unfold smallN
    rw [hy, hc]
    exact ⟨Nat.zero_le _, hsx⟩
set_option maxHeartbeats 4000000 in
set_option maxRecDepth 100000 in
theorem radd_any (w : World) (h : Rd ρ w pr pw g cap len m M v N l doc) (x : NodeD) (hx : NodeOk w x) (hsx : smallX x) (hl : len < 1000) :
    Calls Tryz.prog 66 #[ptrV pr, nodVal x] w fun e w' => e = .returned (.int .i64 (len : Int)) ∧ ∃ (ρ' : Nat → Nat) (g' cap' : Nat) (y : NodeD), Rd ρ' w' pr pw g' cap' (len + 1) m (M ++ [y]) v N l doc ∧ y.core = aloneC (withD x doc).core len ∧ Gone pr ρ ρ' w w' := by
  have hxd := nodeOk_withD hx h.hdoc
  have hbb := below_box w (nodB (withD x doc))
  have HB : Hid (Below w.heap.size w (w.alloc (nodB (withD x doc)))) := Lib.hid hbb
  have CA : Hid (∀ W, Below w.heap.size w W → Calls Tryz.prog 82 #[ptrV pw, nodVal (withD x doc)] W (fun e w' => e = .returned (.int .i64 (len : Int)) ∧ ∃ (ρ' : Nat → Nat) (g' cap' : Nat) (y : NodeD), Rd ρ' w' pr pw g' cap' (len + 1) m (M ++ [y]) v N l doc ∧ y.core = aloneC (withD x doc).core len ∧ Gone pr ρ ρ' W w')) := Lib.hid (fun W hb =>
    (madd_any W (h.wk.keep hb) (by omega) (withD x doc) (hxd.below hb) hsx).mono (fun e w' hp => (h.keep hb).added (x := withD x doc) hsx hl rfl hp))
  obtain ⟨-, x0, x1, x2, x3, x4, x5, x6, x7, x8, x9, -⟩ := NBox.one (w := w) hxd
  obtain ⟨w0, hw0⟩ : ∃ w0, w.alloc (nodB (withD x doc)) = w0 := ⟨_, rfl⟩
  have hr2 := h.r2
  have hr0 := (h.keep hbb).r0
  rw [hw0] at HB x0 x1 x2 x3 x4 x5 x6 x7 x8 x9 hr0
  have HW := Lib.hid hw0
  have hxn : x.core.data.size ≤ 9223372036854775807 := hx.data
  have r2 : ∀ o, (w.alloc o).cell? ⟨pr, 2, none⟩ = some (.int .i64 doc) := fun o => (h.keep (below_box w o)).r2
  clear h hxd hbb hx hsx hw0
  go_enter Tryz.func66, Tryz.ntmps66
  go_upto_region 2 with fail
  show Code.wp _ _ _ _ (w.alloc (nodB (withD x doc)))
  rw [HW.out]
  dsimp only [withD] at x0 x1 x2 x3 x4 x5 x6 x7 x8 x9
  have CA : Hid (∀ W, Below w.heap.size w W → Calls Tryz.prog 82 #[ptrV pw, .agg #[.int .i64 x.core.kind, .string x.core.name, .string x.core.is, .string x.core.data, .slice x.aA x.aN x.aC, .int .i64 x.core.parent, .slice x.kA x.kN x.kC, .int .i64 x.core.host, .int .i64 x.core.under, .int .i64 doc]] W (fun e w' => e = .returned (.int .i64 (len : Int)) ∧ ∃ (ρ' : Nat → Nat) (g' cap' : Nat) (y : NodeD), Rd ρ' w' pr pw g' cap' (len + 1) m (M ++ [y]) v N l doc ∧ y.core = aloneC (withD x doc).core len ∧ Gone pr ρ ρ' W w')) := CA
  go_region_with (go_at_call 82; (with_reducible refine (CA.out _ HB.out.drew).mono ?_); rintro e w1 ⟨rfl, hp⟩; have HP := Lib.hid hp; clear hp)
  all_goals go_wp2
  all_goals
    go_ret
    obtain ⟨ρ', g', cap', y, h1, h2, h3⟩ := HP.out
    exact ⟨rfl, ρ', g', cap', y, h1, h2, (Gone.of_below HB.out.drew).trans h3⟩
end
end Go.Proofs.YtnjoimedilonnaaGreat
