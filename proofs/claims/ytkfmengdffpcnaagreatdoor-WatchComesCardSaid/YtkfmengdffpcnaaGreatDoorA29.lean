/- Texts joined in build order: ReaderKids ReaderHead ReaderElem. -/
import Derived.Test.YtkfmengdffpcnaaGreatDoorA28
import Derived.Deep.LoopGhost
import Derived.Test.YtkfmengdffpcnaaGreatDoorA04
namespace Go.Proofs.YtkfmengdffpcnaaGreatDoor
open Go.RowKit
section
variable {ρ : Nat → Nat} {W : World} {pr pw g cap len : Nat} {m : Int} {M : List NodeD} {v : Value} {N : List NoteD} {l l2 : BL} {doc : Int}
theorem shadow_miss (w : World) (h : Rd ρ w pr pw g cap len m M v N l doc) {hst : Int} (hs : skipM l [123] = none) :
    Calls Tryz.prog 137 #[ptrV pr, .int .i64 hst] w (StepPost ρ w pr pw g cap len m M v N l doc (.bool true)) := by
  have CS : Hid (Calls Tryz.prog 117 #[ptrV pr, .string ⟨#[123]⟩] w (StepPost ρ w pr pw g cap len m M v N l doc (.bool false))) := Lib.hid (skip_miss w h [123] hs)
  clear h hs
  go_enter Tryz.func137, Tryz.ntmps137
  go_wp2_with (go_at_call 117; (with_reducible refine CS.out.mono ?_); rintro e w1 ⟨rfl, hR, hG⟩; have HR := Lib.hid hR; have HG := Lib.hid hG; clear hR hG)
  go_ret
  exact ⟨rfl, HR.out, HG.out⟩
theorem readM_kids (doc : Int) (k p : Nat) (stop l : BL) (F : List Core) : readM doc (k + 1) (.kids p stop) l F = match skipM l stop with
    | some l1 => some (l1, F)
    | none => match readM doc k .node l F with
      | none => none
      | some (l1, F1) => if (kidsK F1 p).length < 1000 ∧ p < F.length ∧ F.length < F1.length then readM doc k (.kids p stop) l1 (mvIn F1 F.length p (-1)) else none := rfl
theorem kids_small {x y : NodeD} {n p : Nat} {a : Option Addr} {c : Nat} (h : smallF M) (hx : M[n]? = some x) (hy : M[p]? = some y) (hk : y.core.kids.length < 1000) : smallF ((M.set p (withK y a (y.kN + 1) c (insB y.core.kids (-1) n))).set n (withP x p)) := by
  have hy2 := h.2 y (List.mem_of_getElem? hy)
  refine small_set (small_set h ⟨?_, hy2.2⟩) (h.2 x (List.mem_of_getElem? hx))
  show (insB y.core.kids (-1) n).length ≤ 1000
  unfold insB
  rw [if_pos rfl, List.length_append]
  simp
  omega
set_option maxHeartbeats 4000000 in
set_option maxRecDepth 100000 in
theorem kids_step (k : Nat) (K : ∀ j, j < k → NodeAtK pr pw m N doc j) (w : World) (h : Rd ρ w pr pw g cap len m M v N l doc) {p : Nat} (stop l' : BL) (F' : List Core) (hr : readM doc k (.kids p stop) l (coreL M) = some (l', F')) :
    Calls Tryz.prog 119 #[ptrV pr, .int .i64 (p : Int), .string ⟨stop.toArray⟩] w (ReadPost ρ w pr pw m N doc l' F') := by
  have HN := Lib.hid K
  have HR0 := Lib.hid h
  have HRM := Lib.hid hr
  have CSH : Hid (∀ ρ1 W g1 cap1 len1 M1 v1 l1 l2, Rd ρ1 W pr pw g1 cap1 len1 m M1 v1 N l1 doc → skipM l1 stop = some l2 → Calls Tryz.prog 117 #[ptrV pr, .string ⟨stop.toArray⟩] W (StepPost ρ1 W pr pw g1 cap1 len1 m M1 v1 N l2 doc (.bool true))) := Lib.hid (fun _ W _ _ _ _ _ _ _ h1 h2 => skip_hit W h1 stop h2)
  have CSM : Hid (∀ ρ1 W g1 cap1 len1 M1 v1 l1, Rd ρ1 W pr pw g1 cap1 len1 m M1 v1 N l1 doc → skipM l1 stop = none → Calls Tryz.prog 117 #[ptrV pr, .string ⟨stop.toArray⟩] W (StepPost ρ1 W pr pw g1 cap1 len1 m M1 v1 N l1 doc (.bool false))) := Lib.hid (fun _ W _ _ _ _ _ _ h1 h2 => skip_miss W h1 stop h2)
  obtain ⟨st, hst⟩ : ∃ st : ByteArray, (⟨stop.toArray⟩ : ByteArray) = st := ⟨_, rfl⟩
  rw [hst] at CSH CSM ⊢
  clear hst h hr K
  go_enter Tryz.func119, Tryz.ntmps119
  go_upto_region 1 with fail
  go_wp2
  go_loopg [7] k (fun gk _ wr => ∃ (ρ1 : Nat → Nat) (g1 cap1 len1 : Nat) (M1 : List NodeD) (v1 : Value) (l1 : BL), gk ≤ k ∧ Hid (Rd ρ1 wr pr pw g1 cap1 len1 m M1 v1 N l1 doc) ∧ Hid (readM doc gk (.kids p stop) l1 (coreL M1) = some (l', F')) ∧ Hid (Gone pr ρ ρ1 w wr))
  case atStart => exact ⟨ρ, g, cap, len, M, v, l, Nat.le_refl _, HR0, HRM, Lib.hid (Gone.refl _ _ _)⟩
  case round =>
    obtain ⟨ρ1, g1, cap1, len1, M1, v1, l1, hgk, HR, HM, HG⟩ := hrel
    cases gk with
    | zero => have := HM.out; cases this
    | succ j =>
      have hm := HM.out
      rw [readM_kids] at hm
      cases hs : skipM l1 stop with
      | some l2 =>
        rw [hs] at hm
        have HE := Lib.hid (Option.some.inj hm)
        have CS := Lib.hid (CSH.out _ _ _ _ _ _ _ _ _ HR.out hs)
        clear hm hs
        go_wp2_with (go_at_call 117; (with_reducible refine CS.out.mono ?_); rintro e w1 ⟨rfl, hR, hG⟩; have HR2 := Lib.hid hR; have HG2 := Lib.hid (HG.out.trans hG); clear hR hG)
        go_ret
        have he := HE.out
        injection he with e1 e2
        subst e1
        exact ⟨rfl, ρ1, g1, cap1, len1, M1, v1, HR2.out, e2, HG2.out⟩
      | none =>
        rw [hs] at hm
        dsimp only at hm
        have CS := Lib.hid (CSM.out _ _ _ _ _ _ _ _ HR.out hs)
        cases hn : readM doc j .node l1 (coreL M1) with
        | none => rw [hn] at hm; cases hm
        | some lf =>
        obtain ⟨l2, F1⟩ := lf
        rw [hn] at hm
        dsimp only at hm
        by_cases hg : (kidsK F1 p).length < 1000 ∧ p < (coreL M1).length ∧ (coreL M1).length < F1.length
        case neg => rw [if_neg hg] at hm; cases hm
        rw [if_pos hg] at hm
        have hml : (coreL M1).length = len1 := by rw [coreL_len, HR.out.wk.hlen]
        rw [hml] at hm hg
        have HM2 := Lib.hid hm
        have HGD := Lib.hid hg
        have CN : Hid (∀ W, Rd ρ1 W pr pw g1 cap1 len1 m M1 v1 N l1 doc → Calls Tryz.prog 98 #[ptrV pr] W (ReadPost ρ1 W pr pw m N doc l2 F1)) := Lib.hid (fun W h1 => HN.out j (by omega) _ _ _ _ _ _ _ _ _ _ h1 hn)
        have hl64 : (len1 : Int) ≤ 9223372036854775807 := by
          have h1 := HR.out.small.1
          have h2 := HR.out.wk.hlen
          omega
        clear hm hs hn hg hml HM
        go_upto_region 2 with (go_at_call 117; (with_reducible refine CS.out.mono ?_); rintro e w1 ⟨rfl, hR, hG⟩; have HR2 := Lib.hid hR; have HG2 := Lib.hid (HG.out.trans hG); clear hR hG)
        have r0 := HR2.out.r0
        have p0 := HR2.out.wk.c0
        go_upto_region 5 with (go_at_call 98; (with_reducible refine (CN.out _ HR2.out).mono ?_); rintro e w2 ⟨rfl, ρ2, g2, cap2, len2, M2, v2, hR, hc, hG⟩; have HR3 := Lib.hid hR; have HC := Lib.hid hc; have HG3 := Lib.hid (HG2.out.trans hG); clear hR hc hG r0 p0)
        have hF2 : F1.length = len2 := by rw [← HC.out, coreL_len, HR3.out.wk.hlen]
        obtain ⟨hg1, hg2, hg3⟩ := HGD.out
        have hlt2 : len1 < len2 := by omega
        have hp2 : p < len2 := by omega
        obtain ⟨x, hx⟩ : ∃ x, M2[len1]? = some x := ⟨_, List.getElem?_eq_getElem (by rw [HR3.out.wk.hlen]; exact hlt2)⟩
        obtain ⟨y, hy⟩ : ∃ y, M2[p]? = some y := ⟨_, List.getElem?_eq_getElem (by rw [HR3.out.wk.hlen]; exact hp2)⟩
        have hky : y.core.kids.length < 1000 := by
          rw [← HC.out] at hg1
          unfold kidsK at hg1
          rw [getC_nat, coreL_get hy] at hg1
          exact hg1
        have CS2 : Hid (Calls Tryz.prog 89 #[ptrV pw, .int .i64 (len1 : Int), .int .i64 (p : Int), .int .i64 (-1)] w2 fun e w' => e = .returned (.tuple #[]) ∧ ∃ (ρ3 : Nat → Nat) (M3 : List NodeD) (v3 : Value), Rd ρ3 w' pr pw g2 cap2 len2 m M3 v3 N l2 doc ∧ coreL M3 = mvIn F1 len1 p (-1) ∧ Gone pr ρ2 ρ3 w2 w') := Lib.hid ((mstandP_any w2 HR3.out.wk HR3.out.small len1 p x y hx hy (by omega) (-1) (.inl rfl)).mono (fun e w' hq => by
          obtain ⟨he, ρ3, M3, v3, N3, hW, hT, hO, ⟨a3, c3, rfl⟩, rfl⟩ := hq
          have hq := hT.quiet pr HR3.out.rlt (.inr HR3.out.role)
          refine ⟨he, ρ3, _, v3, ⟨hW, (World.cell?_of_block (w := w2) (a := ⟨pr, 0, none⟩) hq).trans HR3.out.r0, (World.cell?_of_block (w := w2) (a := ⟨pr, 1, none⟩) hq).trans HR3.out.r1, (World.cell?_of_block (w := w2) (a := ⟨pr, 2, none⟩) hq).trans HR3.out.r2, fun o => (World.frozen?_of_block (w := w2) (a := ⟨pr, o, none⟩) hq).trans (HR3.out.rf o), Nat.lt_of_lt_of_le HR3.out.rlt hT.size, (hO pr HR3.out.rlt).trans HR3.out.role, kids_small HR3.out.small hx hy hky, HR3.out.hdoc⟩, ?_, Gone.of_turn hT (fun b hb _ => hO b hb)⟩
          rw [stand_core hx hy (by omega), HC.out]))
        have r0 := HR3.out.r0
        clear hF2 hg1 hg2 hg3 hx hy hky
        go_wp2_with (go_at_call 89; (with_reducible refine CS2.out.mono ?_); rintro e w3 ⟨rfl, ρ3, M3, v3, hR, hc, hG⟩; have HR4 := Lib.hid hR; have HC4 := Lib.hid hc; have HG4 := Lib.hid (HG3.out.trans hG); clear hR hc hG r0)
        go_roundg j
        case measure => omega
        case rel => exact ⟨ρ3, g2, cap2, len2, M3, v3, l2, by omega, HR4, Lib.hid (by rw [HC4.out]; exact HM2.out), HG4⟩
end
end Go.Proofs.YtkfmengdffpcnaaGreatDoor
namespace Go.Proofs.YtkfmengdffpcnaaGreatDoor
open Go.RowKit
section
variable {ρ ρ' : Nat → Nat} {W W1 W2 : World} {pr pw g cap len : Nat} {m : Int} {M : List NodeD} {v : Value} {N : List NoteD} {l l2 : BL} {doc : Int}
theorem Wk.grown5 (h : Wk ρ W pw g cap len m M v N) {row : Option Nat} (hg : W.grownBy W1 row) (hr : ∀ b, row = some b → ρ b = 5) : Wk ρ W1 pw g cap len m M v N := by
  have same : ∀ b, b < W.heap.size → ρ b ≠ 5 → W1.heap[b]? = W.heap[b]? := fun b hb h5 => hg.block b hb (fun e => h5 (hr b e.symm))
  have cel : ∀ b o, b < W.heap.size → ρ b ≠ 5 → W1.cell? ⟨b, o, none⟩ = W.cell? ⟨b, o, none⟩ := fun b o hb h5 => World.cell?_of_block (w := W) (a := ⟨b, o, none⟩) (same b hb h5)
  have frz : ∀ b o, b < W.heap.size → ρ b ≠ 5 → W1.frozen? ⟨b, o, none⟩ = W.frozen? ⟨b, o, none⟩ := fun b o hb h5 => World.frozen?_of_block (w := W) (a := ⟨b, o, none⟩) (same b hb h5)
  have hgr : ρ g ≠ 5 := by rw [h.grole]; decide
  have hpr : ρ pw ≠ 5 := by rw [h.prole]; decide
  refine ⟨h.hlen, h.hcap, h.hmax, fun i x j u hx hu => (cel _ _ h.glt hgr).trans (h.cells i x j u hx hu), fun o => (frz _ _ h.glt hgr).trans (h.gfree o), Nat.lt_of_lt_of_le h.glt hg.size,
    fun i x hx => own_same (h.kown i x hx) (fun b hb => same b (own_block_lt (h.kown i x hx) hb) (by rw [h.krole i x b hx hb]; omega)), h.krole,
    fun x hx => ⟨(h.aok x hx).row.keep hg.size (fun b off he hp o => cel b o (attr_block_lt (h.aok x hx) he hp) (by rw [(h.arole x hx b off he hp).1]; decide)), (h.aok x hx).small, (h.aok x hx).hnil⟩, h.arole, h.fld,
    (cel _ _ h.plt hpr).trans h.c0, (cel _ _ h.plt hpr).trans h.c1, (cel _ _ h.plt hpr).trans h.c2, fun o => (frz _ _ h.plt hpr).trans (h.pfree o), Nat.lt_of_lt_of_le h.plt hg.size,
    own_same h.nown (fun b hb => same b (own_block_lt h.nown hb) (by rw [h.nrole b hb]; decide)), h.nrole, h.nok, h.prole, h.grole, fun b hb => h.fresh b (Nat.le_trans hg.size hb), own_same h.gown (fun b hb => same b (own_block_lt h.gown hb) (by
      have hb : some g = some b := hb
      injection hb with e
      rw [← e]
      exact hgr))⟩
theorem Rd.grown5 (h : Rd ρ W pr pw g cap len m M v N l doc) {row : Option Nat} (hg : W.grownBy W1 row) (hr : ∀ b, row = some b → ρ b = 5 ∧ b ≠ pr) : Rd ρ W1 pr pw g cap len m M v N l doc := by
  have hq : W1.heap[pr]? = W.heap[pr]? := hg.block pr h.rlt (fun e => (hr pr e.symm).2 rfl)
  exact ⟨h.wk.grown5 hg (fun b e => (hr b e).1), (World.cell?_of_block (w := W) (a := ⟨pr, 0, none⟩) hq).trans h.r0, (World.cell?_of_block (w := W) (a := ⟨pr, 1, none⟩) hq).trans h.r1, (World.cell?_of_block (w := W) (a := ⟨pr, 2, none⟩) hq).trans h.r2, fun o => (World.frozen?_of_block (w := W) (a := ⟨pr, o, none⟩) hq).trans (h.rf o), Nat.lt_of_lt_of_le h.rlt hg.size, h.role, h.small, h.hdoc⟩
theorem Rd.role5 (h : Rd ρ W pr pw g cap len m M v N l doc) {q : Nat} (hq : q < W.heap.size) (h0 : ρ q = 5 ∨ (ρ q = 0 ∧ ∀ x ∈ M, ∀ b off, x.aA = some ⟨b, off, none⟩ → 0 < x.aN → b ≠ q)) : Rd (upd ρ (some q) 5) W pr pw g cap len m M v N l doc := by
  rcases h0 with h0 | ⟨h0, ha⟩
  · have e : upd ρ (some q) 5 = ρ := by
      funext b
      unfold upd
      by_cases e : some q = some b
      · rw [if_pos e]
        injection e with e
        rw [← e, h0]
      · rw [if_neg e]
    rw [e]
    exact h
  · refine ⟨h.wk.markR 5 hq h0 ha, h.r0, h.r1, h.r2, h.rf, h.rlt, ?_, h.small, h.hdoc⟩
    unfold upd
    split
    · rfl
    · exact h.role
abbrev elD (n s : BL) (acc : AL) (a : Option Addr) (k c : Nat) : NodeD := ⟨⟨1, strB n, strB s, ⟨#[]⟩, acc, 0, [], 0, 0, 0⟩, a, k, c, none, 0, 0⟩
structure Hd (ρ : Nat → Nat) (W : World) (pr b : Nat) (x : NodeD) : Prop where
  at_ : NodeAt W b 0 x
  fz : ∀ o, W.frozen? ⟨b, o, none⟩ = false
  lt : b < W.heap.size
  role : ρ b = 5
  ne : b ≠ pr
  own : W.ownsRow 0 99 2 (.slice x.aA x.aN x.aC) x.aN (x.core.attrs.flatMap encA)
  rrole : ∀ q, Value.ownBlock (.slice x.aA x.aN x.aC) = some q → ρ q = 5 ∧ q ≠ b ∧ q ≠ pr
  small : ∀ z ∈ x.core.attrs, z.1.size ≤ maxLen ∧ z.2.size ≤ maxLen
theorem nodeAt_same {b : Nat} {x : NodeD} (h : NodeAt W b 0 x) (hq : W1.heap[b]? = W.heap[b]?) : NodeAt W1 b 0 x := by
  have e : ∀ o', W1.cell? ⟨b, o', none⟩ = W.cell? ⟨b, o', none⟩ := fun o' => World.cell?_of_block (w := W) (a := ⟨b, o', none⟩) hq
  exact ⟨(e _).trans h.c0, (e _).trans h.c1, (e _).trans h.c2, (e _).trans h.c3, (e _).trans h.c4, (e _).trans h.c5, (e _).trans h.c6, (e _).trans h.c7, (e _).trans h.c8, (e _).trans h.c9⟩
theorem Hd.gone {b : Nat} {x : NodeD} (h : Hd ρ W pr b x) (hg : Gone pr ρ ρ' W W1) : Hd ρ' W1 pr b x := by
  have hq := hg.quiet b h.lt h.ne (.inr h.role)
  refine ⟨nodeAt_same h.at_ hq, fun o => (World.frozen?_of_block (w := W) (a := ⟨b, o, none⟩) hq).trans (h.fz o), Nat.lt_of_lt_of_le h.lt hg.size, (hg.old b h.lt (.inr h.role)).trans h.role, h.ne, own_same h.own (fun q e => hg.quiet q (own_block_lt h.own e) (h.rrole q e).2.2 (.inr (h.rrole q e).1)), fun q e => ?_, h.small⟩
  have h1 := h.rrole q e
  exact ⟨(hg.old q (own_block_lt h.own e) (.inr h1.1)).trans h1.1, h1.2⟩
theorem Hd.ok {b : Nat} {n s : BL} {acc : AL} {a : Option Addr} {k c : Nat} (h : Hd ρ W pr b (elD n s acc a k c)) (hn : n.length ≤ 1000) (hs : s.length ≤ 100000) (hk : acc.length = k) : NodeOk W (elD n s acc a k c) := by
  have z0 : In64 0 := ⟨by decide, by decide⟩
  obtain ⟨a2, c2, e, hr⟩ := AttrRow.of_own hk h.own h.small
  injection e with e1 _ e3
  subst e1 e3
  have e0 : (⟨#[]⟩ : ByteArray).size ≤ maxLen := by decide
  refine ⟨hr, ⟨SRow.nil, by simp, fun _ => rfl⟩, ?_, ?_, e0, ⟨by show (_ : Int) ≤ 1; decide, by show (1 : Int) ≤ _; decide⟩, z0, z0, z0, z0⟩
  · show (strB n).size ≤ maxLen
    rw [strB_size]; unfold maxLen; omega
  · show (strB s).size ≤ maxLen
    rw [strB_size]; unfold maxLen; omega
theorem Rd.begin (h : Rd ρ W pr pw g cap len m M v N l doc) (n : BL) : ∃ ρ1, Rd ρ1 (W.alloc (nodB (elD n [] [] none 0 0))) pr pw g cap len m M v N l doc ∧ Gone pr ρ ρ1 W (W.alloc (nodB (elD n [] [] none 0 0))) ∧ Hd ρ1 (W.alloc (nodB (elD n [] [] none 0 0))) pr W.heap.size (elD n [] [] none 0 0) := by
  obtain ⟨h1, h2, h3⟩ := h.box (nodB (elD n [] [] none 0 0))
  have c : ∀ (j : Nat), (W.alloc (nodB (elD n [] [] none 0 0))).cell? ⟨W.heap.size, j, none⟩ = (#[.int .i64 1, .string (strB n), .string (strB []), .string ⟨#[]⟩, .slice none 0 0, .int .i64 0, .slice none 0 0, .int .i64 0, .int .i64 0, .int .i64 0] : Array Value)[j]? := fun j => cell_of_row _ W.heap.size j _ 36 (0, 0) (heap_alloc_new _ _)
  have hp := h.rlt
  exact ⟨_, h1, h2, ⟨⟨c 0, c 1, c 2, c 3, c 4, c 5, c 6, c 7, c 8, c 9⟩, fun o => row_free (heap_alloc_new W _) o, by simp, h3, by omega, World.ownsRow_nil _ _ _ _, (fun q e => by cases e), (fun z hz => by cases hz)⟩⟩
theorem Hd.setIs {b : Nat} {n s0 : BL} {acc : AL} {a : Option Addr} {k c : Nat} (h : Hd ρ W pr b (elD n s0 acc a k c)) (s : BL) : Hd ρ (W.setCell ⟨b, 2, none⟩ (.string (strB s))) pr b (elD n s acc a k c) := by
  have far : ∀ o u, o ≠ 2 → W.cell? ⟨b, o, none⟩ = some u → (W.setCell ⟨b, 2, none⟩ (.string (strB s))).cell? ⟨b, o, none⟩ = some u := fun o u ho hc => (World.cell?_setCell_other _ _ _ _ (fun e => by injection e with _ e; omega)).trans hc
  have a0 := h.at_
  refine ⟨⟨far _ _ (by omega) a0.c0, far _ _ (by omega) a0.c1, World.cell?_setCell_same _ _ _ a0.c2, far _ _ (by omega) a0.c3, far _ _ (by omega) a0.c4, far _ _ (by omega) a0.c5, far _ _ (by omega) a0.c6, far _ _ (by omega) a0.c7, far _ _ (by omega) a0.c8, far _ _ (by omega) a0.c9⟩, fun o => by rw [World.frozen?_setCell]; exact h.fz o, by simpa [World.setCell] using h.lt, h.role, h.ne, own_same h.own (fun q e => Below.heap_setCell _ _ _ q (h.rrole q e).2.1), h.rrole, h.small⟩
theorem Hd.more {b : Nat} {n s : BL} {acc : AL} {a a2 : Option Addr} {k c k2 c2 : Nat} {z : ByteArray × ByteArray} (h : Hd ρ W pr b (elD n s acc a k c)) (hz : z.1.size ≤ maxLen ∧ z.2.size ≤ maxLen) (hg : W.grownBy W1 (Value.ownBlock (.slice a k c))) (ho : W1.ownsRow 0 99 2 (.slice a2 k2 c2) k2 ((acc ++ [z]).flatMap encA)) {q : Nat} (hq : Value.ownBlock (.slice a2 k2 c2) = some q) (hqb : q ≠ b) (hqp : q ≠ pr) :
    Hd (upd ρ (some q) 5) (W1.setCell ⟨b, 4, none⟩ (.slice a2 k2 c2)) pr b (elD n s (acc ++ [z]) a2 k2 c2) := by
  have hb1 : W1.heap[b]? = W.heap[b]? := hg.block b h.lt (fun e => (h.rrole b e.symm).2.1 rfl)
  have a0 := nodeAt_same h.at_ hb1
  have far : ∀ o u, o ≠ 4 → W1.cell? ⟨b, o, none⟩ = some u → (W1.setCell ⟨b, 4, none⟩ (.slice a2 k2 c2)).cell? ⟨b, o, none⟩ = some u := fun o u ho hc => (World.cell?_setCell_other _ _ _ _ (fun e => by injection e with _ e; omega)).trans hc
  have hr : upd ρ (some q) 5 b = 5 := by
    unfold upd
    split
    · rfl
    · exact h.role
  refine ⟨⟨far _ _ (by omega) a0.c0, far _ _ (by omega) a0.c1, far _ _ (by omega) a0.c2, far _ _ (by omega) a0.c3, World.cell?_setCell_same _ _ _ a0.c4, far _ _ (by omega) a0.c5, far _ _ (by omega) a0.c6, far _ _ (by omega) a0.c7, far _ _ (by omega) a0.c8, far _ _ (by omega) a0.c9⟩, fun o => by rw [World.frozen?_setCell]; exact (World.frozen?_of_block (w := W) (a := ⟨b, o, none⟩) hb1).trans (h.fz o), by simpa [World.setCell] using Nat.lt_of_lt_of_le h.lt hg.size, hr, h.ne, own_same ho (fun q2 e => Below.heap_setCell _ _ _ q2 (by rw [hq] at e; injection e with e; rw [← e]; exact hqb)), fun q2 e => ?_, fun y hy => ?_⟩
  · have e : some q = some q2 := hq.symm.trans e
    injection e with e
    subst e
    exact ⟨by unfold upd; rw [if_pos rfl], hqb, hqp⟩
  · rcases List.mem_append.1 hy with hy | hy
    · exact h.small y hy
    · rw [List.mem_singleton.1 hy]
      exact hz
theorem attr_more {ρ5 : Nat → Nat} {w w6 w7 : World} {b : Nat} {n s : BL} {acc : AL} {a : Option Addr} {k c : Nat} {z : ByteArray × ByteArray} {v7 : Value} (hR : Rd ρ5 w6 pr pw g cap len m M v N l doc) (hG : Gone pr ρ ρ5 w w6) (hH : Hd ρ5 w6 pr b (elD n s acc a k c))
    (hrow : ∀ q, Value.ownBlock (.slice a k c) = some q → w.heap.size ≤ q) (hbw : w.heap.size ≤ b) (hz : z.1.size ≤ maxLen ∧ z.2.size ≤ maxLen) (hg : w6.grownBy w7 (Value.ownBlock (.slice a k c))) (ho : w7.ownsRow 0 99 2 v7 (k + 1) ((acc ++ [z]).flatMap encA)) (hat : v7.ownBlock = Value.ownBlock (.slice a k c) ∨ v7.ownBlock = some w6.heap.size) :
    ∃ (ρ' : Nat → Nat) (g7 cap7 : Nat), v7 = .slice (some ⟨g7, 0, none⟩) (k + 1) cap7 ∧ Rd ρ' (w7.setCell ⟨b, 4, none⟩ v7) pr pw g cap len m M v N l doc ∧ Gone pr ρ ρ' w (w7.setCell ⟨b, 4, none⟩ v7) ∧ Hd ρ' (w7.setCell ⟨b, 4, none⟩ v7) pr b (elD n s (acc ++ [z]) (some ⟨g7, 0, none⟩) (k + 1) cap7) ∧ w.heap.size ≤ g7 := by
  obtain ⟨g7, cap7, rfl⟩ := own_some ho (Nat.succ_pos _)
  have hR8 := hR.grown5 hg (fun q e => ⟨(hH.rrole q e).1, (hH.rrole q e).2.2⟩)
  have hlt : g7 < w7.heap.size := own_block_lt ho rfl
  have hGs := hG.size
  have h5 : (ρ5 g7 = 5 ∨ (ρ5 g7 = 0 ∧ ∀ x ∈ M, ∀ b off, x.aA = some ⟨b, off, none⟩ → 0 < x.aN → b ≠ g7)) ∧ g7 ≠ b ∧ g7 ≠ pr ∧ w.heap.size ≤ g7 := by
    rcases hat with e | e
    · have e : Value.ownBlock (.slice a k c) = some g7 := e.symm
      have h1 := hH.rrole g7 e
      exact ⟨.inl h1.1, h1.2.1, h1.2.2, hrow g7 e⟩
    · have e : some g7 = some w6.heap.size := e
      injection e with e
      subst e
      have h1 := hH.lt
      have h2 := hR.rlt
      exact ⟨.inr ⟨hR.wk.fresh _ (Nat.le_refl _), fun x hx b off he hp => by have := attr_block_lt (hR.wk.aok x hx) he hp; omega⟩, by omega, by omega, hGs⟩
  have hR9 := hR8.role5 hlt h5.1
  have hb5 : upd ρ5 (some g7) 5 b = 5 := by
    unfold upd
    split
    · rfl
    · exact hH.role
  refine ⟨upd ρ5 (some g7) 5, g7, cap7, rfl, hR9.put hb5 hH.ne _ _, ?_, hH.more hz hg ho rfl h5.2.1 h5.2.2.1, h5.2.2.2⟩
  have hG7 : Gone pr ρ (upd ρ5 (some g7) 5) w w7 := by
    refine ⟨hg.os.trans hG.os, hg.tape.trans hG.tape, hg.output.trans hG.output, Nat.le_trans hGs hg.size, fun q hq hne h0 => ?_, fun q hq h0 => ?_⟩
    · refine (hg.block q (by omega) (fun e => ?_)).trans (hG.quiet q hq hne h0)
      have := hrow q e.symm
      omega
    · unfold upd
      rw [if_neg (fun e => by injection e with e; have := h5.2.2.2; omega)]
      exact hG.old q hq h0
  exact hG7.put hbw _ _
theorem qM_len : ∀ (j : Nat) (l acc s r : BL), l.length ≤ j → qM acc l = some (s, r) → s.length ≤ acc.length + l.length
  | 0, l, acc, s, r, hj, h => by
    have : l = [] := List.eq_nil_of_length_eq_zero (by omega)
    rw [this] at h
    cases h
  | j + 1, l, acc, s, r, hj, h => by
    cases l with
    | nil => cases h
    | cons b t =>
      simp only [List.length_cons] at hj ⊢
      by_cases h34 : b = 34
      · rw [h34, qM_34] at h
        have h := Option.some.inj h
        injection h with h1 _
        rw [← h1]
        omega
      · by_cases h92 : b = 92
        · subst h92
          cases t with
          | nil => rw [qM_92nil] at h; cases h
          | cons c t2 =>
            rw [qM_92] at h
            simp only [List.length_cons] at hj ⊢
            by_cases hc : c = 34 ∨ c = 92
            · rw [if_pos hc] at h
              have := qM_len j t2 _ s r (by omega) h
              simp at this
              omega
            · rw [if_neg hc] at h
              cases h
        · rw [qM_other h34 h92] at h
          have := qM_len j t _ s r (by omega) h
          simp at this
          omega
theorem wordM_len {l n l2 : BL} (h : wordM l = some (n, l2)) : n.length ≤ 100000 := by
  unfold wordM at h
  by_cases ho : okM l = true
  · rw [if_pos ho] at h
    have h := Option.some.inj h
    injection h with h1 _
    unfold okM at ho
    simp only [Bool.and_eq_true, decide_eq_true_eq] at ho
    rw [← h1, List.length_take]
    have := ho.1
    omega
  · rw [if_neg ho] at h
    cases h
theorem attrM_small {l l2 : BL} {z : ByteArray × ByteArray} (h : attrM l = some (z, l2)) : z.1.size ≤ maxLen ∧ z.2.size ≤ maxLen := by
  unfold attrM at h
  cases hw : wordM l with
  | none => rw [hw] at h; cases h
  | some nl =>
  obtain ⟨n, l3⟩ := nl
  rw [hw] at h
  dsimp only at h
  cases hs : skipM l3 [61] with
  | none => rw [hs] at h; cases h
  | some l4 =>
  rw [hs] at h
  dsimp only at h
  cases hq : quoM l4 with
  | none => rw [hq] at h; cases h
  | some sl =>
  obtain ⟨s, l5⟩ := sl
  rw [hq] at h
  have h := Option.some.inj h
  injection h with h1 _
  subst h1
  have hn := wordM_len hw
  refine ⟨by show (strB n).size ≤ _; rw [strB_size]; unfold maxLen; omega, ?_⟩
  show (strB s).size ≤ _
  rw [strB_size]
  unfold quoM at hq
  by_cases hl : l4.length ≤ 100000
  · rw [if_pos hl] at hq
    cases hs2 : skipM l4 [34] with
    | none => rw [hs2] at hq; cases hq
    | some l6 =>
      rw [hs2] at hq
      have h3 := qM_len _ l6 [] s l5 (Nat.le_refl _) hq
      have h4 := (skipM_some hs2).2
      have h5 := Lib.trimPrefix_le l4 [34]
      rw [h4] at h5
      simp at h3
      unfold maxLen
      omega
  · rw [if_neg hl] at hq
    cases hq
theorem isM_len {l s l2 : BL} (h : isM l = some (s, l2)) : s.length ≤ 100000 := by
  unfold isM at h
  cases hs : skipM l [33] with
  | none =>
    rw [hs] at h
    have h := Option.some.inj h
    injection h with h1 _
    rw [← h1]
    exact Nat.zero_le _
  | some l1 =>
    rw [hs] at h
    dsimp only at h
    cases hw : wordM l1 with
    | none => rw [hw] at h; cases h
    | some nl =>
      obtain ⟨n, l3⟩ := nl
      rw [hw] at h
      dsimp only at h
      by_cases h0 : n = []
      · rw [if_pos h0] at h; cases h
      · rw [if_neg h0] at h
        have h := Option.some.inj h
        injection h with h1 _
        rw [← h1]
        exact wordM_len hw
end
end Go.Proofs.YtkfmengdffpcnaaGreatDoor
namespace Go.Proofs.YtkfmengdffpcnaaGreatDoor
open Go.RowKit
section
variable {ρ ρ' : Nat → Nat} {W W1 W2 : World} {pr pw g cap len : Nat} {m : Int} {M : List NodeD} {v : Value} {N : List NoteD} {l l2 : BL} {doc : Int}
theorem stop_eq (n : BL) : (⟨#[60, 47]⟩ : ByteArray) ++ strB n ++ ⟨#[62]⟩ = ⟨([60, 47] ++ n ++ [62]).toArray⟩ := by
  apply ByteArray.ext
  simp [strB, ByteArray.data_append]
set_option maxHeartbeats 8000000 in
set_option maxRecDepth 100000 in
theorem elem_step (k : Nat) (K : KidsAtK pr pw m N doc k) (w : World) (h : Rd ρ w pr pw g cap len m M v N l doc) {n : BL} {c : Core} {F1 : List Core} {l' : BL} {F' : List Core} (hh : headM doc l = some (n, c, l2)) (ha : addM (coreL M) c = some F1)
    (hr : (match skipM l2 [123] with
          | none => readM doc k (.kids (coreL M).length ([60, 47] ++ n ++ [62])) l2 F1
          | some l3 => match addM F1 (nodeC 4 [] [] [] [] doc) with
            | none => none
            | some F2 => match readM doc k (.kids ((coreL M).length + 1) [125]) l3 (hangM F2 (coreL M).length ((coreL M).length + 1)) with
              | none => none
              | some (l4, F3) => readM doc k (.kids (coreL M).length ([60, 47] ++ n ++ [62])) l4 F3) = some (l', F')) :
    Calls Tryz.prog 118 #[ptrV pr] w (ReadPost ρ w pr pw m N doc l' F') := by
  unfold headM at hh
  cases hw : wordM l with
  | none => rw [hw] at hh; cases hh
  | some nl =>
  obtain ⟨n1, l3⟩ := nl
  rw [hw] at hh
  dsimp only at hh
  cases hi : isM l3 with
  | none => rw [hi] at hh; cases hh
  | some sl =>
  obtain ⟨s, l4⟩ := sl
  rw [hi] at hh
  dsimp only at hh
  cases hat : attrsM (l4.length + 1) l4 [] with
  | none => rw [hat] at hh; cases hh
  | some al =>
  obtain ⟨al, l5⟩ := al
  rw [hat] at hh
  dsimp only at hh
  cases hgt : skipM l5 [62] with
  | none => rw [hgt] at hh; cases hh
  | some l6 =>
  rw [hgt] at hh
  dsimp only at hh
  by_cases hn1 : n1.length ≤ 1000
  case neg => rw [if_neg hn1] at hh; cases hh
  rw [if_pos hn1] at hh
  have hh := Option.some.inj hh
  injection hh with e1 hh
  injection hh with e2 e3
  subst e1 e2 e3
  obtain ⟨fu, hfu⟩ : ∃ fu, l4.length + 1 = fu := ⟨_, rfl⟩
  rw [hfu] at hat
  have CW := Lib.hid (word_any w h hw)
  have HI := Lib.hid hi
  have HAT := Lib.hid hat
  have HA := Lib.hid ha
  have HRR := Lib.hid hr
  have HK := Lib.hid K
  have HN1 := Lib.hid hn1
  have HSL : Hid (s.length ≤ 100000) := Lib.hid (isM_len hi)
  have CGT : Hid (∀ ρ1 W g1 cap1 len1 M1 v1, Rd ρ1 W pr pw g1 cap1 len1 m M1 v1 N l5 doc → Calls Tryz.prog 117 #[ptrV pr, .string ⟨#[62]⟩] W (StepPost ρ1 W pr pw g1 cap1 len1 m M1 v1 N l6 doc (.bool true))) := Lib.hid (fun _ W _ _ _ _ _ h1 => skip_hit W h1 [62] hgt)
  clear h hw hi hat hgt hn1 ha hr K hfu
  go_enter Tryz.func118, Tryz.ntmps118
  go_upto_region 2 with (go_at_call 135; (with_reducible refine CW.out.mono ?_); rintro e w1 ⟨rfl, hR, hG⟩; have HR := Lib.hid hR; have HG := Lib.hid hG; clear hR hG)
  obtain ⟨w2, b, ρ1, hw2, hb, HBW, HR1, HG1, HH1⟩ : ∃ (w2 : World) (b : Nat) (ρ1 : Nat → Nat), w1.alloc (nodB (elD n1 [] [] none 0 0)) = w2 ∧ w1.heap.size = b ∧ Hid (w.heap.size ≤ b) ∧ Hid (Rd ρ1 w2 pr pw g cap len m M v N l3 doc) ∧ Hid (Gone pr ρ ρ1 w w2) ∧ Hid (Hd ρ1 w2 pr b (elD n1 [] [] none 0 0)) := by
    obtain ⟨ρ1, h1, h2, h3⟩ := HR.out.begin n1
    exact ⟨_, _, ρ1, rfl, rfl, Lib.hid HG.out.size, Lib.hid h1, Lib.hid (HG.out.trans h2), Lib.hid h3⟩
  show Code.wp _ _ _ _ (w1.alloc (nodB (elD n1 [] [] none 0 0)))
  rw [hw2, hb]
  clear hw2 hb HR HG CW
  go_cut [11] (fun tq wc => True ∧ ∃ (q : Bool) (li : BL), tq = .bool q ∧ Hid (Rd ρ1 wc pr pw g cap len m M v N li doc) ∧ Hid (Gone pr ρ ρ1 w wc) ∧ Hid (Hd ρ1 wc pr b (elD n1 [] [] none 0 0)) ∧ Hid ((q = false ∧ li = l4 ∧ s = []) ∨ (q = true ∧ wordM li = some (s, l4) ∧ s ≠ [])))
  case first =>
    have hi := HI.out
    unfold isM at hi
    cases hs : skipM l3 [33] with
    | none =>
      rw [hs] at hi
      dsimp only at hi
      have hi := Option.some.inj hi
      injection hi with e1 e2
      have HE := Lib.hid (show s = [] ∧ l3 = l4 from ⟨e1.symm, e2⟩)
      have CS := Lib.hid (skip_miss w2 HR1.out [33] hs)
      clear hs e1 e2
      go_wp2_with (go_at_call 117; (with_reducible refine CS.out.mono ?_); rintro e w3 ⟨rfl, hR, hG⟩; have HR2 := Lib.hid hR; have HG2 := Lib.hid hG; clear hR hG)
      go_meet
      exact ⟨trivial, false, l3, rfl, HR2, Lib.hid (HG1.out.trans HG2.out), Lib.hid (HH1.out.gone HG2.out), Lib.hid (.inl ⟨rfl, HE.out.2, HE.out.1⟩)⟩
    | some l3b =>
      rw [hs] at hi
      dsimp only at hi
      cases hw : wordM l3b with
      | none => rw [hw] at hi; cases hi
      | some sl =>
      obtain ⟨s1, l4b⟩ := sl
      rw [hw] at hi
      dsimp only at hi
      by_cases hs1 : s1 = []
      · rw [if_pos hs1] at hi; cases hi
      rw [if_neg hs1] at hi
      have hi := Option.some.inj hi
      injection hi with e1 e2
      have HE := Lib.hid (show wordM l3b = some (s, l4) ∧ s ≠ [] from ⟨by rw [hw, e1, e2], by rw [← e1]; exact hs1⟩)
      have CS := Lib.hid (skip_hit w2 HR1.out [33] hs)
      clear hs hw hs1 e1 e2
      go_wp2_with (go_at_call 117; (with_reducible refine CS.out.mono ?_); rintro e w3 ⟨rfl, hR, hG⟩; have HR2 := Lib.hid hR; have HG2 := Lib.hid hG; clear hR hG)
      go_meet
      exact ⟨trivial, true, l3b, rfl, HR2, Lib.hid (HG1.out.trans HG2.out), Lib.hid (HH1.out.gone HG2.out), Lib.hid (.inr ⟨rfl, HE.out.1, HE.out.2⟩)⟩
  case rest =>
  obtain ⟨-, q, li, rfl, HR1b, HG1b, HH1b, HQ⟩ := hcut
  clear HR1 HG1 HH1 HI
  go_upto_if 11 with fail
  go_cut [] (fun wc => True ∧ ∃ ρ2, Hid (Rd ρ2 wc pr pw g cap len m M v N l4 doc) ∧ Hid (Gone pr ρ ρ2 w wc) ∧ Hid (Hd ρ2 wc pr b (elD n1 s [] none 0 0)))
  case first =>
    rcases HQ.out with ⟨rfl, hl, hs0⟩ | ⟨rfl, hw, hs1⟩
    · have HE := Lib.hid (show li = l4 ∧ s = [] from ⟨hl, hs0⟩)
      clear hl hs0 HQ
      go_wp2
      go_meet
      refine ⟨trivial, ρ1, Lib.hid (by rw [← HE.out.1]; exact HR1b.out), HG1b, Lib.hid (by rw [HE.out.2]; exact HH1b.out)⟩
    · have CW2 : Hid (Calls Tryz.prog 135 #[ptrV pr] wc (StepPost ρ1 wc pr pw g cap len m M v N l4 doc (.string (strB s)))) := Lib.hid (word_any wc HR1b.out hw)
      have HSI : Hid (∀ W, Hd ρ1 W pr b (elD n1 [] [] none 0 0) → Hd ρ1 (W.setCell ⟨b, 2, none⟩ (.string (strB s))) pr b (elD n1 s [] none 0 0)) := Lib.hid (fun W h1 => h1.setIs s)
      have HBP : Hid (b ≠ pr ∧ ρ1 b = 5) := Lib.hid ⟨HH1b.out.ne, HH1b.out.role⟩
      have hse : (strB s).toList.isEmpty = false := by
        rw [Lib.toList_data, strB_data]
        cases s with
        | nil => exact absurd rfl hs1
        | cons _ _ => rfl
      obtain ⟨S, hS⟩ : ∃ S, strB s = S := ⟨_, rfl⟩
      rw [hS] at CW2 HSI hse
      clear hw hs1 hS HQ
      go_wp2_with (go_at_call 135; (with_reducible refine CW2.out.mono ?_); rintro e w4 ⟨rfl, hR, hG⟩; have HR3 := Lib.hid hR; have HG3 := Lib.hid hG; have HH3 := Lib.hid (HH1b.out.gone hG); have x2 := (HH1b.out.gone hG).at_.c2; have xf2 := HH3.out.fz 2; clear hR hG)
      go_meet
      exact ⟨trivial, ρ1, Lib.hid (HR3.out.put HBP.out.2 HBP.out.1 _ _), Lib.hid ((HG1b.out.trans HG3.out).put HBW.out _ _), Lib.hid (HSI.out _ HH3.out)⟩
  case rest =>
  obtain ⟨-, ρ2, HR2, HG2, HH2⟩ := hcut
  clear HR1b HG1b HH1b HQ
  go_wp2
  go_loopg [5] fu (fun gk _ wr => ∃ (ρ3 : Nat → Nat) (li : BL) (acc : AL) (a : Option Addr) (kk c : Nat), acc.length = kk ∧ kk ≤ 1000 ∧ Hid (Rd ρ3 wr pr pw g cap len m M v N li doc) ∧ Hid (Gone pr ρ ρ3 w wr) ∧ Hid (Hd ρ3 wr pr b (elD n1 s acc a kk c)) ∧ Hid (∀ q, Value.ownBlock (.slice a kk c) = some q → w.heap.size ≤ q) ∧ Hid (attrsM gk li acc = some (al, l5)))
  case atStart => exact ⟨ρ2, l4, [], none, 0, 0, rfl, Nat.zero_le _, HR2, HG2, HH2, Lib.hid (fun q e => by cases e), HAT⟩
  case round =>
    obtain ⟨ρ3, li, acc, a, kk, c, hka, hkk, HR3, HG3, HH3, HRW, HA3⟩ := hrel
    cases gk with
    | zero => have := HA3.out; cases this
    | succ j =>
      have ha3 := HA3.out
      rw [attrsM] at ha3
      cases hs : skipM li [32] with
      | none =>
        rw [hs] at ha3
        dsimp only at ha3
        have ha3 := Option.some.inj ha3
        injection ha3 with e1 e2
        have HE := Lib.hid (show acc = al ∧ li = l5 from ⟨e1, e2⟩)
        clear ha3 HA3
        subst e1 e2
        have CS := Lib.hid (skip_miss wr HR3.out [32] hs)
        have ha := HA.out
        unfold addM at ha
        by_cases hl : (coreL M).length < 1000
        case neg => rw [if_neg hl] at ha; cases ha
        rw [if_pos hl] at ha
        have ha := Option.some.inj ha
        have hml : (coreL M).length = len := by rw [coreL_len, HR3.out.wk.hlen]
        rw [hml] at ha hl
        have HF1 := Lib.hid ha
        have HML := Lib.hid hml
        have hsl : s.length ≤ 100000 := HSL.out
        have CA : Hid (∀ W, Rd ρ3 W pr pw g cap len m M v N l6 doc → Hd ρ3 W pr b (elD n1 s acc a kk c) → Calls Tryz.prog 120 #[ptrV pr, .agg #[.int .i64 1, .string (strB n1), .string (strB s), .string ⟨#[]⟩, .slice a kk c, .int .i64 0, .slice none 0 0, .int .i64 0, .int .i64 0, .int .i64 0]] W fun e w' => e = .returned (.int .i64 (len : Int)) ∧ ∃ (ρ' : Nat → Nat) (g' cap' : Nat) (y : NodeD), Rd ρ' w' pr pw g' cap' (len + 1) m (M ++ [y]) v N l6 doc ∧ y.core = aloneC (nodeC 1 n1 s [] acc doc) len ∧ Gone pr ρ3 ρ' W w') := Lib.hid (fun W h1 h2 =>
          radd_any W h1 (elD n1 s acc a kk c) (h2.ok HN1.out hsl hka) ⟨by show acc.length ≤ 1000; omega, by show (strB n1).size ≤ 1000; rw [strB_size]; exact HN1.out⟩ hl)
        clear hs ha hml hsl hl
        go_upto_region 13 with (first
          | (go_at_call 117; (with_reducible refine CS.out.mono ?_); rintro e w3 ⟨rfl, hR, hG⟩; have HR4 := Lib.hid hR; have HG4 := Lib.hid hG; clear hR hG)
          | (go_at_call 117; (with_reducible refine (CGT.out _ _ _ _ _ _ _ HR4.out).mono ?_); rintro e w4 ⟨rfl, hR, hG⟩; have HR5 := Lib.hid hR; have HG5 := Lib.hid (HG4.out.trans hG); clear hR hG))
        have HH5 := Lib.hid (HH3.out.gone HG5.out)
        have HG6 := Lib.hid (HG3.out.trans HG5.out)
        have CA2 := Lib.hid (CA.out _ HR5.out HH5.out)
        have hss : (strB n1).size ≤ 1000 := by rw [strB_size]; exact HN1.out
        obtain ⟨S1, hS1⟩ : ∃ S, strB n1 = S := ⟨_, rfl⟩
        obtain ⟨S2, hS2⟩ : ∃ S, strB s = S := ⟨_, rfl⟩
        have x0 := HH5.out.at_.c0
        have x1 := HH5.out.at_.c1
        have x2 := HH5.out.at_.c2
        have x3 := HH5.out.at_.c3
        have x4 := HH5.out.at_.c4
        have x5 := HH5.out.at_.c5
        have x6 := HH5.out.at_.c6
        have x7 := HH5.out.at_.c7
        have x8 := HH5.out.at_.c8
        have x9 := HH5.out.at_.c9
        dsimp only at x0 x1 x2 x3 x4 x5 x6 x7 x8 x9
        rw [hS1, hS2] at CA2
        rw [hS1] at x1 hss
        rw [hS2] at x2
        have HS1 := Lib.hid hS1
        clear hS1 hS2 CA CS CGT
        go_upto_region 14 with (go_at_call 120; (with_reducible refine CA2.out.mono ?_); rintro e w5 ⟨rfl, ρ6, g6, cap6, y, hR, hy, hG⟩; have HR6 := Lib.hid hR; have HY := Lib.hid hy; have HH6 := Lib.hid (HH5.out.gone hG); have HG7 := Lib.hid (HG6.out.trans hG); clear hR hy hG x0 x1 x2 x3 x4 x5 x6 x7 x8 x9)
        have HF2 : Hid (coreL (M ++ [y]) = F1) := Lib.hid (by
          rw [← HF1.out]
          unfold coreL
          rw [List.map_append, List.map_cons, List.map_nil, HY.out])
        have CSH : Hid (Calls Tryz.prog 137 #[ptrV pr, .int .i64 (len : Int)] w5 fun e w' => e = .returned (.bool true) ∧ ∃ (ρ7 : Nat → Nat) (g7 cap7 len7 : Nat) (M7 : List NodeD) (v7 : Value) (l7 : BL), Rd ρ7 w' pr pw g7 cap7 len7 m M7 v7 N l7 doc ∧ Gone pr ρ6 ρ7 w5 w' ∧ readM doc k (.kids len ([60, 47] ++ n1 ++ [62])) l7 (coreL M7) = some (l', F')) := Lib.hid (by
          have hr := HRR.out
          rw [HML.out] at hr
          cases hs : skipM l6 [123] with
          | none =>
            rw [hs] at hr
            dsimp only at hr
            refine (shadow_miss w5 HR6.out hs).mono fun e w' ⟨h1, h2, h3⟩ => ⟨h1, ρ6, g6, cap6, len + 1, M ++ [y], v, l6, h2, h3, ?_⟩
            rw [HF2.out]
            exact hr
          | some l7 =>
            rw [hs] at hr
            dsimp only at hr
            cases ha2 : addM F1 (nodeC 4 [] [] [] [] doc) with
            | none => rw [ha2] at hr; cases hr
            | some F2 =>
            rw [ha2] at hr
            dsimp only at hr
            cases hk2 : readM doc k (.kids (len + 1) [125]) l7 (hangM F2 len (len + 1)) with
            | none => rw [hk2] at hr; cases hr
            | some lf =>
            obtain ⟨l8, F3⟩ := lf
            rw [hk2] at hr
            dsimp only at hr
            refine (shadow_hit k HK.out w5 HR6.out (Nat.lt_succ_self len) hs (by rw [HF2.out]; exact ha2) hk2).mono fun e w' ⟨h1, ρ7, g7, cap7, len7, M7, v7, h2, h3, h4⟩ => ⟨h1, ρ7, g7, cap7, len7, M7, v7, l8, h2, h4, ?_⟩
            rw [h3]
            exact hr)
        have HST : Hid ((⟨#[60, 47]⟩ : ByteArray) ++ S1 ++ ⟨#[62]⟩ = ⟨([60, 47] ++ n1 ++ [62]).toArray⟩) := Lib.hid (by rw [← HS1.out]; exact stop_eq n1)
        have CKD : Hid (∀ (ρ7 : Nat → Nat) (W : World) (g7 cap7 len7 : Nat) (M7 : List NodeD) (v7 : Value) (l7 : BL), Rd ρ7 W pr pw g7 cap7 len7 m M7 v7 N l7 doc → readM doc k (.kids len ([60, 47] ++ n1 ++ [62])) l7 (coreL M7) = some (l', F') → Calls Tryz.prog 119 #[ptrV pr, .int .i64 (len : Int), .string (⟨#[60, 47]⟩ ++ S1 ++ ⟨#[62]⟩)] W (ReadPost ρ7 W pr pw m N doc l' F')) := Lib.hid (fun ρ7 W g7 cap7 len7 M7 v7 l7 h1 h2 => by rw [HST.out]; exact HK.out _ _ _ _ _ _ _ _ _ _ _ _ h1 h2)
        go_wp2_with (first
          | (go_at_call 137; (with_reducible refine CSH.out.mono ?_); rintro e w6 ⟨rfl, ρ7, g7, cap7, len7, M7, v7, l7, hR, hG, hm⟩; have HR7 := Lib.hid hR; have HG8 := Lib.hid (HG7.out.trans hG); have HM7 := Lib.hid hm; have x1 := (HH6.out.gone hG).at_.c1; dsimp only at x1; rw [HS1.out] at x1; clear hR hG hm)
          | (go_at_call 119; (with_reducible refine (CKD.out _ _ _ _ _ _ _ _ HR7.out HM7.out).mono ?_); rintro e w7 ⟨rfl, hp⟩; have HP := Lib.hid hp; clear hp))
        go_ret
        obtain ⟨ρ8, g8, cap8, len8, M8, v8, h1, h2, h3⟩ := HP.out
        exact ⟨rfl, ρ8, g8, cap8, len8, M8, v8, h1, h2, HG8.out.trans h3⟩
      | some li2 =>
        rw [hs] at ha3
        dsimp only at ha3
        cases hat : attrM li2 with
        | none => rw [hat] at ha3; cases ha3
        | some al2 =>
        obtain ⟨z, li3⟩ := al2
        rw [hat] at ha3
        dsimp only at ha3
        by_cases hacc : acc.length < 1000
        case neg => rw [if_neg hacc] at ha3; cases ha3
        rw [if_pos hacc] at ha3
        have HAN := Lib.hid ha3
        have CS := Lib.hid (skip_hit wr HR3.out [32] hs)
        have CA : Hid (∀ W, Rd ρ3 W pr pw g cap len m M v N li2 doc → Calls Tryz.prog 136 #[ptrV pr] W (BoxPost ρ3 W pr pw g cap len m M v N li3 doc (.tuple #[.agg #[.string z.1, .string z.2], .bool true]))) := Lib.hid (fun W h1 => attr_any W h1 hat)
        clear ha3 hs
        go_upto_region 8 with (first
          | (go_at_call 117; (with_reducible refine CS.out.mono ?_); rintro e w3 ⟨rfl, hR, hG⟩; have HR4 := Lib.hid hR; have HG4 := Lib.hid hG; clear hR hG)
          | (go_at_call 136; (with_reducible refine (CA.out _ HR4.out).mono ?_); rintro e w4 ⟨rfl, ρ4, hR, hG⟩; have HR5 := Lib.hid hR; have HG5 := Lib.hid (HG4.out.trans hG); clear hR hG))
        have HH4 := Lib.hid (HH3.out.gone HG5.out)
        have HG6 := Lib.hid (HG3.out.trans HG5.out)
        have HZ := Lib.hid (attrM_small hat)
        obtain ⟨w5, hw5, HR6, HG7, HH5, HC5⟩ : ∃ w5, w4.alloc (.cells #[.string z.1, .string z.2] 99) = w5 ∧ Hid (Rd ρ4 w5 pr pw g cap len m M v N li3 doc) ∧ Hid (Gone pr ρ ρ4 w w5) ∧ Hid (Hd ρ4 w5 pr b (elD n1 s acc a kk c)) ∧ Hid (w5.cell? ⟨w4.heap.size, 0, none⟩ = some (.string z.1) ∧ w5.cell? ⟨w4.heap.size, 1, none⟩ = some (.string z.2)) := by
          have hb := below_box w4 (.cells #[.string z.1, .string z.2] 99)
          exact ⟨_, rfl, Lib.hid (HR5.out.keep hb), Lib.hid (HG6.out.trans (Gone.of_below hb)), Lib.hid (HH4.out.gone (Gone.of_below hb)), Lib.hid ⟨cell_of_row _ w4.heap.size 0 _ 99 (0, 0) (heap_alloc_new w4 _), cell_of_row _ w4.heap.size 1 _ 99 (0, 0) (heap_alloc_new w4 _)⟩⟩
        rw [hw5]
        clear hw5 hat
        obtain ⟨wb4, hwb4⟩ : ∃ wb4, w4.heap.size = wb4 := ⟨_, rfl⟩
        rw [hwb4] at HC5 ⊢
        clear hwb4
        have x4 := HH5.out.at_.c4
        have y0 := HC5.out.1
        have y1 := HC5.out.2
        have HOA : Hid (∀ o : Obj, (w5.alloc o).ownsRow 0 99 2 (.slice a kk c) kk (acc.flatMap encA)) := Lib.hid (fun o => HH5.out.own.alloc o)
        have HMORE : Hid (∀ (o : Obj) (v7 : Value) (w7 : World), w7.ownsRow 0 99 2 v7 (kk + 1) ((acc ++ [z]).flatMap encA) → (w5.alloc o).grownBy w7 (Value.ownBlock (.slice a kk c)) → (v7.ownBlock = Value.ownBlock (.slice a kk c) ∨ v7.ownBlock = some (w5.alloc o).heap.size) →
            (w7.cell? ⟨b, 4, none⟩ = some (.slice a kk c) ∧ w7.frozen? ⟨b, 4, none⟩ = false) ∧ ∃ (ρ' : Nat → Nat) (g7 cap7 : Nat), v7 = .slice (some ⟨g7, 0, none⟩) (kk + 1) cap7 ∧ Rd ρ' (w7.setCell ⟨b, 4, none⟩ v7) pr pw g cap len m M v N li3 doc ∧ Gone pr ρ ρ' w (w7.setCell ⟨b, 4, none⟩ v7) ∧ Hd ρ' (w7.setCell ⟨b, 4, none⟩ v7) pr b (elD n1 s (acc ++ [z]) (some ⟨g7, 0, none⟩) (kk + 1) cap7) ∧ w.heap.size ≤ g7) := Lib.hid (fun o v7 w7 ho hg hat => by
          have hb := below_box w5 o
          have hH := HH5.out.gone (Gone.of_below (pr := pr) (ρ := ρ4) hb)
          have hb1 : w7.heap[b]? = (w5.alloc o).heap[b]? := hg.block b hH.lt (fun e => (hH.rrole b e.symm).2.1 rfl)
          exact ⟨⟨(World.cell?_of_block (a := ⟨b, 4, none⟩) hb1).trans hH.at_.c4, (World.frozen?_of_block (a := ⟨b, 4, none⟩) hb1).trans (hH.fz 4)⟩, attr_more (HR6.out.keep hb) (HG7.out.trans (Gone.of_below hb)) hH HRW.out HBW.out HZ.out hg ho hat⟩)
        obtain ⟨i0, hi0, hz0, hz1, hz2⟩ := info_parts attr_info
        go_wp2_with (at_builtin; (refine wpList_append_rows rfl (.tmp 28) (.tmp 30) 33 rfl 99 i0 _ 2 32 Tryz.underlying33 hi0 hz0 hz1 hz2 rfl (by decide) 0 _ kk acc [z] rfl (HOA.out _) _ 1 1 rfl (own_one _ _ _ _ rfl rfl) (fun x _ => encA_one x) (by unfold maxLen; omega) (by omega) (Nat.zero_le _) (fun h => by cases h) ?_); intro v7 w7 ho7 hg7 hat7; obtain ⟨⟨d4, f4⟩, ρ7, g7, cap7, rfl, hR, hG, hH, hq⟩ := HMORE.out _ _ _ ho7 hg7 hat7; have HR7 := Lib.hid hR; have HG8 := Lib.hid hG; have HH7 := Lib.hid hH; have HQ7 := Lib.hid hq; clear ho7 hg7 hat7 hR hG hH hq)
        go_roundg j
        case measure => omega
        case rel => exact ⟨ρ7, li3, acc ++ [z], _, kk + 1, cap7, by simp [hka], by omega, HR7, HG8, HH7, Lib.hid (fun q e => by injection e with e; rw [← e]; exact HQ7.out), HAN⟩
end
end Go.Proofs.YtkfmengdffpcnaaGreatDoor
