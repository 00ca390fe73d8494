/- Texts joined in build order: AttrMath2 OwnerFn OwnerAll ReaderNode PrintRead ForestOpen Tied OwnerMovesMath. -/
import Derived.Test.YtnjoimedilonnaaGreatDoorA10
import Derived.Test.YtnjoimedilonnaaGreatDoorA21
import Derived.Deep.RegionHeld3
import Derived.Deep.DeepCutAuto
import Derived.Test.YtnjoimedilonnaaGreatDoorA35
import Derived.Test.YtnjoimedilonnaaGreatDoorA36
import Derived.Test.YtnjoimedilonnaaGreatDoorA13
import Derived.Test.YtnjoimedilonnaaGreatDoorA14
import Derived.Test.YtnjoimedilonnaaGreatDoorA20
import Derived.Test.YtnjoimedilonnaaGreatDoorA03
import Derived.Test.YtnjoimedilonnaaGreatDoorA07
import Derived.OpenShut
import Derived.Test.YtnjoimedilonnaaGreatDoorA27
import Derived.Test.YtnjoimedilonnaaGreatDoorRows
import Derived.WalkKit
import Derived.ProofKit
import Derived.ShutString
import Derived.ChangeOld
import Derived.ChangeSame
import Derived.ChangeVars
import Derived.JoinedOf
import Derived.RowKit
import Derived.RowKitTokens
import Derived.LaidLaws
import Derived.LaidHandle
import Derived.Stop.Joined
import Derived.Test.YtnjoimedilonnaaGreatDoorA38
namespace Go.Proofs.YtnjoimedilonnaaGreatDoor
theorem setA_right {L : AL} {n : List UInt8} {v : ByteArray} (h : setE L n v = 0) : rightA (setA L n v) = true := by rw [setA_eq h]; exact setL_right h
theorem look_A_same {L : AL} {n : List UInt8} {v : ByteArray} (h : setE L n v = 0) : lookA (setA L n v) (smallL n) = some v := by rw [setA_eq h]; exact look_set_same v
theorem back_has {L : AL} {n : List UInt8} {v : ByteArray} (h : setE L n v = 0) : hasA (setA L n v) n = true ∧ valA (setA L n v) n = v := by
  have h1 : hasA (setA L n v) n = true := by rw [has_iff, setA_right h, (set_parts h).2.1, look_A_same h]; rfl
  exact ⟨h1, by rw [val_iff, if_pos h1, look_A_same h]; rfl⟩
theorem filter_no {L : AL} {n : List UInt8} (h : ∀ x ∈ L, keyA x ≠ smallL n) : L.filter (offQ n) = L := by
  rw [List.filter_eq_self]
  intro x hx
  unfold offQ
  have : keyIs (smallL n) x = false := by
    by_cases hk : keyIs (smallL n) x = true
    · exact absurd (keyIs_iff.1 hk) (h x hx)
    · simpa using hk
  rw [this]
  rfl
theorem has_mem {L : AL} {n : List UInt8} (h : hasA L n = true) : ∃ x ∈ L, keyA x = smallL n := by
  obtain ⟨x, hx, hk⟩ := place_key (hasA_right h).2.2
  exact ⟨x, List.mem_of_getElem? hx, by rw [show keyA x = x.1.toList from rfl, hk, toList_ofL]⟩
theorem back_rem {L : AL} {n : List UInt8} {v : ByteArray} (h : setE L n v = 0) (hn : hasA L n = false) : remA (setA L n v) n = L := by
  rw [remA_yes (back_has h).1, setA_eq h]
  have hp : ¬ placeA L n < L.length := by
    intro hp
    unfold hasA at hn
    rw [(set_parts h).1, (set_parts h).2.1, decide_eq_true hp] at hn
    cases hn
  unfold setL
  rw [if_neg hp, List.filter_append, filter_no (place_none hp)]
  have : offQ n (ofL (smallL n), v) = false := by unfold offQ; rw [keyIs_iff.2 (key_ofL _ _)]; rfl
  rw [List.filter_cons, if_neg (by rw [this]; decide)]
  simp
end Go.Proofs.YtnjoimedilonnaaGreatDoor
namespace Go.Proofs.YtnjoimedilonnaaGreatDoor
open Go.RowKit Go.Maps Go.WideMaps
theorem grown_set13 {w W : World} {g : Nat} (h : w.grownBy W (some g)) (o : Nat) (u : Value) : w.grownBy (W.setCell ⟨g, o, none⟩ u) (some g) :=
  ⟨h.os, h.tape, h.output, by simpa [World.setCell] using h.size, fun k hk hne => (Below.heap_setCell _ _ _ k (fun e => hne (by rw [e]))).trans (h.block k hk hne)⟩
structure OwnAt (F : List Core) (w0 w3 W : World) (g len : Nat) (V0 : List Int) (t : List Nat) (k : Nat) (V : List Int) : Prop where
  below : Below w0.heap.size w0 W
  grown : w3.grownBy W (some g)
  row : ORow encI W g V
  hl : V.length = len
  at_ : ∀ i : Nat, V[i]? = if i ∈ t.take k then some (ownF F i) else V0[i]?
section
variable {F : List Core} {w0 w3 W X : World} {g len k : Nat} {V0 V : List Int} {t : List Nat}
theorem OwnAt.keep (h : OwnAt F w0 w3 W g len V0 t k V) (hb : Below W.heap.size W X) : OwnAt F w0 w3 X g len V0 t k V :=
  ⟨h.below.trans (hb.mono h.below.size), grown_then h.grown hb, h.row.keep hb, h.hl, h.at_⟩
theorem OwnAt.step (h : OwnAt F w0 w3 W g len V0 t k V) (hg : w0.heap.size ≤ g) {i : Nat} (hi : t[k]? = some i) (hil : i < len) {z : Int} (hz : ownF F i = z) : OwnAt F w0 w3 (W.setCell ⟨g, i, none⟩ (.int .i64 z)) g len V0 t (k + 1) (V.set i z) := by
  refine ⟨h.below.setCell (p := ⟨g, i, none⟩) hg _, grown_set13 h.grown _ _, h.row.set (by rw [h.hl]; exact hil) z, by rw [List.length_set]; exact h.hl, fun j => ?_⟩
  have hm : ∀ x, x ∈ t.take (k + 1) ↔ x ∈ t.take k ∨ x = i := fun x => by
    rw [List.take_add_one, hi]
    simp
  by_cases e : i = j
  · subst e
    rw [List.getElem?_set_self (by rw [h.hl]; exact hil), if_pos ((hm i).2 (.inr rfl)), hz]
  · rw [List.getElem?_set_ne e, h.at_ j]
    by_cases hj : j ∈ t.take k
    · rw [if_pos hj, if_pos ((hm j).2 (.inl hj))]
    · rw [if_neg hj, if_neg (fun h2 => by rcases (hm j).1 h2 with h2 | h2; exact hj h2; exact e h2.symm)]
end
theorem ordI_nat (F : List Core) (r : Nat) : ordI F (r : Int) = natL (ordF F r) := by unfold ordI natL; rw [Int.toNat_natCast]
end Go.Proofs.YtnjoimedilonnaaGreatDoor
namespace Go.Proofs.YtnjoimedilonnaaGreatDoor
open Go.RowKit Go.Maps Go.WideMaps
theorem ORow.stay {α : Type} {enc : α → Value} {w w' : World} {g : Nat} {L : List α} (h : ORow enc w g L) (hb : Below w.heap.size w w') : ORow enc w' g L := h.keep hb
end Go.Proofs.YtnjoimedilonnaaGreatDoor
namespace Go.Proofs.YtnjoimedilonnaaGreatDoor
open Go.RowKit
section
variable {ρ ρ' : Nat → Nat} {W W1 W2 : World} {pr pw g cap len : Nat} {m : Int} {M : List NodeD} {v : Value} {N : List NoteD} {l l2 : BL} {doc : Int}
theorem readM_node (doc : Int) (k : Nat) (l : BL) (F : List Core) : readM doc (k + 1) .node l F =
    match skipM l [60] with
    | some l1 => (match headM doc l1 with
      | none => none
      | some (n, c, l2) => match addM F c with
        | none => none
        | some F1 => match skipM l2 [123] with
          | none => readM doc k (.kids F.length ([60, 47] ++ n ++ [62])) l2 F1
          | some l3 => match addM F1 (nodeC 4 [] [] [] [] doc) with
            | none => none
            | some F2 => match readM doc k (.kids (F.length + 1) [125]) l3 (hangM F2 F.length (F.length + 1)) with
              | none => none
              | some (l4, F3) => readM doc k (.kids F.length ([60, 47] ++ n ++ [62])) l4 F3)
    | none => match skipM l [91] with
      | some l1 => (match addM F (nodeC 3 [] [] [] [] doc) with
        | none => none
        | some F1 => readM doc k (.kids F.length [93]) l1 F1)
      | none => match quoM l with
        | none => none
        | some (d, l1) => match addM F (nodeC 2 [] [] d [] doc) with
          | none => none
          | some F1 => some (l1, F1) := rfl
theorem radd_of (w : World) (h : Rd ρ w pr pw g cap len m M v N l doc) {kind : Int} {d : BL} (hk : In64 kind) (hd : d.length ≤ 1000000) {F1 : List Core} (ha : addM (coreL M) (nodeC kind [] [] d [] doc) = some F1) :
    Calls Tryz.prog 109 #[ptrV pr, .agg #[.int .i64 kind, .string ⟨#[]⟩, .string ⟨#[]⟩, .string (strB d), .slice none 0 0, .int .i64 0, .slice none 0 0, .int .i64 0, .int .i64 0, .int .i64 0]] w fun e w' => e = .returned (.int .i64 (len : Int)) ∧ ∃ (ρ' : Nat → Nat) (g' cap' : Nat) (M' : List NodeD), Rd ρ' w' pr pw g' cap' (len + 1) m M' v N l doc ∧ coreL M' = F1 ∧ Gone pr ρ ρ' w w' := by
  have hml : (coreL M).length = len := by rw [coreL_len, h.wk.hlen]
  unfold addM at ha
  by_cases hl : (coreL M).length < 1000
  case neg => rw [if_neg hl] at ha; cases ha
  rw [if_pos hl] at ha
  have ha := Option.some.inj ha
  rw [hml] at ha hl
  have z0 : In64 0 := ⟨by decide, by decide⟩
  have e0 : (⟨#[]⟩ : ByteArray).size ≤ maxLen := by decide
  have hds : (strB d).size ≤ maxLen := by rw [strB_size]; unfold maxLen; omega
  refine (radd_any w h ⟨⟨kind, ⟨#[]⟩, ⟨#[]⟩, strB d, [], 0, [], 0, 0, 0⟩, none, 0, 0, none, 0, 0⟩ ⟨⟨SRow.nil, by simp, fun _ => rfl⟩, ⟨SRow.nil, by simp, fun _ => rfl⟩, e0, e0, hds, hk, z0, z0, z0, z0⟩ ⟨Nat.zero_le _, by show (⟨#[]⟩ : ByteArray).size ≤ 1000; decide⟩ hl).mono ?_
  rintro e w' ⟨h1, ρ', g', cap', y, h2, h3, h4⟩
  refine ⟨h1, ρ', g', cap', M ++ [y], h2, ?_, h4⟩
  rw [← ha]
  unfold coreL
  rw [List.map_append, List.map_cons, List.map_nil, h3]
  rfl
theorem quoM_len {l s r : BL} (h : quoM l = some (s, r)) : s.length ≤ 100000 := by
  unfold quoM at h
  by_cases hl : l.length ≤ 100000
  · rw [if_pos hl] at h
    cases hs2 : skipM l [34] with
    | none => rw [hs2] at h; cases h
    | some l6 =>
      rw [hs2] at h
      have h3 := qM_len _ l6 [] s r (Nat.le_refl _) h
      have h4 := (skipM_some hs2).2
      have h5 := Lib.trimPrefix_le l [34]
      rw [h4] at h5
      simp at h3
      omega
  · rw [if_neg hl] at h
    cases h
set_option maxHeartbeats 4000000 in
set_option maxRecDepth 100000 in
theorem node_step (k : Nat) (K : KidsAtK pr pw m N doc k) (w : World) (h : Rd ρ w pr pw g cap len m M v N l doc) {l' : BL} {F' : List Core} (hr : readM doc (k + 1) .node l (coreL M) = some (l', F')) :
    Calls Tryz.prog 91 #[ptrV pr] w (ReadPost ρ w pr pw m N doc l' F') := by
  rw [readM_node] at hr
  have hml : (coreL M).length = len := by rw [coreL_len, h.wk.hlen]
  cases hs : skipM l [60] with
  | some l1 =>
    rw [hs] at hr
    dsimp only at hr
    cases hh : headM doc l1 with
    | none => rw [hh] at hr; cases hr
    | some ncl =>
    obtain ⟨n, c, l2⟩ := ncl
    rw [hh] at hr
    dsimp only at hr
    cases ha : addM (coreL M) c with
    | none => rw [ha] at hr; cases hr
    | some F1 =>
    rw [ha] at hr
    dsimp only at hr
    have CS := Lib.hid (skip_hit w h [60] hs)
    have CE : Hid (∀ W, Rd ρ W pr pw g cap len m M v N l1 doc → Calls Tryz.prog 107 #[ptrV pr] W (ReadPost ρ W pr pw m N doc l' F')) := Lib.hid (fun W h1 => elem_step k K W h1 hh ha hr)
    clear h hr hs hh ha hml K
    go_enter Tryz.func91, Tryz.ntmps91
    go_wp2_with (first
      | (go_at_call 106; (with_reducible refine CS.out.mono ?_); rintro e w1 ⟨rfl, hR, hG⟩; have HR := Lib.hid hR; have HG := Lib.hid hG; clear hR hG)
      | (go_at_call 107; (with_reducible refine (CE.out _ HR.out).mono ?_); rintro e w2 ⟨rfl, hp⟩; have HP := Lib.hid hp; clear hp))
    go_ret
    obtain ⟨ρ8, g8, cap8, len8, M8, v8, h1, h2, h3⟩ := HP.out
    exact ⟨rfl, ρ8, g8, cap8, len8, M8, v8, h1, h2, HG.out.trans h3⟩
  | none =>
    rw [hs] at hr
    dsimp only at hr
    have CS := Lib.hid (skip_miss w h [60] hs)
    cases hs2 : skipM l [91] with
    | some l1 =>
      rw [hs2] at hr
      dsimp only at hr
      cases ha : addM (coreL M) (nodeC 3 [] [] [] [] doc) with
      | none => rw [ha] at hr; cases hr
      | some F1 =>
      rw [ha, hml] at hr
      dsimp only at hr
      have CS2 : Hid (∀ W, Rd ρ W pr pw g cap len m M v N l doc → Calls Tryz.prog 106 #[ptrV pr, .string ⟨#[91]⟩] W (StepPost ρ W pr pw g cap len m M v N l1 doc (.bool true))) := Lib.hid (fun W h1 => skip_hit W h1 [91] hs2)
      have CA : Hid (∀ W, Rd ρ W pr pw g cap len m M v N l1 doc → Calls Tryz.prog 109 #[ptrV pr, .agg #[.int .i64 3, .string ⟨#[]⟩, .string ⟨#[]⟩, .string ⟨#[]⟩, .slice none 0 0, .int .i64 0, .slice none 0 0, .int .i64 0, .int .i64 0, .int .i64 0]] W fun e w' => e = .returned (.int .i64 (len : Int)) ∧ ∃ (ρ' : Nat → Nat) (g' cap' : Nat) (M' : List NodeD), Rd ρ' w' pr pw g' cap' (len + 1) m M' v N l1 doc ∧ coreL M' = F1 ∧ Gone pr ρ ρ' W w') := Lib.hid (fun W h1 => radd_of W h1 (kind := 3) (d := []) ⟨by decide, by decide⟩ (by decide) ha)
      have CK : Hid (∀ (ρ7 : Nat → Nat) (W : World) (g7 cap7 len7 : Nat) (M7 : List NodeD), Rd ρ7 W pr pw g7 cap7 len7 m M7 v N l1 doc → coreL M7 = F1 → Calls Tryz.prog 108 #[ptrV pr, .int .i64 (len : Int), .string ⟨#[93]⟩] W (ReadPost ρ7 W pr pw m N doc l' F')) := Lib.hid (fun ρ7 W g7 cap7 len7 M7 h1 h2 => K _ _ _ _ _ _ _ _ _ _ _ _ h1 (by rw [h2]; exact hr))
      clear h hr hs hs2 ha hml K
      go_enter Tryz.func91, Tryz.ntmps91
      go_wp2_with (first
        | (go_at_call 106; (with_reducible refine CS.out.mono ?_); rintro e w1 ⟨rfl, hR, hG⟩; have HR := Lib.hid hR; have HG := Lib.hid hG; clear hR hG)
        | (go_at_call 106; (with_reducible refine (CS2.out _ HR.out).mono ?_); rintro e w2 ⟨rfl, hR, hG⟩; have HR2 := Lib.hid hR; have HG2 := Lib.hid (HG.out.trans hG); clear hR hG)
        | (go_at_call 109; (with_reducible refine (CA.out _ HR2.out).mono ?_); rintro e w3 ⟨rfl, ρ3, g3, cap3, M3, hR, hc, hG⟩; have HR3 := Lib.hid hR; have HC := Lib.hid hc; have HG3 := Lib.hid (HG2.out.trans hG); clear hR hc hG)
        | (go_at_call 108; (with_reducible refine (CK.out _ _ _ _ _ _ HR3.out HC.out).mono ?_); rintro e w4 ⟨rfl, hp⟩; have HP := Lib.hid hp; clear hp))
      go_ret
      obtain ⟨ρ8, g8, cap8, len8, M8, v8, h1, h2, h3⟩ := HP.out
      exact ⟨rfl, ρ8, g8, cap8, len8, M8, v8, h1, h2, HG3.out.trans h3⟩
    | none =>
      rw [hs2] at hr
      dsimp only at hr
      cases hq : quoM l with
      | none => rw [hq] at hr; cases hr
      | some dl =>
      obtain ⟨d, l1⟩ := dl
      rw [hq] at hr
      dsimp only at hr
      cases ha : addM (coreL M) (nodeC 2 [] [] d [] doc) with
      | none => rw [ha] at hr; cases hr
      | some F1 =>
      rw [ha] at hr
      dsimp only at hr
      have HE := Lib.hid (Option.some.inj hr)
      have hdl := quoM_len hq
      have CS2 : Hid (∀ W, Rd ρ W pr pw g cap len m M v N l doc → Calls Tryz.prog 106 #[ptrV pr, .string ⟨#[91]⟩] W (StepPost ρ W pr pw g cap len m M v N l doc (.bool false))) := Lib.hid (fun W h1 => skip_miss W h1 [91] hs2)
      have CQ : Hid (∀ W, Rd ρ W pr pw g cap len m M v N l doc → Calls Tryz.prog 110 #[ptrV pr] W (StepPost ρ W pr pw g cap len m M v N l1 doc (.tuple #[.string (strB d), .bool true]))) := Lib.hid (fun W h1 => quoted_any W h1 hq)
      have CA : Hid (∀ W, Rd ρ W pr pw g cap len m M v N l1 doc → Calls Tryz.prog 109 #[ptrV pr, .agg #[.int .i64 2, .string ⟨#[]⟩, .string ⟨#[]⟩, .string (strB d), .slice none 0 0, .int .i64 0, .slice none 0 0, .int .i64 0, .int .i64 0, .int .i64 0]] W fun e w' => e = .returned (.int .i64 (len : Int)) ∧ ∃ (ρ' : Nat → Nat) (g' cap' : Nat) (M' : List NodeD), Rd ρ' w' pr pw g' cap' (len + 1) m M' v N l1 doc ∧ coreL M' = F1 ∧ Gone pr ρ ρ' W w') := Lib.hid (fun W h1 => radd_of W h1 (kind := 2) (d := d) ⟨by decide, by decide⟩ (by omega) ha)
      obtain ⟨S, hS⟩ : ∃ S, strB d = S := ⟨_, rfl⟩
      rw [hS] at CQ CA
      clear h hr hs hs2 ha hml K hq hdl hS
      go_enter Tryz.func91, Tryz.ntmps91
      go_wp2_with (first
        | (go_at_call 106; (with_reducible refine CS.out.mono ?_); rintro e w1 ⟨rfl, hR, hG⟩; have HR := Lib.hid hR; have HG := Lib.hid hG; clear hR hG)
        | (go_at_call 106; (with_reducible refine (CS2.out _ HR.out).mono ?_); rintro e w2 ⟨rfl, hR, hG⟩; have HR2 := Lib.hid hR; have HG2 := Lib.hid (HG.out.trans hG); clear hR hG)
        | (go_at_call 110; (with_reducible refine (CQ.out _ HR2.out).mono ?_); rintro e w3 ⟨rfl, hR, hG⟩; have HR3 := Lib.hid hR; have HG3 := Lib.hid (HG2.out.trans hG); clear hR hG)
        | (go_at_call 109; (with_reducible refine (CA.out _ HR3.out).mono ?_); rintro e w4 ⟨rfl, ρ3, g3, cap3, M3, hR, hc, hG⟩; have HR4 := Lib.hid hR; have HC := Lib.hid hc; have HG4 := Lib.hid (HG3.out.trans hG); clear hR hc hG))
      go_ret
      have he := HE.out
      injection he with e1 e2
      subst e1
      exact ⟨rfl, ρ3, g3, cap3, _, M3, v, HR4.out, by rw [HC.out]; exact e2, HG4.out⟩
theorem reads_all (pr pw : Nat) (m : Int) (N : List NoteD) (doc : Int) : ∀ k, NodeAtK pr pw m N doc k ∧ KidsAtK pr pw m N doc k := by
  intro k
  induction k using Nat.strongRecOn with
  | _ k ih =>
    refine ⟨?_, fun ρ w g cap len M v l p stop l' F' h hr => kids_step k (fun j hj => (ih j hj).1) w h stop l' F' hr⟩
    intro ρ w g cap len M v l l' F' h hr
    cases k with
    | zero => cases hr
    | succ j => exact node_step j (ih j (Nat.lt_succ_self j)).2 w h hr
end
end Go.Proofs.YtnjoimedilonnaaGreatDoor
namespace Go.Proofs.YtnjoimedilonnaaGreatDoor
open Go.RowKit
section
variable {ρ : Nat → Nat} {W : World} {pw g cap len : Nat} {m : Int} {M : List NodeD} {v : Value} {N : List NoteD}
theorem Wk.stored2 (h : Wk ρ W pw g cap len m M v N) {b B : Nat} (hb : b < B) (hB : B ≤ W.heap.size) (h0 : ∀ k, k < B → ρ k = 0) (u u' : Value) :
    Wk (upd ρ (some b) 4) ((W.setCell ⟨b, 0, none⟩ u).setCell ⟨b, 1, none⟩ u') pw g cap len m M v N :=
  (h.stored1 hb hB h0 0 u).other (by unfold upd; rw [if_pos rfl]) 1 u'
theorem upd_low {b B r : Nat} (h0 : ∀ k, k < B → ρ k = 0) (hb : B ≤ b) : ∀ k, k < B → upd ρ (some b) r k = 0 := fun k hk => by
  unfold upd
  rw [if_neg (fun e => by injection e with e; omega)]
  exact h0 k hk
def WkFor (w : World) (m : Int) (F : List Core) (rest : List Value) (e : Ending) (w' : World) : Prop :=
  ∃ (ρ : Nat → Nat) (pw g cap len : Nat) (M : List NodeD) (v : Value), e = .returned (.tuple (forV (some ⟨g, 0, none⟩) len cap m :: rest).toArray) ∧ Wk ρ w' pw g cap len m M v [] ∧ smallF M ∧ coreL M = F ∧ Below w.heap.size w w' ∧ ∀ k, k < w.heap.size → ρ k = 0
end
set_option maxHeartbeats 1000000 in
set_option maxRecDepth 100000 in
theorem pknows_any (a : Option Addr) (len cap : Nat) (m : Int) (L : List NodeD) (n : Int) (w : World) (h : NodeRow w a len cap L) (hm : In64 m) (hn : In64 n) (hs : smallF L) :
    Calls Tryz.prog 90 #[forV a len cap m, .int .i64 n] w fun e w' => e = .returned (.bool (rootZ m (coreL L) n != -1)) ∧ Below w.heap.size w w' := by
  have BX := Lib.hid (Box.start (m := m) h)
  have CR : Hid (∀ W, NodeRow W a len cap L → Calls Tryz.prog 56 #[forV a len cap m, .int .i64 n] W fun e w' => e = .returned (.int .i64 (rootZ m (coreL L) n)) ∧ Below W.heap.size W w') := Lib.hid (fun W h1 => rootFn_any a len cap m L n W h1 hm hn hs)
  obtain ⟨z, hz⟩ : ∃ z, rootZ m (coreL L) n = z := ⟨_, rfl⟩
  rw [hz] at CR ⊢
  have z0 := BX.out.c0
  have z1 := BX.out.c1
  clear h hm hn hs hz
  go_enter Tryz.func90, Tryz.ntmps90
  go_wp2_with (go_at_call 56; (with_reducible refine (CR.out _ BX.out.row).mono ?_); rintro e w1 ⟨rfl, hb⟩; have HB := Lib.hid (BX.out.below.trans (hb.mono BX.out.below.size)); clear hb)
  go_ret
  exact ⟨rfl, HB.out⟩
set_option maxHeartbeats 1000000 in
set_option maxRecDepth 100000 in
theorem mightBe_any (a : Option Addr) (len cap : Nat) (m : Int) (L : List NodeD) (w : World) (h : NodeRow w a len cap L) (hs : smallF L) :
    Calls Tryz.prog 92 #[forV a len cap m] w fun e w' => e = .returned (.bool (rightF 400 (coreL L))) ∧ Below w.heap.size w w' := by
  have hb0 := below_box w (forB a len cap 400)
  have BX := Lib.hid (Box.start (m := 400) h)
  have CR : Hid (∀ W, NodeRow W a len cap L → Calls Tryz.prog 8 #[forV a len cap 400] W fun e w' => e = .returned (.bool (rightF 400 (coreL L))) ∧ Below W.heap.size W w') := Lib.hid (fun W h1 => rightF_any a len cap 400 L W h1 ⟨by decide, by decide⟩ hs)
  obtain ⟨q, hq⟩ : ∃ q, rightF 400 (coreL L) = q := ⟨_, rfl⟩
  rw [hq] at CR ⊢
  obtain ⟨w0, hw0⟩ : ∃ w0, w.alloc (forB a len cap 400) = w0 := ⟨_, rfl⟩
  rw [hw0] at BX
  have HW := Lib.hid hw0
  have z0 := BX.out.c0
  have z1 := BX.out.c1
  clear h hs hq hw0 hb0
  go_enter Tryz.func92, Tryz.ntmps92
  go_upto_region 2 with fail
  rw [HW.out]
  go_wp2_with (go_at_call 8; (with_reducible refine (CR.out _ BX.out.row).mono ?_); rintro e w1 ⟨rfl, hb⟩; have HB := Lib.hid (BX.out.below.trans (hb.mono BX.out.below.size)); clear hb)
  go_ret
  exact ⟨rfl, HB.out⟩
end Go.Proofs.YtnjoimedilonnaaGreatDoor
namespace Go.Proofs.YtnjoimedilonnaaGreatDoor
open Go.RowKit Go.Deep Go.ChangeShapes Go.WideShapes
theorem in64_of {z : Int} (h : (Lit.int .i64 z).wf = true) : In64 z := by
  exact bounds_i64 h
theorem open_introw {H : Type} {enc : TypeId × Value → H} {W : World} {a : Option Addr} {len cap : Nat} {d : DataW H} {p : List MemPlace}
    (h : DataW.Trod enc Tryz.prog W 0 (fun _ => true) true 33 (.slice a len cap) d p) : ∃ L, IntRow W a len cap L := by
  obtain ⟨fuel, hf⟩ := h
  rcases open_slice Tryz.underlying33 hf with ⟨hcs, _⟩ | ⟨ad, l, c, m, n, D, Pl, hcs, _, hl, hm, hmm, _, hi⟩
  · simp [Value.cells] at hcs
    obtain ⟨rfl, rfl, rfl⟩ := hcs
    exact ⟨[], SRow.nil, by simp, fun _ => rfl⟩
  · simp [Value.cells] at hcs
    obtain ⟨rfl, rfl, rfl⟩ := hcs
    have hml : len ≤ m := by rw [hmm]; simpa using hl
    have ce : Tryz.prog.cellsOf 3 = 1 := by kernel_rfl
    have each : ∀ i, i < len → ∃ x : Int, W.cell? (ad.add i) = some (.int .i64 x) ∧ In64 x := by
      intro i hil
      obtain ⟨cs', h1, h2⟩ := hi i (by omega)
      rw [ce] at h1
      obtain ⟨_, hlen, hcell⟩ := World.cells?_some h1
      match cs', hlen with
      | [v0], _ =>
        have e0 := hcell 0 (by omega)
        rw [add_add] at e0
        obtain ⟨n0, hn0, _, hw0⟩ := DataW.trod_int Tryz.underlying3 h2
        simp at hn0
        subst hn0
        exact ⟨n0, by simpa using e0, in64_of hw0⟩
    obtain ⟨q, hq⟩ : ∃ q : Nat → Int, ∀ i, i < len → W.cell? (ad.add i) = some (.int .i64 (q i)) ∧ In64 (q i) := by
      refine ⟨fun i => if h : i < len then (each i h).choose else 0, fun i hil => ?_⟩
      simp only [dif_pos hil]
      exact (each i hil).choose_spec
    refine ⟨(List.range len).map q, ⟨by simp, hl, hm, fun x _ => rfl, ?_⟩, ?_, fun h => by cases h⟩
    · rcases Nat.eq_zero_or_pos len with h0 | h0
      · exact .inl h0
      · obtain ⟨b, off, spot⟩ := ad
        have hc := (hq 0 h0).1
        have hspot : spot = none := by simpa [Addr.add] using World.cell?_spot hc
        subst hspot
        refine .inr ⟨b, off, rfl, ?_, ?_⟩
        · have := block_lt hc
          rwa [add_plain] at this
        · intro i x j v hx hv
          obtain ⟨hil, hgx⟩ := List.getElem?_eq_some_iff.1 hx
          have hil' : i < len := by simpa using hil
          simp at hgx
          obtain ⟨h1, _⟩ := hq i hil'
          rw [add_plain] at h1
          rw [hgx] at h1
          obtain ⟨hjl, hgv⟩ := List.getElem?_eq_some_iff.1 hv
          match j, hjl with
          | 0, _ => simp [encZ] at hgv; subst hgv; simpa using h1
    · intro x hx
      obtain ⟨i, hi1, rfl⟩ := List.mem_map.1 hx
      exact (hq i (List.mem_range.1 hi1)).2
theorem slice_cells {H : Type} {enc : TypeId × Value → H} {W : World} {t e : TypeId} {fuel : Nat} {v : Value} {x : DataW H × List MemPlace} (ht : Tryz.prog.underlying t = some (.slice e))
    (h : DataW.trod enc Tryz.prog W 0 (fun _ => true) true fuel t [v] = some x) : ∃ a n c, v = .slice a n c := by
  rcases open_slice ht h with ⟨hcs, _⟩ | ⟨ad, l, c, m, n, D, Pl, hcs, _⟩
  · exact ⟨none, 0, 0, by simpa using hcs⟩
  · exact ⟨some ad, l, c, by simpa using hcs⟩
set_option maxRecDepth 100000 in
theorem open_nodecells {H : Type} {enc : TypeId × Value → H} {W : World} {cs : List Value} {d : DataW H} {p : List MemPlace} {fuel : Nat} (hc : cs.length = 10)
    (h : DataW.trod enc Tryz.prog W 0 (fun _ => true) true fuel 35 cs = some (d, p)) : ∃ x : NodeD, cs = encN x ∧ NodeOk W x := by
  obtain ⟨xs, k, _, _, _, hxl, hff⟩ := DataW.trod_struct Tryz.underlying35 h
  have c3 : Tryz.prog.cellsOf 3 = 1 := by kernel_rfl
  have c9 : Tryz.prog.cellsOf 9 = 1 := by kernel_rfl
  have ca : Tryz.prog.cellsOf 32 = 1 := by kernel_rfl
  have ci : Tryz.prog.cellsOf 33 = 1 := by kernel_rfl
  match cs, hc with
  | [v0, v1, v2, v3, v4, v5, v6, v7, v8, v9], _ =>
    match xs, hxl with
    | [y0, y1, y2, y3, y4, y5, y6, y7, y8, y9], _ =>
      have g0 := hff 0 _ rfl
      have g1 := hff 1 _ rfl
      have g2 := hff 2 _ rfl
      have g3 := hff 3 _ rfl
      have g4 := hff 4 _ rfl
      have g5 := hff 5 _ rfl
      have g6 := hff 6 _ rfl
      have g7 := hff 7 _ rfl
      have g8 := hff 8 _ rfl
      have g9 := hff 9 _ rfl
      simp [c3, c9, ca, ci] at g0 g1 g2 g3 g4 g5 g6 g7 g8 g9
      obtain ⟨n0, hn0, _, hw0⟩ := DataW.trod_int Tryz.underlying3 g0
      obtain ⟨s1, hs1, _, hl1⟩ := DataW.trod_string Tryz.underlying9 g1
      obtain ⟨s2, hs2, _, hl2⟩ := DataW.trod_string Tryz.underlying9 g2
      obtain ⟨s3, hs3, _, hl3⟩ := DataW.trod_string Tryz.underlying9 g3
      obtain ⟨n5, hn5, _, hw5⟩ := DataW.trod_int Tryz.underlying3 g5
      obtain ⟨n7, hn7, _, hw7⟩ := DataW.trod_int Tryz.underlying3 g7
      obtain ⟨n8, hn8, _, hw8⟩ := DataW.trod_int Tryz.underlying3 g8
      obtain ⟨n9, hn9, _, hw9⟩ := DataW.trod_int Tryz.underlying3 g9
      simp at hn0 hs1 hs2 hs3 hn5 hn7 hn8 hn9
      subst hn0 hs1 hs2 hs3 hn5 hn7 hn8 hn9
      obtain ⟨a4, l4, c4, rfl⟩ := slice_cells Tryz.underlying32 g4
      obtain ⟨a6, l6, c6, rfl⟩ := slice_cells Tryz.underlying33 g6
      obtain ⟨A, hA⟩ := open_attrs (enc := enc) (W := W) (a := a4) (len := l4) (cap := c4) (d := y4.1) (p := y4.2) ⟨k, by simpa [Value.cells] using g4⟩
      obtain ⟨K, hK⟩ := open_introw (enc := enc) (W := W) (a := a6) (len := l6) (cap := c6) (d := y6.1) (p := y6.2) ⟨k, by simpa [Value.cells] using g6⟩
      exact ⟨⟨⟨n0, s1, s2, s3, A, n5, K, n7, n8, n9⟩, a4, l4, c4, a6, l6, c6⟩, rfl, hA, hK, hl1, hl2, hl3, in64_of hw0, in64_of hw5, in64_of hw7, in64_of hw8, in64_of hw9⟩
theorem open_noderow {H : Type} {enc : TypeId × Value → H} {W : World} {a : Option Addr} {len cap : Nat} {d : DataW H} {p : List MemPlace}
    (h : DataW.Trod enc Tryz.prog W 0 (fun _ => true) true 22 (.slice a len cap) d p) : ∃ L, NodeRow W a len cap L := by
  obtain ⟨fuel, hf⟩ := h
  rcases open_slice Tryz.underlying22 hf with ⟨hcs, _⟩ | ⟨ad, l, c, m, n, D, Pl, hcs, _, hl, hm, hmm, _, hi⟩
  · simp [Value.cells] at hcs
    obtain ⟨rfl, rfl, rfl⟩ := hcs
    exact ⟨[], SRow.nil, by simp, fun _ => rfl⟩
  · simp [Value.cells] at hcs
    obtain ⟨rfl, rfl, rfl⟩ := hcs
    have hml : len ≤ m := by rw [hmm]; simpa using hl
    have ce : Tryz.prog.cellsOf 35 = 10 := by kernel_rfl
    have each : ∀ i, i < len → ∃ x : NodeD, NodeOk W x ∧ ∀ j v, (encN x)[j]? = some v → W.cell? (ad.add (i * 10 + j)) = some v := by
      intro i hil
      obtain ⟨cs', h1, h2⟩ := hi i (by omega)
      rw [ce] at h1
      obtain ⟨_, hlen, hcell⟩ := World.cells?_some h1
      obtain ⟨x, hx, hok⟩ := open_nodecells hlen h2
      refine ⟨x, hok, fun j v hv => ?_⟩
      have hj : j < 10 := (List.getElem?_eq_some_iff.1 hv).1
      have e0 := hcell j hj
      rw [add_add, hx, hv] at e0
      exact e0
    obtain ⟨q, hq⟩ : ∃ q : Nat → NodeD, ∀ i, i < len → NodeOk W (q i) ∧ ∀ j v, (encN (q i))[j]? = some v → W.cell? (ad.add (i * 10 + j)) = some v := by
      rcases Nat.eq_zero_or_pos len with h0 | h0
      · exact ⟨fun _ => ⟨⟨0, ByteArray.empty, ByteArray.empty, ByteArray.empty, [], 0, [], 0, 0, 0⟩, none, 0, 0, none, 0, 0⟩, fun i hi => by omega⟩
      · refine ⟨fun i => if h : i < len then (each i h).choose else (each 0 h0).choose, fun i hil => ?_⟩
        simp only [dif_pos hil]
        exact (each i hil).choose_spec
    refine ⟨(List.range len).map q, ⟨by simp, hl, hm, fun x _ => rfl, ?_⟩, ?_, fun h => by cases h⟩
    · rcases Nat.eq_zero_or_pos len with h0 | h0
      · exact .inl h0
      · obtain ⟨b, off, spot⟩ := ad
        have hc := (hq 0 h0).2 0 _ rfl
        have hspot : spot = none := by simpa [Addr.add] using World.cell?_spot hc
        subst hspot
        refine .inr ⟨b, off, rfl, ?_, ?_⟩
        · have := block_lt hc
          rwa [add_plain] at this
        · intro i x j v hx hv
          obtain ⟨hil, hgx⟩ := List.getElem?_eq_some_iff.1 hx
          have hil' : i < len := by simpa using hil
          simp at hgx
          have h1 := (hq i hil').2 j v (by rw [hgx]; exact hv)
          rw [add_plain] at h1
          simpa [Nat.add_assoc] using h1
    · intro x hx
      obtain ⟨i, hi1, rfl⟩ := List.mem_map.1 hx
      exact (hq i (List.mem_range.1 hi1)).1
set_option maxRecDepth 100000 in
theorem open_forest {H : Type} {enc : TypeId × Value → H} {W : World} {r : Reach} {b0 : Nat} {v : Value} {d : DataW H} {p : List MemPlace} (hv : Value.okWide Tryz.prog W r b0 24 v)
    (h : DataW.Trod enc Tryz.prog W 0 (fun _ => true) true 24 v d p) : ∃ a len cap m L, v = .agg #[.slice a len cap, .int .i64 m] ∧ NodeRow W a len cap L ∧ In64 m := by
  obtain ⟨cs, rfl, hsz⟩ := okWide_struct Tryz.underlying24 hv
  have hC : Tryz.prog.cellsOf 24 = 2 := by kernel_rfl
  have c3 : Tryz.prog.cellsOf 3 = 1 := by kernel_rfl
  have cn : Tryz.prog.cellsOf 22 = 1 := by kernel_rfl
  obtain ⟨l⟩ := cs
  match l, hsz.trans hC with
  | [v0, v1], _ =>
    obtain ⟨fuel, hf⟩ := h
    obtain ⟨xs, k, _, _, _, hxl, hff⟩ := DataW.trod_struct Tryz.underlying24 hf
    match xs, hxl with
    | [y0, y1], _ =>
      have g0 := hff 0 _ rfl
      have g1 := hff 1 _ rfl
      simp [c3, cn, Value.cells] at g0 g1
      obtain ⟨n1, hn1, _, hw1⟩ := DataW.trod_int Tryz.underlying3 g1
      simp at hn1
      subst hn1
      obtain ⟨a4, l4, c4, rfl⟩ := slice_cells Tryz.underlying22 g0
      obtain ⟨L, hL⟩ := open_noderow (enc := enc) (W := W) (a := a4) (len := l4) (cap := c4) (d := y0.1) (p := y0.2) ⟨k, by simpa [Value.cells] using g0⟩
      exact ⟨a4, l4, c4, n1, L, rfl, hL, in64_of hw1⟩
end Go.Proofs.YtnjoimedilonnaaGreatDoor
namespace Go.Proofs.YtnjoimedilonnaaGreatDoor
open Go.ChangeShapes Go.WideShapes Go.ChangeAt Go.RowKit
theorem tied_own : ownKnob Tryz.prog.godebug = none := by kernel_rfl
theorem tied_laidOut : laidOutB Tryz.prog = true := by kernel_rfl
theorem tied_et : Tryz.prog.globalNamed "errors.errorType" = some 0 := by kernel_rfl
theorem tied_rt : (Tryz.prog.cutTypes.find? (·.1 == "internal/reflectlite.rtype")).map (·.2) = some 150 := by kernel_rfl
theorem tied_oneRow : ((List.range Tryz.prog.types.size).filter fun t => Tryz.prog.rowNamed t [101, 114, 114, 111, 114]) = [59] := by kernel_rfl
abbrev errLaid : List (String × DataW Unit) := [("errors.errorType", Rows.laid_errors_errorType)]
theorem handle_of_laid {W : World} (h : laidMetH Tryz.prog errLaid W) : ErrVar W := by
  have h' : laidMet Tryz.prog [] W ∧ handlesMet Tryz.prog errLaid W := h
  obtain ⟨name, u, ty, e1, e2, e3, e4, e5⟩ := h'.2 _ (List.mem_singleton.2 rfl)
  have en : name = [101, 114, 114, 111, 114] := (Option.some.inj e1).symm
  subst en
  obtain rfl := Option.some.inj (tied_rt.symm.trans e2)
  have hm : ty ∈ (List.range Tryz.prog.types.size).filter fun t => Tryz.prog.rowNamed t [101, 114, 114, 111, 114] := List.mem_filter.2 ⟨List.mem_range.2 e3, e4⟩
  rw [tied_oneRow] at hm
  obtain rfl := List.mem_singleton.1 hm
  have hh : typeHandle Tryz.prog 59 = .pointer (some ⟨2, 59, none⟩) := by kernel_rfl
  rw [hh] at e5
  unfold ErrVar
  simpa using World.var?_cell tied_et e5 0
noncomputable def laidWorld (os : Os) : World :=
  let w0 := World.holding Tryz.prog os ⟨#[], #[], []⟩
  { w0 with heap := w0.heap.modify 0 fun
      | .cells _ t frozen => .cells #[.iface 150 (.agg #[.pointer (some ⟨2, 59, none⟩)])] t frozen
      | o => o }
theorem laidWorld_met (os : Os) (args : Array Value) : laidMetH Tryz.prog errLaid ((laidWorld os).forCall (fun _ _ => 0) ⟨#[], args, []⟩).memory :=
  laidMetH_of_parts (laidMet_nil _ _) (by kernel_rfl)
end Go.Proofs.YtnjoimedilonnaaGreatDoor
namespace Go.Proofs.YtnjoimedilonnaaGreatDoor
open Go.RowKit
theorem out_at {F : List Core} {n j : Nat} {c : Core} (h : F[j]? = some c) : ∃ d, (mvOut F n)[j]? = some d ∧ d.name = c.name ∧ d.kind = c.kind ∧ d.attrs = c.attrs ∧ d.parent = if j = n then -1 else c.parent := by
  unfold mvOut edF
  rw [List.getElem?_mapIdx, h]
  exact ⟨_, rfl, rfl, rfl, rfl, rfl⟩
theorem out_len (F : List Core) (n : Nat) : (mvOut F n).length = F.length := by unfold mvOut edF; simp
end Go.Proofs.YtnjoimedilonnaaGreatDoor
