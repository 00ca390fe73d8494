/- Texts joined in build order: WatchComes2Math ReaderNode PrintRead DeskOpen. -/
import Derived.Test.YtkfmengdffpcnaaGreatDoorA38
import Derived.Test.YtkfmengdffpcnaaGreatDoorA40
import Derived.Test.YtkfmengdffpcnaaGreatDoorA29
import Derived.Test.YtkfmengdffpcnaaGreatDoorA30
import Derived.Test.YtkfmengdffpcnaaGreatDoorA10
import Derived.Test.YtkfmengdffpcnaaGreatDoorA11
import Derived.Test.YtkfmengdffpcnaaGreatDoorA12
import Derived.Test.YtkfmengdffpcnaaGreatDoorA03
import Derived.Test.YtkfmengdffpcnaaGreatDoorA22
import Derived.Test.YtkfmengdffpcnaaGreatDoorA15
namespace Go.Proofs.YtkfmengdffpcnaaGreatDoor
open Go.RowKit
def comeE (F : List Core) (S : List StateD) (D : DeskD) (L : List ClassC) (z : Int) : Option DueD := oneZ F S D L (noteAt (note 1) z)
def comeL (F : List Core) (S : List StateD) (D : DeskD) (L : List ClassC) (E : List Int) (k : Nat) : List DueD := (E.take k).filterMap (comeE F S D L)
theorem comes_dues {m : Int} {F : List Core} {S : List StateD} {D : DeskD} {L : List ClassC} {n : Nat} (h : rightW m F S D = true) (hn : n < F.length) : dueZ m F S D L (tellN F n (note 1)) = comeL F S D L (elemsZ m F n) (elemsZ m F n).length := by
  have hr : rightF m F = true := by
    unfold rightW at h
    simp only [Bool.and_eq_true] at h
    exact h.1.2
  unfold dueZ comeL
  rw [if_pos h, List.take_length]
  unfold tellN elemsZ allZ
  rw [thereF_of hr hn, if_pos rfl, List.filterMap_map]
  unfold allI
  rw [Int.toNat_natCast]
  rfl
section
variable {F : List Core} {S : List StateD} {D : DeskD} {L : List ClassC} {E : List Int} {k : Nat} {z : Int}
theorem comeL_no (hz : E[k]? = some z) (h : comeE F S D L z = none) : comeL F S D L E (k + 1) = comeL F S D L E k := by
  unfold comeL
  rw [List.take_add_one, hz, List.filterMap_append]
  simp [h]
theorem comeL_yes {d : DueD} (hz : E[k]? = some z) (h : comeE F S D L z = some d) : comeL F S D L E (k + 1) = comeL F S D L E k ++ [d] := by
  unfold comeL
  rw [List.take_add_one, hz, List.filterMap_append]
  simp [h]
theorem comeL_at {d : DueD} (hz : E[k]? = some z) (h : comeE F S D L z = some d) : (comeL F S D L E E.length)[(comeL F S D L E k).length]? = some d := by
  have hk : k < E.length := (List.getElem?_eq_some_iff.1 hz).1
  have e : comeL F S D L E E.length = comeL F S D L E (k + 1) ++ (E.drop (k + 1)).filterMap (comeE F S D L) := by
    unfold comeL
    rw [← List.filterMap_append, List.take_append_drop, List.take_length]
  rw [e, comeL_yes hz h, List.append_assoc, List.getElem?_append_right (Nat.le_refl _), Nat.sub_self]
  rfl
theorem comeL_le (F : List Core) (S : List StateD) (D : DeskD) (L : List ClassC) (E : List Int) (k : Nat) : (comeL F S D L E k).length ≤ k := Nat.le_trans (List.length_filterMap_le _ _) (List.length_take_le _ _)
end
def cameD (j : Nat) : DueD := ⟨(j : Int), ⟨1, 0, ⟨#[]⟩, false, false, ⟨#[]⟩, ⟨#[]⟩, 0, 0, false⟩⟩
theorem comeE_at {F : List Core} {S : List StateD} {D : DeskD} {L : List ClassC} {j : Nat} {e : Core} {s : StateD} (he : F[j]? = some e) (hk : e.kind = 1) (hs : S[j]? = some s) :
    comeE F S D L (j : Int) = if s.phase = 1 then (if fateC D e = -1 then none else some ⟨(j : Int), upT (fateC D e)⟩) else if s.phase = 3 then (match classZ s D.defs L with | none => none | some c => if hearsC c 1 = true then some (cameD j) else none) else none := by
  have hj : j < F.length := (List.getElem?_eq_some_iff.1 he).1
  have hb : elemB F (j : Int) = true := by
    unfold elemB
    rw [Int.toNat_natCast, he]
    simp only [hk, Bool.and_eq_true, decide_eq_true_eq]
    exact ⟨⟨by omega, by omega⟩, rfl⟩
  unfold comeE oneZ
  show (if elemB F (j : Int) = true then _ else _) = _
  rw [if_pos hb]
  show (match F[((j : Nat) : Int).toNat]?, S[((j : Nat) : Int).toNat]? with | some e, some s => _ | _, _ => _) = _
  rw [Int.toNat_natCast, he, hs]
  show Option.map _ (askedZ (noteAt (note 1) (j : Int)) (fateC D e) s (classZ s D.defs L)) = _
  unfold askedZ
  by_cases h1 : s.phase = 1
  · rw [if_pos h1, if_pos h1, if_pos (show (noteAt (note 1) (j : Int)).kind = 1 from rfl)]
    unfold upZ
    by_cases h2 : fateC D e = -1
    · rw [if_pos h2, if_pos h2]; rfl
    · rw [if_neg h2, if_neg h2]; rfl
  · rw [if_neg h1, if_neg h1]
    by_cases h3 : s.phase = 3
    · rw [if_pos h3, if_pos h3]
      cases classZ s D.defs L with
      | none => rfl
      | some c =>
        have ht : toldC c (noteAt (note 1) (j : Int)).kind (noteAt (note 1) (j : Int)).name = hearsC c 1 := rfl
        show Option.map _ (if toldC c (noteAt (note 1) (j : Int)).kind _ = true then _ else _) = if hearsC c 1 = true then _ else _
        by_cases h4 : hearsC c 1 = true
        · rw [if_pos h4, if_pos (by first | exact h4 | (rw [ht]; exact h4))]; rfl
        · rw [if_neg h4, if_neg (by first | exact h4 | (rw [ht]; exact h4))]; rfl
    · rw [if_neg h3, if_neg h3]; rfl
end Go.Proofs.YtkfmengdffpcnaaGreatDoor
namespace Go.Proofs.YtkfmengdffpcnaaGreatDoor
open Go.RowKit
section
variable {ρ ρ' : Nat → Nat} {W W1 W2 : World} {pr pw g cap len : Nat} {m : Int} {M : List NodeD} {v : Value} {N : List NoteD} {l l2 : BL} {doc : Int}
theorem readM_node (doc : Int) (k : Nat) (l : BL) (F : List Core) : readM doc (k + 1) .node l F =
    match skipM l [60] with
    | some l1 => (match headM doc l1 with
      | none => none
      | some (n, c, l2) => match addM F c with
        | none => none
        | some F1 => match skipM l2 [123] with
          | none => readM doc k (.kids F.length ([60, 47] ++ n ++ [62])) l2 F1
          | some l3 => match addM F1 (nodeC 4 [] [] [] [] doc) with
            | none => none
            | some F2 => match readM doc k (.kids (F.length + 1) [125]) l3 (hangM F2 F.length (F.length + 1)) with
              | none => none
              | some (l4, F3) => readM doc k (.kids F.length ([60, 47] ++ n ++ [62])) l4 F3)
    | none => match skipM l [91] with
      | some l1 => (match addM F (nodeC 3 [] [] [] [] doc) with
        | none => none
        | some F1 => readM doc k (.kids F.length [93]) l1 F1)
      | none => match quoM l with
        | none => none
        | some (d, l1) => match addM F (nodeC 2 [] [] d [] doc) with
          | none => none
          | some F1 => some (l1, F1) := rfl
theorem radd_of (w : World) (h : Rd ρ w pr pw g cap len m M v N l doc) {kind : Int} {d : BL} (hk : In64 kind) (hd : d.length ≤ 1000000) {F1 : List Core} (ha : addM (coreL M) (nodeC kind [] [] d [] doc) = some F1) :
    Calls Tryz.prog 120 #[ptrV pr, .agg #[.int .i64 kind, .string ⟨#[]⟩, .string ⟨#[]⟩, .string (strB d), .slice none 0 0, .int .i64 0, .slice none 0 0, .int .i64 0, .int .i64 0, .int .i64 0]] w fun e w' => e = .returned (.int .i64 (len : Int)) ∧ ∃ (ρ' : Nat → Nat) (g' cap' : Nat) (M' : List NodeD), Rd ρ' w' pr pw g' cap' (len + 1) m M' v N l doc ∧ coreL M' = F1 ∧ Gone pr ρ ρ' w w' := by
  have hml : (coreL M).length = len := by rw [coreL_len, h.wk.hlen]
  unfold addM at ha
  by_cases hl : (coreL M).length < 1000
  case neg => rw [if_neg hl] at ha; cases ha
  rw [if_pos hl] at ha
  have ha := Option.some.inj ha
  rw [hml] at ha hl
  have z0 : In64 0 := ⟨by decide, by decide⟩
  have e0 : (⟨#[]⟩ : ByteArray).size ≤ maxLen := by decide
  have hds : (strB d).size ≤ maxLen := by rw [strB_size]; unfold maxLen; omega
  refine (radd_any w h ⟨⟨kind, ⟨#[]⟩, ⟨#[]⟩, strB d, [], 0, [], 0, 0, 0⟩, none, 0, 0, none, 0, 0⟩ ⟨⟨SRow.nil, by simp, fun _ => rfl⟩, ⟨SRow.nil, by simp, fun _ => rfl⟩, e0, e0, hds, hk, z0, z0, z0, z0⟩ ⟨Nat.zero_le _, by show (⟨#[]⟩ : ByteArray).size ≤ 1000; decide⟩ hl).mono ?_
  rintro e w' ⟨h1, ρ', g', cap', y, h2, h3, h4⟩
  refine ⟨h1, ρ', g', cap', M ++ [y], h2, ?_, h4⟩
  rw [← ha]
  unfold coreL
  rw [List.map_append, List.map_cons, List.map_nil, h3]
  rfl
theorem quoM_len {l s r : BL} (h : quoM l = some (s, r)) : s.length ≤ 100000 := by
  unfold quoM at h
  by_cases hl : l.length ≤ 100000
  · rw [if_pos hl] at h
    cases hs2 : skipM l [34] with
    | none => rw [hs2] at h; cases h
    | some l6 =>
      rw [hs2] at h
      have h3 := qM_len _ l6 [] s r (Nat.le_refl _) h
      have h4 := (skipM_some hs2).2
      have h5 := Lib.trimPrefix_le l [34]
      rw [h4] at h5
      simp at h3
      omega
  · rw [if_neg hl] at h
    cases h
set_option maxHeartbeats 4000000 in
set_option maxRecDepth 100000 in
theorem node_step (k : Nat) (K : KidsAtK pr pw m N doc k) (w : World) (h : Rd ρ w pr pw g cap len m M v N l doc) {l' : BL} {F' : List Core} (hr : readM doc (k + 1) .node l (coreL M) = some (l', F')) :
    Calls Tryz.prog 98 #[ptrV pr] w (ReadPost ρ w pr pw m N doc l' F') := by
  rw [readM_node] at hr
  have hml : (coreL M).length = len := by rw [coreL_len, h.wk.hlen]
  cases hs : skipM l [60] with
  | some l1 =>
    rw [hs] at hr
    dsimp only at hr
    cases hh : headM doc l1 with
    | none => rw [hh] at hr; cases hr
    | some ncl =>
    obtain ⟨n, c, l2⟩ := ncl
    rw [hh] at hr
    dsimp only at hr
    cases ha : addM (coreL M) c with
    | none => rw [ha] at hr; cases hr
    | some F1 =>
    rw [ha] at hr
    dsimp only at hr
    have CS := Lib.hid (skip_hit w h [60] hs)
    have CE : Hid (∀ W, Rd ρ W pr pw g cap len m M v N l1 doc → Calls Tryz.prog 118 #[ptrV pr] W (ReadPost ρ W pr pw m N doc l' F')) := Lib.hid (fun W h1 => elem_step k K W h1 hh ha hr)
    clear h hr hs hh ha hml K
    go_enter Tryz.func98, Tryz.ntmps98
    go_wp2_with (first
      | (go_at_call 117; (with_reducible refine CS.out.mono ?_); rintro e w1 ⟨rfl, hR, hG⟩; have HR := Lib.hid hR; have HG := Lib.hid hG; clear hR hG)
      | (go_at_call 118; (with_reducible refine (CE.out _ HR.out).mono ?_); rintro e w2 ⟨rfl, hp⟩; have HP := Lib.hid hp; clear hp))
    go_ret
    obtain ⟨ρ8, g8, cap8, len8, M8, v8, h1, h2, h3⟩ := HP.out
    exact ⟨rfl, ρ8, g8, cap8, len8, M8, v8, h1, h2, HG.out.trans h3⟩
  | none =>
    rw [hs] at hr
    dsimp only at hr
    have CS := Lib.hid (skip_miss w h [60] hs)
    cases hs2 : skipM l [91] with
    | some l1 =>
      rw [hs2] at hr
      dsimp only at hr
      cases ha : addM (coreL M) (nodeC 3 [] [] [] [] doc) with
      | none => rw [ha] at hr; cases hr
      | some F1 =>
      rw [ha, hml] at hr
      dsimp only at hr
      have CS2 : Hid (∀ W, Rd ρ W pr pw g cap len m M v N l doc → Calls Tryz.prog 117 #[ptrV pr, .string ⟨#[91]⟩] W (StepPost ρ W pr pw g cap len m M v N l1 doc (.bool true))) := Lib.hid (fun W h1 => skip_hit W h1 [91] hs2)
      have CA : Hid (∀ W, Rd ρ W pr pw g cap len m M v N l1 doc → Calls Tryz.prog 120 #[ptrV pr, .agg #[.int .i64 3, .string ⟨#[]⟩, .string ⟨#[]⟩, .string ⟨#[]⟩, .slice none 0 0, .int .i64 0, .slice none 0 0, .int .i64 0, .int .i64 0, .int .i64 0]] W fun e w' => e = .returned (.int .i64 (len : Int)) ∧ ∃ (ρ' : Nat → Nat) (g' cap' : Nat) (M' : List NodeD), Rd ρ' w' pr pw g' cap' (len + 1) m M' v N l1 doc ∧ coreL M' = F1 ∧ Gone pr ρ ρ' W w') := Lib.hid (fun W h1 => radd_of W h1 (kind := 3) (d := []) ⟨by decide, by decide⟩ (by decide) ha)
      have CK : Hid (∀ (ρ7 : Nat → Nat) (W : World) (g7 cap7 len7 : Nat) (M7 : List NodeD), Rd ρ7 W pr pw g7 cap7 len7 m M7 v N l1 doc → coreL M7 = F1 → Calls Tryz.prog 119 #[ptrV pr, .int .i64 (len : Int), .string ⟨#[93]⟩] W (ReadPost ρ7 W pr pw m N doc l' F')) := Lib.hid (fun ρ7 W g7 cap7 len7 M7 h1 h2 => K _ _ _ _ _ _ _ _ _ _ _ _ h1 (by rw [h2]; exact hr))
      clear h hr hs hs2 ha hml K
      go_enter Tryz.func98, Tryz.ntmps98
      go_wp2_with (first
        | (go_at_call 117; (with_reducible refine CS.out.mono ?_); rintro e w1 ⟨rfl, hR, hG⟩; have HR := Lib.hid hR; have HG := Lib.hid hG; clear hR hG)
        | (go_at_call 117; (with_reducible refine (CS2.out _ HR.out).mono ?_); rintro e w2 ⟨rfl, hR, hG⟩; have HR2 := Lib.hid hR; have HG2 := Lib.hid (HG.out.trans hG); clear hR hG)
        | (go_at_call 120; (with_reducible refine (CA.out _ HR2.out).mono ?_); rintro e w3 ⟨rfl, ρ3, g3, cap3, M3, hR, hc, hG⟩; have HR3 := Lib.hid hR; have HC := Lib.hid hc; have HG3 := Lib.hid (HG2.out.trans hG); clear hR hc hG)
        | (go_at_call 119; (with_reducible refine (CK.out _ _ _ _ _ _ HR3.out HC.out).mono ?_); rintro e w4 ⟨rfl, hp⟩; have HP := Lib.hid hp; clear hp))
      go_ret
      obtain ⟨ρ8, g8, cap8, len8, M8, v8, h1, h2, h3⟩ := HP.out
      exact ⟨rfl, ρ8, g8, cap8, len8, M8, v8, h1, h2, HG3.out.trans h3⟩
    | none =>
      rw [hs2] at hr
      dsimp only at hr
      cases hq : quoM l with
      | none => rw [hq] at hr; cases hr
      | some dl =>
      obtain ⟨d, l1⟩ := dl
      rw [hq] at hr
      dsimp only at hr
      cases ha : addM (coreL M) (nodeC 2 [] [] d [] doc) with
      | none => rw [ha] at hr; cases hr
      | some F1 =>
      rw [ha] at hr
      dsimp only at hr
      have HE := Lib.hid (Option.some.inj hr)
      have hdl := quoM_len hq
      have CS2 : Hid (∀ W, Rd ρ W pr pw g cap len m M v N l doc → Calls Tryz.prog 117 #[ptrV pr, .string ⟨#[91]⟩] W (StepPost ρ W pr pw g cap len m M v N l doc (.bool false))) := Lib.hid (fun W h1 => skip_miss W h1 [91] hs2)
      have CQ : Hid (∀ W, Rd ρ W pr pw g cap len m M v N l doc → Calls Tryz.prog 121 #[ptrV pr] W (StepPost ρ W pr pw g cap len m M v N l1 doc (.tuple #[.string (strB d), .bool true]))) := Lib.hid (fun W h1 => quoted_any W h1 hq)
      have CA : Hid (∀ W, Rd ρ W pr pw g cap len m M v N l1 doc → Calls Tryz.prog 120 #[ptrV pr, .agg #[.int .i64 2, .string ⟨#[]⟩, .string ⟨#[]⟩, .string (strB d), .slice none 0 0, .int .i64 0, .slice none 0 0, .int .i64 0, .int .i64 0, .int .i64 0]] W fun e w' => e = .returned (.int .i64 (len : Int)) ∧ ∃ (ρ' : Nat → Nat) (g' cap' : Nat) (M' : List NodeD), Rd ρ' w' pr pw g' cap' (len + 1) m M' v N l1 doc ∧ coreL M' = F1 ∧ Gone pr ρ ρ' W w') := Lib.hid (fun W h1 => radd_of W h1 (kind := 2) (d := d) ⟨by decide, by decide⟩ (by omega) ha)
      obtain ⟨S, hS⟩ : ∃ S, strB d = S := ⟨_, rfl⟩
      rw [hS] at CQ CA
      clear h hr hs hs2 ha hml K hq hdl hS
      go_enter Tryz.func98, Tryz.ntmps98
      go_wp2_with (first
        | (go_at_call 117; (with_reducible refine CS.out.mono ?_); rintro e w1 ⟨rfl, hR, hG⟩; have HR := Lib.hid hR; have HG := Lib.hid hG; clear hR hG)
        | (go_at_call 117; (with_reducible refine (CS2.out _ HR.out).mono ?_); rintro e w2 ⟨rfl, hR, hG⟩; have HR2 := Lib.hid hR; have HG2 := Lib.hid (HG.out.trans hG); clear hR hG)
        | (go_at_call 121; (with_reducible refine (CQ.out _ HR2.out).mono ?_); rintro e w3 ⟨rfl, hR, hG⟩; have HR3 := Lib.hid hR; have HG3 := Lib.hid (HG2.out.trans hG); clear hR hG)
        | (go_at_call 120; (with_reducible refine (CA.out _ HR3.out).mono ?_); rintro e w4 ⟨rfl, ρ3, g3, cap3, M3, hR, hc, hG⟩; have HR4 := Lib.hid hR; have HC := Lib.hid hc; have HG4 := Lib.hid (HG3.out.trans hG); clear hR hc hG))
      go_ret
      have he := HE.out
      injection he with e1 e2
      subst e1
      exact ⟨rfl, ρ3, g3, cap3, _, M3, v, HR4.out, by rw [HC.out]; exact e2, HG4.out⟩
theorem reads_all (pr pw : Nat) (m : Int) (N : List NoteD) (doc : Int) : ∀ k, NodeAtK pr pw m N doc k ∧ KidsAtK pr pw m N doc k := by
  intro k
  induction k using Nat.strongRecOn with
  | _ k ih =>
    refine ⟨?_, fun ρ w g cap len M v l p stop l' F' h hr => kids_step k (fun j hj => (ih j hj).1) w h stop l' F' hr⟩
    intro ρ w g cap len M v l l' F' h hr
    cases k with
    | zero => cases hr
    | succ j => exact node_step j (ih j (Nat.lt_succ_self j)).2 w h hr
end
end Go.Proofs.YtkfmengdffpcnaaGreatDoor
namespace Go.Proofs.YtkfmengdffpcnaaGreatDoor
open Go.RowKit
section
variable {ρ : Nat → Nat} {W : World} {pw g cap len : Nat} {m : Int} {M : List NodeD} {v : Value} {N : List NoteD}
theorem Wk.stored2 (h : Wk ρ W pw g cap len m M v N) {b B : Nat} (hb : b < B) (hB : B ≤ W.heap.size) (h0 : ∀ k, k < B → ρ k = 0) (u u' : Value) :
    Wk (upd ρ (some b) 4) ((W.setCell ⟨b, 0, none⟩ u).setCell ⟨b, 1, none⟩ u') pw g cap len m M v N :=
  (h.stored1 hb hB h0 0 u).other (by unfold upd; rw [if_pos rfl]) 1 u'
theorem upd_low {b B r : Nat} (h0 : ∀ k, k < B → ρ k = 0) (hb : B ≤ b) : ∀ k, k < B → upd ρ (some b) r k = 0 := fun k hk => by
  unfold upd
  rw [if_neg (fun e => by injection e with e; omega)]
  exact h0 k hk
def WkFor (w : World) (m : Int) (F : List Core) (rest : List Value) (e : Ending) (w' : World) : Prop :=
  ∃ (ρ : Nat → Nat) (pw g cap len : Nat) (M : List NodeD) (v : Value), e = .returned (.tuple (forV (some ⟨g, 0, none⟩) len cap m :: rest).toArray) ∧ Wk ρ w' pw g cap len m M v [] ∧ smallF M ∧ coreL M = F ∧ Below w.heap.size w w' ∧ ∀ k, k < w.heap.size → ρ k = 0
end
set_option maxHeartbeats 1000000 in
set_option maxRecDepth 100000 in
theorem pknows_any (a : Option Addr) (len cap : Nat) (m : Int) (L : List NodeD) (n : Int) (w : World) (h : NodeRow w a len cap L) (hm : In64 m) (hn : In64 n) (hs : smallF L) :
    Calls Tryz.prog 97 #[forV a len cap m, .int .i64 n] w fun e w' => e = .returned (.bool (rootZ m (coreL L) n != -1)) ∧ Below w.heap.size w w' := by
  have BX := Lib.hid (Box.start (m := m) h)
  have CR : Hid (∀ W, NodeRow W a len cap L → Calls Tryz.prog 62 #[forV a len cap m, .int .i64 n] W fun e w' => e = .returned (.int .i64 (rootZ m (coreL L) n)) ∧ Below W.heap.size W w') := Lib.hid (fun W h1 => rootFn_any a len cap m L n W h1 hm hn hs)
  obtain ⟨z, hz⟩ : ∃ z, rootZ m (coreL L) n = z := ⟨_, rfl⟩
  rw [hz] at CR ⊢
  have z0 := BX.out.c0
  have z1 := BX.out.c1
  clear h hm hn hs hz
  go_enter Tryz.func97, Tryz.ntmps97
  go_wp2_with (go_at_call 62; (with_reducible refine (CR.out _ BX.out.row).mono ?_); rintro e w1 ⟨rfl, hb⟩; have HB := Lib.hid (BX.out.below.trans (hb.mono BX.out.below.size)); clear hb)
  go_ret
  exact ⟨rfl, HB.out⟩
set_option maxHeartbeats 1000000 in
set_option maxRecDepth 100000 in
theorem mightBe_any (a : Option Addr) (len cap : Nat) (m : Int) (L : List NodeD) (w : World) (h : NodeRow w a len cap L) (hs : smallF L) :
    Calls Tryz.prog 99 #[forV a len cap m] w fun e w' => e = .returned (.bool (rightF 400 (coreL L))) ∧ Below w.heap.size w w' := by
  have hb0 := below_box w (forB a len cap 400)
  have BX := Lib.hid (Box.start (m := 400) h)
  have CR : Hid (∀ W, NodeRow W a len cap L → Calls Tryz.prog 20 #[forV a len cap 400] W fun e w' => e = .returned (.bool (rightF 400 (coreL L))) ∧ Below W.heap.size W w') := Lib.hid (fun W h1 => rightF_any a len cap 400 L W h1 ⟨by decide, by decide⟩ hs)
  obtain ⟨q, hq⟩ : ∃ q, rightF 400 (coreL L) = q := ⟨_, rfl⟩
  rw [hq] at CR ⊢
  obtain ⟨w0, hw0⟩ : ∃ w0, w.alloc (forB a len cap 400) = w0 := ⟨_, rfl⟩
  rw [hw0] at BX
  have HW := Lib.hid hw0
  have z0 := BX.out.c0
  have z1 := BX.out.c1
  clear h hs hq hw0 hb0
  go_enter Tryz.func99, Tryz.ntmps99
  go_upto_region 2 with fail
  rw [HW.out]
  go_wp2_with (go_at_call 20; (with_reducible refine (CR.out _ BX.out.row).mono ?_); rintro e w1 ⟨rfl, hb⟩; have HB := Lib.hid (BX.out.below.trans (hb.mono BX.out.below.size)); clear hb)
  go_ret
  exact ⟨rfl, HB.out⟩
end Go.Proofs.YtkfmengdffpcnaaGreatDoor
namespace Go.Proofs.YtkfmengdffpcnaaGreatDoor
open Go.RowKit Go.Deep Go.ChangeShapes Go.WideShapes
set_option maxRecDepth 100000 in
theorem open_def {H : Type} {en : TypeId × Value → H} {W : World} (cs : List Value) (fuel : Nat) (d : DataW H) (p : List MemPlace) (hc : cs.length = 3)
    (h : DataW.trod en Tryz.prog W 0 (fun _ => true) true fuel 64 cs = some (d, p)) : ∃ x : DefD, cs = encD x ∧ (x.name.size ≤ maxLen ∧ x.loc.size ≤ maxLen ∧ In64 x.cls) := by
  obtain ⟨xs, k, _, _, _, hxl, hff⟩ := DataW.trod_struct Tryz.underlying64 h
  have c3 : Tryz.prog.cellsOf 3 = 1 := by kernel_rfl
  have c9 : Tryz.prog.cellsOf 9 = 1 := by kernel_rfl
  match cs, hc, xs, hxl with
  | [v0, v1, v2], _, [y0, y1, y2], _ =>
    have g0 := hff 0 _ rfl
    have g1 := hff 1 _ rfl
    have g2 := hff 2 _ rfl
    simp [c3, c9] at g0 g1 g2
    obtain ⟨s0, hs0, _, hl0⟩ := DataW.trod_string Tryz.underlying9 g0
    obtain ⟨s1, hs1, _, hl1⟩ := DataW.trod_string Tryz.underlying9 g1
    obtain ⟨n2, hn2, _, hw2⟩ := DataW.trod_int Tryz.underlying3 g2
    simp at hs0 hs1 hn2
    subst hs0 hs1 hn2
    exact ⟨⟨s0, s1, n2⟩, rfl, hl0, hl1, in64_of hw2⟩
set_option maxRecDepth 100000 in
theorem open_wait {H : Type} {en : TypeId × Value → H} {W : World} (cs : List Value) (fuel : Nat) (d : DataW H) (p : List MemPlace) (hc : cs.length = 2)
    (h : DataW.trod en Tryz.prog W 0 (fun _ => true) true fuel 103 cs = some (d, p)) : ∃ x : WaitD, cs = encT9 x ∧ (x.name.size ≤ maxLen ∧ In64 x.ticket) := by
  obtain ⟨xs, k, _, _, _, hxl, hff⟩ := DataW.trod_struct Tryz.underlying103 h
  have c3 : Tryz.prog.cellsOf 3 = 1 := by kernel_rfl
  have c9 : Tryz.prog.cellsOf 9 = 1 := by kernel_rfl
  match cs, hc, xs, hxl with
  | [v0, v1], _, [y0, y1], _ =>
    have g0 := hff 0 _ rfl
    have g1 := hff 1 _ rfl
    simp [c3, c9] at g0 g1
    obtain ⟨s0, hs0, _, hl0⟩ := DataW.trod_string Tryz.underlying9 g0
    obtain ⟨n1, hn1, _, hw1⟩ := DataW.trod_int Tryz.underlying3 g1
    simp at hs0 hn1
    subst hs0 hn1
    exact ⟨⟨s0, n1⟩, rfl, hl0, in64_of hw1⟩
theorem open_defs {H : Type} {en : TypeId × Value → H} {W : World} {a : Option Addr} {len cap : Nat} {d : DataW H} {p : List MemPlace}
    (h : DataW.Trod en Tryz.prog W 0 (fun _ => true) true 26 (.slice a len cap) d p) : ∃ L, DefRow W a len cap L := by
  obtain ⟨L, h1, h2, h3⟩ := open_rows encD 3 (fun x => x.name.size ≤ maxLen ∧ x.loc.size ≤ maxLen ∧ In64 x.cls) Tryz.underlying26 (te := 64) (by kernel_rfl) (by decide) open_def h
  exact ⟨L, h1, h2, h3⟩
theorem open_waits {H : Type} {en : TypeId × Value → H} {W : World} {a : Option Addr} {len cap : Nat} {d : DataW H} {p : List MemPlace}
    (h : DataW.Trod en Tryz.prog W 0 (fun _ => true) true 27 (.slice a len cap) d p) : ∃ L, WaitRow W a len cap L := by
  obtain ⟨L, h1, h2, h3⟩ := open_rows encT9 2 (fun x => x.name.size ≤ maxLen ∧ In64 x.ticket) Tryz.underlying27 (te := 103) (by kernel_rfl) (by decide) open_wait h
  exact ⟨L, h1, h2, h3⟩
set_option maxRecDepth 100000 in
theorem open_desk {H : Type} {en : TypeId × Value → H} {W : World} {r : Reach} {b0 : Nat} {v : Value} {d : DataW H} {p : List MemPlace} (hv : Value.okWide Tryz.prog W r b0 29 v)
    (h : DataW.Trod en Tryz.prog W 0 (fun _ => true) true 29 v d p) : ∃ da dl dc wa wl wc nx bz defs waits, v = deskV da dl dc wa wl wc nx bz ∧ DeskAt W da dl dc wa wl wc ⟨defs, waits, nx, bz⟩ := by
  obtain ⟨cs, rfl, hsz⟩ := okWide_struct Tryz.underlying29 hv
  have hC : Tryz.prog.cellsOf 29 = 4 := by kernel_rfl
  have c3 : Tryz.prog.cellsOf 3 = 1 := by kernel_rfl
  have cb : Tryz.prog.cellsOf 4 = 1 := by kernel_rfl
  have cd : Tryz.prog.cellsOf 26 = 1 := by kernel_rfl
  have cw : Tryz.prog.cellsOf 27 = 1 := by kernel_rfl
  obtain ⟨l⟩ := cs
  match l, hsz.trans hC with
  | [v0, v1, v2, v3], _ =>
    obtain ⟨fuel, hf⟩ := h
    obtain ⟨xs, k, _, _, _, hxl, hff⟩ := DataW.trod_struct Tryz.underlying29 hf
    match xs, hxl with
    | [y0, y1, y2, y3], _ =>
      have g0 := hff 0 _ rfl
      have g1 := hff 1 _ rfl
      have g2 := hff 2 _ rfl
      have g3 := hff 3 _ rfl
      simp [c3, cb, cd, cw, Value.cells] at g0 g1 g2 g3
      obtain ⟨n2, hn2, _, hw2⟩ := DataW.trod_int Tryz.underlying3 g2
      obtain ⟨b3, hb3, _⟩ := DataW.trod_bool Tryz.underlying4 g3
      simp at hn2 hb3
      subst hn2 hb3
      obtain ⟨a0, l0, c0, rfl⟩ := slice_cells Tryz.underlying26 g0
      obtain ⟨a1, l1, c1, rfl⟩ := slice_cells Tryz.underlying27 g1
      obtain ⟨L, hL⟩ := open_defs (en := en) (W := W) (a := a0) (len := l0) (cap := c0) (d := y0.1) (p := y0.2) ⟨k, by simpa [Value.cells] using g0⟩
      obtain ⟨M, hM⟩ := open_waits (en := en) (W := W) (a := a1) (len := l1) (cap := c1) (d := y1.1) (p := y1.2) ⟨k, by simpa [Value.cells] using g1⟩
      exact ⟨a0, l0, c0, a1, l1, c1, n2, b3, L, M, rfl, hL, hM, in64_of hw2⟩
end Go.Proofs.YtkfmengdffpcnaaGreatDoor
