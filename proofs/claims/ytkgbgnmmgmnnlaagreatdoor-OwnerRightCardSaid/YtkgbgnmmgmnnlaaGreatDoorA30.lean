/- Texts joined in build order: ReaderNode PrintRead PrintReadOk PrintFresh. -/
import Derived.Test.YtkgbgnmmgmnnlaaGreatDoorA28
import Derived.Test.YtkgbgnmmgmnnlaaGreatDoorA29
import Derived.Test.YtkgbgnmmgmnnlaaGreatDoorA12
import Derived.Test.YtkgbgnmmgmnnlaaGreatDoorA13
namespace Go.Proofs.YtkgbgnmmgmnnlaaGreatDoor
open Go.RowKit
section
variable {ρ ρ' : Nat → Nat} {W W1 W2 : World} {pr pw g cap len : Nat} {m : Int} {M : List NodeD} {v : Value} {N : List NoteD} {l l2 : BL} {doc : Int}
theorem readM_node (doc : Int) (k : Nat) (l : BL) (F : List Core) : readM doc (k + 1) .node l F =
    match skipM l [60] with
    | some l1 => (match headM doc l1 with
      | none => none
      | some (n, c, l2) => match addM F c with
        | none => none
        | some F1 => match skipM l2 [123] with
          | none => readM doc k (.kids F.length ([60, 47] ++ n ++ [62])) l2 F1
          | some l3 => match addM F1 (nodeC 4 [] [] [] [] doc) with
            | none => none
            | some F2 => match readM doc k (.kids (F.length + 1) [125]) l3 (hangM F2 F.length (F.length + 1)) with
              | none => none
              | some (l4, F3) => readM doc k (.kids F.length ([60, 47] ++ n ++ [62])) l4 F3)
    | none => match skipM l [91] with
      | some l1 => (match addM F (nodeC 3 [] [] [] [] doc) with
        | none => none
        | some F1 => readM doc k (.kids F.length [93]) l1 F1)
      | none => match quoM l with
        | none => none
        | some (d, l1) => match addM F (nodeC 2 [] [] d [] doc) with
          | none => none
          | some F1 => some (l1, F1) := rfl
theorem radd_of (w : World) (h : Rd ρ w pr pw g cap len m M v N l doc) {kind : Int} {d : BL} (hk : In64 kind) (hd : d.length ≤ 1000000) {F1 : List Core} (ha : addM (coreL M) (nodeC kind [] [] d [] doc) = some F1) :
    Calls Tryz.prog 134 #[ptrV pr, .agg #[.int .i64 kind, .string ⟨#[]⟩, .string ⟨#[]⟩, .string (strB d), .slice none 0 0, .int .i64 0, .slice none 0 0, .int .i64 0, .int .i64 0, .int .i64 0]] w fun e w' => e = .returned (.int .i64 (len : Int)) ∧ ∃ (ρ' : Nat → Nat) (g' cap' : Nat) (M' : List NodeD), Rd ρ' w' pr pw g' cap' (len + 1) m M' v N l doc ∧ coreL M' = F1 ∧ Gone pr ρ ρ' w w' := by
  have hml : (coreL M).length = len := by rw [coreL_len, h.wk.hlen]
  unfold addM at ha
  by_cases hl : (coreL M).length < 1000
  case neg => rw [if_neg hl] at ha; cases ha
  rw [if_pos hl] at ha
  have ha := Option.some.inj ha
  rw [hml] at ha hl
  have z0 : In64 0 := ⟨by decide, by decide⟩
  have e0 : (⟨#[]⟩ : ByteArray).size ≤ maxLen := by decide
  have hds : (strB d).size ≤ maxLen := by rw [strB_size]; unfold maxLen; omega
  refine (radd_any w h ⟨⟨kind, ⟨#[]⟩, ⟨#[]⟩, strB d, [], 0, [], 0, 0, 0⟩, none, 0, 0, none, 0, 0⟩ ⟨⟨SRow.nil, by simp, fun _ => rfl⟩, ⟨SRow.nil, by simp, fun _ => rfl⟩, e0, e0, hds, hk, z0, z0, z0, z0⟩ ⟨Nat.zero_le _, by show (⟨#[]⟩ : ByteArray).size ≤ 1000; decide⟩ hl).mono ?_
  rintro e w' ⟨h1, ρ', g', cap', y, h2, h3, h4⟩
  refine ⟨h1, ρ', g', cap', M ++ [y], h2, ?_, h4⟩
  rw [← ha]
  unfold coreL
  rw [List.map_append, List.map_cons, List.map_nil, h3]
  rfl
theorem quoM_len {l s r : BL} (h : quoM l = some (s, r)) : s.length ≤ 100000 := by
  unfold quoM at h
  by_cases hl : l.length ≤ 100000
  · rw [if_pos hl] at h
    cases hs2 : skipM l [34] with
    | none => rw [hs2] at h; cases h
    | some l6 =>
      rw [hs2] at h
      have h3 := qM_len _ l6 [] s r (Nat.le_refl _) h
      have h4 := (skipM_some hs2).2
      have h5 := Lib.trimPrefix_le l [34]
      rw [h4] at h5
      simp at h3
      omega
  · rw [if_neg hl] at h
    cases h
set_option maxHeartbeats 4000000 in
set_option maxRecDepth 100000 in
theorem node_step (k : Nat) (K : KidsAtK pr pw m N doc k) (w : World) (h : Rd ρ w pr pw g cap len m M v N l doc) {l' : BL} {F' : List Core} (hr : readM doc (k + 1) .node l (coreL M) = some (l', F')) :
    Calls Tryz.prog 111 #[ptrV pr] w (ReadPost ρ w pr pw m N doc l' F') := by
  rw [readM_node] at hr
  have hml : (coreL M).length = len := by rw [coreL_len, h.wk.hlen]
  cases hs : skipM l [60] with
  | some l1 =>
    rw [hs] at hr
    dsimp only at hr
    cases hh : headM doc l1 with
    | none => rw [hh] at hr; cases hr
    | some ncl =>
    obtain ⟨n, c, l2⟩ := ncl
    rw [hh] at hr
    dsimp only at hr
    cases ha : addM (coreL M) c with
    | none => rw [ha] at hr; cases hr
    | some F1 =>
    rw [ha] at hr
    dsimp only at hr
    have CS := Lib.hid (skip_hit w h [60] hs)
    have CE : Hid (∀ W, Rd ρ W pr pw g cap len m M v N l1 doc → Calls Tryz.prog 132 #[ptrV pr] W (ReadPost ρ W pr pw m N doc l' F')) := Lib.hid (fun W h1 => elem_step k K W h1 hh ha hr)
    clear h hr hs hh ha hml K
    go_enter Tryz.func111, Tryz.ntmps111
    go_wp2_with (first
      | (go_at_call 131; (with_reducible refine CS.out.mono ?_); rintro e w1 ⟨rfl, hR, hG⟩; have HR := Lib.hid hR; have HG := Lib.hid hG; clear hR hG)
      | (go_at_call 132; (with_reducible refine (CE.out _ HR.out).mono ?_); rintro e w2 ⟨rfl, hp⟩; have HP := Lib.hid hp; clear hp))
    go_ret
    obtain ⟨ρ8, g8, cap8, len8, M8, v8, h1, h2, h3⟩ := HP.out
    exact ⟨rfl, ρ8, g8, cap8, len8, M8, v8, h1, h2, HG.out.trans h3⟩
  | none =>
    rw [hs] at hr
    dsimp only at hr
    have CS := Lib.hid (skip_miss w h [60] hs)
    cases hs2 : skipM l [91] with
    | some l1 =>
      rw [hs2] at hr
      dsimp only at hr
      cases ha : addM (coreL M) (nodeC 3 [] [] [] [] doc) with
      | none => rw [ha] at hr; cases hr
      | some F1 =>
      rw [ha, hml] at hr
      dsimp only at hr
      have CS2 : Hid (∀ W, Rd ρ W pr pw g cap len m M v N l doc → Calls Tryz.prog 131 #[ptrV pr, .string ⟨#[91]⟩] W (StepPost ρ W pr pw g cap len m M v N l1 doc (.bool true))) := Lib.hid (fun W h1 => skip_hit W h1 [91] hs2)
      have CA : Hid (∀ W, Rd ρ W pr pw g cap len m M v N l1 doc → Calls Tryz.prog 134 #[ptrV pr, .agg #[.int .i64 3, .string ⟨#[]⟩, .string ⟨#[]⟩, .string ⟨#[]⟩, .slice none 0 0, .int .i64 0, .slice none 0 0, .int .i64 0, .int .i64 0, .int .i64 0]] W fun e w' => e = .returned (.int .i64 (len : Int)) ∧ ∃ (ρ' : Nat → Nat) (g' cap' : Nat) (M' : List NodeD), Rd ρ' w' pr pw g' cap' (len + 1) m M' v N l1 doc ∧ coreL M' = F1 ∧ Gone pr ρ ρ' W w') := Lib.hid (fun W h1 => radd_of W h1 (kind := 3) (d := []) ⟨by decide, by decide⟩ (by decide) ha)
      have CK : Hid (∀ (ρ7 : Nat → Nat) (W : World) (g7 cap7 len7 : Nat) (M7 : List NodeD), Rd ρ7 W pr pw g7 cap7 len7 m M7 v N l1 doc → coreL M7 = F1 → Calls Tryz.prog 133 #[ptrV pr, .int .i64 (len : Int), .string ⟨#[93]⟩] W (ReadPost ρ7 W pr pw m N doc l' F')) := Lib.hid (fun ρ7 W g7 cap7 len7 M7 h1 h2 => K _ _ _ _ _ _ _ _ _ _ _ _ h1 (by rw [h2]; exact hr))
      clear h hr hs hs2 ha hml K
      go_enter Tryz.func111, Tryz.ntmps111
      go_wp2_with (first
        | (go_at_call 131; (with_reducible refine CS.out.mono ?_); rintro e w1 ⟨rfl, hR, hG⟩; have HR := Lib.hid hR; have HG := Lib.hid hG; clear hR hG)
        | (go_at_call 131; (with_reducible refine (CS2.out _ HR.out).mono ?_); rintro e w2 ⟨rfl, hR, hG⟩; have HR2 := Lib.hid hR; have HG2 := Lib.hid (HG.out.trans hG); clear hR hG)
        | (go_at_call 134; (with_reducible refine (CA.out _ HR2.out).mono ?_); rintro e w3 ⟨rfl, ρ3, g3, cap3, M3, hR, hc, hG⟩; have HR3 := Lib.hid hR; have HC := Lib.hid hc; have HG3 := Lib.hid (HG2.out.trans hG); clear hR hc hG)
        | (go_at_call 133; (with_reducible refine (CK.out _ _ _ _ _ _ HR3.out HC.out).mono ?_); rintro e w4 ⟨rfl, hp⟩; have HP := Lib.hid hp; clear hp))
      go_ret
      obtain ⟨ρ8, g8, cap8, len8, M8, v8, h1, h2, h3⟩ := HP.out
      exact ⟨rfl, ρ8, g8, cap8, len8, M8, v8, h1, h2, HG3.out.trans h3⟩
    | none =>
      rw [hs2] at hr
      dsimp only at hr
      cases hq : quoM l with
      | none => rw [hq] at hr; cases hr
      | some dl =>
      obtain ⟨d, l1⟩ := dl
      rw [hq] at hr
      dsimp only at hr
      cases ha : addM (coreL M) (nodeC 2 [] [] d [] doc) with
      | none => rw [ha] at hr; cases hr
      | some F1 =>
      rw [ha] at hr
      dsimp only at hr
      have HE := Lib.hid (Option.some.inj hr)
      have hdl := quoM_len hq
      have CS2 : Hid (∀ W, Rd ρ W pr pw g cap len m M v N l doc → Calls Tryz.prog 131 #[ptrV pr, .string ⟨#[91]⟩] W (StepPost ρ W pr pw g cap len m M v N l doc (.bool false))) := Lib.hid (fun W h1 => skip_miss W h1 [91] hs2)
      have CQ : Hid (∀ W, Rd ρ W pr pw g cap len m M v N l doc → Calls Tryz.prog 135 #[ptrV pr] W (StepPost ρ W pr pw g cap len m M v N l1 doc (.tuple #[.string (strB d), .bool true]))) := Lib.hid (fun W h1 => quoted_any W h1 hq)
      have CA : Hid (∀ W, Rd ρ W pr pw g cap len m M v N l1 doc → Calls Tryz.prog 134 #[ptrV pr, .agg #[.int .i64 2, .string ⟨#[]⟩, .string ⟨#[]⟩, .string (strB d), .slice none 0 0, .int .i64 0, .slice none 0 0, .int .i64 0, .int .i64 0, .int .i64 0]] W fun e w' => e = .returned (.int .i64 (len : Int)) ∧ ∃ (ρ' : Nat → Nat) (g' cap' : Nat) (M' : List NodeD), Rd ρ' w' pr pw g' cap' (len + 1) m M' v N l1 doc ∧ coreL M' = F1 ∧ Gone pr ρ ρ' W w') := Lib.hid (fun W h1 => radd_of W h1 (kind := 2) (d := d) ⟨by decide, by decide⟩ (by omega) ha)
      obtain ⟨S, hS⟩ : ∃ S, strB d = S := ⟨_, rfl⟩
      rw [hS] at CQ CA
      clear h hr hs hs2 ha hml K hq hdl hS
      go_enter Tryz.func111, Tryz.ntmps111
      go_wp2_with (first
        | (go_at_call 131; (with_reducible refine CS.out.mono ?_); rintro e w1 ⟨rfl, hR, hG⟩; have HR := Lib.hid hR; have HG := Lib.hid hG; clear hR hG)
        | (go_at_call 131; (with_reducible refine (CS2.out _ HR.out).mono ?_); rintro e w2 ⟨rfl, hR, hG⟩; have HR2 := Lib.hid hR; have HG2 := Lib.hid (HG.out.trans hG); clear hR hG)
        | (go_at_call 135; (with_reducible refine (CQ.out _ HR2.out).mono ?_); rintro e w3 ⟨rfl, hR, hG⟩; have HR3 := Lib.hid hR; have HG3 := Lib.hid (HG2.out.trans hG); clear hR hG)
        | (go_at_call 134; (with_reducible refine (CA.out _ HR3.out).mono ?_); rintro e w4 ⟨rfl, ρ3, g3, cap3, M3, hR, hc, hG⟩; have HR4 := Lib.hid hR; have HC := Lib.hid hc; have HG4 := Lib.hid (HG3.out.trans hG); clear hR hc hG))
      go_ret
      have he := HE.out
      injection he with e1 e2
      subst e1
      exact ⟨rfl, ρ3, g3, cap3, _, M3, v, HR4.out, by rw [HC.out]; exact e2, HG4.out⟩
theorem reads_all (pr pw : Nat) (m : Int) (N : List NoteD) (doc : Int) : ∀ k, NodeAtK pr pw m N doc k ∧ KidsAtK pr pw m N doc k := by
  intro k
  induction k using Nat.strongRecOn with
  | _ k ih =>
    refine ⟨?_, fun ρ w g cap len M v l p stop l' F' h hr => kids_step k (fun j hj => (ih j hj).1) w h stop l' F' hr⟩
    intro ρ w g cap len M v l l' F' h hr
    cases k with
    | zero => cases hr
    | succ j => exact node_step j (ih j (Nat.lt_succ_self j)).2 w h hr
end
end Go.Proofs.YtkgbgnmmgmnnlaaGreatDoor
namespace Go.Proofs.YtkgbgnmmgmnnlaaGreatDoor
open Go.RowKit
section
variable {ρ : Nat → Nat} {W : World} {pw g cap len : Nat} {m : Int} {M : List NodeD} {v : Value} {N : List NoteD}
theorem Wk.stored2 (h : Wk ρ W pw g cap len m M v N) {b B : Nat} (hb : b < B) (hB : B ≤ W.heap.size) (h0 : ∀ k, k < B → ρ k = 0) (u u' : Value) :
    Wk (upd ρ (some b) 4) ((W.setCell ⟨b, 0, none⟩ u).setCell ⟨b, 1, none⟩ u') pw g cap len m M v N :=
  (h.stored1 hb hB h0 0 u).other (by unfold upd; rw [if_pos rfl]) 1 u'
theorem upd_low {b B r : Nat} (h0 : ∀ k, k < B → ρ k = 0) (hb : B ≤ b) : ∀ k, k < B → upd ρ (some b) r k = 0 := fun k hk => by
  unfold upd
  rw [if_neg (fun e => by injection e with e; omega)]
  exact h0 k hk
def WkFor (w : World) (m : Int) (F : List Core) (rest : List Value) (e : Ending) (w' : World) : Prop :=
  ∃ (ρ : Nat → Nat) (pw g cap len : Nat) (M : List NodeD) (v : Value), e = .returned (.tuple (forV (some ⟨g, 0, none⟩) len cap m :: rest).toArray) ∧ Wk ρ w' pw g cap len m M v [] ∧ smallF M ∧ coreL M = F ∧ Below w.heap.size w w' ∧ ∀ k, k < w.heap.size → ρ k = 0
end
set_option maxHeartbeats 1000000 in
set_option maxRecDepth 100000 in
theorem pknows_any (a : Option Addr) (len cap : Nat) (m : Int) (L : List NodeD) (n : Int) (w : World) (h : NodeRow w a len cap L) (hm : In64 m) (hn : In64 n) (hs : smallF L) :
    Calls Tryz.prog 110 #[forV a len cap m, .int .i64 n] w fun e w' => e = .returned (.bool (rootZ m (coreL L) n != -1)) ∧ Below w.heap.size w w' := by
  have BX := Lib.hid (Box.start (m := m) h)
  have CR : Hid (∀ W, NodeRow W a len cap L → Calls Tryz.prog 23 #[forV a len cap m, .int .i64 n] W fun e w' => e = .returned (.int .i64 (rootZ m (coreL L) n)) ∧ Below W.heap.size W w') := Lib.hid (fun W h1 => rootFn_any a len cap m L n W h1 hm hn hs)
  obtain ⟨z, hz⟩ : ∃ z, rootZ m (coreL L) n = z := ⟨_, rfl⟩
  rw [hz] at CR ⊢
  have z0 := BX.out.c0
  have z1 := BX.out.c1
  clear h hm hn hs hz
  go_enter Tryz.func110, Tryz.ntmps110
  go_wp2_with (go_at_call 23; (with_reducible refine (CR.out _ BX.out.row).mono ?_); rintro e w1 ⟨rfl, hb⟩; have HB := Lib.hid (BX.out.below.trans (hb.mono BX.out.below.size)); clear hb)
  go_ret
  exact ⟨rfl, HB.out⟩
set_option maxHeartbeats 1000000 in
set_option maxRecDepth 100000 in
theorem mightBe_any (a : Option Addr) (len cap : Nat) (m : Int) (L : List NodeD) (w : World) (h : NodeRow w a len cap L) (hs : smallF L) :
    Calls Tryz.prog 112 #[forV a len cap m] w fun e w' => e = .returned (.bool (rightF 400 (coreL L))) ∧ Below w.heap.size w w' := by
  have hb0 := below_box w (forB a len cap 400)
  have BX := Lib.hid (Box.start (m := 400) h)
  have CR : Hid (∀ W, NodeRow W a len cap L → Calls Tryz.prog 19 #[forV a len cap 400] W fun e w' => e = .returned (.bool (rightF 400 (coreL L))) ∧ Below W.heap.size W w') := Lib.hid (fun W h1 => rightF_any a len cap 400 L W h1 ⟨by decide, by decide⟩ hs)
  obtain ⟨q, hq⟩ : ∃ q, rightF 400 (coreL L) = q := ⟨_, rfl⟩
  rw [hq] at CR ⊢
  obtain ⟨w0, hw0⟩ : ∃ w0, w.alloc (forB a len cap 400) = w0 := ⟨_, rfl⟩
  rw [hw0] at BX
  have HW := Lib.hid hw0
  have z0 := BX.out.c0
  have z1 := BX.out.c1
  clear h hs hq hw0 hb0
  go_enter Tryz.func112, Tryz.ntmps112
  go_upto_region 2 with fail
  rw [HW.out]
  go_wp2_with (go_at_call 19; (with_reducible refine (CR.out _ BX.out.row).mono ?_); rintro e w1 ⟨rfl, hb⟩; have HB := Lib.hid (BX.out.below.trans (hb.mono BX.out.below.size)); clear hb)
  go_ret
  exact ⟨rfl, HB.out⟩
end Go.Proofs.YtkgbgnmmgmnnlaaGreatDoor
namespace Go.Proofs.YtkgbgnmmgmnnlaaGreatDoor
open Go.RowKit
theorem Rd.start {ρ : Nat → Nat} {W : World} {pw g cap len : Nat} {m : Int} {M : List NodeD} {v : Value} {N : List NoteD} (h : Wk ρ W pw g cap len m M v N) (hs : smallF M) {l : BL} {doc : Int} (hd : In64 doc) :
    Rd (upd ρ (some W.heap.size) 5) (W.alloc (.cells #[ptrV pw, .string (strB l), .int .i64 doc] 133)) W.heap.size pw g cap len m M v N l doc := by
  have hb := below_box W (.cells #[ptrV pw, .string (strB l), .int .i64 doc] 133)
  have hk := h.keep hb
  have hz : (W.alloc (.cells #[ptrV pw, .string (strB l), .int .i64 doc] 133)).heap.size = W.heap.size + 1 := by simp
  have hm := hk.markR (b := W.heap.size) 5 (by omega) (h.fresh _ (Nat.le_refl _)) (fun x hx b off he hp => by have := attr_block_lt (h.aok x hx) he hp; omega)
  have c : ∀ (j : Nat), (W.alloc (.cells #[ptrV pw, .string (strB l), .int .i64 doc] 133)).cell? ⟨W.heap.size, j, none⟩ = (#[ptrV pw, .string (strB l), .int .i64 doc] : Array Value)[j]? := fun j => cell_of_row _ W.heap.size j _ 133 (0, 0) (heap_alloc_new W _)
  exact ⟨hm, c 0, c 1, c 2, fun o => row_free (heap_alloc_new W _) o, by omega, by unfold upd; rw [if_pos rfl], hs, hd⟩
theorem small_coreP {L M : List NodeD} (h : smallF L) (hc : coreL M = coreL L) : smallF M := by
  have hl : M.length = L.length := by have := congrArg List.length hc; unfold coreL at this; simpa using this
  refine ⟨by rw [hl]; exact h.1, fun x hx => ?_⟩
  have hx2 : x.core ∈ coreL L := by rw [← hc]; unfold coreL; exact List.mem_map.2 ⟨x, hx, rfl⟩
  unfold coreL at hx2
  obtain ⟨y, hy, hyx⟩ := List.mem_map.1 hx2
  have := h.2 y hy
  unfold smallN at this ⊢
  rw [← hyx]
  exact this
set_option maxHeartbeats 4000000 in
set_option maxRecDepth 100000 in
theorem pread_ok (a : Option Addr) (len cap : Nat) (m : Int) (L : List NodeD) (dn : Nat) (s : BL) (F1 : List Core) (c : Core) (w : World) (h : NodeRow w a len cap L) (hm : In64 m) (hs : smallF L) (hk : rootZ m (coreL L) dn ≠ -1) (hc : (coreL L)[dn]? = some c) (hck : c.kind = 0) (hl : s.length ≤ 16384)
    {fu : Nat} (hr : readM dn fu .node s (coreL L) = some ([], F1)) (hri : rightF 400 F1 = true) (hF : (F1.length : Int) ≤ m) :
    Calls Tryz.prog 91 #[forV a len cap m, .int .i64 (dn : Int), .string (strB s)] w (WkFor w m F1 [.int .i64 0]) := by
  have hdn : dn < len := by
    have := (List.getElem?_eq_some_iff.1 hc).1
    rwa [coreL_len, h.hlen] at this
  have hdn64 : In64 (dn : Int) := in64_th (by have := hs.1; have := h.hlen; omega)
  have hl1k : len ≤ 1000 := by rw [← h.hlen]; exact hs.1
  have CK : Hid (∀ W, NodeRow W a len cap L → Calls Tryz.prog 110 #[forV a len cap m, .int .i64 (dn : Int)] W fun e w' => e = .returned (.bool true) ∧ Below W.heap.size W w') := Lib.hid (fun W h1 => by
    have := pknows_any a len cap m L dn W h1 hm hdn64 hs
    rwa [bne_iff_ne.2 hk] at this)
  have CB : Hid (∀ W, NodeRow W a len cap L → Calls Tryz.prog 80 #[forV a len cap m] W fun e w' => ∃ pw a2 cap2 M, e = .returned (ptrV pw) ∧ Begun W w' pw a2 len cap2 m M (coreL L)) := Lib.hid (fun W h1 => cbegin_any a len cap m L W h1 hs)
  have CN : Hid (∀ (ρ : Nat → Nat) (W : World) (pr pw g cap len : Nat) (M : List NodeD) (v : Value), Rd ρ W pr pw g cap len m M v [] s dn → coreL M = coreL L → Calls Tryz.prog 111 #[ptrV pr] W (ReadPost ρ W pr pw m [] dn [] F1)) := Lib.hid (fun ρ W pr pw g cap len M v h1 h2 => (reads_all pr pw m [] dn fu).1 ρ W g cap len M v s [] F1 h1 (by rw [h2]; exact hr))
  have CM : Hid (∀ (W : World) (a : Option Addr) (len cap : Nat) (M : List NodeD), NodeRow W a len cap M → smallF M → coreL M = F1 → Calls Tryz.prog 112 #[forV a len cap m] W fun e w' => e = .returned (.bool true) ∧ Below W.heap.size W w') := Lib.hid (fun W a len cap M h1 h2 h3 => by
    have := mightBe_any a len cap m M W h1 h2
    rwa [h3, hri] at this)
  have HSM := Lib.hid hs
  have hsz : (strB s).size = s.length := strB_size s
  have hslen : (s.length : Int) ≤ 16384 := by omega
  obtain ⟨w0, hw0, BX, RB, HB0⟩ : ∃ w0, (w.alloc (forB a len cap m)).alloc (.cells #[.slice none 0 0, .int .i64 0] 24) = w0 ∧ Hid (Box w w0 w.heap.size a len cap m L (coreL L)) ∧ Hid (Box2 w0 (w.heap.size + 1) (.slice none 0 0) (.int .i64 0)) ∧ Hid (w0.heap.size = w.heap.size + 2) := by
    refine ⟨_, rfl, Lib.hid ((Box.start h).keep (below_box _ _)), Lib.hid (Box2.newAt (by simp)), Lib.hid (by simp)⟩
  obtain ⟨bl, ol, x, ha, hbl, hx, hxa, -⟩ := BX.out.row.get hdn
  subst ha
  have hxc : x.core.kind = 0 := by
    have h1 := coreL_get hx
    rw [hc] at h1
    rw [← Option.some.inj h1]
    exact hck
  have HN0 : Hid (∀ W, Below w0.heap.size w0 W → W.cell? ⟨bl, ol + dn * 10, none⟩ = some (.int .i64 0)) := Lib.hid (fun W hb => by
    have := (hb.cell (p := ⟨bl, ol + dn * 10, none⟩) hbl).trans hxa.c0
    rwa [hxc] at this)
  have HF := Lib.hid hF
  have HW0 := Lib.hid hw0
  have HD64 := Lib.hid hdn64
  have z0 := BX.out.c0
  have z1 := BX.out.c1
  have hd64 : (len : Int) ≤ 9223372036854775807 := by omega
  obtain ⟨S, hS⟩ : ∃ S, strB s = S := ⟨_, rfl⟩
  rw [hS] at hsz ⊢
  have HS := Lib.hid hS
  clear h hm hs hk hc hck hl hr hri hF hw0 hbl hx hxa hxc hS
  go_enter Tryz.func91, Tryz.ntmps91
  go_upto_region 1 with fail
  rw [HW0.out]
  go_upto_region 5 with (go_at_call 110; (with_reducible refine (CK.out _ BX.out.row).mono ?_); rintro e w1 ⟨rfl, hb⟩; have BX1 := Lib.hid (BX.out.keep hb); have RB1 := Lib.hid (RB.out.keep hb); have HSZ := Lib.hid hb.size; have n0 := HN0.out _ hb; clear z0 z1 hb; have z0 := BX1.out.c0; have z1 := BX1.out.c1)
  have hlp : 0 < len := by omega
  go_upto_region 6 with (go_at_call 80; (with_reducible refine (CB.out _ BX1.out.row).mono ?_); rintro e w2 ⟨pw, a2, cap2, M, rfl, hB⟩; have HB := Lib.hid hB; clear hB z0 z1 n0)
  obtain ⟨g, ρ, rfl, hWk, hρ⟩ := HB.out.wk hlp
  have hs2 := HB.out.below.size
  obtain ⟨w3, pr, ρ0, hw3, hpr, HR3, HL3, HG3⟩ : ∃ (w3 : World) (pr : Nat) (ρ0 : Nat → Nat), w2.alloc (.cells #[ptrV pw, .string (strB s), .int .i64 (dn : Int)] 133) = w3 ∧ w2.heap.size = pr ∧ Hid (Rd ρ0 w3 pr pw g cap2 len m M (.slice none 0 0) [] s dn) ∧ Hid (∀ k, k < w1.heap.size → ρ0 k = 0) ∧ Hid (Below w1.heap.size w1 w3) :=
    ⟨_, _, _, rfl, rfl, Lib.hid (Rd.start hWk (small_coreP HSM.out HB.out.core) HD64.out), Lib.hid (upd_low hρ hs2), Lib.hid (HB.out.below.trans ((below_box w2 _).mono hs2))⟩
  rw [HS.out] at hw3
  rw [hw3, hpr]
  have HPR : Hid (w1.heap.size ≤ pr) := Lib.hid (by omega)
  have HCM := Lib.hid HB.out.core
  have BX3 := Lib.hid (BX1.out.keep HG3.out)
  have RB3 := Lib.hid (RB1.out.keep HG3.out)
  have hw1 := HSZ.out
  have hw0 := HB0.out
  have hs3 := HG3.out.size
  clear hw3 hpr hWk hρ HB
  have HOLD : Hid (∀ (ρ4 : Nat → Nat) (W : World), Gone pr ρ0 ρ4 w3 W → Below w1.heap.size w1 W ∧ ∀ k, k < w1.heap.size → ρ4 k = 0) := Lib.hid (fun ρ4 W hg => ⟨⟨hg.os.trans HG3.out.os, hg.tape.trans HG3.out.tape, hg.output.trans HG3.out.output, by have := hg.size; omega, fun k hk => (hg.quiet k (by omega) (by have := HPR.out; omega) (.inl (HL3.out k hk))).trans (HG3.out.block k hk)⟩, fun k hk => (hg.old k (by omega) (.inl (HL3.out k hk))).trans (HL3.out k hk)⟩)
  have CN3 := Lib.hid (CN.out _ _ _ _ _ _ _ _ _ HR3.out HCM.out)
  clear CN CB CK
  go_upto_region 8 with (first
    | (go_at_call 111; (with_reducible refine CN3.out.mono ?_); rintro e w4 ⟨rfl, ρ4, g4, cap4, len4, M4, v4, hR, hc4, hG⟩; have HR4 := Lib.hid hR; have HC4 := Lib.hid hc4; have HO := Lib.hid (HOLD.out _ _ hG); have r0 := hR.r0; have r1 : w4.cell? ⟨pr, 1, none⟩ = some (.string ⟨#[]⟩) := hR.r1; have p0 := hR.wk.c0; have p1 := hR.wk.c1; clear hR hc4 hG)
    | (go_at_call 112; (with_reducible refine (CM.out _ _ _ _ _ HR4.out.wk.row HR4.out.small HC4.out).mono ?_); rintro e w5 ⟨rfl, hb⟩; have HR5 := Lib.hid (HR4.out.keep hb); have HB5 := Lib.hid (HO.out.1.trans (hb.mono HO.out.1.size)); clear r0 r1 p0 p1 hb; have r0 := HR5.out.r0; have p0 := HR5.out.wk.c0; have p1 := HR5.out.wk.c1))
  have hF4 : len4 = F1.length := by rw [← HC4.out, coreL_len, HR4.out.wk.hlen]
  have hle : ¬ (m < (len4 : Int)) := by have := HF.out; omega
  have hdec : decide (m < (len4 : Int)) = false := decide_eq_false hle
  clear hF4 hle
  have HBX5 : Hid (w5.cell? ⟨w.heap.size, 1, none⟩ = some (.int .i64 m) ∧ w5.cell? ⟨w.heap.size, 0, none⟩ = some (.slice (some ⟨bl, ol, none⟩) len cap)) := Lib.hid ⟨(HB5.out.cell (p := ⟨w.heap.size, 1, none⟩) BX1.out.lt).trans BX1.out.c1, (HB5.out.cell (p := ⟨w.heap.size, 0, none⟩) BX1.out.lt).trans BX1.out.c0⟩
  have HRB5 : Hid (Box2 w5 (w.heap.size + 1) (.slice none 0 0) (.int .i64 0)) := Lib.hid ⟨Nat.lt_of_lt_of_le RB1.out.lt HB5.out.size, (HB5.out.cell (p := ⟨w.heap.size + 1, 0, none⟩) RB1.out.lt).trans RB1.out.c0, (HB5.out.cell (p := ⟨w.heap.size + 1, 1, none⟩) RB1.out.lt).trans RB1.out.c1, (HB5.out.frozen (p := ⟨w.heap.size + 1, 0, none⟩) RB1.out.lt).trans RB1.out.f0, (HB5.out.frozen (p := ⟨w.heap.size + 1, 1, none⟩) RB1.out.lt).trans RB1.out.f1⟩
  have z1 := HBX5.out.1
  have z0 := HBX5.out.2
  have d0 := HRB5.out.c0
  have d1 := HRB5.out.c1
  have f0 := HRB5.out.f0
  have f1 := HRB5.out.f1
  have hlen4 : (len4 : Int) ≤ 9223372036854775807 := by
    have h1 := HR5.out.small.1
    have h2 := HR5.out.wk.hlen
    omega
  go_region_held3 (fun w' => w'.cell? ⟨pr, 0, none⟩ = some (ptrV pw) ∧ w'.cell? ⟨pw, 0, none⟩ = some (.slice (some ⟨g4, 0, none⟩) len4 cap4) ∧ w'.cell? ⟨w.heap.size, 1, none⟩ = some (.int .i64 m)) (go_keep) (fail)
  all_goals go_wp2
  all_goals
    have q0 : ((w5.setCell ⟨w.heap.size + 1, 0, none⟩ (.slice (some ⟨g4, 0, none⟩) len4 cap4)).setCell ⟨w.heap.size + 1, 1, none⟩ (.int .i64 m)).cell? ⟨w.heap.size + 1, 0, none⟩ = some (.slice (some ⟨g4, 0, none⟩) len4 cap4) := (World.cell?_setCell_other _ _ _ _ (fun e => by injection e with _ e; omega)).trans (World.cell?_setCell_same _ _ _ d0)
    have q1 : ((w5.setCell ⟨w.heap.size + 1, 0, none⟩ (.slice (some ⟨g4, 0, none⟩) len4 cap4)).setCell ⟨w.heap.size + 1, 1, none⟩ (.int .i64 m)).cell? ⟨w.heap.size + 1, 1, none⟩ = some (.int .i64 m) := World.cell?_setCell_same _ _ _ ((World.cell?_setCell_other _ _ _ _ (fun e => by injection e with _ e; omega)).trans d1)
    have hbw : w.heap.size + 1 < w1.heap.size := by omega
    have hWK := HR5.out.wk.stored2 hbw HB5.out.size HO.out.2 (.slice (some ⟨g4, 0, none⟩) len4 cap4) (.int .i64 m)
    have hBE : Below w.heap.size w (((w5.setCell ⟨w.heap.size + 1, 0, none⟩ (.slice (some ⟨g4, 0, none⟩) len4 cap4)).setCell ⟨w.heap.size + 1, 1, none⟩ (.int .i64 m)).drew) :=
      ((((BX1.out.below).trans (HB5.out.mono BX1.out.below.size)).setCell (p := ⟨w.heap.size + 1, 0, none⟩) (by show w.heap.size ≤ w.heap.size + 1; omega) _).setCell (p := ⟨w.heap.size + 1, 1, none⟩) (by show w.heap.size ≤ w.heap.size + 1; omega) _).drew
    refine bodyPost_ret (v := .tuple #[forV (some ⟨g4, 0, none⟩) len4 cap4 m, .int .i64 0]) ?_ rfl ⟨_, pw, g4, cap4, len4, M4, v4, rfl, hWK.keep ((Below.refl _ _).drew), HR5.out.small, HC4.out, hBE, fun k hk => ?_⟩
    · simp [results, Tryz.results91, go_sem, q0, q1]
    · unfold upd
      rw [if_neg (fun e => by injection e with e; omega)]
      exact HO.out.2 k (by omega)
end Go.Proofs.YtkgbgnmmgmnnlaaGreatDoor
namespace Go.Proofs.YtkgbgnmmgmnnlaaGreatDoor
open Go.RowKit
set_option maxHeartbeats 4000000 in
set_option maxRecDepth 100000 in
theorem pRead_ok (a : Option Addr) (len cap : Nat) (m : Int) (L : List NodeD) (dn : Nat) (s : BL) (F1 : List Core) (c : Core) (w : World) (h : NodeRow w a len cap L) (hm : In64 m) (hs : smallF L) (hk : rootZ m (coreL L) dn ≠ -1) (hc : (coreL L)[dn]? = some c) (hck : c.kind = 0) (hl : s.length ≤ 16384)
    {fu : Nat} (hr : readM dn fu .node s (coreL L) = some ([], F1)) (hri : rightF 400 F1 = true) (hF : (F1.length : Int) ≤ m) :
    Calls Tryz.prog 59 #[forV a len cap m, .int .i64 (dn : Int), .string (strB s)] w (WkFor w m F1 [.int .i64 (len : Int), .int .i64 0]) := by
  have CR : Hid (∀ W, NodeRow W a len cap L → Calls Tryz.prog 91 #[forV a len cap m, .int .i64 (dn : Int), .string (strB s)] W (WkFor W m F1 [.int .i64 0])) := Lib.hid (fun W h1 => pread_ok a len cap m L dn s F1 c W h1 hm hs hk hc hck hl hr hri hF)
  have hlen : (len : Int) ≤ 9223372036854775807 := by have := h.len64; omega
  obtain ⟨w0, hw0, BX, RB, HB0⟩ : ∃ w0, (w.alloc (forB a len cap m)).alloc (.cells #[.slice none 0 0, .int .i64 0] 24) = w0 ∧ Hid (Box w w0 w.heap.size a len cap m L (coreL L)) ∧ Hid (Box2 w0 (w.heap.size + 1) (.slice none 0 0) (.int .i64 0)) ∧ Hid (w0.heap.size = w.heap.size + 2) := by
    refine ⟨_, rfl, Lib.hid ((Box.start h).keep (below_box _ _)), Lib.hid (Box2.newAt (by simp)), Lib.hid (by simp)⟩
  have HW0 := Lib.hid hw0
  have z0 := BX.out.c0
  have z1 := BX.out.c1
  obtain ⟨S, hS⟩ : ∃ S, strB s = S := ⟨_, rfl⟩
  rw [hS] at CR ⊢
  clear h hm hs hk hc hck hl hr hri hF hw0 hS
  go_enter Tryz.func59, Tryz.ntmps59
  go_upto_region 1 with fail
  rw [HW0.out]
  go_upto_region 4 with (go_at_call 91; (with_reducible refine (CR.out _ BX.out.row).mono ?_); rintro e w1 ⟨ρ, pw, g, cap1, len1, M, v, rfl, hWk, hsm, hcm, hb, hlo⟩; have HWK := Lib.hid hWk; have HSM := Lib.hid hsm; have HCM := Lib.hid hcm; have HB1 := Lib.hid hb; have HLO := Lib.hid hlo; clear hWk hsm hcm hb hlo z0 z1)
  obtain ⟨w2, tb, hw2, htb, HB2, NB⟩ : ∃ w2 tb, w1.alloc (forB (some ⟨g, 0, none⟩) len1 cap1 m) = w2 ∧ w1.heap.size = tb ∧ Hid (Below w1.heap.size w1 w2) ∧ Hid (Box2 w2 tb (.slice (some ⟨g, 0, none⟩) len1 cap1) (.int .i64 m)) := ⟨_, _, rfl, rfl, Lib.hid (below_box _ _), Lib.hid (Box2.new w1 _ _ _)⟩
  rw [hw2, htb]
  clear hw2
  have HTB := Lib.hid htb
  clear htb
  have HB3 := Lib.hid (HB1.out.trans (HB2.out.mono HB1.out.size))
  have BX2 := Lib.hid (BX.out.keep HB3.out)
  have RB2 := Lib.hid (RB.out.keep HB3.out)
  have hs1 := HB1.out.size
  have hs0 := HB0.out
  have htb := HTB.out
  have z0 := BX2.out.c0
  have n0 := NB.out.c0
  have n1 := NB.out.c1
  have d0 := RB2.out.c0
  have d1 := RB2.out.c1
  have f0 := RB2.out.f0
  have f1 := RB2.out.f1
  have hne1 : w.heap.size + 1 ≠ tb := by omega
  have hne2 : tb ≠ w.heap.size + 1 := by omega
  have hne3 : w.heap.size + 1 ≠ w.heap.size := by omega
  have hne4 : w.heap.size ≠ w.heap.size + 1 := by omega
  go_region_held3 (fun w' => w'.cell? ⟨w.heap.size, 0, none⟩ = some (.slice a len cap) ∧ w'.cell? ⟨tb, 0, none⟩ = some (.slice (some ⟨g, 0, none⟩) len1 cap1) ∧ w'.cell? ⟨tb, 1, none⟩ = some (.int .i64 m)) (go_keep) (fail)
  all_goals go_wp2
  all_goals
    have q0 : ((w2.setCell ⟨w.heap.size + 1, 0, none⟩ (.slice (some ⟨g, 0, none⟩) len1 cap1)).setCell ⟨w.heap.size + 1, 1, none⟩ (.int .i64 m)).cell? ⟨w.heap.size + 1, 0, none⟩ = some (.slice (some ⟨g, 0, none⟩) len1 cap1) := (World.cell?_setCell_other _ _ _ _ (fun e => by injection e with _ e; omega)).trans (World.cell?_setCell_same _ _ _ d0)
    have q1 : ((w2.setCell ⟨w.heap.size + 1, 0, none⟩ (.slice (some ⟨g, 0, none⟩) len1 cap1)).setCell ⟨w.heap.size + 1, 1, none⟩ (.int .i64 m)).cell? ⟨w.heap.size + 1, 1, none⟩ = some (.int .i64 m) := World.cell?_setCell_same _ _ _ ((World.cell?_setCell_other _ _ _ _ (fun e => by injection e with _ e; omega)).trans d1)
    have hWK := (HWK.out.keep HB2.out).stored2 (b := w.heap.size + 1) (B := w0.heap.size) (by omega) HB3.out.size HLO.out (.slice (some ⟨g, 0, none⟩) len1 cap1) (.int .i64 m)
    have hBE : Below w.heap.size w (((w2.setCell ⟨w.heap.size + 1, 0, none⟩ (.slice (some ⟨g, 0, none⟩) len1 cap1)).setCell ⟨w.heap.size + 1, 1, none⟩ (.int .i64 m)).drew) :=
      ((BX2.out.below.setCell (p := ⟨w.heap.size + 1, 0, none⟩) (by show w.heap.size ≤ w.heap.size + 1; omega) _).setCell (p := ⟨w.heap.size + 1, 1, none⟩) (by show w.heap.size ≤ w.heap.size + 1; omega) _).drew
    refine bodyPost_ret (v := .tuple #[forV (some ⟨g, 0, none⟩) len1 cap1 m, .int .i64 (len : Int), .int .i64 0]) ?_ rfl ⟨_, pw, g, cap1, len1, M, v, rfl, hWK.keep ((Below.refl _ _).drew), HSM.out, HCM.out, hBE, fun k hk => ?_⟩
    · simp [results, Tryz.results59, go_sem, q0, q1]
    · unfold upd
      rw [if_neg (fun e => by injection e with e; omega)]
      exact HLO.out k (by omega)
set_option maxHeartbeats 4000000 in
set_option maxRecDepth 100000 in
theorem pFresh_ok (m : Int) (s : BL) (F1 : List Core) (w : World) (hm : In64 m) (hm1 : 1 ≤ m) (hm2 : m ≤ 400) (hl : s.length ≤ 16384) {fu : Nat} (hr : readM 0 fu .node s [docC] = some ([], F1)) (hri : rightF 400 F1 = true) (hF : (F1.length : Int) ≤ m) :
    Calls Tryz.prog 30 #[.string (strB s), .int .i64 m] w (WkFor w m F1 [.int .i64 1, .int .i64 0]) := by
  have hok : newOk m = true := by unfold newOk; rw [decide_eq_true hm1, decide_eq_true hm2]; rfl
  have CN : Hid (∀ W, Calls Tryz.prog 58 #[.int .i64 m] W (ForPost W [docC] m [.int .i64 0])) := Lib.hid (fun W => by
    have := newFn_any m W hm
    rwa [show newL m = [docC] by unfold newL; rw [if_pos hok], show newM m = m by unfold newM; rw [if_pos hok], show newE m = 0 by unfold newE; rw [if_pos hok]] at this)
  have CR : Hid (∀ W a len cap L, NodeRow W a len cap L → coreL L = [docC] → Calls Tryz.prog 59 #[forV a len cap m, .int .i64 0, .string (strB s)] W (WkFor W m F1 [.int .i64 1, .int .i64 0])) := Lib.hid (fun W a len cap L h1 h2 => by
    have hlen : len = 1 := by have := congrArg List.length h2; rw [coreL_len, h1.hlen] at this; exact this
    subst hlen
    obtain ⟨y, rfl⟩ : ∃ y, L = [y] := by
      have := h1.hlen
      cases L with
      | nil => cases this
      | cons y t => cases t with
        | nil => exact ⟨y, rfl⟩
        | cons _ _ => simp at this
    have hy : y.core = docC := by unfold coreL at h2; simpa using h2
    have hro : rootZ m [docC] ((0 : Nat) : Int) ≠ -1 := by
      unfold rootZ thereF
      rw [right_doc, hok]
      simp
    exact pRead_ok a 1 cap m [y] 0 s F1 docC W h1 hm (doc_small hy) (by rw [h2]; exact hro) (by rw [h2]; rfl) rfl hl (by rw [h2]; exact hr) hri hF)
  obtain ⟨w0, hw0, RB, HB0⟩ : ∃ w0, w.alloc (.cells #[.slice none 0 0, .int .i64 0] 24) = w0 ∧ Hid (Box2 w0 w.heap.size (.slice none 0 0) (.int .i64 0)) ∧ Hid (Below w.heap.size w w0) := by
    refine ⟨_, rfl, Lib.hid (Box2.new w _ _ _), Lib.hid (below_box _ _)⟩
  have HW0 := Lib.hid hw0
  obtain ⟨S, hS⟩ : ∃ S, strB s = S := ⟨_, rfl⟩
  rw [hS] at CR ⊢
  clear hm hm1 hm2 hl hr hri hF hok hw0 hS
  go_enter Tryz.func30, Tryz.ntmps30
  go_upto_region 1 with fail
  rw [HW0.out]
  go_upto_region 4 with (go_at_call 58; (refine (CN.out _).mono ?_); rintro e w1 ⟨a1, len1, cap1, L1, rfl, hr1, hc1, hb1⟩; have HR1 := Lib.hid hr1; have HC1 := Lib.hid hc1; have HB1 := Lib.hid hb1; clear hr1 hc1 hb1)
  obtain ⟨w2, tb, hw2, htb, HB2, NB, HR2⟩ : ∃ w2 tb, w1.alloc (forB a1 len1 cap1 m) = w2 ∧ w1.heap.size = tb ∧ Hid (Below w1.heap.size w1 w2) ∧ Hid (Box2 w2 tb (.slice a1 len1 cap1) (.int .i64 m)) ∧ Hid (NodeRow w2 a1 len1 cap1 L1) := ⟨_, _, rfl, rfl, Lib.hid (below_box _ _), Lib.hid (Box2.new w1 _ _ _), Lib.hid (HR1.out.below (below_box _ _))⟩
  rw [hw2, htb]
  clear hw2
  have HTB := Lib.hid htb
  clear htb
  have RB2 := Lib.hid ((RB.out.keep HB1.out).keep HB2.out)
  have n0 := NB.out.c0
  have n1 := NB.out.c1
  go_upto_region 5 with (go_at_call 59; (with_reducible refine (CR.out _ _ _ _ _ HR2.out HC1.out).mono ?_); rintro e w3 ⟨ρ, pw, g, cap3, len3, M, v, rfl, hWk, hsm, hcm, hb, hlo⟩; have HWK := Lib.hid hWk; have HSM := Lib.hid hsm; have HCM := Lib.hid hcm; have HB3 := Lib.hid hb; have HLO := Lib.hid hlo; clear n0 n1; have n0 := (NB.out.keep hb).c0; have n1 := (NB.out.keep hb).c1; have nf0 := (NB.out.keep hb).f0; have nf1 := (NB.out.keep hb).f1; clear hWk hsm hcm hb hlo)
  have hs0 := HB0.out.size
  have hs1 := HB1.out.size
  have hs2 := HB2.out.size
  have htb := HTB.out
  have hlt0 := RB.out.lt
  have htl := NB.out.lt
  have hne : w.heap.size ≠ tb := by omega
  have hne' : tb ≠ w.heap.size := by omega
  have RB3 := Lib.hid (RB2.out.keep HB3.out)
  obtain ⟨W4, hW4, HWK4, HB4, HZ4, M0, M1, D0, D1, DF⟩ : ∃ W4, (w3.setCell ⟨tb, 0, none⟩ (.slice (some ⟨g, 0, none⟩) len3 cap3)).setCell ⟨tb, 1, none⟩ (.int .i64 m) = W4 ∧ Hid (Wk (upd ρ (some tb) 4) W4 pw g cap3 len3 m M v []) ∧ Hid (Below w.heap.size w W4) ∧ Hid (w.heap.size + 1 ≤ W4.heap.size) ∧ Hid (W4.cell? ⟨tb, 0, none⟩ = some (.slice (some ⟨g, 0, none⟩) len3 cap3)) ∧ Hid (W4.cell? ⟨tb, 1, none⟩ = some (.int .i64 m)) ∧ Hid (W4.cell? ⟨w.heap.size, 0, none⟩ = some (.slice none 0 0)) ∧ Hid (W4.cell? ⟨w.heap.size, 1, none⟩ = some (.int .i64 0)) ∧ Hid (∀ o, W4.frozen? ⟨w.heap.size, o, none⟩ = w3.frozen? ⟨w.heap.size, o, none⟩) := by
    refine ⟨_, rfl, Lib.hid (HWK.out.stored2 htl HB3.out.size HLO.out _ _), Lib.hid ?_, Lib.hid (by have := HB3.out.size; simp only [World.setCell, Array.size_modify]; omega), Lib.hid ?_, Lib.hid ?_, Lib.hid ?_, Lib.hid ?_, Lib.hid ?_⟩
    · have hb := ((HB0.out.trans (HB1.out.mono hs0)).trans (HB2.out.mono (by omega))).trans (HB3.out.mono (by omega))
      exact (hb.setCell (p := ⟨tb, 0, none⟩) (by show w.heap.size ≤ tb; omega) _).setCell (p := ⟨tb, 1, none⟩) (by show w.heap.size ≤ tb; omega) _
    · exact (World.cell?_setCell_other _ _ _ _ (fun e => by injection e with _ e; omega)).trans (World.cell?_setCell_same _ _ _ n0)
    · exact World.cell?_setCell_same _ _ _ ((World.cell?_setCell_other _ _ _ _ (fun e => by injection e with _ e; omega)).trans n1)
    · exact ((World.cell?_setCell_other _ _ _ _ (fun e => by injection e with e _; exact hne' e)).trans (World.cell?_setCell_other _ _ _ _ (fun e => by injection e with e _; exact hne' e))).trans RB3.out.c0
    · exact ((World.cell?_setCell_other _ _ _ _ (fun e => by injection e with e _; exact hne' e)).trans (World.cell?_setCell_other _ _ _ _ (fun e => by injection e with e _; exact hne' e))).trans RB3.out.c1
    · intro o
      rw [World.frozen?_setCell, World.frozen?_setCell]
  rw [hW4]
  clear hW4 n0 n1 nf0 nf1
  have n0 := M0.out
  have n1 := M1.out
  have d0 := D0.out
  have d1 := D1.out
  have f0 : W4.frozen? ⟨w.heap.size, 0, none⟩ = false := (DF.out 0).trans RB3.out.f0
  have f1 : W4.frozen? ⟨w.heap.size, 1, none⟩ = false := (DF.out 1).trans RB3.out.f1
  go_wp2
  have q0 : ((W4.setCell ⟨w.heap.size, 0, none⟩ (.slice (some ⟨g, 0, none⟩) len3 cap3)).setCell ⟨w.heap.size, 1, none⟩ (.int .i64 m)).cell? ⟨w.heap.size, 0, none⟩ = some (.slice (some ⟨g, 0, none⟩) len3 cap3) := (World.cell?_setCell_other _ _ _ _ (fun e => by injection e with _ e; omega)).trans (World.cell?_setCell_same _ _ _ d0)
  have q1 : ((W4.setCell ⟨w.heap.size, 0, none⟩ (.slice (some ⟨g, 0, none⟩) len3 cap3)).setCell ⟨w.heap.size, 1, none⟩ (.int .i64 m)).cell? ⟨w.heap.size, 1, none⟩ = some (.int .i64 m) := World.cell?_setCell_same _ _ _ ((World.cell?_setCell_other _ _ _ _ (fun e => by injection e with _ e; omega)).trans d1)
  have hlow : ∀ k, k < w.heap.size + 1 → upd ρ (some tb) 4 k = 0 := fun k hk => by
    unfold upd
    rw [if_neg (fun e => by injection e with e; omega)]
    exact HLO.out k (by omega)
  have hWK := HWK4.out.stored2 (b := w.heap.size) (B := w.heap.size + 1) (by omega) HZ4.out hlow (.slice (some ⟨g, 0, none⟩) len3 cap3) (.int .i64 m)
  have hBE : Below w.heap.size w ((W4.setCell ⟨w.heap.size, 0, none⟩ (.slice (some ⟨g, 0, none⟩) len3 cap3)).setCell ⟨w.heap.size, 1, none⟩ (.int .i64 m)) := (HB4.out.setCell (p := ⟨w.heap.size, 0, none⟩) (Nat.le_refl _) _).setCell (p := ⟨w.heap.size, 1, none⟩) (Nat.le_refl _) _
  refine bodyPost_ret (v := .tuple #[forV (some ⟨g, 0, none⟩) len3 cap3 m, .int .i64 1, .int .i64 0]) ?_ rfl ⟨_, pw, g, cap3, len3, M, v, rfl, hWK, HSM.out, HCM.out, hBE, fun k hk => ?_⟩
  · simp [results, Tryz.results30, go_sem, q0, q1]
  · unfold upd
    rw [if_neg (fun e => by injection e with e; omega)]
    exact hlow k (by omega)
end Go.Proofs.YtkgbgnmmgmnnlaaGreatDoor
