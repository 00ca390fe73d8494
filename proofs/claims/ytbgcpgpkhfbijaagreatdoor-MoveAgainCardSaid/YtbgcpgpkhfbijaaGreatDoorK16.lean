/- Texts joined in build order: MoveAttrMath MoveAgainMath AttrMath2 AttrRefShort AttrFns AttrMath3 MoveAgainMath2 MoveAgainMath3 MoveAgain MoveAgainWalk. -/
import Derived.Test.YtbgcpgpkhfbijaaGreatDoorK14
import Derived.Test.YtbgcpgpkhfbijaaGreatDoorK05
import Derived.Test.YtbgcpgpkhfbijaaGreatDoorK15
import Derived.Test.YtbgcpgpkhfbijaaGreatDoorK06
import Derived.Test.YtbgcpgpkhfbijaaGreatDoorChecked
import Derived.Test.YtbgcpgpkhfbijaaGreatDoorK01
import Derived.WalkLawsBesides
import Derived.WalkSmall
import Derived.Lib.Hide
import Derived.Deep.QuietTactic
import Derived.BigQuiet
import Derived.Test.YtbgcpgpkhfbijaaGreatDoorK02
/- A forest whose element has other attributes. Plain mathematics, no program. -/
namespace Go.Proofs.YtbgcpgpkhfbijaaGreatDoor
open Go.RowKit
/-- Two nodes that differ in what they bear alone. -/
structure Worn (c d : Core) : Prop where
  kind : d.kind = c.kind
  parent : d.parent = c.parent
  kids : d.kids = c.kids
  host : d.host = c.host
  under : d.under = c.under
  doc : d.doc = c.doc
theorem Worn.refl (c : Core) : Worn c c := ⟨rfl, rfl, rfl, rfl, rfl, rfl⟩
theorem chg_at {F : List Core} {n : Nat} {l : AL} {j : Nat} {c : Core} (hc : F[j]? = some c) : (chgF F n l)[j]? = some (if j = n then withAC c l else c) := by
  unfold chgF
  cases hx : F[n]? with
  | none =>
    have h1 := List.getElem?_eq_none_iff.1 hx
    have h2 := (List.getElem?_eq_some_iff.1 hc).1
    rw [if_neg (by omega), hc]
  | some x =>
    dsimp only
    by_cases e : j = n
    · subst e
      rw [List.getElem?_set_self (List.getElem?_eq_some_iff.1 hc).1, if_pos rfl, Option.some.inj (hx.symm.trans hc)]
    · rw [List.getElem?_set_ne (fun e2 => e e2.symm), if_neg e, hc]
theorem chg_len {F : List Core} {n : Nat} {l : AL} : (chgF F n l).length = F.length := by
  unfold chgF
  split
  · rw [List.length_set]
  · rfl
theorem chg_worn {F : List Core} {n : Nat} {l : AL} {k : Int} {c : Core} (hc : getC F k = some c) : ∃ d, getC (chgF F n l) k = some d ∧ Worn c d := by
  obtain ⟨h1, h2, h3⟩ := getC_some hc
  refine ⟨if k.toNat = n then withAC c l else c, ?_, ?_⟩
  · unfold getC
    rw [if_pos h1]
    exact chg_at h3
  · split
    · exact ⟨rfl, rfl, rfl, rfl, rfl, rfl⟩
    · exact Worn.refl c
theorem chg_kindK {F : List Core} {n : Nat} {l : AL} (k : Int) : kindK (chgF F n l) k = kindK F k := by
  unfold kindK
  cases hc : getC F k with
  | some c =>
    obtain ⟨d, h1, h2⟩ := chg_worn (n := n) (l := l) hc
    rw [h1]
    exact h2.kind
  | none =>
    have : getC (chgF F n l) k = none := by
      unfold getC at hc ⊢
      by_cases h0 : 0 ≤ k
      · rw [if_pos h0] at hc ⊢
        have := List.getElem?_eq_none_iff.1 hc
        exact List.getElem?_eq_none (by rw [chg_len]; exact this)
      · rw [if_neg h0]
    rw [this]
theorem chg_next {F : List Core} {n : Nat} {l : AL} {j : Nat} {c : Core} (hc : F[j]? = some c) : nextUp (chgF F n l) (j : Int) = nextUp F j := by
  have hg : getC F (j : Int) = some c := by rw [getC_nat, hc]
  obtain ⟨d, h1, h2⟩ := chg_worn (n := n) (l := l) hg
  unfold nextUp
  rw [hg, h1]
  dsimp only
  rw [h2.parent, h2.host]
theorem chg_node {F : List Core} {n : Nat} {l : AL} (hl : rightA l = true) (hk : kindK F n = 1) {i : Nat} {c : Core} (h : NodeP F i c) (hc : F[i]? = some c) : NodeP (chgF F n l) i (if i = n then withAC c l else c) := by
  obtain ⟨d, hd, w⟩ : ∃ d, (if i = n then withAC c l else c) = d ∧ Worn c d := by
    refine ⟨_, rfl, ?_⟩
    split
    · exact ⟨rfl, rfl, rfl, rfl, rfl, rfl⟩
    · exact Worn.refl c
  have ht : textOk d = true := by
    rw [← hd]
    by_cases e : i = n
    · subst e
      rw [if_pos rfl]
      have h1 := h.text
      have h2 : c.kind = 1 := by rw [kindK_at hc] at hk; exact hk
      unfold textOk at h1 ⊢
      rw [if_pos h2] at h1
      rw [if_pos (show (withAC c l).kind = 1 from h2)]
      simp only [Bool.and_eq_true] at h1 ⊢
      exact ⟨h1.1, hl⟩
    · rw [if_neg e]; exact h.text
  rw [hd]
  refine ⟨by rw [w.kind]; exact h.kind, ?_, by rw [w.kind, w.doc]; exact h.own, ?_, by rw [w.kids]; exact h.once, fun k hk2 => ?_, by rw [w.kind, w.kids]; exact h.leaf, fun e => ?_, fun e => ?_, by rw [w.kind, w.host]; exact h.free, ?_, ht⟩
  · obtain ⟨u, h1, h2⟩ := h.doc
    obtain ⟨u2, h3, h4⟩ := chg_worn (n := n) (l := l) h1
    rw [w.doc]
    exact ⟨u2, h3, h4.kind.trans h2⟩
  · rw [w.parent, w.kind]
    rcases h.par with e | ⟨h1, u, h2, h3, h5⟩
    · exact .inl e
    · obtain ⟨u2, h6, h7⟩ := chg_worn (n := n) (l := l) h2
      exact .inr ⟨h1, u2, h6, by rw [h7.kind]; exact h3, by rw [h7.kids]; exact h5⟩
  · rw [w.kids] at hk2
    obtain ⟨u, h1, h2, h3, h5⟩ := h.kids k hk2
    obtain ⟨u2, h6, h7⟩ := chg_worn (n := n) (l := l) h1
    exact ⟨u2, h6, by rw [h7.kind]; exact h2, h7.parent.trans h3, by rw [h7.doc, w.doc]; exact h5⟩
  · rw [w.kind] at e
    obtain ⟨h1, h2⟩ := h.root e
    rw [w.kids]
    exact ⟨h1, fun k hk2 => by rw [chg_kindK]; exact h2 k hk2⟩
  · rw [w.kind] at e
    obtain ⟨u, h1, h2, h3, h5⟩ := h.host e
    obtain ⟨u2, h6, h7⟩ := chg_worn (n := n) (l := l) h1
    rw [w.host]
    exact ⟨u2, h6, h7.kind.trans h2, h7.under.trans h3, by rw [h7.doc, w.doc]; exact h5⟩
  · rw [w.under, w.kind]
    rcases h.under with e | ⟨h1, u, h2, h3, h5⟩
    · exact .inl e
    · obtain ⟨u2, h6, h7⟩ := chg_worn (n := n) (l := l) h2
      exact .inr ⟨h1, u2, h6, h7.kind.trans h3, h7.host.trans h5⟩
/-- A right forest stays right when an element gets a right list. -/
theorem chg_right {m : Int} {F : List Core} (h : rightF m F = true) {n : Nat} {l : AL} (hk : kindK F n = 1) (hl : rightA l = true) : rightF m (chgF F n l) = true := by
  obtain ⟨⟨h1, h2, h3, h4⟩, h5, _⟩ := (rightF_iff m F).1 h
  have hb : ∀ (i : Nat) d, (chgF F n l)[i]? = some d → ∃ c, F[i]? = some c ∧ d = if i = n then withAC c l else c := fun i d hd => by
    have hi := (List.getElem?_eq_some_iff.1 hd).1
    rw [chg_len] at hi
    have hc : F[i]? = some F[i] := List.getElem?_eq_getElem hi
    have h6 := chg_at (n := n) (l := l) hc
    exact ⟨_, hc, Option.some.inj (hd.symm.trans h6)⟩
  refine right_of h1 h2 (by rw [chg_len]; exact h3) ?_ (fun i d hd => ?_) (rankF F) (fun i hi => ?_)
  · have hl0 : 0 < F.length := right_len h
    have hc : F[0]? = some F[0] := List.getElem?_eq_getElem hl0
    have h6 := chg_at (n := n) (l := l) hc
    have h7 : headDoc F = (F[0].kind == 0) := by
      cases F with
      | nil => cases hl0
      | cons c r => rfl
    cases hG : chgF F n l with
    | nil => rw [hG] at h6; cases h6
    | cons c r =>
      rw [hG] at h6
      have h8 : c = if 0 = n then withAC F[0] l else F[0] := Option.some.inj h6
      show (c.kind == 0) = true
      rw [h8]
      rw [h7] at h4
      split
      · exact h4
      · exact h4
  · obtain ⟨c, hc, rfl⟩ := hb i d hd
    exact chg_node hl hk (right_node h hc) hc
  · rw [chg_len] at hi ⊢
    rw [chg_next (List.getElem?_eq_getElem hi)]
    exact rank_next h hi
end Go.Proofs.YtbgcpgpkhfbijaaGreatDoor
/- The law MoveAgain, over data. Plain mathematics, no program. -/
namespace Go.Proofs.YtbgcpgpkhfbijaaGreatDoor
open Go.RowKit
/-- A child that goes out and in again stands as before. -/
theorem back_core {m : Int} {F : List Core} (hr : rightF m F = true) {n p : Nat} {x y : Core} (hx : F[n]? = some x) (hp : x.parent = (p : Int)) (hy : F[p]? = some y) : mvIn (mvOut F n) n p (behK F n) = F := by
  have hne : x.parent ≠ -1 := by rw [hp]; omega
  obtain ⟨q, hq1, _, ho⟩ := mvOut_out hr hx hne
  rw [hp] at hq1
  obtain rfl : p = q := by omega
  have hmem : (n : Int) ∈ y.kids := by
    rcases (right_node hr hx).par with e | ⟨_, d, h1, _, h3⟩
    · exact absurd e hne
    · rw [hp, getC_nat, hy] at h1
      rw [Option.some.inj h1]
      exact h3
  obtain ⟨i, hi1, hi2⟩ := find_at hmem
  have hnd := (right_node hr hy).once
  have hfn : findN y.kids n = i := by have := findZ_mem hmem; omega
  have hbk : behK F n = match y.kids[i + 1]? with | some z => z | none => -1 := by
    unfold behK
    rw [parentK_at hx, hp, kidsK_get hy, hfn]
    all_goals (cases y.kids[i + 1]? <;> rfl)
  apply List.ext_getElem?
  intro j
  have hin := edF_edit (mvOut F n) (fun j c => if j = n then (p : Int) else c.parent) (fun j c => if j = p then insB c.kids (behK F n) n else c.kids) (fun _ c => c.doc)
  cases hj : F[j]? with
  | none =>
    have h1 := List.getElem?_eq_none_iff.1 hj
    refine List.getElem?_eq_none ?_
    unfold mvIn
    rw [hin.len, ho.ed.len]
    exact h1
  | some c =>
    have h1 := hin.at_ j _ (ho.ed.at_ j c hj)
    unfold mvIn
    rw [h1]
    congr 1
    unfold edC
    dsimp only
    have hP : (if j = n then (p : Int) else if j = n then -1 else c.parent) = c.parent := by
      by_cases e : j = n
      · subst e
        rw [hx] at hj
        rw [if_pos rfl, ← Option.some.inj hj, hp]
      · rw [if_neg e, if_neg e]
    have hK : (if j = p then insB (if j = p then c.kids.filter (fun z => z != (n : Int)) else c.kids) (behK F n) n else if j = p then c.kids.filter (fun z => z != (n : Int)) else c.kids) = c.kids := by
      by_cases e : j = p
      · subst e
        rw [hy] at hj
        obtain rfl := Option.some.inj hj
        rw [if_pos rfl, if_pos rfl, hbk, ← erase_filter hnd hi2]
        exact insB_erase hnd (kids_nat hr hy) hi2
      · rw [if_neg e, if_neg e]
    rw [hP, hK]

theorem kid_doc {m : Int} {F : List Core} (hr : rightF m F = true) {n p : Nat} {x y : Core} (hx : F[n]? = some x) (hp : x.parent = (p : Int)) (hy : F[p]? = some y) : x.doc = y.doc := by
  rcases (right_node hr hx).par with e | ⟨_, d, h1, _, h3⟩
  · rw [hp] at e; omega
  · rw [hp, getC_nat, hy] at h1
    obtain rfl := Option.some.inj h1
    obtain ⟨c, h4, _, _, h5⟩ := (right_node hr hy).kids n h3
    rw [getC_nat, hx] at h4
    rw [Option.some.inj h4]
    exact h5
/-- Who is put where it stands stands as before; under a document it may not. -/
theorem again_ins {m : Int} {F : List Core} (hr : rightF m F = true) {n p : Nat} {x y : Core} (hx : F[n]? = some x) (hp : x.parent = (p : Int)) (hy : F[p]? = some y) (hnp : n ≠ p) :
    (y.kind ≠ 0 → ∃ N, insZ m F n p n = (F, N, 0)) ∧ (y.kind = 0 → insZ m F n p n = (F, [], 5)) := by
  have hn : n < F.length := (List.getElem?_eq_some_iff.1 hx).1
  have hpl : p < F.length := (List.getElem?_eq_some_iff.1 hy).1
  have hne : x.parent ≠ -1 := by rw [hp]; omega
  have hnek : parentK F n ≠ -1 := by rw [parentK_at hx]; exact hne
  have hpn : parentK F n = (p : Int) := by rw [parentK_at hx]; exact hp
  have hmz := may_is hr hn hpl hn hpn
  have hov : overZ m F n p = false := by
    cases hq : overZ m F n p with
    | false => rfl
    | true => exact absurd ((treeS hr).holds_anti hn hpl ((overZ_iff hr hn hpl).1 hq) (holds_par (parS_parent hx hp))) hnp
  have hmem : (n : Int) ∈ y.kids := by
    rcases (right_node hr hx).par with e | ⟨_, d, h1, _, h3⟩
    · exact absurd e hne
    · rw [hp, getC_nat, hy] at h1
      rw [Option.some.inj h1]
      exact h3
  obtain ⟨q, hq1, _, ho⟩ := mvOut_out hr hx hne
  rw [hp] at hq1
  obtain rfl : p = q := by omega
  have hk2 : kindK F p ≠ 2 := fun e => by
    rw [kindK_at hy] at e
    have := (right_node hr hy).leaf e
    rw [this] at hmem
    cases hmem
  have hkn : kindK F n = 1 ∨ kindK F n = 2 := by rw [kindK_at hx]; exact ho.kind
  have hparts : partsZ F n = [(n : Int)] := by
    rw [parts_at hx, if_neg (by rcases ho.kind with e | e <;> omega)]
  refine ⟨fun hk => ?_, fun hk => ?_⟩
  · have hmay : mayZ m F n p n = 0 := by
      rw [hmz, refuse_zero]
      exact ⟨hk2, hov, by omega, by omega, fun e => absurd (by rw [kindK_at hy] at e; exact e) hk⟩
    obtain ⟨i, h1, h2, h3⟩ := place_at hr hx hp hy
    have hfn : findN y.kids n = i := by
      obtain ⟨h4, h5⟩ := List.getElem?_eq_some_iff.1 h3
      have h6 := findN_mem hmem
      have h7 : y.kids[findN y.kids n]'h6 = (n : Int) := beq_iff_eq.1 (List.findIdx_getElem (p := fun z => z == (n : Int)) (w := h6))
      rcases Nat.lt_trichotomy (findN y.kids n) i with h8 | h8 | h8
      · exact absurd (by rw [h7, h5]) (List.pairwise_iff_getElem.1 (right_node hr hy).once _ _ h6 h4 h8)
      · exact h8
      · exact absurd (by rw [h7, h5]) (List.pairwise_iff_getElem.1 (right_node hr hy).once _ _ h4 h6 h8)
    have hbf : beforeZ m F n p n = behK F n := by
      unfold beforeZ behK
      rw [if_pos hmay, if_pos rfl, h1, parentK_at hx, hp, kidsK_get hy, hfn, show ((i : Int) + 1).toNat = i + 1 by omega]
      all_goals (cases y.kids[i + 1]? <;> rfl)
    refine ⟨(putS (F, []) n p (behK F n)).2, ?_⟩
    unfold insZ
    rw [if_pos hmay, hbf, Int.toNat_natCast, Int.toNat_natCast]
    have hput : (putS (F, []) n p (behK F n)).1 = F := by
      unfold putS
      dsimp only
      rw [hparts, if_neg (by omega)]
      show (inS p (behK F n) (F, []) ((n : Int)).toNat).1 = _
      rw [Int.toNat_natCast]
      unfold inS overS
      dsimp only
      have e0 : (outS (F, []) n).1 = mvOut F n := by unfold outS; rw [if_neg hnek]
      have e1 : docK (outS (F, []) n).1 n = docK F p := by
        rw [e0, docK_at (ho.ed.at_ n x hx), docK_at hy]
        show x.doc = y.doc
        exact kid_doc hr hx hp hy
      rw [if_pos e1, e0]
      exact back_core hr hx hp hy
    rw [hput]
  · have hmay : mayZ m F n p n = 5 := by
      rw [hmz]
      unfold refuseE
      rw [if_neg (by rw [hov]; simp [hk2]), if_neg (by simp), if_neg (by rcases hkn with e | e <;> rw [e] <;> decide)]
      have h4 : docTakesB F n p (-1) = false := by
        unfold docTakesB
        rw [hparts, kidsK_get hy, countNe_all (kids_nat hr hy)]
        have : 0 < y.kids.length := List.length_pos_of_mem hmem
        rw [decide_eq_false (by show ¬ y.kids.length + [(n : Int)].length ≤ 1; rw [List.length_singleton]; omega), Bool.and_false]
      rw [if_pos ⟨by rw [kindK_at hy]; exact hk, h4⟩]
    unfold insZ
    rw [hmay, if_neg (by decide)]
end Go.Proofs.YtbgcpgpkhfbijaaGreatDoor
/- More plain facts on lists of attributes: set twice, set and removed, set in either order. -/
namespace Go.Proofs.YtbgcpgpkhfbijaaGreatDoor
theorem setA_right {L : AL} {n : List UInt8} {v : ByteArray} (h : setE L n v = 0) : rightA (setA L n v) = true := by rw [setA_eq h]; exact setL_right h
theorem look_A_same {L : AL} {n : List UInt8} {v : ByteArray} (h : setE L n v = 0) : lookA (setA L n v) (smallL n) = some v := by rw [setA_eq h]; exact look_set_same v
theorem look_A_other {L : AL} {n k : List UInt8} {v : ByteArray} (h : setE L n v = 0) (hk : k ≠ smallL n) : lookA (setA L n v) k = lookA L k := by rw [setA_eq h]; exact look_set_other v hk
theorem back_has {L : AL} {n : List UInt8} {v : ByteArray} (h : setE L n v = 0) : hasA (setA L n v) n = true ∧ valA (setA L n v) n = v := by
  have h1 : hasA (setA L n v) n = true := by rw [has_iff, setA_right h, (set_parts h).2.1, look_A_same h]; rfl
  exact ⟨h1, by rw [val_iff, if_pos h1, look_A_same h]; rfl⟩
theorem back_small {L : AL} {n : List UInt8} {v : ByteArray} (h : setE L n v = 0) : hasA (setA L n v) (smallL n) = true ∧ valA (setA L n v) (smallL n) = v := by
  have h1 : hasA (setA L n v) (smallL n) = true := by rw [has_iff, setA_right h, right_small, (set_parts h).2.1, smallL_twice, look_A_same h]; rfl
  exact ⟨h1, by rw [val_iff, if_pos h1, smallL_twice, look_A_same h]; rfl⟩
theorem long_size {L : AL} {n : List UInt8} {v : ByteArray} (h : longA L n v = false) : v.size ≤ 200 := by
  unfold longA at h
  simp at h
  omega
theorem set_again {L : AL} {n : List UInt8} {v : ByteArray} (h : setE L n v = 0) : setE (setA L n v) n v = 0 ∧ setA (setA L n v) n v = setA L n v := by
  have hr := setA_right h
  have hp := (hasA_right (back_has h).1).2.2
  have hl : longA (setA L n v) n v = false := by
    unfold longA
    have := long_size (set_parts h).2.2
    rw [decide_eq_false (by omega), decide_eq_false (by omega)]
    rfl
  have he : setE (setA L n v) n v = 0 := by
    unfold setE
    rw [if_pos hr, if_pos (set_parts h).2.1, if_neg (by rw [hl]; decide)]
  refine ⟨he, ?_⟩
  rw [setA_eq he]
  unfold setL
  rw [if_pos hp]
  obtain ⟨x, hx, hk⟩ := place_key hp
  have hv := look_A_same h
  unfold lookA at hv
  rw [← atN_get] at hv
  unfold placeA at hx hp ⊢
  rw [hx] at hv
  simp at hv
  have : x = (ofL (smallL n), v) := Prod.ext hk hv
  rw [← this]
  obtain ⟨hl2, hg⟩ := List.getElem?_eq_some_iff.1 hx
  rw [← hg]
  exact List.set_getElem_self hl2
theorem filter_no {L : AL} {n : List UInt8} (h : ∀ x ∈ L, keyA x ≠ smallL n) : L.filter (offQ n) = L := by
  rw [List.filter_eq_self]
  intro x hx
  unfold offQ
  have : keyIs (smallL n) x = false := by
    by_cases hk : keyIs (smallL n) x = true
    · exact absurd (keyIs_iff.1 hk) (h x hx)
    · simpa using hk
  rw [this]
  rfl
theorem filter_one {L : AL} {n : List UInt8} (hn : (L.map keyA).Nodup) (h : ∃ x ∈ L, keyA x = smallL n) : (L.filter (offQ n)).length + 1 = L.length := by
  induction L with
  | nil => obtain ⟨x, hx, _⟩ := h; simp at hx
  | cons y r ih =>
    rw [List.map_cons, List.nodup_cons] at hn
    by_cases hy : keyA y = smallL n
    · have hno : ∀ x ∈ r, keyA x ≠ smallL n := by
        intro x hx he
        exact hn.1 (List.mem_map.2 ⟨x, hx, he.trans hy.symm⟩)
      have hq : offQ n y = false := by unfold offQ; rw [keyIs_iff.2 hy]; rfl
      rw [List.filter_cons, if_neg (by rw [hq]; decide), filter_no hno]
      rfl
    · have hq : offQ n y = true := by
        unfold offQ
        have : keyIs (smallL n) y = false := by
          by_cases hk : keyIs (smallL n) y = true
          · exact absurd (keyIs_iff.1 hk) hy
          · simpa using hk
        rw [this]; rfl
      rw [List.filter_cons, if_pos hq, List.length_cons, List.length_cons]
      have := ih hn.2 (by
        obtain ⟨x, hx, he⟩ := h
        rcases List.mem_cons.1 hx with rfl | hx
        · exact absurd he hy
        · exact ⟨x, hx, he⟩)
      omega
theorem has_mem {L : AL} {n : List UInt8} (h : hasA L n = true) : ∃ x ∈ L, keyA x = smallL n := by
  obtain ⟨x, hx, hk⟩ := place_key (hasA_right h).2.2
  exact ⟨x, List.mem_of_getElem? hx, by rw [show keyA x = x.1.toList from rfl, hk, toList_ofL]⟩
theorem back_len {L : AL} {n : List UInt8} {v : ByteArray} (h : setE L n v = 0) : (remA (setA L n v) n).length + 1 = (setA L n v).length := by
  have hh := (back_has h).1
  rw [remA_yes hh]
  exact filter_one ((right_iff _).1 (setA_right h)).2.2 (has_mem hh)
theorem back_rem {L : AL} {n : List UInt8} {v : ByteArray} (h : setE L n v = 0) (hn : hasA L n = false) : remA (setA L n v) n = L := by
  rw [remA_yes (back_has h).1, setA_eq h]
  have hp : ¬ placeA L n < L.length := by
    intro hp
    unfold hasA at hn
    rw [(set_parts h).1, (set_parts h).2.1, decide_eq_true hp] at hn
    cases hn
  unfold setL
  rw [if_neg hp, List.filter_append, filter_no (place_none hp)]
  have : offQ n (ofL (smallL n), v) = false := by unfold offQ; rw [keyIs_iff.2 (key_ofL _ _)]; rfl
  rw [List.filter_cons, if_neg (by rw [this]; decide)]
  simp
theorem other_M {L : AL} {n o : List UInt8} {v : ByteArray} (h : setE L n v = 0) (ho : smallL o ≠ smallL n) : hasA (setA L n v) o = hasA L o ∧ valA (setA L n v) o = valA L o := by
  have h1 : hasA (setA L n v) o = hasA L o := by rw [has_iff, has_iff, setA_right h, (set_parts h).1, look_A_other h ho]
  exact ⟨h1, by rw [val_iff, val_iff, h1, look_A_other h ho]⟩
theorem other_R {L : AL} {n o : List UInt8} {v : ByteArray} (h : setE L n v = 0) (ho : smallL o ≠ smallL n) : hasA (remA (setA L n v) n) o = hasA L o ∧ valA (remA (setA L n v) n) o = valA L o := by
  rw [remA_yes (back_has h).1]
  have h1 : hasA ((setA L n v).filter (offQ n)) o = hasA L o := by rw [has_iff, has_iff, filter_right _ (setA_right h), (set_parts h).1, look_filter ho, look_A_other h ho]
  exact ⟨h1, by rw [val_iff, val_iff, h1, look_filter ho, look_A_other h ho]⟩
end Go.Proofs.YtbgcpgpkhfbijaaGreatDoor
/- instarref02's Short. -/
namespace Go.Proofs.YtbgcpgpkhfbijaaGreatDoor
open Go.RowKit
end Go.Proofs.YtbgcpgpkhfbijaaGreatDoor
/- What is asked of package attr's functions: their contracts, as one property. -/
namespace Go.Proofs.YtbgcpgpkhfbijaaGreatDoor
open Go.RowKit
/-- Is an attribute among those of a list, by name and value? -/
def pairIn (M : AL) (x : ByteArray × ByteArray) : Bool := match M[atN M x.1.toList]? with | some y => y.2.toList == x.2.toList | none => false
def alikeA (L M : AL) : Bool := rightA L && rightA M && decide (L.length = M.length) && L.all (pairIn M)
theorem setA_grow (L : AL) (n : List UInt8) (v : ByteArray) : (setA L n v).length ≤ L.length + 1 := by
  unfold setA
  by_cases h : setE L n v = 0
  · rw [if_pos h]
    unfold setL
    by_cases h2 : placeA L n < L.length
    · rw [if_pos h2, List.length_set]; omega
    · rw [if_neg h2, List.length_append]; simp
  · rw [if_neg h]; omega
structure AttrFns : Prop where
  right : ∀ (a : Option Addr) (len cap : Nat) (L : AL) (w : World), AttrRow w a len cap L →
    Calls Tryz.prog 164 #[.slice a len cap] w fun e w' => e = .returned (.bool (rightA L)) ∧ Below w.heap.size w w'
  get : ∀ (a : Option Addr) (len cap : Nat) (L : AL) (n : ByteArray) (w : World), AttrRow w a len cap L → n.size ≤ maxLen →
    Calls Tryz.prog 78 #[.slice a len cap, .string n] w fun e w' => e = .returned (.tuple #[.string (valA L n.toList), .bool (hasA L n.toList)]) ∧ Below w.heap.size w w'
  set : ∀ (a : Option Addr) (len cap : Nat) (L : AL) (n v : ByteArray) (w : World), AttrRow w a len cap L → n.size ≤ maxLen → v.size ≤ maxLen → L.length ≤ 1000 →
    Calls Tryz.prog 73 #[.slice a len cap, .string n, .string v] w (SetPost w (setA L n.toList v) (setE L n.toList v))
  remove : ∀ (a : Option Addr) (len cap : Nat) (L : AL) (n : ByteArray) (w : World), AttrRow w a len cap L → n.size ≤ maxLen → L.length ≤ 1000 →
    Calls Tryz.prog 76 #[.slice a len cap, .string n] w (RemPost w (remA L n.toList) (hasA L n.toList))
  toggle : ∀ (a : Option Addr) (len cap : Nat) (L : AL) (n : ByteArray) (f : Int) (w : World), AttrRow w a len cap L → n.size ≤ maxLen → L.length ≤ 1000 →
    Calls Tryz.prog 77 #[.slice a len cap, .string n, .int .i64 f] w (TogPost w (togA L n.toList f) (togB L n.toList f) (togE L n.toList f))
  alike : ∀ (a a' : Option Addr) (len cap len' cap' : Nat) (L M : AL) (w : World), AttrRow w a len cap L → AttrRow w a' len' cap' M →
    Calls Tryz.prog 148 #[.slice a len cap, .slice a' len' cap'] w fun e w' => e = .returned (.bool (alikeA L M)) ∧ Below w.heap.size w w'
end Go.Proofs.YtbgcpgpkhfbijaaGreatDoor
/- Plain facts on lists of attributes: two unlike names may be set in either order; lists that are alike. -/
namespace Go.Proofs.YtbgcpgpkhfbijaaGreatDoor
theorem place_look (L : AL) (n : List UInt8) : placeA L n < L.length ↔ (lookA L (smallL n)).isSome = true := by
  have h := atN_get L (smallL n)
  unfold lookA placeA
  rw [← h]
  by_cases hp : atN L (smallL n) < L.length
  · rw [List.getElem?_eq_getElem hp]; simp [hp]
  · rw [List.getElem?_eq_none (by omega)]; simp [hp]
theorem setL_len (L : AL) (n : List UInt8) (v : ByteArray) : (setL L n v).length = L.length + (if placeA L n < L.length then 0 else 1) := by
  unfold setL
  by_cases hp : placeA L n < L.length
  · rw [if_pos hp, if_pos hp, List.length_set]; rfl
  · rw [if_neg hp, if_neg hp, List.length_append]; rfl
theorem place_other {L : AL} {a b : List UInt8} (x : ByteArray) (h : smallL a ≠ smallL b) : placeA (setL L a x) b < (setL L a x).length ↔ placeA L b < L.length := by
  rw [place_look, place_look, look_set_other x (Ne.symm h)]
theorem long_iff (L : AL) (n : List UInt8) (v : ByteArray) : longA L n v = true ↔ 200 < v.size ∨ (¬ placeA L n < L.length ∧ 40 ≤ L.length) := by
  unfold longA
  simp
theorem setE_zero (L : AL) (n : List UInt8) (v : ByteArray) : setE L n v = 0 ↔ rightA L = true ∧ rightL n = true ∧ ¬ (200 < v.size ∨ (¬ placeA L n < L.length ∧ 40 ≤ L.length)) := by
  constructor
  · intro h
    obtain ⟨h1, h2, h3⟩ := set_parts h
    refine ⟨h1, h2, fun hl => ?_⟩
    rw [(long_iff L n v).2 hl] at h3
    cases h3
  · rintro ⟨h1, h2, h3⟩
    have : longA L n v = false := by
      by_cases h : longA L n v = true
      · exact absurd ((long_iff L n v).1 h) h3
      · simpa using h
    unfold setE
    rw [if_pos h1, if_pos h2, if_neg (by rw [this]; decide)]
theorem setE_three {L : AL} {n : List UInt8} {v : ByteArray} (h1 : rightA L = true) (h2 : rightL n = true) (h3 : 200 < v.size ∨ (¬ placeA L n < L.length ∧ 40 ≤ L.length)) : setE L n v = 3 := by
  unfold setE
  rw [if_pos h1, if_pos h2, if_pos ((long_iff L n v).2 h3)]
/-- If the first can't be set at once, it can't behind another one. -/
theorem order_first {L : AL} {a b : List UInt8} (x y : ByteArray) (h : smallL a ≠ smallL b) (he : ¬ setE L a x = 0) : ¬ setE (setA L b y) a x = 0 := by
  intro hh
  by_cases hg : setE L b y = 0
  · rw [setA_eq hg] at hh
    obtain ⟨g1, g2, g3⟩ := (setE_zero L b y).1 hg
    obtain ⟨k1, k2, k3⟩ := (setE_zero _ a x).1 hh
    rw [place_other y (Ne.symm h), setL_len] at k3
    apply he
    rw [setE_zero]
    refine ⟨g1, k2, fun hl => k3 ?_⟩
    rcases hl with hl | ⟨hl1, hl2⟩
    · exact .inl hl
    · refine .inr ⟨hl1, ?_⟩
      omega
  · rw [setA_ne hg] at hh
    exact he hh
theorem order_full {L : AL} {a b : List UInt8} {x y : ByteArray} (h : smallL a ≠ smallL b) (he : setE L a x = 0) (hg : setE L b y = 0) (hf : ¬ setE (setA L a x) b y = 0) :
    setE (setA L a x) b y = 3 ∧ setE (setA L b y) a x = 3 := by
  have r1 := setA_right he
  have r2 := setA_right hg
  rw [setA_eq he] at hf r1 ⊢
  rw [setA_eq hg] at r2 ⊢
  obtain ⟨e1, e2, e3⟩ := (setE_zero L a x).1 he
  obtain ⟨g1, g2, g3⟩ := (setE_zero L b y).1 hg
  have hfull : ¬ placeA L b < L.length ∧ 40 ≤ (setL L a x).length := by
    by_cases hc : 200 < y.size ∨ (¬ placeA (setL L a x) b < (setL L a x).length ∧ 40 ≤ (setL L a x).length)
    · rw [place_other x h] at hc
      rcases hc with hc | hc
      · exact absurd (.inl hc) g3
      · exact hc
    · exact absurd ((setE_zero _ b y).2 ⟨r1, g2, hc⟩) hf
  rw [setL_len] at hfull
  have hpa : ¬ placeA L a < L.length ∧ L.length = 39 := by
    by_cases hp : placeA L a < L.length
    · rw [if_pos hp] at hfull
      exact absurd (.inr ⟨hfull.1, hfull.2⟩) g3
    · rw [if_neg hp] at hfull
      refine ⟨hp, ?_⟩
      have : ¬ (40 ≤ L.length) := fun h40 => g3 (.inr ⟨hfull.1, h40⟩)
      omega
  refine ⟨setE_three r1 g2 (.inr ⟨by rw [place_other x h]; exact hfull.1, ?_⟩), setE_three r2 e2 (.inr ⟨by rw [place_other y (Ne.symm h)]; exact hpa.1, ?_⟩)⟩
  · rw [setL_len, if_neg hpa.1]; omega
  · rw [setL_len, if_neg hfull.1]; omega
theorem look_mem {L : AL} {x : ByteArray × ByteArray} (hr : rightA L = true) (hx : x ∈ L) : lookA L (keyA x) = some x.2 := by
  obtain ⟨k, hk, he⟩ := List.mem_iff_getElem.1 hx
  have hg : L[k]? = some x := by rw [List.getElem?_eq_getElem hk, he]
  have := (nodup_at L).2 ((right_iff L).1 hr).2.2 k x hg
  unfold lookA
  rw [← atN_get, this, hg]
  rfl
theorem pairIn_iff {M : AL} {x : ByteArray × ByteArray} : pairIn M x = true ↔ lookA M (keyA x) = some x.2 := by
  unfold pairIn lookA
  have e := atN_get M x.1.toList
  rw [e]
  show (match List.find? (keyIs (keyA x)) M with | some y => y.2.toList == x.2.toList | none => false) = true ↔ _
  cases List.find? (keyIs (keyA x)) M with
  | none => simp
  | some y =>
    simp
    constructor
    · intro h; exact toList_inj h
    · intro h; rw [h]
theorem alike_look {N P : AL} (hn : rightA N = true) (hp : rightA P = true) (hl : N.length = P.length) (h : ∀ k, lookA N k = lookA P k) : alikeA N P = true := by
  unfold alikeA
  rw [hn, hp, decide_eq_true hl]
  simp only [Bool.true_and]
  rw [List.all_eq_true]
  intro x hx
  rw [pairIn_iff, ← h]
  exact look_mem hn hx
theorem order_look {L : AL} {a b : List UInt8} (x y : ByteArray) (h : smallL a ≠ smallL b) (k : List UInt8) : lookA (setL (setL L a x) b y) k = lookA (setL (setL L b y) a x) k := by
  by_cases ha : k = smallL a
  · subst ha
    rw [look_set_other y h, look_set_same, look_set_same]
  · by_cases hb : k = smallL b
    · subst hb
      rw [look_set_same, look_set_other x (Ne.symm h), look_set_same]
    · rw [look_set_other y hb, look_set_other x ha, look_set_other x ha, look_set_other y hb]
theorem setL_len2 {L : AL} {a b : List UInt8} (x y : ByteArray) (h : smallL a ≠ smallL b) : (setL (setL L a x) b y).length = L.length + (if placeA L a < L.length then 0 else 1) + (if placeA L b < L.length then 0 else 1) := by
  have e : (if placeA (setL L a x) b < (setL L a x).length then 0 else 1) = (if placeA L b < L.length then 0 else 1) := by
    by_cases hb : placeA L b < L.length
    · rw [if_pos hb, if_pos ((place_other x h).2 hb)]
    · rw [if_neg hb, if_neg (fun k => hb ((place_other x h).1 k))]
  rw [setL_len (setL L a x) b y, e, setL_len L a x]
theorem order_len {L : AL} {a b : List UInt8} (x y : ByteArray) (h : smallL a ≠ smallL b) : (setL (setL L a x) b y).length = (setL (setL L b y) a x).length := by
  rw [setL_len2 x y h, setL_len2 y x (Ne.symm h)]
  omega
theorem order_alike {L : AL} {a b : List UInt8} {x y : ByteArray} (h : smallL a ≠ smallL b) (he : setE L a x = 0) (hf : setE (setA L a x) b y = 0) (hg : setE L b y = 0) (hh : setE (setA L b y) a x = 0) :
    alikeA (setA (setA L a x) b y) (setA (setA L b y) a x) = true ∧ alikeA (setA (setA L b y) a x) (setA (setA L a x) b y) = true := by
  have r1 := setA_right hf
  have r2 := setA_right hh
  rw [setA_eq hf, setA_eq he] at r1 ⊢
  rw [setA_eq hh, setA_eq hg] at r2 ⊢
  exact ⟨alike_look r1 r2 (order_len x y h) (order_look x y h), alike_look r2 r1 (order_len x y h).symm (fun k => (order_look x y h k).symm)⟩
end Go.Proofs.YtbgcpgpkhfbijaaGreatDoor
/- The law MoveAgain, over data: set twice, toggled twice. Plain mathematics, no program. -/
namespace Go.Proofs.YtbgcpgpkhfbijaaGreatDoor
open Go.RowKit
theorem chg_same {F : List Core} {n : Nat} {x : Core} (hx : F[n]? = some x) (l : AL) (hl : l = x.attrs) : chgF F n l = F := by
  apply List.ext_getElem?
  intro j
  cases hj : F[j]? with
  | none =>
    have h1 := List.getElem?_eq_none_iff.1 hj
    exact List.getElem?_eq_none (by rw [chg_len]; exact h1)
  | some c =>
    rw [chg_at hj]
    by_cases e : j = n
    · subst e
      rw [if_pos rfl, hl]
      obtain rfl := Option.some.inj (hx.symm.trans hj)
      rfl
    · rw [if_neg e]
theorem chg_chg {F : List Core} {n : Nat} {l l2 : AL} : chgF (chgF F n l) n l2 = chgF F n l2 := by
  apply List.ext_getElem?
  intro j
  cases hj : F[j]? with
  | none =>
    have h1 := List.getElem?_eq_none_iff.1 hj
    rw [List.getElem?_eq_none (by rw [chg_len, chg_len]; exact h1), List.getElem?_eq_none (by rw [chg_len]; exact h1)]
  | some c =>
    rw [chg_at hj, chg_at (chg_at hj)]
    by_cases e : j = n
    · rw [if_pos e, if_pos e, if_pos e]; rfl
    · rw [if_neg e, if_neg e, if_neg e]
/-- An element, and the same with another list. -/
theorem chg_elem {m : Int} {F : List Core} {n : Nat} {l : AL} (h : elemE m F n = 0) (hl : rightA l = true) : elemE m (chgF F n l) n = 0 ∧ attrsK (chgF F n l) n = l := by
  obtain ⟨h1, h2⟩ := elemE_ok h
  obtain ⟨hr, k, e, hk⟩ := there_nat h1
  obtain rfl : n = k := by omega
  have hx : F[n]? = some F[n] := List.getElem?_eq_getElem hk
  have hG := chg_right (l := l) hr h2 hl
  refine ⟨?_, ?_⟩
  · unfold elemE
    rw [thereF_of hG (by rw [chg_len]; exact hk), if_pos rfl, chg_kindK, if_pos h2]
  · rw [attrsK_at (chg_at hx), if_pos rfl]
    rfl
theorem set_ok {m : Int} {F : List Core} {n : Nat} {s : List UInt8} {v : ByteArray} (h : elemE m F n = 0) (hs : setE (attrsK F n) s v = 0) : setZ m F n s v = (chgF F n (setA (attrsK F n) s v), [chgN n s (attrsK F n) (setA (attrsK F n) s v)], 0) := by
  unfold setZ chgZ
  rw [if_pos h, if_pos hs, Int.toNat_natCast]
theorem set_twice {m : Int} {F : List Core} {n : Nat} {s : List UInt8} {v : ByteArray} (h : elemE m F n = 0) (hs : setE (attrsK F n) s v = 0) :
    setZ m (chgF F n (setA (attrsK F n) s v)) n s v = (chgF F n (setA (attrsK F n) s v), [chgN n s (setA (attrsK F n) s v) (setA (attrsK F n) s v)], 0) := by
  obtain ⟨h1, h2⟩ := chg_elem h (setA_right hs)
  obtain ⟨h3, h4⟩ := set_again hs
  rw [set_ok h1 (by rw [h2]; exact h3), h2, h4, chg_chg]
theorem tog_one {m : Int} {F : List Core} {n : Nat} {s : List UInt8} {v : ByteArray} (h : elemE m F n = 0) (hs : setE (attrsK F n) s v = 0) (hh : hasA (attrsK F n) s = false) :
    setE (attrsK F n) s (ofL []) = 0 ∧ togZ m F n s 0 = (chgF F n (setA (attrsK F n) s (ofL [])), [chgN n s (attrsK F n) (setA (attrsK F n) s (ofL []))], 0) := by
  obtain ⟨h1, h2, h3⟩ := (setE_zero _ _ _).1 hs
  have h4 : setE (attrsK F n) s (ofL []) = 0 := (setE_zero _ _ _).2 ⟨h1, h2, fun e => h3 (e.imp (fun e => by rw [size_ofL] at e; exact absurd e (by decide)) id)⟩
  refine ⟨h4, ?_⟩
  have e1 : togE (attrsK F n) s 0 = 0 := by unfold togE; rw [if_pos h1, if_pos h2, hh, if_neg (by decide), if_neg (by decide), h4]
  have e2 : togB (attrsK F n) s 0 = true := by unfold togB; rw [h1, h2, hh]; simp [h4]
  have e3 : togA (attrsK F n) s 0 = setA (attrsK F n) s (ofL []) := by unfold togA; rw [h1, h2, hh]; simp
  unfold togZ chgZ
  rw [if_pos h, if_pos e1, hh, e2, if_pos (show (false != true) = true from rfl), e3, Int.toNat_natCast]
theorem tog_two {m : Int} {F : List Core} {n : Nat} {s : List UInt8} {v : ByteArray} (h : elemE m F n = 0) (hs : setE (attrsK F n) s v = 0) (hh : hasA (attrsK F n) s = false) :
    togZ m (chgF F n (setA (attrsK F n) s (ofL []))) n s 0 = (F, [chgN n s (setA (attrsK F n) s (ofL [])) (attrsK F n)], 0) := by
  obtain ⟨h4, _⟩ := tog_one h hs hh
  obtain ⟨h1, h2⟩ := chg_elem h (setA_right h4)
  obtain ⟨b1, b2⟩ := back_has h4
  have hr := setA_right h4
  have hrn := (set_parts h4).2.1
  have hrem := back_rem h4 hh
  obtain ⟨hF, k, e, hk⟩ := there_nat (elemE_ok h).1
  obtain rfl : n = k := by omega
  have hx : F[n]? = some F[n] := List.getElem?_eq_getElem hk
  have e1 : togE (setA (attrsK F n) s (ofL [])) s 0 = 0 := by unfold togE; rw [if_pos hr, if_pos hrn, b1, if_pos rfl]
  have e2 : togB (setA (attrsK F n) s (ofL [])) s 0 = false := by unfold togB; rw [hr, hrn, b1]; rfl
  have e3 : togA (setA (attrsK F n) s (ofL [])) s 0 = attrsK F n := by unfold togA; rw [hr, hrn, b1]; simpa using hrem
  unfold togZ chgZ
  rw [if_pos h1, h2, if_pos e1, b1, e2, if_pos (show (true != false) = true from rfl), e3, Int.toNat_natCast, chg_chg, chg_same hx _ (attrsK_at hx)]
end Go.Proofs.YtbgcpgpkhfbijaaGreatDoor
/- The law MoveAgain, over data: what its walk asks. -/
namespace Go.Proofs.YtbgcpgpkhfbijaaGreatDoor
open Go.RowKit
theorem set_err {m : Int} {F : List Core} {n : Int} {s : List UInt8} {v : ByteArray} (h : ¬ (elemE m F n = 0 ∧ setE (attrsK F n) s v = 0)) : ∃ E, E ≠ 0 ∧ setZ m F n s v = (F, [], E) := by
  unfold setZ
  by_cases h1 : elemE m F n = 0
  · have h2 : setE (attrsK F n) s v ≠ 0 := fun e => h ⟨h1, e⟩
    exact ⟨_, h2, by rw [if_pos h1, if_neg h2]⟩
  · exact ⟨_, h1, by rw [if_neg h1]⟩
/-- What MoveAgain asks of its element, of what it is set to, and of what it is toggled to. -/
theorem again_set {m : Int} {F : List Core} {n : Nat} {s : List UInt8} {v : ByteArray} (h : elemE m F n = 0) (hs : setE (attrsK F n) s v = 0) :
    ∃ G nm had old, setZ m F n s v = (G, [⟨4, n, 0, 0, nm, had, true, old, v⟩], 0) ∧ setZ m G n s v = (G, [⟨4, n, 0, 0, nm, true, true, v, v⟩], 0) ∧
      (had = false → ∃ T x1 x2, togZ m F n s 0 = (T, x1, 0) ∧ togZ m T n s 0 = (F, [⟨4, n, 0, 0, nm, true, false, x2, valA (attrsK F n) s⟩], 0)) := by
  obtain ⟨b1, b2⟩ := back_has hs
  refine ⟨chgF F n (setA (attrsK F n) s v), ofL (smallL s), hasA (attrsK F n) s, valA (attrsK F n) s, ?_, ?_, fun hh => ?_⟩
  · rw [set_ok h hs]
    unfold chgN
    rw [b1, b2]
  · rw [set_twice h hs]
    unfold chgN
    rw [b1, b2]
  · obtain ⟨h4, h5⟩ := tog_one h hs hh
    obtain ⟨c1, c2⟩ := back_has h4
    refine ⟨_, _, valA (setA (attrsK F n) s (ofL [])) s, h5, ?_⟩
    rw [tog_two h hs hh]
    unfold chgN
    rw [c1, hh]
end Go.Proofs.YtbgcpgpkhfbijaaGreatDoor
/- The law MoveAgain's walk: contracts. -/
namespace Go.Proofs.YtbgcpgpkhfbijaaGreatDoor
open Go.RowKit
/-- Two forests of the same data are the same. -/
theorem same_is (W : World) (m : Int) (a1 : Option Addr) (l1 c1 : Nat) (M1 : List NodeD) (a2 : Option Addr) (l2 c2 : Nat) (M2 : List NodeD) (h1 : NodeRow W a1 l1 c1 M1) (h2 : NodeRow W a2 l2 c2 M2) (he : coreL M1 = coreL M2) :
    Calls Tryz.prog 31 #[forV a1 l1 c1 m, forV a2 l2 c2 m] W fun e w' => e = .returned (.bool true) ∧ Below W.heap.size W w' := by
  have := refsameF_any a1 a2 l1 c1 l2 c2 m m M1 M2 W h1 h2
  rw [decide_eq_true he, decide_eq_true (rfl : m = m), Bool.and_self] at this
  exact this
/-- Set, by what it comes to. -/
theorem mset_to {m : Int} {F : List Core} {n : Int} {s v : ByteArray} {R : List Core × List NoteD × Int} (hR : setZ m F n s.toList v = R) (W : World) (a : Option Addr) (len cap : Nat) (M : List NodeD) (h : NodeRow W a len cap M) (hc : coreL M = F) (hs : smallF M) (hm : In64 m) (hn : In64 n) (hsz : s.size ≤ maxLen) (hvz : v.size ≤ maxLen) (hg : ErrVar W) :
    Calls Tryz.prog 24 #[forV a len cap m, .int .i64 n, .string s, .string v] W (MvPost W m R) := by
  rw [← hR, ← hc]
  exact mset_any a len cap m M n s v W h hm hn hsz hvz hs hg
/-- Toggle, by what it comes to. -/
theorem mtog_to {m : Int} {F : List Core} {n : Int} {s : ByteArray} {f : Int} {R : List Core × List NoteD × Int} (hR : togZ m F n s.toList f = R) (W : World) (a : Option Addr) (len cap : Nat) (M : List NodeD) (h : NodeRow W a len cap M) (hc : coreL M = F) (hs : smallF M) (hm : In64 m) (hn : In64 n) (hsz : s.size ≤ maxLen) (hg : ErrVar W) :
    Calls Tryz.prog 26 #[forV a len cap m, .int .i64 n, .string s, .int .i64 f] W (MvPost W m R) := by
  rw [← hR, ← hc]
  exact mtoggle_any a len cap m M n s f W h hm hn hsz hs hg
/-- Insert, by what it comes to. -/
theorem mins_to {m : Int} {F : List Core} {n p c : Int} {R : List Core × List NoteD × Int} (hR : insZ m F n p c = R) (W : World) (a : Option Addr) (len cap : Nat) (M : List NodeD) (h : NodeRow W a len cap M) (hc : coreL M = F) (hs : smallF M) (hm : In64 m) (hn : In64 n) (hp : In64 p) (hcc : In64 c) (hg : ErrVar W) :
    Calls Tryz.prog 15 #[forV a len cap m, .int .i64 n, .int .i64 p, .int .i64 c] W (MvPost W m R) := by
  rw [← hR, ← hc]
  exact minsert_any a len cap m M n p c W h hm hn hp hcc hs hg
end Go.Proofs.YtbgcpgpkhfbijaaGreatDoor
/- The law MoveAgain's walk. -/
namespace Go.Proofs.YtbgcpgpkhfbijaaGreatDoor
open Go.RowKit
set_option maxHeartbeats 16000000 in
set_option maxRecDepth 100000 in
theorem moveAgain_walk (a : Option Addr) (len cap : Nat) (m : Int) (L : List NodeD) (x : Int) (s v : ByteArray) (w : World) (h : NodeRow w a len cap L) (hm : In64 m) (hx : 0 ≤ x ∧ x ≤ 255) (hsz : s.size ≤ maxLen) (hvz : v.size ≤ maxLen) (hg : ErrVar w) :
    Calls Tryz.prog 8 #[forV a len cap m, .int .u8 x, .string s, .string v] w fun e w' => e = .returned (.bool true) ∧ Below w.heap.size w w' := by
  have AW := Lib.hid (fun W h => awake6_any W h)
  have BX := Lib.hid (Box.start (m := m) h)
  have hl0 := h.len64
  have HL := Lib.hid h.hlen
  have HM := Lib.hid hm
  have HH := Lib.hid h
  have HG := Lib.hid hg
  have HSZ := Lib.hid hsz
  have HVZ := Lib.hid hvz
  have hs64 : (s.size : Int) ≤ 9223372036854775807 := by unfold maxLen at hsz; omega
  have hv64 : (v.size : Int) ≤ 9223372036854775807 := by unfold maxLen at hvz; omega
  have z0 := BX.out.c0
  have z1 := BX.out.c1
  clear h hm hg hsz hvz
  cases c0 : shortF L with
  | false =>
    have C0 := Lib.hid c0
    go_enter Tryz.func8, Tryz.ntmps8
    go_wp2_with (first
                    | (go_at_call 13; (with_reducible refine (AW.out _ (HG.out.keep BX.out.below)).mono ?_); rintro e w1 ⟨rfl, hb⟩; have BX := Lib.hid (BX.out.keep hb); have z0 := BX.out.c0; have z1 := BX.out.c1; clear hb)
                    | (go_at_call 14; (with_reducible refine (refshortF_any _ _ _ _ _ _ BX.out.row).mono ?_); rintro e w1 ⟨rfl, hb⟩; have BX := Lib.hid (BX.out.keep hb); have z0 := BX.out.c0; have z1 := BX.out.c1; clear hb)
                    | (go_at_call 30; (with_reducible refine (HR.out _ BX.out.row).mono ?_); rintro e w1 ⟨rfl, hb⟩; have BX := Lib.hid (BX.out.keep hb); have z0 := BX.out.c0; have z1 := BX.out.c1; clear hb))
    go_ret
    exact ⟨rfl, BX.out.below⟩
  | true =>
    have SM := Lib.hid (small_of_short c0)
    cases c1 : rightF m (coreL L) with
    | false =>
      have HR : Hid (∀ W, NodeRow W a len cap L → Calls Tryz.prog 30 #[forV a len cap m] W fun e w' => e = .returned (.bool false) ∧ Below W.heap.size W w') := Lib.hid (fun W h => by
        have := rightF_any a len cap m L W h HM.out SM.out
        rwa [c1] at this)
      clear c1
      go_enter Tryz.func8, Tryz.ntmps8
      go_wp2_with (first
                      | (go_at_call 13; (with_reducible refine (AW.out _ (HG.out.keep BX.out.below)).mono ?_); rintro e w1 ⟨rfl, hb⟩; have BX := Lib.hid (BX.out.keep hb); have z0 := BX.out.c0; have z1 := BX.out.c1; clear hb)
                      | (go_at_call 14; (with_reducible refine (refshortF_any _ _ _ _ _ _ BX.out.row).mono ?_); rintro e w1 ⟨rfl, hb⟩; have BX := Lib.hid (BX.out.keep hb); have z0 := BX.out.c0; have z1 := BX.out.c1; clear hb)
                      | (go_at_call 30; (with_reducible refine (HR.out _ BX.out.row).mono ?_); rintro e w1 ⟨rfl, hb⟩; have BX := Lib.hid (BX.out.keep hb); have z0 := BX.out.c0; have z1 := BX.out.c1; clear hb))
      go_ret
      exact ⟨rfl, BX.out.below⟩
    | true =>
      have HR : Hid (∀ W, NodeRow W a len cap L → Calls Tryz.prog 30 #[forV a len cap m] W fun e w' => e = .returned (.bool true) ∧ Below W.heap.size W w') := Lib.hid (fun W h => by
        have := rightF_any a len cap m L W h HM.out SM.out
        rwa [c1] at this)
      have hr := c1
      clear c1
      by_cases hs3 : 300 < (s.size : Int)
      · clear hr
        go_enter Tryz.func8, Tryz.ntmps8
        go_wp2_with (first
                        | (go_at_call 13; (with_reducible refine (AW.out _ (HG.out.keep BX.out.below)).mono ?_); rintro e w1 ⟨rfl, hb⟩; have BX := Lib.hid (BX.out.keep hb); have z0 := BX.out.c0; have z1 := BX.out.c1; clear hb)
                        | (go_at_call 14; (with_reducible refine (refshortF_any _ _ _ _ _ _ BX.out.row).mono ?_); rintro e w1 ⟨rfl, hb⟩; have BX := Lib.hid (BX.out.keep hb); have z0 := BX.out.c0; have z1 := BX.out.c1; clear hb)
                        | (go_at_call 30; (with_reducible refine (HR.out _ BX.out.row).mono ?_); rintro e w1 ⟨rfl, hb⟩; have BX := Lib.hid (BX.out.keep hb); have z0 := BX.out.c0; have z1 := BX.out.c1; clear hb))
        go_ret
        exact ⟨rfl, BX.out.below⟩
      by_cases hv3 : 300 < (v.size : Int)
      · clear hr
        go_enter Tryz.func8, Tryz.ntmps8
        go_wp2_with (first
                        | (go_at_call 13; (with_reducible refine (AW.out _ (HG.out.keep BX.out.below)).mono ?_); rintro e w1 ⟨rfl, hb⟩; have BX := Lib.hid (BX.out.keep hb); have z0 := BX.out.c0; have z1 := BX.out.c1; clear hb)
                        | (go_at_call 14; (with_reducible refine (refshortF_any _ _ _ _ _ _ BX.out.row).mono ?_); rintro e w1 ⟨rfl, hb⟩; have BX := Lib.hid (BX.out.keep hb); have z0 := BX.out.c0; have z1 := BX.out.c1; clear hb)
                        | (go_at_call 30; (with_reducible refine (HR.out _ BX.out.row).mono ?_); rintro e w1 ⟨rfl, hb⟩; have BX := Lib.hid (BX.out.keep hb); have z0 := BX.out.c0; have z1 := BX.out.c1; clear hb))
        go_ret
        exact ⟨rfl, BX.out.below⟩
      have hlc : (coreL L).length = len := by rw [coreL_len, HL.out]
      have hlp : 0 < len := by
        have := right_len hr
        rwa [hlc] at this
      obtain ⟨X, hX⟩ : ∃ X : Nat, x % (len : Int) = X := ⟨(x % (len : Int)).toNat, by have := Int.emod_nonneg x (show (len : Int) ≠ 0 by omega); omega⟩
      have hXl : X < len := by have := Int.emod_lt_of_pos x (show (0 : Int) < len by omega); omega
      have HX64 : Hid (In64 (X : Int)) := Lib.hid ⟨by omega, by omega⟩
      obtain ⟨b, off, nx, rfl, hb, hgx, hat, -⟩ := HH.out.get hXl
      have C5 := Lib.hid (stays hat.c5 hb)
      have HGX := Lib.hid hgx
      have HRR := Lib.hid hr
      have HLC := Lib.hid hlc
      obtain ⟨pv, hpv⟩ : ∃ pv, nx.core.parent = pv := ⟨_, rfl⟩
      have HPV := Lib.hid hpv
      rw [hpv] at C5
      clear hgx hat hr hlc hb hpv
      go_enter Tryz.func8, Tryz.ntmps8
      go_upto_if 45 with (first
                             | (go_at_call 13; (with_reducible refine (AW.out _ (HG.out.keep BX.out.below)).mono ?_); rintro e w1 ⟨rfl, hb⟩; have BX := Lib.hid (BX.out.keep hb); have z0 := BX.out.c0; have z1 := BX.out.c1; clear hb)
                             | (go_at_call 14; (with_reducible refine (refshortF_any _ _ _ _ _ _ BX.out.row).mono ?_); rintro e w1 ⟨rfl, hb⟩; have BX := Lib.hid (BX.out.keep hb); have z0 := BX.out.c0; have z1 := BX.out.c1; clear hb)
                             | (go_at_call 30; (with_reducible refine (HR.out _ BX.out.row).mono ?_); rintro e w1 ⟨rfl, hb⟩; have BX := Lib.hid (BX.out.keep hb); have z0 := BX.out.c0; have z1 := BX.out.c1; clear hb))
      have c5 := C5.out _ BX.out.below
      go_upto_if 59 with fail
      rw [hX]
      go_cut [] (fun wx => True ∧ Hid (Box w wx w.heap.size (some ⟨b, off, none⟩) len cap m L (coreL L)))
      case first =>
        by_cases hp : pv = -1
        · subst hp
          go_wp2
          go_meet
          exact ⟨trivial, BX⟩
        · have e0 : (pv != -1) = true := bne_iff_ne.2 hp
          obtain ⟨P, ny, i, hpp, hgy, hnp, -, -, -⟩ := out_par HRR.out HGX.out (by rw [HPV.out]; exact hp)
          have hPl : P < len := by have := (List.getElem?_eq_some_iff.1 hgy).1; rwa [HL.out] at this
          obtain rfl : pv = (P : Int) := HPV.out.symm.trans hpp
          obtain ⟨b2, off2, ny2, hab, hb2, hgy2, hat2, -⟩ := HH.out.get hPl
          injection hab with hab
          injection hab with e1 e2
          subst e1 e2
          obtain rfl : ny = ny2 := Option.some.inj (hgy.symm.trans hgy2)
          have C0 := Lib.hid (stays hat2.c0 hb2)
          obtain ⟨hi1, hi2⟩ := again_ins HRR.out (coreL_get HGX.out) hpp (coreL_get hgy) hnp
          have HP64 : Hid (In64 (P : Int)) := Lib.hid ⟨by omega, by omega⟩
          by_cases hk0 : ny.core.kind = 0
          · have GI : Hid (∀ W, NodeRow W (some ⟨b, off, none⟩) len cap L → ErrVar W → Calls Tryz.prog 15 #[forV (some ⟨b, off, none⟩) len cap m, .int .i64 X, .int .i64 P, .int .i64 X] W (MvPost W m (coreL L, [], 5))) := Lib.hid (fun W h1 h2 => mins_to (hi2 hk0) W _ len cap L h1 rfl SM.out HM.out HX64.out HP64.out HX64.out h2)
            have k1 : (ny.core.kind != 0) = false := by rw [hk0]; rfl
            have k2 : (ny.core.kind == 0) = true := by rw [hk0]; rfl
            clear hp hgy hgy2 hat2 hb2 hi1 hi2 hk0 hpp hnp
            go_wp2_with (go_at_call 15; (with_reducible refine (GI.out _ BX.out.row (HG.out.keep BX.out.below)).mono ?_); rintro e w2 ⟨a2, len2, cap2, M2, va, vl, vc, rfl, -, -, -, -, hb2, -⟩; have BX := Lib.hid (BX.out.keep hb2); have BX := Lib.hid (BX.out.keep (below_box w2 (forB a2 len2 cap2 m))); clear z0 z1; have z0 := BX.out.c0; have z1 := BX.out.c1; have c0 := C0.out _ BX.out.below; clear hb2)
            go_meet
            exact ⟨trivial, BX⟩
          · obtain ⟨N0, hi3⟩ := hi1 hk0
            have GI : Hid (∀ W, NodeRow W (some ⟨b, off, none⟩) len cap L → ErrVar W → Calls Tryz.prog 15 #[forV (some ⟨b, off, none⟩) len cap m, .int .i64 X, .int .i64 P, .int .i64 X] W (MvPost W m (coreL L, N0, 0))) := Lib.hid (fun W h1 h2 => mins_to hi3 W _ len cap L h1 rfl SM.out HM.out HX64.out HP64.out HX64.out h2)
            have k1 : (ny.core.kind != 0) = true := bne_iff_ne.2 hk0
            have k2 : (ny.core.kind == 0) = false := beq_eq_false_iff_ne.2 hk0
            clear hp hgy hgy2 hat2 hb2 hi1 hi2 hi3 hk0 hpp hnp
            go_wp2_with (first
              | (go_at_call 15; (with_reducible refine (GI.out _ BX.out.row (HG.out.keep BX.out.below)).mono ?_); rintro e w2 ⟨a2, len2, cap2, M2, va, vl, vc, rfl, hr2, hc2, -, -, hb2, -⟩; have BX := Lib.hid (BX.out.keep hb2); have B7 := Lib.hid (MBox.new (m := m) BX.out.below hr2 hc2); have BX := Lib.hid (BX.out.keep (below_box w2 (forB a2 len2 cap2 m))); clear z0 z1; have z0 := BX.out.c0; have z1 := BX.out.c1; have y0 := B7.out.box.c0; have y1 := B7.out.box.c1; have c0 := C0.out _ BX.out.below; clear hr2 hc2 hb2)
              | ((go_at_call 31; (refine (same_is _ m _ _ _ _ _ _ _ _ BX.out.row B7.out.box.row (B7.out.box.core.symm)).mono ?_); rintro e w9 ⟨rfl, hb⟩; have BX := Lib.hid (BX.out.keep hb); clear hb); clear z0 z1 c0; have z0 := BX.out.c0; have z1 := BX.out.c1; have c0 := C0.out _ BX.out.below))
            go_meet
            exact ⟨trivial, BX⟩
      case rest =>
        obtain ⟨-, BX⟩ := hcut
        clear z0 z1 c5
        have z0 := BX.out.c0
        have z1 := BX.out.c1
        by_cases hok : elemE m (coreL L) X = 0 ∧ setE (attrsK (coreL L) X) s.toList v = 0
        · obtain ⟨G, nm, had, old, q1, q2, q3⟩ := again_set hok.1 hok.2
          have GS1 : Hid (∀ W, NodeRow W (some ⟨b, off, none⟩) len cap L → ErrVar W → Calls Tryz.prog 24 #[forV (some ⟨b, off, none⟩) len cap m, .int .i64 X, .string s, .string v] W (MvPost W m (G, [⟨4, X, 0, 0, nm, had, true, old, v⟩], 0))) := Lib.hid (fun W h1 h2 => mset_to q1 W _ len cap L h1 rfl SM.out HM.out HX64.out HSZ.out HVZ.out h2)
          have GS2 : Hid (∀ W a2 len2 cap2 M, NodeRow W a2 len2 cap2 M → coreL M = G → smallF M → ErrVar W → Calls Tryz.prog 24 #[forV a2 len2 cap2 m, .int .i64 X, .string s, .string v] W (MvPost W m (G, [⟨4, X, 0, 0, nm, true, true, v, v⟩], 0))) := Lib.hid (fun W a2 len2 cap2 M h1 hc hs h2 => mset_to q2 W a2 len2 cap2 M h1 hc hs HM.out HX64.out HSZ.out HVZ.out h2)
          have Q3 := Lib.hid q3
          clear hok q1 q2 q3
          go_upto_region 15 with (first | (go_at_call 24; (with_reducible refine (GS1.out _ BX.out.row (HG.out.keep BX.out.below)).mono ?_); rintro e w2 ⟨a2, len2, cap2, M2, va, vl, vc, rfl, hr2, hc2, hs2, hn2, hb2, -⟩; have BX := Lib.hid (BX.out.keep hb2); have B14 := Lib.hid (MBox.new (m := m) BX.out.below hr2 hc2); have HS14 := Lib.hid hs2; have hbb := below_box w2 (forB a2 len2 cap2 m); have NL := Lib.hid (hn2.below hbb); have BX := Lib.hid (BX.out.keep hbb); clear z0 z1; have z0 := BX.out.c0; have z1 := BX.out.c1; have y0 := B14.out.box.c0; have y1 := B14.out.box.c1; clear hr2 hc2 hs2 hn2 hb2 hbb) | (go_at_call 24; (with_reducible refine (GS2.out _ _ _ _ _ B14.out.box.row B14.out.box.core HS14.out (HG.out.keep BX.out.below)).mono ?_); rintro e w3 ⟨a3, len3, cap3, M3, vb, ul, uc, rfl, hr3, hc3, hs3, hn3, hb3, -⟩; obtain rfl : 1 = ul := hn3.row.hlen; have BX := Lib.hid (BX.out.keep hb3); have B17 := Lib.hid (MBox.new (m := m) BX.out.below hr3 hc3); have hbb := below_box w3 (forB a3 len3 cap3 m); have HB3 := Lib.hid (hb3.trans (hbb.mono hb3.size)); have NM := Lib.hid (hn3.below hbb); have NL := Lib.hid (NL.out.below HB3.out); have B14 := Lib.hid (B14.out.keep HB3.out); have BX := Lib.hid (BX.out.keep hbb); clear z0 z1 y0 y1; have z0 := BX.out.c0; have z1 := BX.out.c1; have y0 := B14.out.box.c0; have y1 := B14.out.box.c1; have x0 := B17.out.box.c0; have x1 := B17.out.box.c1; clear hr3 hc3 hs3 hn3 hb3 hbb))
          obtain ⟨rfl, bl, ol, rfl, hbl, kl⟩ := NL.out.one
          obtain ⟨-, bm, om, rfl, hbm, km⟩ := NM.out.one
          have EM7 := Ext.cell (km 7 _ rfl) hbm
          have EM8 := Ext.cell (km 8 _ rfl) hbm
          have EM5 := Ext.cell (km 5 _ rfl) hbm
          have EM6 := Ext.cell (km 6 _ rfl) hbm
          have EM4 := Ext.cell (km 4 _ rfl) hbm
          have EL4 := Ext.cell (kl 4 _ rfl) hbl
          have EL5 := Ext.cell (kl 5 _ rfl) hbl
          have EY0 := Ext.cell y0 B14.out.box.lt
          have EY1 := Ext.cell y1 B14.out.box.lt
          have EX0 := Ext.cell x0 B17.out.box.lt
          have EX1 := Ext.cell x1 B17.out.box.lt
          have KL := Lib.hid kl
          have EXS := Lib.hid (fun (y : Ext (w3.alloc (forB a3 len3 cap3 m))) => same_is y.v m _ _ _ _ _ _ _ _ (B14.out.box.row.below y.below) (B17.out.box.row.below y.below) (B14.out.box.core.trans B17.out.box.core.symm))
          clear x0 x1 y0 y1 z0 z1 kl km
          refine wp_region_ext (by kernel_rfl) (by kernel_rfl) ?_
          repeat (go_big_quiet_step (first | (go_at_call 31; exact Ext.call_below (EXS.out _))))
          refine wpQuiet_nil ?_
          intro w6 hw'
          obtain ⟨⟨w7, hb7⟩, hw''⟩ := hw'
          dsimp only at hw''
          subst hw''
          have BX := Lib.hid (BX.out.keep hb7)
          have r5 := (hb7.cell (p := ⟨bl, ol + 5, none⟩) hbl).trans (KL.out 5 _ rfl)
          have z0 := BX.out.c0
          have z1 := BX.out.c1
          clear EM7 EM8 EM5 EM6 EM4 EL4 EL5 EY0 EY1 EX0 EX1 hb7
          cases had with
          | true =>
            go_wp2
            go_ret
            exact ⟨rfl, BX.out.below⟩
          | false =>
            obtain ⟨T, n1, n2, t1, t2⟩ := Q3.out rfl
            have GT1 : Hid (∀ W, NodeRow W (some ⟨b, off, none⟩) len cap L → ErrVar W → Calls Tryz.prog 26 #[forV (some ⟨b, off, none⟩) len cap m, .int .i64 X, .string s, .int .i64 0] W (MvPost W m (T, n1, 0))) := Lib.hid (fun W h1 h2 => mtog_to t1 W _ len cap L h1 rfl SM.out HM.out HX64.out HSZ.out h2)
            have GT2 : Hid (∀ W a2 len2 cap2 M, NodeRow W a2 len2 cap2 M → coreL M = T → smallF M → ErrVar W → Calls Tryz.prog 26 #[forV a2 len2 cap2 m, .int .i64 X, .string s, .int .i64 0] W (MvPost W m (coreL L, [⟨4, X, 0, 0, nm, true, false, n2, valA (attrsK (coreL L) X) s.toList⟩], 0))) := Lib.hid (fun W a2 len2 cap2 M h1 hc hs h2 => mtog_to t2 W a2 len2 cap2 M h1 hc hs HM.out HX64.out HSZ.out h2)
            clear t1 t2
            go_wp2_with (first
              | (go_at_call 26; (with_reducible refine (GT1.out _ BX.out.row (HG.out.keep BX.out.below)).mono ?_); rintro e w8 ⟨a8, len8, cap8, M8, vt, tl, tc, rfl, hr8, hc8, hs8, -, hb8, -⟩; have BX := Lib.hid (BX.out.keep hb8); have B20 := Lib.hid (MBox.new (m := m) BX.out.below hr8 hc8); have HS20 := Lib.hid hs8; have BX := Lib.hid (BX.out.keep (below_box w8 (forB a8 len8 cap8 m))); clear z0 z1; have z0 := BX.out.c0; have z1 := BX.out.c1; have y0 := B20.out.box.c0; have y1 := B20.out.box.c1; clear hr8 hc8 hs8 hb8)
              | (go_at_call 26; (with_reducible refine (GT2.out _ _ _ _ _ B20.out.box.row B20.out.box.core HS20.out (HG.out.keep BX.out.below)).mono ?_); rintro e w9 ⟨a9, len9, cap9, M9, vo, tl9, tc9, rfl, hr9, hc9, -, hn9, hb9, -⟩; obtain rfl : 1 = tl9 := hn9.row.hlen; have BX := Lib.hid (BX.out.keep hb9); have B23 := Lib.hid (MBox.new (m := m) BX.out.below hr9 hc9); have hbb := below_box w9 (forB a9 len9 cap9 m); have NO := Lib.hid (hn9.below hbb); have BX := Lib.hid (BX.out.keep hbb); clear z0 z1 y0 y1; have z0 := BX.out.c0; have z1 := BX.out.c1; have x0 := B23.out.box.c0; have x1 := B23.out.box.c1; obtain ⟨-, bo, oo, rfl, hbo, ko⟩ := NO.out.one; have o6 := ko 6 _ rfl; clear hr9 hc9 hn9 hb9 hbb ko)
              | (go_at_call 31; (refine (same_is _ m _ _ _ _ _ _ _ _ BX.out.row B23.out.box.row (B23.out.box.core.symm)).mono ?_); rintro e w9 ⟨rfl, hb⟩; have BX := Lib.hid (BX.out.keep hb); clear hb))
            go_ret
            exact ⟨rfl, BX.out.below⟩
        · obtain ⟨E, hE0, hE⟩ := set_err hok
          have e1 : (E != 0) = true := bne_iff_ne.2 hE0
          have GS1 : Hid (∀ W, NodeRow W (some ⟨b, off, none⟩) len cap L → ErrVar W → Calls Tryz.prog 24 #[forV (some ⟨b, off, none⟩) len cap m, .int .i64 X, .string s, .string v] W (MvPost W m (coreL L, [], E))) := Lib.hid (fun W h1 h2 => mset_to hE W _ len cap L h1 rfl SM.out HM.out HX64.out HSZ.out HVZ.out h2)
          clear hok hE hE0
          go_wp2_with (first
            | ((go_at_call 24; (with_reducible refine (GS1.out _ BX.out.row (HG.out.keep BX.out.below)).mono ?_); rintro e w2 ⟨a2, len2, cap2, M2, va, vl, vc, rfl, hr2, hc2, hs2, hn2, hb2, -⟩; have BX := Lib.hid (BX.out.keep hb2); have B14 := Lib.hid (MBox.new (m := m) BX.out.below hr2 hc2); have HS14 := Lib.hid hs2; have hbb := below_box w2 (forB a2 len2 cap2 m); have NL := Lib.hid (hn2.below hbb); have BX := Lib.hid (BX.out.keep hbb); clear z0 z1; have z0 := BX.out.c0; have z1 := BX.out.c1; have y0 := B14.out.box.c0; have y1 := B14.out.box.c1; clear hr2 hc2 hs2 hn2 hb2 hbb); obtain rfl : 0 = vl := NL.out.row.hlen)
            | (go_at_call 31; (refine (same_is _ m _ _ _ _ _ _ _ _ BX.out.row B14.out.box.row (B14.out.box.core.symm)).mono ?_); rintro e w9 ⟨rfl, hb⟩; have BX := Lib.hid (BX.out.keep hb); clear hb))
          go_ret
          exact ⟨rfl, BX.out.below⟩
end Go.Proofs.YtbgcpgpkhfbijaaGreatDoor
