/- Texts joined in build order: ShadeAttFacts ShadeAttached ShadeAttached4. -/
import Derived.Test.YtdalljhgmhjibaaK10
import Derived.Test.YtdalljhgmhjibaaK11
import Derived.Test.YtdalljhgmhjibaaK02
import Derived.Test.YtdalljhgmhjibaaK01
import Derived.Deep.RegionHeld3
import Derived.IntWalk
import Derived.Deep.DeepCutAuto
/- A forest with a shadow more, over data: what the law ShadeAttached asks. Plain mathematics, no program. -/
namespace Go.Proofs.Ytdalljhgmhjibaa
open Go.RowKit
theorem sub_len : ∀ (l l' : List Nat), l.Nodup → (∀ x ∈ l, x ∈ l') → l.length ≤ l'.length
  | [], _, _, _ => Nat.zero_le _
  | a :: r, l', h, hs => by
    rw [List.nodup_cons] at h
    have ha : a ∈ l' := hs a (List.mem_cons_self ..)
    have h1 := sub_len r (l'.erase a) h.2 (fun x hx => by
      have hne : x ≠ a := fun e => h.1 (e ▸ hx)
      exact (List.mem_erase_of_ne hne).2 (hs x (List.mem_cons_of_mem _ hx)))
    rw [List.length_erase_of_mem ha] at h1
    have := List.length_pos_of_mem ha
    rw [List.length_cons]
    omega
theorem same_len {l l' : List Nat} (h : l.Nodup) (h' : l'.Nodup) (hs : ∀ x, x ∈ l ↔ x ∈ l') : l.length = l'.length :=
  Nat.le_antisymm (sub_len l l' h (fun x hx => (hs x).1 hx)) (sub_len l' l h' (fun x hx => (hs x).2 hx))
/-- What is asked of an attached shadow. -/
structure Att (m : Int) (F G : List Core) (k : Nat) (x : Core) : Prop where
  right : rightF m F = true
  hx : F[k]? = some x
  hosts : hostsC x = true
  bare : x.under = -1
  room : (F.length : Int) ≠ m
  eq : G = F.set k (withU x (F.length : Int)) ++ [shadeC k x.doc]
section
variable {m : Int} {F G : List Core} {k : Nat} {x : Core}
theorem Att.kl (h : Att m F G k x) : k < F.length := (List.getElem?_eq_some_iff.1 h.hx).1
theorem Att.kind (h : Att m F G k x) : x.kind = 1 := by
  have := h.hosts
  unfold hostsC at this
  rw [Bool.and_eq_true] at this
  exact beq_iff_eq.1 this.1
theorem Att.len (h : Att m F G k x) : G.length = F.length + 1 := by rw [h.eq]; simp
theorem Att.new (h : Att m F G k x) : G[F.length]? = some (shadeC k x.doc) := by
  rw [h.eq, List.getElem?_append_right (by simp)]
  simp
theorem Att.at_k (h : Att m F G k x) : G[k]? = some (withU x (F.length : Int)) := by
  have := h.kl
  rw [h.eq, List.getElem?_append_left (by simpa using this), List.getElem?_set_self this]
theorem Att.old (h : Att m F G k x) {i : Nat} (hi : i < F.length) (hk : i ≠ k) : G[i]? = F[i]? := by
  rw [h.eq, List.getElem?_append_left (by simpa using hi), List.getElem?_set_ne (fun e => hk e.symm)]
/-- An old node is as it was, but for the host's shadow. -/
theorem Att.like (h : Att m F G k x) {i : Nat} {c : Core} (hc : F[i]? = some c) : ∃ c', G[i]? = some c' ∧ c' = withU c (if i = k then (F.length : Int) else c.under) := by
  have hi := (List.getElem?_eq_some_iff.1 hc).1
  by_cases e : i = k
  · subst e
    rw [h.hx] at hc
    injection hc with hc
    subst hc
    exact ⟨_, h.at_k, by rw [if_pos rfl]⟩
  · exact ⟨c, by rw [h.old hi e, hc], by rw [if_neg e]; rfl⟩
theorem Att.getC (h : Att m F G k x) {z : Int} {c : Core} (hc : getC F z = some c) : ∃ c', getC G z = some c' ∧ c' = withU c (if z = (k : Int) then (F.length : Int) else c.under) := by
  obtain ⟨h0, h1, h2⟩ := getC_some hc
  obtain ⟨c', h3, h4⟩ := h.like h2
  refine ⟨c', ?_, ?_⟩
  · rw [show z = ((z.toNat : Nat) : Int) by omega, getC_nat]
    exact h3
  · rw [h4]
    by_cases e : z = (k : Int)
    · rw [if_pos e, if_pos (by omega)]
    · rw [if_neg e, if_neg (by omega)]
theorem Att.kindK (h : Att m F G k x) {z : Int} {c : Core} (hc : Go.Proofs.Ytdalljhgmhjibaa.getC F z = some c) : Go.Proofs.Ytdalljhgmhjibaa.kindK G z = Go.Proofs.Ytdalljhgmhjibaa.kindK F z := by
  obtain ⟨c', h1, h2⟩ := h.getC hc
  unfold Go.Proofs.Ytdalljhgmhjibaa.kindK
  rw [h1, hc, h2]
  rfl
theorem Att.next (h : Att m F G k x) {z : Int} (hz : z = -1 ∨ (0 ≤ z ∧ z < (F.length : Int))) : nextUp G z = nextUp F z := by
  unfold nextUp
  rcases hz with rfl | ⟨h0, h1⟩
  · rfl
  · obtain ⟨j, rfl⟩ : ∃ j : Nat, z = j := ⟨z.toNat, by omega⟩
    have hc : Go.Proofs.Ytdalljhgmhjibaa.getC F (j : Int) = some F[j] := by
      rw [getC_nat]
      exact List.getElem?_eq_getElem (by omega)
    obtain ⟨c', h2, h3⟩ := h.getC hc
    rw [h2, hc, h3]
    rfl
theorem Att.next_new (h : Att m F G k x) : nextUp G (F.length : Int) = k := by
  unfold nextUp
  rw [getC_nat, h.new]
  rfl
theorem Att.ends (h : Att m F G k x) : ∀ (s : Nat) (z : Int), (z = -1 ∨ (0 ≤ z ∧ z < (F.length : Int))) → endsZ (nextUp G) s z = endsZ (nextUp F) s z
  | 0, z, _ => rfl
  | s + 1, z, hz => by
    rcases hz with rfl | hz
    · rfl
    · rw [endsZ_step (by omega), endsZ_step (by omega), h.next (.inr hz)]
      exact h.ends s _ (right_up h.right z hz.1 hz.2)
theorem Att.nodeOk (h : Att m F G k x) {i : Nat} {y : Core} (hy : G[i]? = some y) : Go.Proofs.Ytdalljhgmhjibaa.nodeOk G i y = true := by
  have hi := (List.getElem?_eq_some_iff.1 hy).1
  rw [h.len] at hi
  have R := ((rightF_iff m F).1 h.right).2.1
  have hd : docOk F k x = true := (nodeOk_iff.1 (R k x h.hx)).1
  by_cases hn : i = F.length
  · subst hn
    rw [h.new] at hy
    injection hy with hy
    subst hy
    refine nodeOk_iff.2 ⟨?_, rfl, (fun z hz => by cases hz), rfl, ?_, (show textOk (shadeC k x.doc) = textOk (shadeC 0 0) from rfl).trans (by decide +kernel)⟩
    · unfold docOk at hd ⊢
      simp only [Bool.and_eq_true, decide_eq_true_eq] at hd
      cases hg : Go.Proofs.Ytdalljhgmhjibaa.getC F x.doc with
      | none => rw [hg] at hd; simp at hd
      | some d =>
        rw [hg] at hd
        obtain ⟨d', h1, h2⟩ := h.getC hg
        show (_ && _ && (match Go.Proofs.Ytdalljhgmhjibaa.getC G x.doc with | some d => d.kind == 0 | none => false) && _) = true
        rw [h1, h2]
        have := hd.1.2
        simp only [Bool.and_eq_true]
        exact ⟨⟨⟨rfl, rfl⟩, this⟩, rfl⟩
    · have hk : Go.Proofs.Ytdalljhgmhjibaa.getC G (k : Int) = some (withU x (F.length : Int)) := by rw [getC_nat]; exact h.at_k
      have h1 : hostOk G F.length (shadeC k x.doc) = true := by
        unfold hostOk
        rw [if_pos (show (shadeC (k : Int) x.doc).kind = 4 from rfl)]
        show (match Go.Proofs.Ytdalljhgmhjibaa.getC G (k : Int) with | some c => c.kind == 1 && c.under == (F.length : Int) && c.doc == x.doc | none => false) = true
        rw [hk]
        show (x.kind == 1 && (F.length : Int) == (F.length : Int) && x.doc == x.doc) = true
        rw [h.kind]
        simp
      rw [h1]
      rfl
  · have hil : i < F.length := by omega
    have hc : F[i]? = some F[i] := List.getElem?_eq_getElem hil
    obtain ⟨c', h1, h2⟩ := h.like hc
    rw [hy] at h1
    injection h1 with h1
    subst h1
    generalize F[i] = c at hc h2
    obtain ⟨p1, p2, p3, p4, p5, p6⟩ := nodeOk_iff.1 (R i c hc)
    rw [Bool.and_eq_true] at p5
    refine nodeOk_iff.2 ⟨?_, ?_, fun z hz => ?_, ?_, ?_, ?_⟩
    · unfold docOk at p1 ⊢
      rw [h2]
      simp only [Bool.and_eq_true, decide_eq_true_eq] at p1
      cases hg : Go.Proofs.Ytdalljhgmhjibaa.getC F c.doc with
      | none => rw [hg] at p1; simp at p1
      | some d =>
        rw [hg] at p1
        obtain ⟨d', g1, g2⟩ := h.getC hg
        show (decide (0 ≤ c.kind) && decide (c.kind ≤ 4) && (match Go.Proofs.Ytdalljhgmhjibaa.getC G c.doc with | some d => d.kind == 0 | none => false) && (c.kind != 0 || c.doc == (i : Int))) = true
        rw [g1, g2]
        simp only [Bool.and_eq_true, decide_eq_true_eq]
        exact p1
    · unfold parOk at p2 ⊢
      rw [h2]
      show (c.parent == -1 || ((c.kind == 1 || c.kind == 2) && match Go.Proofs.Ytdalljhgmhjibaa.getC G c.parent with | some p => p.kind != 2 && hasZ p.kids i == 1 | none => false)) = true
      cases hg : Go.Proofs.Ytdalljhgmhjibaa.getC F c.parent with
      | none =>
        rw [hg] at p2
        have : (c.parent == -1) = true := by simpa using p2
        rw [this]
        rfl
      | some d =>
        rw [hg] at p2
        obtain ⟨d', g1, g2⟩ := h.getC hg
        rw [g1, g2]
        exact p2
    · have hz' : z ∈ c.kids := by rw [h2] at hz; exact hz
      have q := kidOk_iff.1 (p3 z hz')
      refine kidOk_iff.2 ⟨by rw [h2]; exact q.1, ?_⟩
      obtain ⟨d, g1, g2, g3, g4⟩ := kidB_iff.1 q.2
      obtain ⟨d', g5, g6⟩ := h.getC g1
      refine kidB_iff.2 ⟨d', g5, ?_⟩
      rw [g6, h2]
      exact ⟨g2, g3, g4⟩
    · have e1 : elemsK G y = elemsK F c := by
        unfold elemsK
        rw [h2]
        show c.kids.countP _ = c.kids.countP _
        refine List.countP_congr fun z hz => ?_
        obtain ⟨d, g1, _⟩ := kidB_iff.1 (kidOk_iff.1 (p3 z hz)).2
        rw [h.kindK g1]
      unfold shapeOk at p4 ⊢
      rw [e1, h2]
      exact p4
    · rw [Bool.and_eq_true]
      constructor
      · have q := p5.1
        unfold hostOk at q ⊢
        rw [h2]
        show (if c.kind = 4 then (match Go.Proofs.Ytdalljhgmhjibaa.getC G c.host with | some h => h.kind == 1 && h.under == (i : Int) && h.doc == c.doc | none => false) else c.host == -1) = true
        by_cases k4 : c.kind = 4
        · rw [if_pos k4] at q ⊢
          cases hg : Go.Proofs.Ytdalljhgmhjibaa.getC F c.host with
          | none => rw [hg] at q; simp at q
          | some d =>
            rw [hg] at q
            simp only [Bool.and_eq_true, beq_iff_eq] at q
            obtain ⟨d', g1, g2⟩ := h.getC hg
            have hne : c.host ≠ (k : Int) := fun e => by
              rw [e, getC_nat, h.hx] at hg
              injection hg with hg
              have := h.bare
              rw [hg] at this
              omega
            rw [if_neg hne] at g2
            rw [g1, g2]
            show (d.kind == 1 && d.under == (i : Int) && d.doc == c.doc) = true
            simp only [Bool.and_eq_true, beq_iff_eq]
            exact q
        · rw [if_neg k4] at q ⊢
          exact q
      · have q := p5.2
        unfold underOk at q ⊢
        by_cases e : i = k
        · subst e
          rw [h.hx] at hc
          injection hc with hc
          subst hc
          rw [if_pos rfl] at h2
          rw [h2]
          show ((F.length : Int) == -1 || (x.kind == 1 && match Go.Proofs.Ytdalljhgmhjibaa.getC G (F.length : Int) with | some u => u.kind == 4 && u.host == (i : Int) | none => false)) = true
          rw [getC_nat, h.new, h.kind]
          show (_ || (_ && ((4 : Int) == 4 && (i : Int) == (i : Int)))) = true
          simp
        · rw [if_neg e] at h2
          rw [h2]
          show (c.under == -1 || (c.kind == 1 && match Go.Proofs.Ytdalljhgmhjibaa.getC G c.under with | some u => u.kind == 4 && u.host == (i : Int) | none => false)) = true
          cases hg : Go.Proofs.Ytdalljhgmhjibaa.getC F c.under with
          | none =>
            rw [hg] at q
            have : (c.under == -1) = true := by simpa using q
            rw [this]
            rfl
          | some d =>
            rw [hg] at q
            obtain ⟨d', g1, g2⟩ := h.getC hg
            rw [g1, g2]
            exact q
    · rw [h2]
      exact p6
theorem Att.rightG (h : Att m F G k x) : rightF m G = true := by
  have R := (rightF_iff m F).1 h.right
  have hl := h.len
  have hroom := h.room
  refine (rightF_iff m G).2 ⟨⟨R.1.1, R.1.2.1, ?_, ?_⟩, fun i y hy => h.nodeOk hy, fun i hi => ?_⟩
  · rw [hl]
    have := R.1.2.2.1
    omega
  · have h0 := R.1.2.2.2
    rw [head_eq] at h0 ⊢
    obtain ⟨c, h1, h2⟩ := isKd_iff.1 h0
    obtain ⟨c', h3, h4⟩ := h.getC h1
    exact isKd_iff.2 ⟨c', h3, by rw [h4]; exact h2⟩
  · rw [hl] at hi ⊢
    by_cases e : i = F.length
    · subst e
      rw [endsZ_step (by omega), h.next_new, h.ends _ _ (.inr ⟨by omega, by have := h.kl; omega⟩)]
      exact R.2.2 k h.kl
    · rw [h.ends _ _ (.inr ⟨by omega, by omega⟩)]
      exact endsZ_more _ _ (R.2.2 i (by omega))
theorem Att.parS (h : Att m F G k x) {b : Nat} (hb : b < F.length) : Go.Proofs.Ytdalljhgmhjibaa.parS G b = Go.Proofs.Ytdalljhgmhjibaa.parS F b := by
  unfold Go.Proofs.Ytdalljhgmhjibaa.parS
  rw [h.next (.inr ⟨by omega, by omega⟩)]
theorem Att.parS_new (h : Att m F G k x) : Go.Proofs.Ytdalljhgmhjibaa.parS G F.length = some k := parS_some h.next_new
theorem Att.upN (h : Att m F G k x) : ∀ (s b : Nat), b < F.length → Go.Proofs.Ytdalljhgmhjibaa.upN (Go.Proofs.Ytdalljhgmhjibaa.parS G) s b = Go.Proofs.Ytdalljhgmhjibaa.upN (Go.Proofs.Ytdalljhgmhjibaa.parS F) s b
  | 0, b, _ => rfl
  | s + 1, b, hb => by
    show (Go.Proofs.Ytdalljhgmhjibaa.parS G b).bind _ = (Go.Proofs.Ytdalljhgmhjibaa.parS F b).bind _
    rw [h.parS hb]
    cases hp : Go.Proofs.Ytdalljhgmhjibaa.parS F b with
    | none => rfl
    | some p => exact h.upN s p (parS_next h.right hb hp).2
theorem Att.holds (h : Att m F G k x) {a b : Nat} (hb : b < F.length) : holdsT (Go.Proofs.Ytdalljhgmhjibaa.parS G) a b ↔ holdsT (Go.Proofs.Ytdalljhgmhjibaa.parS F) a b := by
  constructor
  · rintro ⟨s, hs⟩; exact ⟨s, by rw [← h.upN s b hb]; exact hs⟩
  · rintro ⟨s, hs⟩; exact ⟨s, by rw [h.upN s b hb]; exact hs⟩
theorem Att.holds_new (h : Att m F G k x) {a : Nat} (ha : a < F.length) : holdsT (Go.Proofs.Ytdalljhgmhjibaa.parS G) a F.length ↔ holdsT (Go.Proofs.Ytdalljhgmhjibaa.parS F) a k := by
  rw [← h.holds h.kl]
  constructor
  · intro hh
    rcases holds_up hh with e | ⟨p, hp, hh⟩
    · omega
    · rw [h.parS_new] at hp
      injection hp with hp
      subst hp
      exact hh
  · exact fun hh => holds_trans hh (holds_par h.parS_new)
/-- What the law asks. -/
structure AttFacts (m : Int) (F G : List Core) (k b : Nat) : Prop where
  right : rightF m G = true
  conn : connZ m G (F.length : Nat) = connZ m F k
  len : (allZ m G b).length = (allZ m F b).length + if overZ m F b k then 1 else 0
  many : hasZ (allZ m G b) (F.length : Nat) = if overZ m F b k then 1 else 0
  root : rootZ m G (F.length : Nat) = F.length
theorem Att.facts (h : Att m F G k x) {b : Nat} (hb : b < F.length) : AttFacts m F G k b := by
  have hG := h.rightG
  have hl := h.len
  have hkl := h.kl
  have hbG : b < G.length := by omega
  have hnG : F.length < G.length := by omega
  have TF := treeS h.right
  have TG := treeS hG
  have hov : overZ m G b (F.length : Nat) = overZ m F b k := by
    rw [Bool.eq_iff_iff, overZ_iff hG hbG hnG, overZ_iff h.right hb hkl]
    exact h.holds_new hb
  refine ⟨hG, ?_, ?_, ?_, ?_⟩
  · have ht : topF G F.length = topF F k := by
      have htl := topF_lt h.right hkl
      have hk2 : rankF F k ≤ F.length + 1 := TF.rank_le k hkl
      have hn2 : rankF G F.length ≤ G.length + 1 := TG.rank_le _ hnG
      refine TG.root_of hnG hn2 ((h.holds_new htl).2 (rootN_holds _ _)) ?_
      show Go.Proofs.Ytdalljhgmhjibaa.parS G (topF F k) = none
      rw [h.parS htl]
      exact TF.root_top _ k hkl hk2
    rw [connZ_eq hG hnG, connZ_eq h.right hkl, topZ_eq hG hnG, topZ_eq h.right hkl, ht]
    have htl := topF_lt h.right hkl
    rw [h.kindK (z := (topF F k : Nat)) (c := F[topF F k]) (by rw [getC_nat]; exact List.getElem?_eq_getElem htl)]
  · rw [allZ_eq hG hbG, allZ_eq h.right hb]
    unfold allI
    rw [List.length_map, List.length_map, Int.toNat_natCast]
    have nF : (allF F b).Nodup := TF.ord_nodup _ _ hb (by omega)
    have nG : (allF G b).Nodup := TG.ord_nodup _ _ hbG (by omega)
    have mF : ∀ c, c ∈ allF F b ↔ c < F.length ∧ holdsT (Go.Proofs.Ytdalljhgmhjibaa.parS F) b c := fun c => by
      constructor
      · intro hc
        have := TF.ord_lt _ _ hb c hc
        exact ⟨this, (TF.mem_ord _ _ hb (by omega) c this).1 hc⟩
      · exact fun hc => (TF.mem_ord _ _ hb (by omega) c hc.1).2 hc.2
    have mG : ∀ c, c ∈ allF G b ↔ c < G.length ∧ holdsT (Go.Proofs.Ytdalljhgmhjibaa.parS G) b c := fun c => by
      constructor
      · intro hc
        have := TG.ord_lt _ _ hbG c hc
        exact ⟨this, (TG.mem_ord _ _ hbG (by omega) c this).1 hc⟩
      · exact fun hc => (TG.mem_ord _ _ hbG (by omega) c hc.1).2 hc.2
    have old : ∀ c, c < F.length → (c ∈ allF G b ↔ c ∈ allF F b) := fun c hc => by
      rw [mF, mG, h.holds hc]
      constructor
      · exact fun q => ⟨hc, q.2⟩
      · exact fun q => ⟨by omega, q.2⟩
    have newG : F.length ∈ allF G b ↔ overZ m F b k = true := by
      rw [mG, h.holds_new hb, overZ_iff h.right hb hkl]
      exact ⟨fun q => q.2, fun q => ⟨hnG, q⟩⟩
    have notF : F.length ∉ allF F b := fun hm => by
      have := ((mF _).1 hm).1
      omega
    have ltG : ∀ c ∈ allF G b, c < F.length ∨ c = F.length := fun c hc => by
      have := ((mG c).1 hc).1
      omega
    cases ho : overZ m F b k with
    | true =>
      rw [if_pos rfl]
      have := same_len (l := allF G b) (l' := F.length :: allF F b) nG (List.nodup_cons.2 ⟨notF, nF⟩) (fun c => by
        rw [List.mem_cons]
        constructor
        · intro hc
          rcases ltG c hc with hl | hl
          · exact .inr ((old c hl).1 hc)
          · exact .inl hl
        · rintro (rfl | hc)
          · exact newG.2 ho
          · exact (old c ((mF c).1 hc).1).2 hc)
      rw [this, List.length_cons]
    | false =>
      rw [if_neg (by decide), Nat.add_zero]
      refine same_len nG nF (fun c => ?_)
      constructor
      · intro hc
        rcases ltG c hc with hl | hl
        · exact (old c hl).1 hc
        · subst hl
          rw [newG.1 hc] at ho
          cases ho
      · exact fun hc => (old c ((mF c).1 hc).1).2 hc
  · rw [allZ_eq hG hbG, hasZ_all hG hbG hnG, hov]
  · rw [rootZ_eq hG hnG]
    unfold rootF
    rw [rootN_none (by
      unfold parF
      rw [h.new]
      rfl)]
end
end Go.Proofs.Ytdalljhgmhjibaa
/- The walk of the law ShadeAttached, over the contracts of packages forest and shade. -/
namespace Go.Proofs.Ytdalljhgmhjibaa
open Go.RowKit
theorem withU_back {x : Core} {u : Int} (h : x.under = -1) : withU (withU x u) (-1) = x := by
  obtain ⟨kind, name, is, data, attrs, parent, kids, host, under, doc⟩ := x
  dsimp only at h
  subst h
  rfl
theorem withUD_ok {w : World} {x : NodeD} {u : Int} (h : NodeOk w x) (hu : In64 u) : NodeOk w (withUD x u) := ⟨h.attrs, h.kids, h.name, h.is, h.data, h.kind, h.parent, h.host, hu, h.doc⟩
theorem Att.small {m : Int} {L0 L1 : List NodeD} {G : List Core} {k : Nat} {x : Core} (h : Att m (coreL L0) G k x) (hs : smallF L0) (h60 : L0.length ≤ 60) (hc : coreL L1 = G) : smallF L1 := by
  have old : ∀ c ∈ coreL L0, c.kids.length ≤ 1000 ∧ c.attrs.length ≤ 1000 ∧ c.name.size ≤ 1000 := fun c hc => by
    obtain ⟨y, hy, rfl⟩ := List.mem_map.1 hc
    exact hs.2 y hy
  refine small_of_core hc (by rw [h.len, coreL_len]; omega) (fun c hm => ?_)
  rw [h.eq] at hm
  rcases List.mem_append.1 hm with hm | hm
  · rcases List.mem_or_eq_of_mem_set hm with hm | rfl
    · exact old c hm
    · exact old x (List.mem_of_getElem? h.hx)
  · obtain rfl : c = shadeC k x.doc := by simpa using hm
    exact ⟨Nat.zero_le _, Nat.zero_le _, Nat.zero_le _⟩
set_option maxHeartbeats 16000000 in
set_option maxRecDepth 100000 in
theorem shadeAttached_walk (F : ForestFns) (S : ShadeFns) (a0 : Option Addr) (len0 cap0 : Nat) (m : Int) (L0 : List NodeD) (x y : Int) (w : World)
    (h0 : NodeRow w a0 len0 cap0 L0) (hm : In64 m) (hx : 0 ≤ x ∧ x ≤ 255) (hy : 0 ≤ y ∧ y ≤ 255) :
    Calls Try.prog 9 #[forV a0 len0 cap0 m, .int .u8 x, .int .u8 y] w fun e w' => e = .returned (.bool true) ∧ Below w.heap.size w w' := by
  have AW := Lib.hid (fun W => awake4_any F S W)
  have HF := Lib.hid F
  have HS := Lib.hid S
  have BX := Lib.hid (Box.start (m := m) h0)
  have hl0 := h0.len64
  have HL := Lib.hid h0.hlen
  have HM := Lib.hid hm
  clear h0 F S hm
  cases c0 : shortF L0 with
  | false =>
    have C0 := Lib.hid c0
    go_enter Try.func9, Try.ntmps9
    go_wp2_with (first
                    | (go_at_call 34; (with_reducible refine (AW.out _).mono ?_); rintro e w1 ⟨rfl, hb⟩; have BX := Lib.hid (BX.out.keep hb); have z0 := BX.out.c0; have z1 := BX.out.c1; clear hb)
                    | (go_at_call 12; (with_reducible refine (refshortF_any _ _ _ _ _ _ BX.out.row).mono ?_); rintro e w1 ⟨rfl, hb⟩; have BX := Lib.hid (BX.out.keep hb); have z0 := BX.out.c0; have z1 := BX.out.c1; clear hb)
                    | (go_at_call 16; (with_reducible refine (HR.out _ BX.out.row).mono ?_); rintro e w1 ⟨rfl, hb⟩; have BX := Lib.hid (BX.out.keep hb); have z0 := BX.out.c0; have z1 := BX.out.c1; clear hb))
    go_ret
    exact ⟨rfl, BX.out.below⟩
  | true =>
    have SM := Lib.hid (small_of_short c0)
    cases c1 : rightF m (coreL L0) with
    | false =>
      have HR : Hid (∀ W, NodeRow W a0 len0 cap0 L0 → Calls Try.prog 16 #[forV a0 len0 cap0 m] W fun e w' => e = .returned (.bool false) ∧ Below W.heap.size W w') := Lib.hid (fun W h => by
        have := HF.out.right a0 len0 cap0 m L0 W h HM.out SM.out
        rwa [c1] at this)
      clear c1
      go_enter Try.func9, Try.ntmps9
      go_wp2_with (first
                      | (go_at_call 34; (with_reducible refine (AW.out _).mono ?_); rintro e w1 ⟨rfl, hb⟩; have BX := Lib.hid (BX.out.keep hb); have z0 := BX.out.c0; have z1 := BX.out.c1; clear hb)
                      | (go_at_call 12; (with_reducible refine (refshortF_any _ _ _ _ _ _ BX.out.row).mono ?_); rintro e w1 ⟨rfl, hb⟩; have BX := Lib.hid (BX.out.keep hb); have z0 := BX.out.c0; have z1 := BX.out.c1; clear hb)
                      | (go_at_call 16; (with_reducible refine (HR.out _ BX.out.row).mono ?_); rintro e w1 ⟨rfl, hb⟩; have BX := Lib.hid (BX.out.keep hb); have z0 := BX.out.c0; have z1 := BX.out.c1; clear hb))
      go_ret
      exact ⟨rfl, BX.out.below⟩
    | true =>
      have HR : Hid (∀ W, NodeRow W a0 len0 cap0 L0 → Calls Try.prog 16 #[forV a0 len0 cap0 m] W fun e w' => e = .returned (.bool true) ∧ Below W.heap.size W w') := Lib.hid (fun W h => by
        have := HF.out.right a0 len0 cap0 m L0 W h HM.out SM.out
        rwa [c1] at this)
      have C1 := Lib.hid c1
      have hlc : (coreL L0).length = len0 := by
        unfold coreL
        rw [List.length_map, HL.out]
      have HLC := Lib.hid hlc
      have hlp : 0 < len0 := by
        have := right_len c1
        rwa [hlc] at this
      have hlow : len0 ≤ 60 := by
        have h1 := c0
        unfold shortF at h1
        simp only [Bool.and_eq_true, decide_eq_true_eq] at h1
        have := HL.out
        omega
      clear c1
      obtain ⟨X, hX⟩ : ∃ X : Nat, x % (len0 : Int) = X := ⟨(x % (len0 : Int)).toNat, by have := Int.emod_nonneg x (show (len0 : Int) ≠ 0 by omega); omega⟩
      obtain ⟨Y, hY⟩ : ∃ Y : Nat, y % (len0 : Int) = Y := ⟨(y % (len0 : Int)).toNat, by have := Int.emod_nonneg y (show (len0 : Int) ≠ 0 by omega); omega⟩
      have hXl : X < len0 := by have := Int.emod_lt_of_pos x (show (0 : Int) < len0 by omega); omega
      have hYl : Y < len0 := by have := Int.emod_lt_of_pos y (show (0 : Int) < len0 by omega); omega
      have in_nat : ∀ k : Nat, k < len0 → In64 (k : Int) := fun k hk => ⟨by omega, by omega⟩
      obtain ⟨E, hE⟩ : ∃ E, attE m (coreL L0) X = E := ⟨_, rfl⟩
      by_cases hE0 : E = 0
      rotate_left
      · have GM : Hid (∀ W, NodeRow W a0 len0 cap0 L0 → Calls Try.prog 35 #[forV a0 len0 cap0 m, .int .i64 X] W (ForPost W (coreL L0) m [.int .i64 (-1), .int .i64 E])) := Lib.hid (fun W h => by
          have h1 := HS.out.attach a0 len0 cap0 m L0 X W h HM.out (in_nat X hXl) SM.out
          obtain ⟨h2, h3⟩ := att_not (m := m) (F := coreL L0) (n := (X : Int)) (by rw [hE]; exact hE0)
          rwa [h2, h3, hE] at h1)
        have GS : Hid (∀ W b lb cb M, NodeRow W a0 len0 cap0 L0 → NodeRow W b lb cb M → coreL M = coreL L0 → Calls Try.prog 17 #[forV a0 len0 cap0 m, forV b lb cb m] W fun e w' => e = .returned (.bool true) ∧ Below W.heap.size W w') := Lib.hid (fun W b lb cb M h1 h2 he => by
          have := refsameF_any a0 b len0 cap0 lb cb m m L0 M W h1 h2
          rwa [he, decide_eq_true rfl, decide_eq_true rfl] at this)
        have e1 : (E != 0) = true := bne_iff_ne.2 hE0
        clear hE0 hE SM HF HS hlc in_nat
        go_enter Try.func9, Try.ntmps9
        go_wp2_with (first
                        | (go_at_call 34; (with_reducible refine (AW.out _).mono ?_); rintro e w1 ⟨rfl, hb⟩; have BX := Lib.hid (BX.out.keep hb); have z0 := BX.out.c0; have z1 := BX.out.c1; clear hb)
                        | (go_at_call 12; (with_reducible refine (refshortF_any _ _ _ _ _ _ BX.out.row).mono ?_); rintro e w1 ⟨rfl, hb⟩; have BX := Lib.hid (BX.out.keep hb); have z0 := BX.out.c0; have z1 := BX.out.c1; clear hb)
                        | (go_at_call 16; (with_reducible refine (HR.out _ BX.out.row).mono ?_); rintro e w1 ⟨rfl, hb⟩; have BX := Lib.hid (BX.out.keep hb); have z0 := BX.out.c0; have z1 := BX.out.c1; clear hb))
        have E0 := Ext.cell z0 BX.out.lt
        have E1 := Ext.cell z1 BX.out.lt
        refine wp_region_ext (by kernel_rfl) (by kernel_rfl) ?_
        repeat (go_big_quiet_step (fail))
        refine wpQuiet_nil ?_
        intro w' hw'
        obtain ⟨⟨w2, hb2⟩, hw''⟩ := hw'
        dsimp only at hw''
        subst hw''
        clear E0 E1
        rw [hX, hY]
        clear hX hY
        have BX := Lib.hid (BX.out.keep hb2)
        have z0 := BX.out.c0
        have z1 := BX.out.c1
        clear hb2
        go_wp2_with (first
          | (go_at_call 35; (refine (GM.out _ BX.out.row).mono ?_); rintro e w1 ⟨a1, len1, cap1, L1, rfl, hr1, hcl, hb⟩; have BX := Lib.hid ((BX.out.keep hb).keep (below_box w1 (forB a1 len1 cap1 m))); have z0 := BX.out.c0; have z1 := BX.out.c1; have BG := Lib.hid (Box.start (m := m) hr1); have g0 := BG.out.c0; have g1 := BG.out.c1; have CL1 := Lib.hid hcl; clear hb hr1 hcl)
          | (go_at_call 17; (refine (GS.out _ _ _ _ _ BX.out.row BG.out.row CL1.out).mono ?_); rintro e w3 ⟨rfl, hb⟩; have BX := Lib.hid (BX.out.keep hb); clear hb))
        go_ret
        exact ⟨rfl, BX.out.below⟩
      subst hE0
      obtain ⟨-, k, xc, hk, hxc, hho, hbare, hroom, hAL, hAN⟩ := att_is hE
      obtain rfl : X = k := Int.ofNat.inj hk
      obtain ⟨G, hG⟩ : ∃ G, attL m (coreL L0) (X : Int) = G := ⟨_, rfl⟩
      have A := Lib.hid (Att.mk (m := m) (F := coreL L0) (G := G) (k := X) (x := xc) C1.out hxc hho hbare hroom (by rw [← hG]; exact hAL))
      have FA := Lib.hid (A.out.facts (b := Y) (by rw [hlc]; exact hYl))
      have GM : Hid (∀ W, NodeRow W a0 len0 cap0 L0 → Calls Try.prog 35 #[forV a0 len0 cap0 m, .int .i64 X] W (ForPost W G m [.int .i64 (len0 : Int), .int .i64 0])) := Lib.hid (fun W h => by
        have h1 := HS.out.attach a0 len0 cap0 m L0 X W h HM.out (in_nat X hXl) SM.out
        rwa [hG, hAN, hE, hlc] at h1)
      obtain ⟨cb, hcb⟩ : ∃ cb, connZ m (coreL L0) (X : Int) = cb := ⟨_, rfl⟩
      have GCF : Hid (∀ W, NodeRow W a0 len0 cap0 L0 → Calls Try.prog 37 #[forV a0 len0 cap0 m, .int .i64 X] W fun e w' => e = .returned (.bool cb) ∧ Below W.heap.size W w') := Lib.hid (fun W h => by
        rw [← hcb]
        exact HS.out.conn a0 len0 cap0 m L0 X W h HM.out (in_nat X hXl) SM.out)
      obtain ⟨lw, hlw⟩ : ∃ lw, allZ m (coreL L0) (Y : Int) = lw := ⟨_, rfl⟩
      obtain ⟨ln, hln⟩ : ∃ ln, allZ m G (Y : Int) = ln := ⟨_, rfl⟩
      have GAF : Hid (∀ W, NodeRow W a0 len0 cap0 L0 → Calls Try.prog 38 #[forV a0 len0 cap0 m, .int .i64 Y] W (OrdPost W lw)) := Lib.hid (fun W h => by
        rw [← hlw]
        exact HS.out.all a0 len0 cap0 m L0 Y W h HM.out (in_nat Y hYl) SM.out)
      have GO : Hid (∀ W (b : Bool), NodeRow W a0 len0 cap0 L0 → overZ m (coreL L0) Y X = b → Calls Try.prog 40 #[forV a0 len0 cap0 m, .int .i64 Y, .int .i64 X] W fun e w' => e = .returned (.bool b) ∧ Below W.heap.size W w') := Lib.hid (fun W b h hb => by
        rw [← hb]
        exact HS.out.over a0 len0 cap0 m L0 Y X W h HM.out (in_nat Y hYl) (in_nat X hXl) SM.out)
      have HFL := Lib.hid FA.out.len
      have HFM := Lib.hid FA.out.many
      rw [hlw, hln] at HFL
      rw [hln, hlc] at HFM
      have HLW : Hid (lw.length ≤ 60) := Lib.hid (by
        rw [← hlw, allZ_eq C1.out (by rw [hlc]; exact hYl)]
        have := allI_len C1.out (x := Y) (by rw [hlc]; exact hYl)
        omega)
      have in_big : ∀ k : Nat, k ≤ len0 → In64 (k : Int) := fun k hk => ⟨by omega, by omega⟩
      have GR2 : Hid (∀ W a1 len1 cap1 L1, NodeRow W a1 len1 cap1 L1 → coreL L1 = G → Calls Try.prog 16 #[forV a1 len1 cap1 m] W fun e w' => e = .returned (.bool true) ∧ Below W.heap.size W w') := Lib.hid (fun W a1 len1 cap1 L1 h hc => by
        have := HF.out.right a1 len1 cap1 m L1 W h HM.out (A.out.small SM.out (by rw [HL.out]; exact hlow) hc)
        rwa [hc, FA.out.right] at this)
      have GC2 : Hid (∀ W a1 len1 cap1 L1, NodeRow W a1 len1 cap1 L1 → coreL L1 = G → Calls Try.prog 37 #[forV a1 len1 cap1 m, .int .i64 len0] W fun e w' => e = .returned (.bool cb) ∧ Below W.heap.size W w') := Lib.hid (fun W a1 len1 cap1 L1 h hc => by
        have := HS.out.conn a1 len1 cap1 m L1 len0 W h HM.out (in_big len0 (Nat.le_refl _)) (A.out.small SM.out (by rw [HL.out]; exact hlow) hc)
        have h2 := FA.out.conn
        rw [hlc] at h2
        rwa [hc, h2, hcb] at this)
      have GA2 : Hid (∀ W a1 len1 cap1 L1, NodeRow W a1 len1 cap1 L1 → coreL L1 = G → Calls Try.prog 38 #[forV a1 len1 cap1 m, .int .i64 Y] W (OrdPost W ln)) := Lib.hid (fun W a1 len1 cap1 L1 h hc => by
        have := HS.out.all a1 len1 cap1 m L1 Y W h HM.out (in_nat Y hYl) (A.out.small SM.out (by rw [HL.out]; exact hlow) hc)
        rwa [hc, hln] at this)
      have GT2 : Hid (∀ W a1 len1 cap1 L1, NodeRow W a1 len1 cap1 L1 → coreL L1 = G → Calls Try.prog 19 #[forV a1 len1 cap1 m, .int .i64 len0] W fun e w' => e = .returned (.int .i64 (len0 : Int)) ∧ Below W.heap.size W w') := Lib.hid (fun W a1 len1 cap1 L1 h hc => by
        have := HF.out.root a1 len1 cap1 m L1 len0 W h HM.out (in_big len0 (Nat.le_refl _)) (A.out.small SM.out (by rw [HL.out]; exact hlow) hc)
        have h2 := FA.out.root
        rw [hlc] at h2
        rwa [hc, h2] at this)
      clear SM HF HS in_nat hlc hE hk hxc hho hroom hAL hAN hG hcb hlw hln in_big FA
      have HBARE := Lib.hid hbare
      clear hbare
      go_enter Try.func9, Try.ntmps9
      go_wp2_with (first
                      | (go_at_call 34; (with_reducible refine (AW.out _).mono ?_); rintro e w1 ⟨rfl, hb⟩; have BX := Lib.hid (BX.out.keep hb); have z0 := BX.out.c0; have z1 := BX.out.c1; clear hb)
                      | (go_at_call 12; (with_reducible refine (refshortF_any _ _ _ _ _ _ BX.out.row).mono ?_); rintro e w1 ⟨rfl, hb⟩; have BX := Lib.hid (BX.out.keep hb); have z0 := BX.out.c0; have z1 := BX.out.c1; clear hb)
                      | (go_at_call 16; (with_reducible refine (HR.out _ BX.out.row).mono ?_); rintro e w1 ⟨rfl, hb⟩; have BX := Lib.hid (BX.out.keep hb); have z0 := BX.out.c0; have z1 := BX.out.c1; clear hb))
      have E0 := Ext.cell z0 BX.out.lt
      have E1 := Ext.cell z1 BX.out.lt
      refine wp_region_ext (by kernel_rfl) (by kernel_rfl) ?_
      repeat (go_big_quiet_step (fail))
      refine wpQuiet_nil ?_
      intro w' hw'
      obtain ⟨⟨w2, hb2⟩, hw''⟩ := hw'
      dsimp only at hw''
      subst hw''
      clear E0 E1
      rw [hX, hY]
      clear hX hY
      have BX := Lib.hid (BX.out.keep hb2)
      have z0 := BX.out.c0
      have z1 := BX.out.c1
      clear hb2
      go_wp2_with (first
        | ((go_at_call 35; (refine (GM.out _ BX.out.row).mono ?_); rintro e w1 ⟨a1, len1, cap1, L1, rfl, hr1, hcl, hb⟩; have BX := Lib.hid ((BX.out.keep hb).keep (below_box w1 (forB a1 len1 cap1 m))); have z0 := BX.out.c0; have z1 := BX.out.c1; have BG := Lib.hid (Box.start (m := m) hr1); have g0 := BG.out.c0; have g1 := BG.out.c1; have CL1 := Lib.hid hcl; clear hb hr1 hcl)
           have HL1 : Hid (len1 = len0 + 1) := Lib.hid (by
             have h1 := congrArg List.length CL1.out
             have h2 := BG.out.row.hlen
             rw [A.out.len, HLC.out] at h1
             unfold coreL at h1
             rw [List.length_map, h2] at h1
             exact h1)))
      have hl1 := HL1.out
      subst hl1
      obtain ⟨b2, o2, v, hab, hb2, hv, hat, hok⟩ := BG.out.row.get (show X < len0 + 1 by omega)
      subst hab
      have hvc : v.core = withU xc (len0 : Int) := by
        have h1 := coreL_get hv
        rw [CL1.out, A.out.at_k, HLC.out] at h1
        exact (Option.some.inj h1).symm
      have q8 := hat.c8
      rw [hvc] at q8
      unfold withU at q8
      dsimp only at q8
      have hw1 : IntKind.i64.wrap ((len0 : Int) + 1) = (len0 : Int) + 1 := IntWalk.i64_in _ (by omega)
      have b1 : ((len0 : Int) != (len0 : Int)) = false := by simp
      have b3 : (((len0 : Int) + 1) != ((len0 : Int) + 1)) = false := by simp
      clear hv hat hok hvc
      go_cut [91] (fun c wx => c = .bool false ∧ Hid (Box w wx w.heap.size a0 len0 cap0 m L0 (coreL L0)) ∧ Hid (Box w1 wx w1.heap.size (some ⟨b2, o2, none⟩) (len0 + 1) cap1 m L1 (coreL L1)))
      case first =>
        cases cb
        all_goals
          have E0 := Ext.cell z0 BX.out.lt
          have E1 := Ext.cell z1 BX.out.lt
          have EG0 := Ext.cell g0 BG.out.lt
          have EG1 := Ext.cell g1 BG.out.lt
          have EQ8 := Ext.cell q8 hb2
          have ER := Lib.hid (fun (x : Ext (w1.alloc (forB (some ⟨b2, o2, none⟩) (len0 + 1) cap1 m))) => GR2.out x.v _ _ _ _ (BG.out.row.below x.below) CL1.out)
          have ECG := Lib.hid (fun (x : Ext (w1.alloc (forB (some ⟨b2, o2, none⟩) (len0 + 1) cap1 m))) => GC2.out x.v _ _ _ _ (BG.out.row.below x.below) CL1.out)
          have ECF := Lib.hid (fun (x : Ext (w1.alloc (forB (some ⟨b2, o2, none⟩) (len0 + 1) cap1 m))) => GCF.out x.v (BX.out.row.below x.below))
          refine wp_region_ext (by kernel_rfl) (by kernel_rfl) ?_
          repeat (go_big_quiet_step (first
            | (go_at_call 16; exact Ext.call_below (ER.out _))
            | (go_at_call 37; first | with_reducible exact Ext.call_below (ECG.out _) | with_reducible exact Ext.call_below (ECF.out _))))
          refine wpQuiet_nil ?_
          intro w' hw'
          obtain ⟨⟨w3, hb3⟩, hw''⟩ := hw'
          dsimp only at hw''
          subst hw''
          clear E0 E1 EG0 EG1 EQ8 ER ECG ECF
          have BX := Lib.hid (BX.out.keep hb3)
          have BG := Lib.hid (BG.out.keep hb3)
          clear hb3
          go_wp2
          go_meet
          exact ⟨rfl, BX, BG⟩
      case rest =>
        clear BX BG z0 z1 g0 g1 q8 hw1 b1 b3 hb2
        obtain ⟨rfl, BX, BG⟩ := hcut
        go_wp2
        go_loopw [12] (fun i wr => ∃ k : Nat, k ≤ len0 ∧ i = .int .i64 k ∧ Hid (Box w wr w.heap.size a0 len0 cap0 m L0 (coreL L0)) ∧ Hid (Box w1 wr w1.heap.size (some ⟨b2, o2, none⟩) (len0 + 1) cap1 m L1 (coreL L1))) (fun i _ => len0 - (intOf i).toNat)
        case atStart => exact ⟨0, Nat.zero_le _, rfl, BX, BG⟩
        case round =>
          clear BX BG
          obtain ⟨k, hk, rfl, BX, BG⟩ := hrel
          have z0 := BX.out.c0
          have z1 := BX.out.c1
          have g0 := BG.out.c0
          have g1 := BG.out.c1
          by_cases hlt : k < len0
          · obtain ⟨ba, oa, nx, hab, hba, hgx, hatx, hokx⟩ := BX.out.row.get hlt
            subst hab
            obtain ⟨bb, ob, ny, hab, hbb, hgy, haty, hoky⟩ := BG.out.row.get (show k < len0 + 1 by omega)
            injection hab with hab
            injection hab with e1 e2
            subst e1 e2
            have hcy : ny.core = withU nx.core (if k = X then (len0 : Int) else nx.core.under) := by
              obtain ⟨c', h1, h2⟩ := A.out.like (coreL_get hgx)
              have h3 := coreL_get hgy
              rw [CL1.out, h1] at h3
              rw [← Option.some.inj h3, h2, HLC.out]
            obtain ⟨ny2, hny2, hny3, hoky2⟩ : ∃ ny2, (if k = X then withUD ny (-1) else ny) = ny2 ∧ ny2.core = nx.core ∧ NodeOk wr ny2 := by
              refine ⟨_, rfl, ?_, ?_⟩
              · by_cases e : k = X
                · rw [if_pos e] at hcy ⊢
                  show withU ny.core (-1) = nx.core
                  rw [hcy]
                  have hxx : nx.core = xc := by
                    have h1 := coreL_get hgx
                    rw [e, A.out.hx] at h1
                    exact (Option.some.inj h1).symm
                  rw [hxx]
                  exact withU_back HBARE.out
                · rw [if_neg e] at hcy ⊢
                  rw [hcy]
                  rfl
              · by_cases e : k = X
                · rw [if_pos e]
                  exact withUD_ok hoky inM1
                · rw [if_neg e]
                  exact hoky
            have NK0 := Lib.hid (NKeep.start hoky2)
            have EO : Hid (∀ W, NodeOk W ny2 → NodeOk W nx → Calls Try.prog 33 #[nodV ny2, nodV nx] W fun e w' => e = .returned (.bool true) ∧ Below W.heap.size W w') := Lib.hid (fun W h1 h2 => by
              have := refone_any ny2 nx W h1 h2
              rwa [hny3, decide_eq_true rfl] at this)
            have HOX := Lib.hid hokx
            have HBA := Lib.hid hba
            have HAX := Lib.hid hatx
            obtain ⟨v0, v1, v2, v3, v4, v5, v6, v7, v8, v9⟩ := haty
            clear hatx hokx hoky hgx hgy hcy hny3 hoky2
            have GOON : ∀ (W : World), NKeep wr W ny2 → Hid (Box w W w.heap.size (some ⟨ba, oa, none⟩) len0 cap0 m L0 (coreL L0)) ∧ Hid (Box w1 W w1.heap.size (some ⟨b2, o2, none⟩) (len0 + 1) cap1 m L1 (coreL L1)) ∧ NodeAt W ba (oa + k * 10) nx ∧ ba < W.heap.size ∧ Hid (∀ x : Ext W, Calls Try.prog 33 #[nodV ny2, nodV nx] x.v fun e w' => e = .returned (.bool true) ∧ Below x.v.heap.size x.v w') := fun W NK =>
              ⟨Lib.hid (BX.out.keep NK.below), Lib.hid (BG.out.keep NK.below), HAX.out.below HBA.out NK.below, Nat.lt_of_lt_of_le HBA.out NK.below.size, Lib.hid (fun x => EO.out x.v (NK.box.ok.below x.below) ((HOX.out.below NK.below).below x.below))⟩
            have GOON := Lib.hid GOON
            by_cases hkX : k = X
            · rw [if_pos hkX] at hny2
              subst hkX
              have e1 : ((k : Int) == (k : Int)) = true := by simp
              go_wp2
              obtain ⟨W, hW, NK⟩ : ∃ W, wr.alloc (nodB (withUD ny (-1))) = W ∧ NKeep wr W ny2 := ⟨_, rfl, by rw [hny2]; exact NK0.out⟩
              dsimp only [nodB, withUD, withU] at hW
              rw [hW]
              clear hW v0 v1 v2 v3 v4 v5 v6 v7 v8 v9 z0 z1 g0 g1
              (
                obtain ⟨BX, BG, ⟨x0, x1, x2, x3, x4, x5, x6, x7, x8, x9⟩, hba2, ECO⟩ := GOON.out _ NK
                have z0 := BX.out.c0
                obtain ⟨hgl, v0, v1, v2, v3, v4, v5, v6, v7, v8, v9, -⟩ := NK.box
                clear NK
                have E0 := Ext.cell z0 BX.out.lt
                have EX0 := Ext.cell x0 hba2
                have EX1 := Ext.cell x1 hba2
                have EX2 := Ext.cell x2 hba2
                have EX3 := Ext.cell x3 hba2
                have EX4 := Ext.cell x4 hba2
                have EX5 := Ext.cell x5 hba2
                have EX6 := Ext.cell x6 hba2
                have EX7 := Ext.cell x7 hba2
                have EX8 := Ext.cell x8 hba2
                have EX9 := Ext.cell x9 hba2
                have EY0 := Ext.cell v0 hgl
                have EY1 := Ext.cell v1 hgl
                have EY2 := Ext.cell v2 hgl
                have EY3 := Ext.cell v3 hgl
                have EY4 := Ext.cell v4 hgl
                have EY5 := Ext.cell v5 hgl
                have EY6 := Ext.cell v6 hgl
                have EY7 := Ext.cell v7 hgl
                have EY8 := Ext.cell v8 hgl
                have EY9 := Ext.cell v9 hgl
                clear x0 x1 x2 x3 x4 x5 x6 x7 x8 x9 v0 v1 v2 v3 v4 v5 v6 v7 v8 v9 z0
                refine wp_region_ext (by kernel_rfl) (by kernel_rfl) ?_
                repeat (go_big_quiet_step ((go_at_call 33; exact Ext.call_below (ECO.out _))))
                refine wpQuiet_nil ?_
                intro w' hw'
                obtain ⟨⟨w2, hb2⟩, hw''⟩ := hw'
                dsimp only at hw''
                subst hw''
                have BX := Lib.hid (BX.out.keep hb2)
                have BG := Lib.hid (BG.out.keep hb2)
                clear E0 EX0 EX1 EX2 EX3 EX4 EX5 EX6 EX7 EX8 EX9 EY0 EY1 EY2 EY3 EY4 EY5 EY6 EY7 EY8 EY9 hb2 hba2 hgl ECO
                go_wp2
                go_roundw
                case rel => exact ⟨k + 1, hlt, by go_num, BX, BG⟩
                case measure => simp [intOf]; omega)
            · rw [if_neg hkX] at hny2
              have e1 : ((k : Int) == (X : Int)) = false := beq_eq_false_iff_ne.2 (fun e => hkX (Int.ofNat.inj e))
              clear hkX
              subst hny2
              go_wp2
              obtain ⟨W, hW, NK⟩ : ∃ W, wr.alloc (nodB ny) = W ∧ NKeep wr W ny := ⟨_, rfl, NK0.out⟩
              dsimp only [nodB] at hW
              rw [hW]
              clear hW v0 v1 v2 v3 v4 v5 v6 v7 v8 v9 z0 z1 g0 g1
              generalize ny = ny2 at NK GOON
              (
                obtain ⟨BX, BG, ⟨x0, x1, x2, x3, x4, x5, x6, x7, x8, x9⟩, hba2, ECO⟩ := GOON.out _ NK
                have z0 := BX.out.c0
                obtain ⟨hgl, v0, v1, v2, v3, v4, v5, v6, v7, v8, v9, -⟩ := NK.box
                clear NK
                have E0 := Ext.cell z0 BX.out.lt
                have EX0 := Ext.cell x0 hba2
                have EX1 := Ext.cell x1 hba2
                have EX2 := Ext.cell x2 hba2
                have EX3 := Ext.cell x3 hba2
                have EX4 := Ext.cell x4 hba2
                have EX5 := Ext.cell x5 hba2
                have EX6 := Ext.cell x6 hba2
                have EX7 := Ext.cell x7 hba2
                have EX8 := Ext.cell x8 hba2
                have EX9 := Ext.cell x9 hba2
                have EY0 := Ext.cell v0 hgl
                have EY1 := Ext.cell v1 hgl
                have EY2 := Ext.cell v2 hgl
                have EY3 := Ext.cell v3 hgl
                have EY4 := Ext.cell v4 hgl
                have EY5 := Ext.cell v5 hgl
                have EY6 := Ext.cell v6 hgl
                have EY7 := Ext.cell v7 hgl
                have EY8 := Ext.cell v8 hgl
                have EY9 := Ext.cell v9 hgl
                clear x0 x1 x2 x3 x4 x5 x6 x7 x8 x9 v0 v1 v2 v3 v4 v5 v6 v7 v8 v9 z0
                refine wp_region_ext (by kernel_rfl) (by kernel_rfl) ?_
                repeat (go_big_quiet_step ((go_at_call 33; exact Ext.call_below (ECO.out _))))
                refine wpQuiet_nil ?_
                intro w' hw'
                obtain ⟨⟨w2, hb2⟩, hw''⟩ := hw'
                dsimp only at hw''
                subst hw''
                have BX := Lib.hid (BX.out.keep hb2)
                have BG := Lib.hid (BG.out.keep hb2)
                clear E0 EX0 EX1 EX2 EX3 EX4 EX5 EX6 EX7 EX8 EX9 EY0 EY1 EY2 EY3 EY4 EY5 EY6 EY7 EY8 EY9 hb2 hba2 hgl ECO
                go_wp2
                go_roundw
                case rel => exact ⟨k + 1, hlt, by go_num, BX, BG⟩
                case measure => simp [intOf]; omega)
          · go_wp2
            clear hlt hk
            go_region_held3 (fun v => v.cell? ⟨w.heap.size, 0, none⟩ = some (.slice a0 len0 cap0) ∧ v.cell? ⟨w.heap.size, 1, none⟩ = some (.int .i64 m) ∧ v.cell? ⟨w1.heap.size, 0, none⟩ = some (.slice (some ⟨b2, o2, none⟩) (len0 + 1) cap1) ∧ v.cell? ⟨w1.heap.size, 1, none⟩ = some (.int .i64 m)) (go_keep)
              (first
                | (go_at_call 38; (first | with_reducible refine (GAF.out _ BX.out.row).mono ?_ | with_reducible refine (GAF.out _ (BX.out.row.below (Below.refl _ _).drew)).mono ?_); intro e w3 hp; obtain ⟨aw, lenw, cw, rfl, hrw, hb⟩ := hp; have RW := Lib.hid hrw; (first | have RN := Lib.hid (RN.out.below hb) | skip); have BX : Hid (Box w w3 w.heap.size a0 len0 cap0 m L0 (coreL L0)) := Lib.hid (by first | exact BX.out.keep hb | exact BX.out.keep ((Below.refl _ _).drew.trans hb)); have BG : Hid (Box w1 w3 w1.heap.size (some ⟨b2, o2, none⟩) (len0 + 1) cap1 m L1 (coreL L1)) := Lib.hid (by first | exact BG.out.keep hb | exact BG.out.keep ((Below.refl _ _).drew.trans hb)); clear z0 z1 g0 g1; have z0 := BX.out.c0; have z1 := BX.out.c1; have g0 := BG.out.c0; have g1 := BG.out.c1; clear hrw hb)
                | (go_at_call 38; (first | with_reducible refine (GA2.out _ _ _ _ _ BG.out.row CL1.out).mono ?_ | with_reducible refine (GA2.out _ _ _ _ _ (BG.out.row.below (Below.refl _ _).drew) CL1.out).mono ?_); intro e w3 hp; obtain ⟨an, lenn, cn, rfl, hrn, hb⟩ := hp; have RN := Lib.hid hrn; (first | have RW := Lib.hid (RW.out.below hb) | skip); have BX : Hid (Box w w3 w.heap.size a0 len0 cap0 m L0 (coreL L0)) := Lib.hid (by first | exact BX.out.keep hb | exact BX.out.keep ((Below.refl _ _).drew.trans hb)); have BG : Hid (Box w1 w3 w1.heap.size (some ⟨b2, o2, none⟩) (len0 + 1) cap1 m L1 (coreL L1)) := Lib.hid (by first | exact BG.out.keep hb | exact BG.out.keep ((Below.refl _ _).drew.trans hb)); clear z0 z1 g0 g1; have z0 := BX.out.c0; have z1 := BX.out.c1; have g0 := BG.out.c0; have g1 := BG.out.c1; clear hrn hb))
            all_goals
              have hwl := RW.out.hlen
              have hnl := RN.out.hlen
              have hw60 := HLW.out
              have hfl := HFL.out
              have b1 : ((len0 : Int) == (len0 : Int)) = true := by simp
              cases ho : overZ m (coreL L0) (Y : Int) (X : Int) with
              | true =>
                have HMY := Lib.hid HFM.out
                rw [ho, if_pos rfl] at HMY hfl
                obtain rfl : lenn = lenw + 1 := by omega
                (
                  have hw1 : lenw ≤ 60 := by omega
                  have HQ := Lib.hid (refhas_any an _ cn ln (len0 : Int) _ RN.out)
                  rw [HMY.out] at HQ
                  clear hfl hwl hnl hw60
                  go_wp2_with (first
                    | (go_at_call 40; (refine (GO.out _ _ BX.out.row (by assumption)).mono ?_); rintro e w4 ⟨rfl, hb⟩; have BX := Lib.hid (BX.out.keep hb); have BG := Lib.hid (BG.out.keep hb); have RN := Lib.hid (RN.out.below hb); have HQ := Lib.hid (refhas_any an _ cn ln (len0 : Int) _ RN.out); rw [HMY.out] at HQ; clear z0 z1 g0 g1; have z0 := BX.out.c0; have z1 := BX.out.c1; have g0 := BG.out.c0; have g1 := BG.out.c1; clear hb)
                    | (go_at_call 31; (refine (HQ.out).mono ?_); rintro e w4 ⟨rfl, rfl⟩)
                    | (go_at_call 19; (refine (GT2.out _ _ _ _ _ BG.out.row CL1.out).mono ?_); rintro e w4 ⟨rfl, hb⟩; have BX := Lib.hid (BX.out.keep hb); clear hb))
                  go_ret
                  exact ⟨rfl, BX.out.below⟩)
              | false =>
                have HMY := Lib.hid HFM.out
                rw [ho, if_neg (by decide)] at HMY hfl
                obtain rfl : lenw = lenn := by omega
                (
                  have hw1 : lenw ≤ 60 := by omega
                  have HQ := Lib.hid (refhas_any an _ cn ln (len0 : Int) _ RN.out)
                  rw [HMY.out] at HQ
                  clear hfl hwl hnl hw60
                  go_wp2_with (first
                    | (go_at_call 40; (refine (GO.out _ _ BX.out.row (by assumption)).mono ?_); rintro e w4 ⟨rfl, hb⟩; have BX := Lib.hid (BX.out.keep hb); have BG := Lib.hid (BG.out.keep hb); have RN := Lib.hid (RN.out.below hb); have HQ := Lib.hid (refhas_any an _ cn ln (len0 : Int) _ RN.out); rw [HMY.out] at HQ; clear z0 z1 g0 g1; have z0 := BX.out.c0; have z1 := BX.out.c1; have g0 := BG.out.c0; have g1 := BG.out.c1; clear hb)
                    | (go_at_call 31; (refine (HQ.out).mono ?_); rintro e w4 ⟨rfl, rfl⟩)
                    | (go_at_call 19; (refine (GT2.out _ _ _ _ _ BG.out.row CL1.out).mono ?_); rintro e w4 ⟨rfl, hb⟩; have BX := Lib.hid (BX.out.keep hb); clear hb))
                  go_ret
                  exact ⟨rfl, BX.out.below⟩)
end Go.Proofs.Ytdalljhgmhjibaa
/- ShadeAttached's walk, over both packages' contracts as one. -/
namespace Go.Proofs.Ytdalljhgmhjibaa
open Go.RowKit
theorem shadeAttached_walk4 (P : Lay4) (a0 : Option Addr) (len0 cap0 : Nat) (m : Int) (L0 : List NodeD) (x y : Int) (w : World)
    (h0 : NodeRow w a0 len0 cap0 L0) (hm : In64 m) (hx : 0 ≤ x ∧ x ≤ 255) (hy : 0 ≤ y ∧ y ≤ 255) :
    Calls Try.prog 9 #[forV a0 len0 cap0 m, .int .u8 x, .int .u8 y] w fun e w' => e = .returned (.bool true) ∧ Below w.heap.size w w' :=
  shadeAttached_walk P.f P.s a0 len0 cap0 m L0 x y w h0 hm hx hy
end Go.Proofs.Ytdalljhgmhjibaa
