/- Texts joined in build order: MoveOver. -/
import Derived.Test.YtkfmengdffpcnaaGreatDoorA23
namespace Go.Proofs.YtkfmengdffpcnaaGreatDoor
open Go.RowKit
section
variable {m : Int} {F : List Core}
theorem mv3 : In64 3 := ⟨by decide, by decide⟩
theorem edit_refl (F : List Core) : Edit F F (fun _ c => c.parent) (fun _ c => c.kids) (fun _ c => c.doc) := ⟨rfl, fun _ _ h => h⟩
theorem outS_facts {S : St} (h : rightF m S.1 = true) {n : Nat} (hn : n < S.1.length) : rightF m (outS S n).1 = true ∧ (∃ P K, Edit S.1 (outS S n).1 P K (fun _ c => c.doc)) ∧ parentK (outS S n).1 n = -1 := by
  have hx : S.1[n]? = some S.1[n] := List.getElem?_eq_getElem hn
  unfold outS
  by_cases hp : parentK S.1 n = -1
  · rw [if_pos hp]
    exact ⟨h, ⟨_, _, edit_refl _⟩, hp⟩
  · rw [if_neg hp]
    rw [parentK_at hx] at hp
    obtain ⟨p, hpp, hpl, ho⟩ := mvOut_out h hx hp
    refine ⟨ho.rightG, ⟨_, _, ho.ed⟩, ?_⟩
    show parentK (mvOut S.1 n) n = -1
    rw [parentK_at (ho.ed.at_ n _ hx)]
    exact if_pos rfl
theorem top_none (h : rightF m F = true) {n : Nat} (hn : n < F.length) (hp : parentK F n = -1) (hk : kindK F n = 1 ∨ kindK F n = 2) : parS F n = none := by
  have hx : F[n]? = some F[n] := List.getElem?_eq_getElem hn
  rw [parentK_at hx] at hp
  rw [kindK_at hx] at hk
  refine parS_none ?_
  rw [nextUp_at hx]
  show (if F[n].parent = -1 then F[n].host else F[n].parent) = -1
  rw [if_pos hp]
  exact (right_node h hx).free (by omega)
theorem taken_doc (h : rightF m F = true) {n : Nat} (hn : n < F.length) (hp : parentK F n = -1) (hk : kindK F n = 1 ∨ kindK F n = 2) {d : Int} (hd : ∃ c, getC F d = some c ∧ c.kind = 0) : Taken m F (mvDoc F n d) n d :=
  ⟨h, hn, top_none h hn hp hk, by omega, hd, edF_edit _ _ _ _⟩
theorem docIs_edit {F G : List Core} {P : Nat → Core → Int} {K : Nat → Core → List Int} {D : Nat → Core → Int} (h : Edit F G P K D) {d : Int} (hd : ∃ c, getC F d = some c ∧ c.kind = 0) : ∃ c, getC G d = some c ∧ c.kind = 0 := by
  obtain ⟨c, h1, h2⟩ := hd
  exact ⟨_, h.getC h1, h2⟩
end
section
variable {ρ : Nat → Nat} {pw g cap len : Nat} {m : Int} {M : List NodeD} {v : Value} {N : List NoteD}
theorem core_setD {M M2 : List NodeD} {P : Nat → Core → Int} {K : Nat → Core → List Int} {D : Nat → Core → Int} {k : Nat} {x : NodeD} {d : Int} (h : Edit (coreL M) (coreL M2) P K D) (hx : M2[k]? = some x) :
    Edit (coreL M) (coreL (M2.set k (withD x d))) P K (fun j c => if j = k then d else D j c) := by
  refine ⟨by unfold coreL; rw [List.length_map, List.length_set]; have := h.len; unfold coreL at this; rwa [List.length_map] at this, fun j c hc => ?_⟩
  have h1 := h.at_ j c hc
  unfold coreL at h1 ⊢
  rw [List.getElem?_map] at h1 ⊢
  by_cases e : j = k
  · subst e
    rw [hx] at h1
    rw [List.getElem?_set_self (List.getElem?_eq_some_iff.1 hx).1, if_pos rfl]
    have h1 : x.core = edC c (P j c) (K j c) (D j c) := Option.some.inj h1
    show some (withD x d).core = _
    have e2 : (withD x d).core = edC x.core x.core.parent x.core.kids d := rfl
    rw [e2, h1]
    rfl
  · rw [List.getElem?_set_ne (fun e2 => e e2.symm), if_neg e]
    exact h1
set_option maxHeartbeats 8000000 in
set_option maxRecDepth 100000 in
theorem mover_any (w : World) (h : Wk ρ w pw g cap len m M v N) (hr : rightF m (coreL M) = true) (hs : smallF M) (n : Nat) (hn : n < len) (hkd : kindK (coreL M) n = 1 ∨ kindK (coreL M) n = 2) (d : Int) (hd64 : In64 d) (hd : ∃ c, getC (coreL M) d = some c ∧ c.kind = 0) (hN : N.length ≤ 80000000) :
    Calls Tryz.prog 88 #[ptrV pw, .int .i64 n, .int .i64 d] w (WkPost ρ w pw g cap len m fun M' N' => (coreL M', N') = overS (coreL M, N) n d ∧ smallF M' ∧ rightF m (coreL M') = true) := by
  have HL : Hid ((coreL M).length = len) := Lib.hid (by rw [coreL_len, h.hlen])
  have hl1k : len ≤ 1000 := by rw [← h.hlen]; exact hs.1
  obtain ⟨x, hx⟩ : ∃ x, M[n]? = some x := ⟨_, List.getElem?_eq_getElem (by rw [h.hlen]; exact hn)⟩
  have OF := Lib.hid (outS_facts (S := (coreL M, N)) hr (show n < (coreL M).length by rw [HL.out]; exact hn))
  have HW := Lib.hid h
  have HX := Lib.hid hx
  have HR := Lib.hid hr
  have HS := Lib.hid hs
  have HN := Lib.hid hN
  have HKD := Lib.hid hkd
  have HD := Lib.hid hd
  have HD64 := Lib.hid hd64
  have HPK : Hid (parentK (coreL M) n = x.core.parent) := Lib.hid (parentK_at (coreL_get hx))
  have hl64 : (len : Int) ≤ 9223372036854775807 := by omega
  have p0 := h.c0
  have x5 := (h.at_ hx).c5
  clear h hr hs hx hkd hd hd64
  go_enter Tryz.func88, Tryz.ntmps88
  go_upto_if 18 with fail
  go_cut [] (fun wx => True ∧ ∃ ρ1 M1 v1 N1, Hid (Wk ρ1 wx pw g cap len m M1 v1 N1) ∧ Hid (Turn ρ w wx) ∧ Hid (∀ k, k < w.heap.size → ρ1 k = ρ k) ∧ Hid ((coreL M1, N1) = outS (coreL M, N) n) ∧ Hid (smallF M1) ∧ Hid (rightF m (coreL M1) = true))
  case first =>
    by_cases hp : x.core.parent = -1
    · have e1 : (x.core.parent != -1) = false := by rw [hp]; rfl
      have HO : Hid (outS (coreL M, N) n = (coreL M, N)) := Lib.hid (by unfold outS; rw [if_pos (by rw [HPK.out]; exact hp)])
      clear hp
      go_wp2
      go_meet
      exact ⟨trivial, ρ, M, v, N, HW, Lib.hid (Turn.refl _ _), Lib.hid (fun _ _ => rfl), Lib.hid HO.out.symm, HS, HR⟩
    · have e1 : (x.core.parent != -1) = true := bne_iff_ne.2 hp
      have CO := Lib.hid (mgoOut_any w HW.out HR.out HS.out n hn (by rw [HPK.out]; exact hp) (by have := HN.out; omega))
      clear hp
      go_wp2_with (go_at_call 55; (with_reducible refine CO.out.mono ?_); rintro e w9 ⟨rfl, ρ9, M9, v9, N9, W9, T9, A9, E9, S9, R9⟩)
      go_meet
      exact ⟨trivial, ρ9, M9, v9, N9, Lib.hid W9, Lib.hid T9, Lib.hid A9, Lib.hid E9, Lib.hid S9, Lib.hid R9⟩
  case rest =>
    obtain ⟨-, ρ1, M1, v1, N1, W1, T1, A1, E1, S1, R1⟩ := hcut
    have HL1 : Hid ((coreL M1).length = len) := Lib.hid (by rw [coreL_len, W1.out.hlen])
    obtain ⟨x1, hx1⟩ : ∃ x1, M1[n]? = some x1 := ⟨_, List.getElem?_eq_getElem (by rw [W1.out.hlen]; exact hn)⟩
    have EA : Hid ((outS (coreL M, N) n).1 = coreL M1) := Lib.hid (by rw [← E1.out])
    have EB : Hid ((outS (coreL M, N) n).2 = N1) := Lib.hid (by rw [← E1.out])
    have OV : Hid (overS (coreL M, N) n d = if x1.core.doc = d then (coreL M1, N1) else (mvDoc (coreL M1) n d, N1 ++ tellN (coreL M1) n ⟨3, 0, x1.core.doc, d, ⟨#[]⟩, false, false, ⟨#[]⟩, ⟨#[]⟩⟩)) := Lib.hid (by
      unfold overS
      simp only [docK_at (coreL_get hx1), ← E1.out])
    have ED1 : Hid (∃ P K, Edit (coreL M) (coreL M1) P K (fun _ c => c.doc)) := Lib.hid (by rw [← EA.out]; exact OF.out.2.1)
    have HP1 : Hid (parentK (coreL M1) n = -1) := Lib.hid (by rw [← EA.out]; exact OF.out.2.2)
    have HK1 : Hid (kindK (coreL M1) n = 1 ∨ kindK (coreL M1) n = 2) := Lib.hid (by obtain ⟨P, K, e⟩ := ED1.out; rw [e.kindK]; exact HKD.out)
    have HD1 : Hid (∃ c, getC (coreL M1) d = some c ∧ c.kind = 0) := Lib.hid (by obtain ⟨P, K, e⟩ := ED1.out; exact docIs_edit e HD.out)
    have TK : Hid (Taken m (coreL M1) (mvDoc (coreL M1) n d) n d) := Lib.hid (taken_doc R1.out (by rw [HL1.out]; exact hn) HP1.out HK1.out HD1.out)
    have HN1 : Hid (N1.length ≤ 80001000) := Lib.hid (by
      rw [← EB.out]
      unfold outS
      split
      · have := HN.out
        show N.length ≤ _
        omega
      · show (if _ then N ++ tellN (coreL M) n (note 2) else N).length ≤ _
        have := HN.out
        split
        · rw [List.length_append]
          have := tellN_len HR.out (show n < (coreL M).length by rw [HL.out]; exact hn) (note 2)
          omega
        · omega)
    have HX1 := Lib.hid hx1
    have F1 := Lib.hid (W1.out.fld x1 (List.mem_of_getElem? hx1))
    have p0 := W1.out.c0
    have x9 := (W1.out.at_ hx1).c9
    clear hx1 E1 EA EB ED1 HW HX HR HS HKD HD OF HPK
    by_cases he : x1.core.doc = d
    · have e1 : (x1.core.doc == d) = true := beq_iff_eq.2 he
      have OV2 : Hid (overS (coreL M, N) n d = (coreL M1, N1)) := Lib.hid (by rw [OV.out, if_pos he])
      clear he
      go_wp2
      refine bodyPost_ret (v := .tuple #[]) (by simp [results, Tryz.results88]) rfl ⟨rfl, ρ1, M1, v1, N1, W1.out, T1.out, A1.out, OV2.out.symm, S1.out, R1.out⟩
    · have e1 : (x1.core.doc == d) = false := beq_eq_false_iff_ne.2 he
      have OV2 : Hid (overS (coreL M, N) n d = (mvDoc (coreL M1) n d, N1 ++ tellN (coreL M1) n ⟨3, 0, x1.core.doc, d, ⟨#[]⟩, false, false, ⟨#[]⟩, ⟨#[]⟩⟩)) := Lib.hid (by rw [OV.out, if_neg he])
      clear he OV
      have CF : Hid (∀ W, NodeRow W (some ⟨g, 0, none⟩) len cap M1 → Calls Tryz.prog 59 #[.slice (some ⟨g, 0, none⟩) len cap, .int .i64 n] W (OrdNew W (allI (coreL M1) n))) := Lib.hid (fun W h1 => wfull_any _ _ _ m _ n W h1 S1.out R1.out hn)
      have HA : Hid (∀ z ∈ allI (coreL M1) n, ∃ t : Nat, z = t ∧ t < len) := Lib.hid (fun z hz => by
        obtain ⟨t, h1, h2⟩ := all_in R1.out (by rw [HL1.out]; exact hn) z hz
        exact ⟨t, h1, by rw [← HL1.out]; exact h2⟩)
      have HAL : Hid ((allI (coreL M1) n).length ≤ 1000) := Lib.hid (Nat.le_trans (allI_len R1.out (by rw [HL1.out]; exact hn)) (by rw [HL1.out]; exact hl1k))
      go_wp2_with (go_at_call 59; (with_reducible refine (CF.out _ W1.out.row).mono ?_); rintro e w2 ⟨ra, rl, rc, rfl, hrl, hb, hrn⟩; have LR := Lib.hid hrl; have LN := Lib.hid hrn; have W2 := Lib.hid (W1.out.keep hb); have HB2 := Lib.hid hb; clear hb hrl hrn p0 x9)
      have hrl := LR.out.hlen
      have HRL := Lib.hid hrl
      have hrl1k : rl ≤ 1000 := by rw [← hrl]; exact HAL.out
      have LR0 : Hid (∀ b off, ra = some ⟨b, off, none⟩ → 0 < rl → ρ1 b = 0) := Lib.hid (fun b off he hp => W1.out.fresh b (LN.out b off he))
      clear hrl
      go_loopw [42] (fun i wr => ∃ (k : Nat) (Mk : List NodeD), k ≤ rl ∧ i = .int .i64 k ∧ Hid (Wk ρ1 wr pw g cap len m Mk v1 N1) ∧ Hid (Turn ρ1 w2 wr) ∧ Hid (Edit (coreL M1) (coreL Mk) (fun _ c => c.parent) (fun _ c => c.kids) (fun j c => if (j : Int) ∈ (allI (coreL M1) n).take k then d else c.doc))) (fun i _ => rl - (intOf i).toNat)
      case atStart => exact ⟨0, M1, Nat.zero_le _, rfl, W2, Lib.hid (Turn.refl _ _), Lib.hid ((edit_refl _).cong (fun j c _ => ⟨rfl, rfl, by simp⟩))⟩
      case round =>
        obtain ⟨k, Mk, hk, rfl, WK, TK2, EK⟩ := hrel
        by_cases hlt : k < rl
        · obtain ⟨bp, op, z, hpa, hbp, hz, hcz, hin⟩ := (TK2.out.introw LR.out LR0.out).get hlt
          obtain ⟨q, rfl, hql⟩ := HA.out z (List.mem_of_getElem? hz)
          obtain ⟨y, hy⟩ : ∃ y, Mk[q]? = some y := ⟨_, List.getElem?_eq_getElem (by rw [WK.out.hlen]; exact hql)⟩
          have EK2 := Lib.hid ((core_setD (d := d) EK.out hy).cong (P' := fun _ c => c.parent) (K' := fun _ c => c.kids) (D' := fun j c => if (j : Int) ∈ (allI (coreL M1) n).take (k + 1) then d else c.doc) (fun j c _ => ⟨rfl, rfl, by
            rw [List.take_add_one, hz]
            simp only [Option.toList_some, List.mem_append, List.mem_singleton, Int.ofNat_inj]
            by_cases e : j = q
            · rw [if_pos e, if_pos (.inr e)]
            · rw [if_neg e]
              by_cases e2 : (j : Int) ∈ (allI (coreL M1) n).take k
              · rw [if_pos e2, if_pos (.inl e2)]
              · rw [if_neg e2, if_neg (fun e3 => e3.elim e2 e)]⟩))
          have WK2 := Lib.hid (WK.out.setD hy HD64.out)
          have TK3 : Hid (Turn ρ1 w2 (wr.setCell ⟨g, q * 10 + 9, none⟩ (.int .i64 d))) := Lib.hid (TK2.out.setCell (.inr (by rw [WK.out.grole]; decide)) _ _)
          have p0 := WK.out.c0
          have y9 := (WK.out.at_ hy).c9
          have f9 := WK.out.gfree (q * 10 + 9)
          subst hpa
          have hk64 : (k : Int) + 1 ≤ 9223372036854775807 := by omega
          clear hz hin hy WK TK2 EK
          go_wp2
          go_roundw
          case rel => exact ⟨k + 1, _, by omega, by go_num, WK2, TK3, EK2⟩
          case measure => simp [intOf]; omega
        · have hkk : k = rl := by omega
          subst hkk
          have HTK : Hid ((allI (coreL M1) n).take k = allI (coreL M1) n) := Lib.hid (List.take_of_length_le (by rw [HRL.out]; exact Nat.le_refl _))
          have EQ : Hid (coreL Mk = mvDoc (coreL M1) n d) := Lib.hid (by
            have := EK.out.eq
            rw [HTK.out] at this
            exact this)
          have RK : Hid (rightF m (coreL Mk) = true) := Lib.hid (by rw [EQ.out]; exact TK.out.rightG)
          have SK : Hid (smallF Mk) := Lib.hid (small_edit S1.out EK.out RK.out)
          have HTL : Hid (tellN (coreL Mk) n ⟨3, 0, x1.core.doc, d, ⟨#[]⟩, false, false, ⟨#[]⟩, ⟨#[]⟩⟩ = tellN (coreL M1) n ⟨3, 0, x1.core.doc, d, ⟨#[]⟩, false, false, ⟨#[]⟩, ⟨#[]⟩⟩) := Lib.hid (by rw [EQ.out]; exact tellN_doc R1.out (by rw [HL1.out]; exact hn) d _)
          have CT := Lib.hid (mtell_any wr WK.out RK.out SK.out n hn ⟨3, 0, x1.core.doc, d, ⟨#[]⟩, false, false, ⟨#[]⟩, ⟨#[]⟩⟩ ⟨mv3, mv0, F1.out.doc, HD64.out, emp_le, emp_le, emp_le⟩ (by have := HN1.out; omega))
          go_wp2_with (go_at_call 87; (with_reducible refine CT.out.mono ?_); rintro e w9 ⟨rfl, ρ9, M9, v9, N9, W9, T9, A9, rfl, rfl⟩)
          have TA : Turn ρ w wr := T1.out.trans (fun k hk => A1.out k hk) ((Turn.of_below HB2.out).trans (fun _ _ => rfl) TK2.out)
          refine bodyPost_ret (v := .tuple #[]) (by simp [results, Tryz.results88]) rfl ⟨rfl, ρ9, M9, v9, _, W9, TA.trans (fun k hk => A1.out k hk) T9, fun k hk => ?_, by rw [OV2.out, HTL.out, EQ.out], SK.out, RK.out⟩
          exact (A9 k (Nat.lt_of_lt_of_le hk TA.size)).trans (A1.out k hk)
end
end Go.Proofs.YtkfmengdffpcnaaGreatDoor
