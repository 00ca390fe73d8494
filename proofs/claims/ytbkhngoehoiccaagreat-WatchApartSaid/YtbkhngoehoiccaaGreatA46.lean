/- Texts joined in build order: WatchApartLaw. -/
import Derived.Test.YtbkhngoehoiccaaGreatA45
namespace Go.Proofs.YtbkhngoehoiccaaGreat
open Go.RowKit
theorem one_who {F : List Core} {S : List StateD} {D : DeskD} {L : List ClassC} {y : NoteD} {u : DueD} (h : oneZ F S D L y = some u) : ∃ (t : Nat) (s : StateD), u.node = (t : Int) ∧ S[t]? = some s ∧ (s.phase = 1 ∨ s.phase = 3) := by
  unfold oneZ at h
  split at h
  · next he =>
    obtain ⟨t, c, hn, hc, -⟩ := elemB_at he
    rw [hn, Int.toNat_natCast, hc] at h
    cases hs : S[t]? with
    | none => rw [hs] at h; cases h
    | some s =>
      rw [hs] at h
      dsimp only at h
      obtain ⟨v, hv, rfl⟩ := Option.map_eq_some_iff.1 h
      refine ⟨t, s, rfl, hs, ?_⟩
      unfold askedZ at hv
      by_cases h1 : s.phase = 1
      · exact .inl h1
      · rw [if_neg h1] at hv
        by_cases h3 : s.phase = 3
        · exact .inr h3
        · rw [if_neg h3] at hv
          cases hv
  · cases h
theorem note_cut {w : World} {ad : Addr} {len cap : Nat} {N : List NoteD} (h : NoteRow w (some ad) len cap N) {k : Nat} (hk : k ≤ len) (A : Option Addr) (hA : ∀ b o, ad = ⟨b, o, none⟩ → k < len → A = some ⟨b, o + k * 9, none⟩) (hn : A ≠ none) : NoteRow w A (len - k) (cap - k) (N.drop k) := by
  refine ⟨?_, fun x hx => h.ok x (List.mem_of_mem_drop hx), fun e => absurd e hn⟩
  rcases Nat.lt_or_ge k len with hlt | hge
  · rcases h.row.cells with h0 | ⟨b, o, e, -, -⟩
    · omega
    · injection e with e
      subst e
      rw [hA b o rfl hlt]
      exact h.row.drop12 hk
  · have e1 : len - k = 0 := by omega
    have e2 : N.drop k = [] := List.drop_of_length_le (by rw [h.row.hlen]; omega)
    rw [e1, e2]
    exact SRow.void12 (by have := h.row.hmax; omega)
set_option maxHeartbeats 8000000 in
set_option maxRecDepth 100000 in
theorem watchApart_walk (_F : True) (a : Option Addr) (len cap : Nat) (m : Int) (K : List NodeD) (sa : Option Addr) (sl sc : Nat) (S : List StateD) (da : Option Addr) (dl dc : Nat) (wa : Option Addr) (wl wc_ : Nat) (nx : Int) (bz : Bool) (D : List DefD) (M : List WaitD) (ca : Option Addr) (cl cc : Nat) (C : List ClassD) (na : Option Addr) (nl nc : Nat) (N : List NoteD) (x : Int) (w : World)
    (h0 : NodeRow w a len cap K) (hm : In64 m) (hs : StaRow w sa sl sc S) (hD : DeskAt w da dl dc wa wl wc_ ⟨D, M, nx, bz⟩) (hc : ClsRow w ca cl cc C) (hn : NoteRow w na nl nc N) (hx : 0 ≤ x ∧ x ≤ 255) :
    Calls Tryz.prog 6 #[forV a len cap m, .slice sa sl sc, deskV da dl dc wa wl wc_ nx bz, .slice ca cl cc, .slice na nl nc, .int .u8 x] w fun e w' => e = .returned (.bool true) ∧ Below w.heap.size w w' := by
  have AWK := Lib.hid (fun W => awake12_any W)
  have FX := Lib.hid (FD.start (m := m) (nx := nx) (bz := bz) h0 hD.d hD.t)
  have HM := Lib.hid hm
  have HKL := Lib.hid h0.hlen
  have HSL := Lib.hid hs.hlen
  have HNL := Lib.hid hn.row.hlen
  have hl64 := h0.len64
  have hsl64 := hs.len64
  have hnl64 := hn.len64'
  have hncap := hn.row.hcap
  have hnmax := hn.row.hmax
  have hncap64 : nc ≤ 9223372036854775807 := by unfold maxLen at hnmax; omega
  have HSR : Hid (∀ V, Below w.heap.size w V → StaRow V sa sl sc S) := Lib.hid (fun V hb => hs.below hb)
  have HCR : Hid (∀ V, Below w.heap.size w V → ClsRow V ca cl cc C) := Lib.hid (fun V hb => hc.below hb)
  have HNR : Hid (∀ V, Below w.heap.size w V → NoteRow V na nl nc N) := Lib.hid (fun V hb => hn.below hb)
  have HNIL : Hid (na = none → nc = 0) := Lib.hid hn.hnil
  have LR : Hid (∀ V, Below w.heap.size w V → NodeRow V a len cap K → DefRow V da dl dc D → WaitRow V wa wl wc_ M → Calls Tryz.prog 28 #[forV a len cap m, .slice sa sl sc, deskV da dl dc wa wl wc_ nx bz, .slice ca cl cc] V fun e w' => ∃ r, e = .returned (.bool r) ∧ Below V.heap.size V w' ∧ (r = true → RightP m K S D M nx bz C)) := Lib.hid (fun V hb h1 h2 h3 => lawright12_any a len cap m K sa sl sc S da dl dc wa wl wc_ nx bz D M ca cl cc C V h1 HM.out (HSR.out V hb) h2 h3 (HCR.out V hb))
  (have z0 := FX.out.f.c0; have z1 := FX.out.f.c1; have d0 := FX.out.d.c0; have d1 := FX.out.d.c1; have d2 := FX.out.d.c2; have d3 := FX.out.d.c3)
  clear h0 hm hs hD hc hn _F hnmax
  by_cases h80 : (80 : Int) < (nl : Int)
  · go_enter Tryz.func6, Tryz.ntmps6
    go_wp2_with (first
                    | (go_at_call 7; (with_reducible refine (AWK.out _).mono ?_); rintro e w5 ⟨rfl, hb⟩; ((clear z0 z1 d0 d1 d2 d3); have FX := Lib.hid (FX.out.keep hb); (have z0 := FX.out.f.c0; have z1 := FX.out.f.c1; have d0 := FX.out.d.c0; have d1 := FX.out.d.c1; have d2 := FX.out.d.c2; have d3 := FX.out.d.c3); clear hb))
                    | (go_at_call 28; (with_reducible refine (LR.out _ FX.out.f.below FX.out.f.row FX.out.d.d FX.out.d.t).mono ?_); rintro e w6 ⟨r, rfl, hb, hr⟩; have HR := Lib.hid hr; clear hr; ((clear z0 z1 d0 d1 d2 d3); have FX := Lib.hid (FX.out.keep hb); (have z0 := FX.out.f.c0; have z1 := FX.out.f.c1; have d0 := FX.out.d.c0; have d1 := FX.out.d.c1; have d2 := FX.out.d.c2; have d3 := FX.out.d.c3); clear hb)))
    all_goals
      go_ret
      exact ⟨rfl, FX.out.f.below⟩
  have hn80 : nl ≤ 80 := by omega
  go_enter Tryz.func6, Tryz.ntmps6
  go_upto_region 5 with (first
                            | (go_at_call 7; (with_reducible refine (AWK.out _).mono ?_); rintro e w5 ⟨rfl, hb⟩; ((clear z0 z1 d0 d1 d2 d3); have FX := Lib.hid (FX.out.keep hb); (have z0 := FX.out.f.c0; have z1 := FX.out.f.c1; have d0 := FX.out.d.c0; have d1 := FX.out.d.c1; have d2 := FX.out.d.c2; have d3 := FX.out.d.c3); clear hb))
                            | (go_at_call 28; (with_reducible refine (LR.out _ FX.out.f.below FX.out.f.row FX.out.d.d FX.out.d.t).mono ?_); rintro e w6 ⟨r, rfl, hb, hr⟩; have HR := Lib.hid hr; clear hr; ((clear z0 z1 d0 d1 d2 d3); have FX := Lib.hid (FX.out.keep hb); (have z0 := FX.out.f.c0; have z1 := FX.out.f.c1; have d0 := FX.out.d.c0; have d1 := FX.out.d.c1; have d2 := FX.out.d.c2; have d3 := FX.out.d.c3); clear hb)))
  rotate_left
  · go_ret
    exact ⟨rfl, FX.out.f.below⟩
  have RP := Lib.hid (HR.out (by first | assumption | rfl | simp_all))
  clear HR LR AWK h80
  obtain ⟨k, hxk, hkl⟩ : ∃ k : Nat, x % ((nl : Int) + 1) = (k : Int) ∧ k ≤ nl := by
    have h1 := Int.emod_nonneg x (show (nl : Int) + 1 ≠ 0 by omega)
    have h2 := Int.emod_lt_of_pos x (show (0 : Int) < (nl : Int) + 1 by omega)
    exact ⟨(x % ((nl : Int) + 1)).toNat, by omega, by omega⟩
  have hw1 : IntKind.i64.wrap ((nl : Int) + 1) = (nl : Int) + 1 := by rw [IntKind.wrap_i64]; omega
  have hx0 := hx.1
  have hx1 := hx.2
  have hlz : ¬ (nl : Int) + 1 = 0 := by omega
  have hlb : ((nl : Int) + 1 == 0) = false := beq_eq_false_iff_ne.2 hlz
  have HXK := Lib.hid hxk
  clear hxk
  go_upto_region 6 with fail
  rw [HXK.out]
  clear hw1 hx0 hx1 hlz hlb HXK hx
  obtain ⟨V, rfl⟩ : ∃ V, V = w6 := ⟨_, rfl⟩
  have CD : Hid (∀ X na' nl' nc' N', Below V.heap.size V X → NoteRow X na' nl' nc' N' → nl' ≤ 1000 → Calls Tryz.prog 21 #[forV a len cap m, .slice sa sl sc, deskV da dl dc wa wl wc_ nx bz, .slice ca cl cc, .slice na' nl' nc'] X (DuePost X (N'.filterMap (oneZ (coreL K) S ⟨D, M, nx, bz⟩ (coreCl C))))) := Lib.hid (fun X na' nl' nc' N' hb h1 h2 => by
    have F := FX.out.keep hb
    have h := due_any a len cap m K sa sl sc S da dl dc wa wl wc_ nx bz D M ca cl cc C na' nl' nc' N' X F.f.row HM.out RP.out.sf (HSR.out X F.f.below) F.d.d F.d.t (HCR.out X F.f.below) h1 h2
    unfold dueZ at h
    rw [RP.out.w, if_pos rfl] at h
    exact h)
  obtain ⟨T1, hT1⟩ : ∃ T, (N.take k).filterMap (oneZ (coreL K) S ⟨D, M, nx, bz⟩ (coreCl C)) = T := ⟨_, rfl⟩
  obtain ⟨T2, hT2⟩ : ∃ T, (N.drop k).filterMap (oneZ (coreL K) S ⟨D, M, nx, bz⟩ (coreCl C)) = T := ⟨_, rfl⟩
  have HT1 := Lib.hid hT1
  have HT2 := Lib.hid hT2
  have HTT : Hid (N.filterMap (oneZ (coreL K) S ⟨D, M, nx, bz⟩ (coreCl C)) = T1 ++ T2) := Lib.hid (by rw [← hT1, ← hT2, ← List.filterMap_append, List.take_append_drop])
  have CD1 : Hid (∀ X na' nc', Below V.heap.size V X → NoteRow X na' k nc' (N.take k) → Calls Tryz.prog 21 #[forV a len cap m, .slice sa sl sc, deskV da dl dc wa wl wc_ nx bz, .slice ca cl cc, .slice na' k nc'] X (DuePost X T1)) := Lib.hid (fun X na' nc' hb h => by
    have h := CD.out X na' k nc' (N.take k) hb h (by omega)
    rw [HT1.out] at h
    exact h)
  have CD2 : Hid (∀ X na' nl' nc', nl' = nl - k → Below V.heap.size V X → NoteRow X na' nl' nc' (N.drop k) → Calls Tryz.prog 21 #[forV a len cap m, .slice sa sl sc, deskV da dl dc wa wl wc_ nx bz, .slice ca cl cc, .slice na' nl' nc'] X (DuePost X T2)) := Lib.hid (fun X na' nl' nc' e hb h => by
    have h := CD.out X na' nl' nc' (N.drop k) hb h (by omega)
    rw [HT2.out] at h
    exact h)
  have HLT : Hid (w.heap.size < V.heap.size ∧ w.heap.size + 1 < V.heap.size) := Lib.hid ⟨FX.out.lt.1, FX.out.lt.2⟩
  have HNV : Hid (∀ X, Below V.heap.size V X → NoteRow X na nl nc N) := Lib.hid (fun X hb => HNR.out X (FX.out.keep hb).f.below)
  have HN1 : Hid (∀ X, Below V.heap.size V X → NoteRow X na k nc (N.take k)) := Lib.hid (fun X hb => ⟨(HNV.out X hb).row.take12 hkl, fun x hx => (HNV.out X hb).ok x (List.mem_of_mem_take hx), (HNV.out X hb).hnil⟩)
  have SV : V.cell? ⟨w.heap.size, 0, none⟩ = some (.slice a len cap) ∧ V.cell? ⟨w.heap.size, 1, none⟩ = some (.int .i64 m) ∧ V.cell? ⟨w.heap.size + 1, 0, none⟩ = some (.slice da dl dc) ∧ V.cell? ⟨w.heap.size + 1, 1, none⟩ = some (.slice wa wl wc_) ∧ V.cell? ⟨w.heap.size + 1, 2, none⟩ = some (.int .i64 nx) ∧ V.cell? ⟨w.heap.size + 1, 3, none⟩ = some (.bool bz) ∧ Below V.heap.size V V := ⟨z0, z1, d0, d1, d2, d3, Below.refl _ _⟩
  clear hT1 hT2 z0 z1 d0 d1 d2 d3
  go_cut [14, 15] (fun p c wx => True ∧ ∃ (a1 : Option Addr) (n1 c1 : Nat) (a2 : Option Addr) (n2 c2 : Nat), p = .slice a1 n1 c1 ∧ c = .slice a2 n2 c2 ∧ Hid (DueRow wx a1 n1 c1 T1 ∧ DueRow wx a2 n2 c2 T2 ∧ Below V.heap.size V wx))
  case first =>
    rcases na with _ | ad
    · obtain rfl : nc = 0 := HNIL.out rfl
      obtain rfl : nl = 0 := by omega
      obtain rfl : k = 0 := by omega
      have HN2 : Hid (∀ X, Below V.heap.size V X → NoteRow X none 0 0 (N.drop 0)) := Lib.hid (fun X hb => by rw [List.drop_zero]; exact HNV.out X hb)
      go_region_held3 (fun w' => w'.cell? ⟨w.heap.size, 0, none⟩ = some (.slice a len cap) ∧ w'.cell? ⟨w.heap.size, 1, none⟩ = some (.int .i64 m) ∧ w'.cell? ⟨w.heap.size + 1, 0, none⟩ = some (.slice da dl dc) ∧ w'.cell? ⟨w.heap.size + 1, 1, none⟩ = some (.slice wa wl wc_) ∧ w'.cell? ⟨w.heap.size + 1, 2, none⟩ = some (.int .i64 nx) ∧ w'.cell? ⟨w.heap.size + 1, 3, none⟩ = some (.bool bz) ∧ Below V.heap.size V w')
        (with_reducible first | (refine keep6 ⟨HLT.out.1, HLT.out.1, HLT.out.2, HLT.out.2, HLT.out.2, HLT.out.2⟩ SV ?_; first | exact HW7.out | exact HW6.out | exact (Below.refl _ _).drew) | assumption)
        (first
          | (go_at_call 21; (with_reducible refine (CD2.out _ _ _ _ rfl (kept6 ‹_ ∧ _ ∧ _ ∧ _ ∧ _ ∧ _ ∧ Below _ _ _›) (HN2.out _ (kept6 ‹_ ∧ _ ∧ _ ∧ _ ∧ _ ∧ _ ∧ Below _ _ _›))).mono ?_); rintro e w7 ⟨a2, n2, c2, rfl, hr, hb⟩; have HR7 := Lib.hid hr; have HR6 := Lib.hid (HR6.out.below hb); clear hr; have HW7 : Hid (Below V.heap.size V w7) := Lib.hid ((kept6 ‹_ ∧ _ ∧ _ ∧ _ ∧ _ ∧ _ ∧ Below _ _ _›).trans (hb.mono (kept6 ‹_ ∧ _ ∧ _ ∧ _ ∧ _ ∧ _ ∧ Below _ _ _›).size)))
          | (go_at_call 21; (with_reducible refine (CD1.out _ _ _ (kept6 ‹_ ∧ _ ∧ _ ∧ _ ∧ _ ∧ _ ∧ Below _ _ _›) (HN1.out _ (kept6 ‹_ ∧ _ ∧ _ ∧ _ ∧ _ ∧ _ ∧ Below _ _ _›))).mono ?_); rintro e w6 ⟨a1, n1, c1, rfl, hr, hb⟩; have HR6 := Lib.hid hr; clear hr; have HW6 : Hid (Below V.heap.size V w6) := Lib.hid ((kept6 ‹_ ∧ _ ∧ _ ∧ _ ∧ _ ∧ _ ∧ Below _ _ _›).trans (hb.mono (kept6 ‹_ ∧ _ ∧ _ ∧ _ ∧ _ ∧ _ ∧ Below _ _ _›).size))))
      all_goals
        go_wp2_with fail
        go_meet
        first
          | exact ⟨trivial, a1, _, _, a2, _, _, rfl, rfl, Lib.hid ⟨HR6.out, HR7.out, HW7.out⟩⟩
          | exact ⟨trivial, a1, _, _, a2, _, _, rfl, rfl, Lib.hid ⟨HR6.out.below (Below.refl _ _).drew, HR7.out.below (Below.refl _ _).drew, HW7.out.drew⟩⟩
    · by_cases hck : nc = k
      · have e1 : nl = k := by omega
        subst e1
        subst hck
        have HN2 : Hid (∀ X, Below V.heap.size V X → NoteRow X (some ad) 0 0 (N.drop nc)) := Lib.hid (fun X hb => by
          rw [List.drop_of_length_le (by rw [HNL.out]; exact Nat.le_refl _)]
          exact ⟨SRow.void12 (by unfold maxLen; omega), (fun x hx => by cases hx), fun e => by cases e⟩)
        go_region_held3 (fun w' => w'.cell? ⟨w.heap.size, 0, none⟩ = some (.slice a len cap) ∧ w'.cell? ⟨w.heap.size, 1, none⟩ = some (.int .i64 m) ∧ w'.cell? ⟨w.heap.size + 1, 0, none⟩ = some (.slice da dl dc) ∧ w'.cell? ⟨w.heap.size + 1, 1, none⟩ = some (.slice wa wl wc_) ∧ w'.cell? ⟨w.heap.size + 1, 2, none⟩ = some (.int .i64 nx) ∧ w'.cell? ⟨w.heap.size + 1, 3, none⟩ = some (.bool bz) ∧ Below V.heap.size V w')
          (with_reducible first | (refine keep6 ⟨HLT.out.1, HLT.out.1, HLT.out.2, HLT.out.2, HLT.out.2, HLT.out.2⟩ SV ?_; first | exact HW7.out | exact HW6.out | exact (Below.refl _ _).drew) | assumption)
          (first
          | (go_at_call 21; (with_reducible refine (CD1.out _ _ _ (kept6 ‹_ ∧ _ ∧ _ ∧ _ ∧ _ ∧ _ ∧ Below _ _ _›) (HN1.out _ (kept6 ‹_ ∧ _ ∧ _ ∧ _ ∧ _ ∧ _ ∧ Below _ _ _›))).mono ?_); rintro e w6 ⟨a1, n1, c1, rfl, hr, hb⟩; have HR6 := Lib.hid hr; clear hr; have HW6 : Hid (Below V.heap.size V w6) := Lib.hid ((kept6 ‹_ ∧ _ ∧ _ ∧ _ ∧ _ ∧ _ ∧ Below _ _ _›).trans (hb.mono (kept6 ‹_ ∧ _ ∧ _ ∧ _ ∧ _ ∧ _ ∧ Below _ _ _›).size)))
          | (go_at_call 21; (with_reducible refine (CD2.out _ _ _ _ (Nat.sub_self nc).symm (kept6 ‹_ ∧ _ ∧ _ ∧ _ ∧ _ ∧ _ ∧ Below _ _ _›) (HN2.out _ (kept6 ‹_ ∧ _ ∧ _ ∧ _ ∧ _ ∧ _ ∧ Below _ _ _›))).mono ?_); rintro e w7 ⟨a2, n2, c2, rfl, hr, hb⟩; have HR7 := Lib.hid hr; have HR6 := Lib.hid (HR6.out.below hb); clear hr; have HW7 : Hid (Below V.heap.size V w7) := Lib.hid ((kept6 ‹_ ∧ _ ∧ _ ∧ _ ∧ _ ∧ _ ∧ Below _ _ _›).trans (hb.mono (kept6 ‹_ ∧ _ ∧ _ ∧ _ ∧ _ ∧ _ ∧ Below _ _ _›).size))))
        all_goals
          go_wp2_with fail
          go_meet
          first
            | exact ⟨trivial, a1, _, _, a2, _, _, rfl, rfl, Lib.hid ⟨HR6.out, HR7.out, HW7.out⟩⟩
            | exact ⟨trivial, a1, _, _, a2, _, _, rfl, rfl, Lib.hid ⟨HR6.out.below (Below.refl _ _).drew, HR7.out.below (Below.refl _ _).drew, HW7.out.drew⟩⟩
      · have hck2 : k < nc := by omega
        have b1 : (0 : Int) ≤ (k : Int) := by omega
        have b2 : (k : Int) ≤ (nc : Int) := by omega
        have b3 : (k : Int) ≤ (nl : Int) := by omega
        have b4 : k ≤ nc := by omega
        have b5 : (nl : Int) ≤ (nc : Int) := by omega
        go_region_held3 (fun w' => w'.cell? ⟨w.heap.size, 0, none⟩ = some (.slice a len cap) ∧ w'.cell? ⟨w.heap.size, 1, none⟩ = some (.int .i64 m) ∧ w'.cell? ⟨w.heap.size + 1, 0, none⟩ = some (.slice da dl dc) ∧ w'.cell? ⟨w.heap.size + 1, 1, none⟩ = some (.slice wa wl wc_) ∧ w'.cell? ⟨w.heap.size + 1, 2, none⟩ = some (.int .i64 nx) ∧ w'.cell? ⟨w.heap.size + 1, 3, none⟩ = some (.bool bz) ∧ Below V.heap.size V w')
          (with_reducible first | (refine keep6 ⟨HLT.out.1, HLT.out.1, HLT.out.2, HLT.out.2, HLT.out.2, HLT.out.2⟩ SV ?_; first | exact HW7.out | exact HW6.out | exact (Below.refl _ _).drew) | assumption)
          (first
          | (go_at_call 21; (with_reducible refine (CD1.out _ _ _ (kept6 ‹_ ∧ _ ∧ _ ∧ _ ∧ _ ∧ _ ∧ Below _ _ _›) (HN1.out _ (kept6 ‹_ ∧ _ ∧ _ ∧ _ ∧ _ ∧ _ ∧ Below _ _ _›))).mono ?_); rintro e w6 ⟨a1, n1, c1, rfl, hr, hb⟩; have HR6 := Lib.hid hr; clear hr; have HW6 : Hid (Below V.heap.size V w6) := Lib.hid ((kept6 ‹_ ∧ _ ∧ _ ∧ _ ∧ _ ∧ _ ∧ Below _ _ _›).trans (hb.mono (kept6 ‹_ ∧ _ ∧ _ ∧ _ ∧ _ ∧ _ ∧ Below _ _ _›).size)))
          | (go_at_call 21; (with_reducible refine (CD2.out _ _ _ _ rfl (kept6 ‹_ ∧ _ ∧ _ ∧ _ ∧ _ ∧ _ ∧ Below _ _ _›) (note_cut (HNV.out _ (kept6 ‹_ ∧ _ ∧ _ ∧ _ ∧ _ ∧ _ ∧ Below _ _ _›)) hkl _ (fun b o e _ => by rw [e, Go.WideShapes.add_plain]) (fun e => by cases e))).mono ?_); rintro e w7 ⟨a2, n2, c2, rfl, hr, hb⟩; have HR7 := Lib.hid hr; have HR6 := Lib.hid (HR6.out.below hb); clear hr; have HW7 : Hid (Below V.heap.size V w7) := Lib.hid ((kept6 ‹_ ∧ _ ∧ _ ∧ _ ∧ _ ∧ _ ∧ Below _ _ _›).trans (hb.mono (kept6 ‹_ ∧ _ ∧ _ ∧ _ ∧ _ ∧ _ ∧ Below _ _ _›).size))))
        all_goals
          go_wp2_with fail
          go_meet
          first
            | exact ⟨trivial, a1, _, _, a2, _, _, rfl, rfl, Lib.hid ⟨HR6.out, HR7.out, HW7.out⟩⟩
            | exact ⟨trivial, a1, _, _, a2, _, _, rfl, rfl, Lib.hid ⟨HR6.out.below (Below.refl _ _).drew, HR7.out.below (Below.refl _ _).drew, HW7.out.drew⟩⟩
  case rest =>
    obtain ⟨-, a1, n1, c1, a2, n2, c2, rfl, rfl, HG⟩ := hcut
    have FX := Lib.hid (FX.out.keep HG.out.2.2)
    have HBC := Lib.hid HG.out.2.2
    have HR1 := Lib.hid HG.out.1
    have HR2 := Lib.hid HG.out.2.1
    have hl1 : T1.length = n1 := HR1.out.row.hlen
    have hl2 : T2.length = n2 := HR2.out.row.hlen
    have hn1 : n1 ≤ 80 := by
      have := List.length_filterMap_le (oneZ (coreL K) S ⟨D, M, nx, bz⟩ (coreCl C)) (N.take k)
      rw [HT1.out, List.length_take] at this
      omega
    have hn2 : n2 ≤ 80 := by
      have := List.length_filterMap_le (oneZ (coreL K) S ⟨D, M, nx, bz⟩ (coreCl C)) (N.drop k)
      rw [HT2.out, List.length_drop, HNL.out] at this
      omega
    have HL1 := Lib.hid hl1
    have HL2 := Lib.hid hl2
    have CDL : Hid (∀ X, Below wc.heap.size wc X → Calls Tryz.prog 21 #[forV a len cap m, .slice sa sl sc, deskV da dl dc wa wl wc_ nx bz, .slice ca cl cc, .slice na nl nc] X (DuePost X (T1 ++ T2))) := Lib.hid (fun X hb => by
      have hb' := HBC.out.trans (hb.mono HBC.out.size)
      have h := CD.out X na nl nc N hb' (HNV.out X hb') (by omega)
      rw [HTT.out] at h
      exact h)
    have WHO : Hid (∀ u ∈ T1 ++ T2, ∃ (t : Nat) (s : StateD), u.node = (t : Int) ∧ S[t]? = some s ∧ (s.phase = 1 ∨ s.phase = 3)) := Lib.hid (fun u hu => by
      rw [← HTT.out] at hu
      obtain ⟨y, -, hy⟩ := List.mem_filterMap.1 hu
      exact one_who hy)
    clear SV HG CD CD1 CD2 HLT HT1 HT2 HTT HNV HN1 hl1 hl2 HNL HNIL
    (have z0 := FX.out.f.c0; have z1 := FX.out.f.c1; have d0 := FX.out.d.c0; have d1 := FX.out.d.c1; have d2 := FX.out.d.c2; have d3 := FX.out.d.c3)
    go_upto_region 8 with (go_at_call 21; (with_reducible refine (CDL.out _ (Below.refl _ _)).mono ?_); rintro e w8 ⟨la, ll, lc, rfl, hr, hb⟩; have HRL := Lib.hid hr; have HR1 := Lib.hid (HR1.out.below hb); have HR2 := Lib.hid (HR2.out.below hb); clear hr; ((clear z0 z1 d0 d1 d2 d3); have FX := Lib.hid (FX.out.keep hb); (have z0 := FX.out.f.c0; have z1 := FX.out.f.c1; have d0 := FX.out.d.c0; have d1 := FX.out.d.c1; have d2 := FX.out.d.c2; have d3 := FX.out.d.c3); clear hb))
    have hll : ll = n1 + n2 := by have := HRL.out.row.hlen; rw [List.length_append, HL1.out, HL2.out] at this; exact this.symm
    subst hll
    have hlcap := HRL.out.row.hcap
    have hlmax := HRL.out.row.hmax
    have hlcap64 : lc ≤ 9223372036854775807 := by unfold maxLen at hlmax; omega
    have HMX := Lib.hid hlmax
    have DU1 : Hid (∀ X, Below w8.heap.size w8 X → Calls Tryz.prog 25 #[.slice la n1 lc, .slice a1 n1 c1] X fun e w' => e = .returned (.bool true) ∧ Below X.heap.size X w') := Lib.hid (fun X hb => by
      have h := (HRL.out.row.below hb).take12 (show n1 ≤ n1 + n2 by omega)
      rw [List.take_append_of_le_length (by rw [HL1.out]; exact Nat.le_refl _), List.take_of_length_le (by rw [HL1.out]; exact Nat.le_refl _)] at h
      exact dues12_any la n1 lc a1 n1 c1 T1 X h (HR1.out.row.below hb))
    have DU2 : Hid (∀ X A c, Below w8.heap.size w8 X → SRow encU 11 X A n2 c T2 → Calls Tryz.prog 25 #[.slice A n2 c, .slice a2 n2 c2] X fun e w' => e = .returned (.bool true) ∧ Below X.heap.size X w') := Lib.hid (fun X A c hb h => dues12_any A n2 c a2 n2 c2 T2 X h (HR2.out.row.below hb))
    have hw1 : IntKind.i64.wrap ((n1 : Int) + (n2 : Int)) = (n1 : Int) + (n2 : Int) := by rw [IntKind.wrap_i64]; omega
    have hne : (((n1 + n2 : Nat) : Int) != (n1 : Int) + (n2 : Int)) = false := by simp
    have hne2 : ((n1 : Int) + (n2 : Int) != (n1 : Int) + (n2 : Int)) = false := by simp
    clear hlmax
    (clear z0 z1 d0 d1 d2 d3)
    go_cut [85] (fun c wx => c = .bool false ∧ Hid (Below w8.heap.size w8 wx))
    case first =>
      rcases la with _ | ad
      · have hc0 : lc = 0 := HRL.out.hnil rfl
        obtain rfl : lc = 0 := hc0
        obtain rfl : n1 = 0 := by omega
        obtain rfl : n2 = 0 := by omega
        have e2 : T2 = [] := List.eq_nil_of_length_eq_zero HL2.out
        have DU3 : Hid (∀ X, Below w8.heap.size w8 X → Calls Tryz.prog 25 #[.slice none 0 0, .slice a2 0 c2] X fun e w' => e = .returned (.bool true) ∧ Below X.heap.size X w') := Lib.hid (fun X hb => DU2.out X none 0 hb (by rw [e2]; exact SRow.nil))
        clear e2
        go_wp2_with (first
          | (go_at_call 25; (with_reducible refine (DU3.out _ HB9.out).mono ?_); rintro e w10 ⟨rfl, hb⟩; have HB10 := Lib.hid (HB9.out.trans (hb.mono HB9.out.size)); clear hb)
          | (go_at_call 25; (with_reducible refine (DU1.out _ (Below.refl _ _)).mono ?_); rintro e w9 ⟨rfl, hb⟩; have HB9 := Lib.hid hb; clear hb))
        go_meet
        exact ⟨rfl, HB10⟩
      · by_cases hck : lc = n1
        · obtain rfl : n2 = 0 := by omega
          subst hck
          have e2 : T2 = [] := List.eq_nil_of_length_eq_zero HL2.out
          have DU3 : Hid (∀ X A c, c ≤ maxLen → Below w8.heap.size w8 X → Calls Tryz.prog 25 #[.slice A 0 c, .slice a2 0 c2] X fun e w' => e = .returned (.bool true) ∧ Below X.heap.size X w') := Lib.hid (fun X A c hc hb => DU2.out X A c hb (by rw [e2]; exact SRow.void12 hc))
          clear e2
          go_wp2_with (first
            | (go_at_call 25; (with_reducible refine (DU1.out _ (Below.refl _ _)).mono ?_); rintro e w9 ⟨rfl, hb⟩; have HB9 := Lib.hid hb; clear hb)
            | (go_at_call 25; (with_reducible refine (DU3.out _ _ _ (by unfold maxLen; omega) HB9.out).mono ?_); rintro e w10 ⟨rfl, hb⟩; have HB10 := Lib.hid (HB9.out.trans (hb.mono HB9.out.size)); clear hb))
          go_meet
          exact ⟨rfl, HB10⟩
        · have hck2 : n1 < lc := by omega
          have b1 : (0 : Int) ≤ (n1 : Int) := by omega
          have b2 : (n1 : Int) ≤ (lc : Int) := by omega
          have b3 : (n1 : Int) ≤ (n1 : Int) + (n2 : Int) := by omega
          have b4 : n1 ≤ lc := by omega
          have b5 : (n1 : Int) + (n2 : Int) ≤ (lc : Int) := by omega
          have DR : Hid (∀ X A, Below w8.heap.size w8 X → (∀ b o, ad = ⟨b, o, none⟩ → A = some ⟨b, o + n1 * 11, none⟩) → SRow encU 11 X A n2 (lc - n1) T2) := Lib.hid (fun X A hb hA => by
            rcases Nat.eq_zero_or_pos n2 with h0 | h0
            · have e2 : T2 = [] := List.eq_nil_of_length_eq_zero (by rw [HL2.out, h0])
              rw [e2, h0]
              exact SRow.void12 (by have := HMX.out; omega)
            · have hr := HRL.out.row.below hb
              rcases hr.cells with h9 | ⟨b, o, e, -, -⟩
              · omega
              · injection e with e
                subst e
                rw [hA b o rfl]
                have h := hr.drop12 (show n1 ≤ n1 + n2 by omega)
                rw [show n1 + n2 - n1 = n2 by omega, List.drop_append_of_le_length (by rw [HL1.out]; exact Nat.le_refl _), List.drop_of_length_le (by rw [HL1.out]; exact Nat.le_refl _), List.nil_append] at h
                exact h)
          go_wp2_with (first
            | (go_at_call 25; (with_reducible refine (DU1.out _ (Below.refl _ _)).mono ?_); rintro e w9 ⟨rfl, hb⟩; have HB9 := Lib.hid hb; clear hb)
            | (go_at_call 25; go_loud (with_reducible refine (DU2.out _ _ _ HB9.out (DR.out _ _ HB9.out (fun b o e => by rw [e, Go.WideShapes.add_plain]))).mono ?_); rintro e w10 ⟨rfl, hb⟩; have HB10 := Lib.hid (HB9.out.trans (hb.mono HB9.out.size)); clear hb))
          go_meet
          exact ⟨rfl, HB10⟩
    case rest =>
      obtain ⟨rfl, HB9⟩ := hcut
      have FX := Lib.hid (FX.out.keep HB9.out)
      have HRL := Lib.hid (HRL.out.below HB9.out)
      clear DU1 DU2 hne hne2 hw1 HR1 HR2 HL1 HL2 CDL
      go_wp2_with fail
      go_loopw [17] (fun i wr => ∃ j : Nat, j ≤ n1 + n2 ∧ i = .int .i64 j ∧ Hid (Below wc.heap.size wc wr)) (fun i _ => n1 + n2 - (intOf i).toNat)
      case atStart => exact ⟨0, Nat.zero_le _, rfl, Lib.hid (Below.refl _ _)⟩
      case round =>
        obtain ⟨j, hj, rfl, HB⟩ := hrel
        have FR := Lib.hid (FX.out.keep HB.out)
        by_cases hlt : j < n1 + n2
        · obtain ⟨lb, lo, u, rfl, hlb, hu, -, huc⟩ := (HRL.out.below HB.out).row.get hlt
          obtain ⟨t, s, hun, hst, hph⟩ := WHO.out u (List.mem_of_getElem? hu)
          have hts : t < sl := by have := (List.getElem?_eq_some_iff.1 hst).1; rw [HSL.out] at this; exact this
          obtain ⟨sb, so, s', rfl, hsb, hss, hsa, -⟩ := (HSR.out wr FR.out.f.below).sta hts
          obtain rfl : s = s' := Option.some.inj (hst.symm.trans hss)
          have c0 : wr.cell? ⟨lb, lo + j * 11, none⟩ = some (.int .i64 t) := by rw [← hun]; exact huc 0 _ rfl
          have s0 := hsa.c0
          have g0 : ¬ (t : Int) < 0 := by omega
          have g1 : (t : Int) < (sl : Int) := by omega
          clear huc hu hlb hun hst hss hsa hsb
          rcases hph with hph | hph
          · have p1 : (s.phase != 1) = false := by rw [hph]; rfl
            have p3 : (s.phase != 3) = true := by rw [hph]; rfl
            clear hph
            go_wp2_with fail
            go_roundw
            case rel => exact ⟨j + 1, by omega, by go_num, HB⟩
            case measure => simp [intOf]; omega
          · have p1 : (s.phase != 1) = true := by rw [hph]; rfl
            have p3 : (s.phase != 3) = false := by rw [hph]; rfl
            clear hph
            go_wp2_with fail
            go_roundw
            case rel => exact ⟨j + 1, by omega, by go_num, HB⟩
            case measure => simp [intOf]; omega
        · have hjd : j = n1 + n2 := by omega
          subst hjd
          go_wp2_with fail
          go_ret
          exact ⟨rfl, FR.out.f.below⟩
end Go.Proofs.YtbkhngoehoiccaaGreat
