/- Texts joined in build order: HeirAwake. -/
import Derived.Test.YtkomeijlljcdgaaGreatP45
/- instarlaw10's awake, walked. -/
namespace Go.Proofs.YtkomeijlljcdgaaGreat
open Go.RowKit
abbrev defsC : Obj := .cells #[.string xaA, .string xaA, .int .i64 0, .string xbA, .string bA, .int .i64 1] 30
theorem defs_at (w : World) (j : Nat) (v : Value) (h : (#[.string xaA, .string xaA, .int .i64 0, .string xbA, .string bA, .int .i64 1] : Array Value)[j]? = some v) : (w.alloc defsC).cell? ⟨w.heap.size, j, none⟩ = some v := by
  exact (cell_of_row _ w.heap.size j _ 30 (0, 0) (heap_alloc_new w _)).trans h
theorem two_defs (w : World) : DefRow (w.alloc defsC) (some ⟨w.heap.size, 0, none⟩) 2 2 aw10D := by
  have c := defs_at w
  refine ⟨⟨rfl, Nat.le_refl _, by unfold maxLen; omega, fun x hx => by simp at hx; rcases hx with rfl | rfl <;> rfl, .inr ⟨w.heap.size, 0, rfl, by simp, fun i x j v hx hv => ?_⟩⟩, fun x hx => by simp at hx; rcases hx with rfl | rfl <;> (unfold In64; decide), fun e => by cases e⟩
  have hj : j < 3 := by
    have := (List.getElem?_eq_some_iff.1 hv).1
    match i, hx with
    | 0, hx => simp at hx; subst hx; simpa [encD] using this
    | 1, hx => simp at hx; subst hx; simpa [encD] using this
  match i, hx with
  | 0, hx =>
    simp at hx; subst hx
    match j, hj, hv with
    | 0, _, hv => simp [encD] at hv; subst hv; exact c 0 _ rfl
    | 1, _, hv => simp [encD] at hv; subst hv; exact c 1 _ rfl
    | 2, _, hv => simp [encD] at hv; subst hv; exact c 2 _ rfl
  | 1, hx =>
    simp at hx; subst hx
    match j, hj, hv with
    | 0, _, hv => simp [encD] at hv; subst hv; exact c 3 _ rfl
    | 1, _, hv => simp [encD] at hv; subst hv; exact c 4 _ rfl
    | 2, _, hv => simp [encD] at hv; subst hv; exact c 5 _ rfl

theorem ha_keep (V : World) (T1 T4 g len cap bd b5 o5 : Nat) {W X : World} (l1 : T1 < V.heap.size) (l4 : T4 < V.heap.size) (ld : bd < V.heap.size) (l5 : b5 < V.heap.size)
    (h : W.cell? ⟨T1, 0, none⟩ = some (.slice (some ⟨g, 0, none⟩) len cap) ∧ W.cell? ⟨T1, 1, none⟩ = some (.int .i64 9) ∧ W.cell? ⟨T4, 0, none⟩ = some (.slice (some ⟨bd, 0, none⟩) 2 2) ∧ W.cell? ⟨T4, 1, none⟩ = some (.slice none 0 0) ∧ W.cell? ⟨T4, 2, none⟩ = some (.int .i64 0) ∧ W.cell? ⟨T4, 3, none⟩ = some (.bool false) ∧ W.cell? ⟨bd, 0, none⟩ = some (.string xaA) ∧ W.cell? ⟨bd, 1, none⟩ = some (.string xaA) ∧ W.cell? ⟨bd, 2, none⟩ = some (.int .i64 0) ∧ W.cell? ⟨b5, o5, none⟩ = some (.int .i64 2) ∧ W.cell? ⟨b5, o5 + 11, none⟩ = some (.int .i64 3) ∧ W.cell? ⟨b5, o5 + 12, none⟩ = some (.int .i64 9) ∧ W.cell? ⟨b5, o5 + 13, none⟩ = some (.int .i64 1) ∧ W.cell? ⟨b5, o5 + 14, none⟩ = some (.string ⟨#[]⟩) ∧ W.cell? ⟨b5, o5 + 15, none⟩ = some (.bool false) ∧ W.cell? ⟨b5, o5 + 16, none⟩ = some (.bool false) ∧ W.cell? ⟨b5, o5 + 17, none⟩ = some (.string ⟨#[]⟩) ∧ W.cell? ⟨b5, o5 + 18, none⟩ = some (.string ⟨#[]⟩) ∧ W.cell? ⟨b5, o5 + 19, none⟩ = some (.int .i64 0) ∧ W.cell? ⟨b5, o5 + 20, none⟩ = some (.int .i64 0) ∧ W.cell? ⟨b5, o5 + 21, none⟩ = some (.bool false) ∧ Below V.heap.size V W) (hb : Below W.heap.size W X) :
    X.cell? ⟨T1, 0, none⟩ = some (.slice (some ⟨g, 0, none⟩) len cap) ∧ X.cell? ⟨T1, 1, none⟩ = some (.int .i64 9) ∧ X.cell? ⟨T4, 0, none⟩ = some (.slice (some ⟨bd, 0, none⟩) 2 2) ∧ X.cell? ⟨T4, 1, none⟩ = some (.slice none 0 0) ∧ X.cell? ⟨T4, 2, none⟩ = some (.int .i64 0) ∧ X.cell? ⟨T4, 3, none⟩ = some (.bool false) ∧ X.cell? ⟨bd, 0, none⟩ = some (.string xaA) ∧ X.cell? ⟨bd, 1, none⟩ = some (.string xaA) ∧ X.cell? ⟨bd, 2, none⟩ = some (.int .i64 0) ∧ X.cell? ⟨b5, o5, none⟩ = some (.int .i64 2) ∧ X.cell? ⟨b5, o5 + 11, none⟩ = some (.int .i64 3) ∧ X.cell? ⟨b5, o5 + 12, none⟩ = some (.int .i64 9) ∧ X.cell? ⟨b5, o5 + 13, none⟩ = some (.int .i64 1) ∧ X.cell? ⟨b5, o5 + 14, none⟩ = some (.string ⟨#[]⟩) ∧ X.cell? ⟨b5, o5 + 15, none⟩ = some (.bool false) ∧ X.cell? ⟨b5, o5 + 16, none⟩ = some (.bool false) ∧ X.cell? ⟨b5, o5 + 17, none⟩ = some (.string ⟨#[]⟩) ∧ X.cell? ⟨b5, o5 + 18, none⟩ = some (.string ⟨#[]⟩) ∧ X.cell? ⟨b5, o5 + 19, none⟩ = some (.int .i64 0) ∧ X.cell? ⟨b5, o5 + 20, none⟩ = some (.int .i64 0) ∧ X.cell? ⟨b5, o5 + 21, none⟩ = some (.bool false) ∧ Below V.heap.size V X := by
  obtain ⟨c0, c1, c2, c3, c4, c5, c6, c7, c8, c9, c10, c11, c12, c13, c14, c15, c16, c17, c18, c19, c20, hB⟩ := h
  have hs := hB.size
  refine ⟨(hb.cell (p := ⟨_, _, none⟩) (by simp only; omega)).trans c0, (hb.cell (p := ⟨_, _, none⟩) (by simp only; omega)).trans c1, (hb.cell (p := ⟨_, _, none⟩) (by simp only; omega)).trans c2, (hb.cell (p := ⟨_, _, none⟩) (by simp only; omega)).trans c3, (hb.cell (p := ⟨_, _, none⟩) (by simp only; omega)).trans c4, (hb.cell (p := ⟨_, _, none⟩) (by simp only; omega)).trans c5, (hb.cell (p := ⟨_, _, none⟩) (by simp only; omega)).trans c6, (hb.cell (p := ⟨_, _, none⟩) (by simp only; omega)).trans c7, (hb.cell (p := ⟨_, _, none⟩) (by simp only; omega)).trans c8, (hb.cell (p := ⟨_, _, none⟩) (by simp only; omega)).trans c9, (hb.cell (p := ⟨_, _, none⟩) (by simp only; omega)).trans c10, (hb.cell (p := ⟨_, _, none⟩) (by simp only; omega)).trans c11, (hb.cell (p := ⟨_, _, none⟩) (by simp only; omega)).trans c12, (hb.cell (p := ⟨_, _, none⟩) (by simp only; omega)).trans c13, (hb.cell (p := ⟨_, _, none⟩) (by simp only; omega)).trans c14, (hb.cell (p := ⟨_, _, none⟩) (by simp only; omega)).trans c15, (hb.cell (p := ⟨_, _, none⟩) (by simp only; omega)).trans c16, (hb.cell (p := ⟨_, _, none⟩) (by simp only; omega)).trans c17, (hb.cell (p := ⟨_, _, none⟩) (by simp only; omega)).trans c18, (hb.cell (p := ⟨_, _, none⟩) (by simp only; omega)).trans c19, (hb.cell (p := ⟨_, _, none⟩) (by simp only; omega)).trans c20, hB.trans (hb.mono hB.size)⟩
set_option maxHeartbeats 8000000 in
set_option maxRecDepth 100000 in
theorem awake10_any (w : World) : Calls Tryz.prog 7 #[] w fun e w' => e = .returned (.bool true) ∧ Below w.heap.size w w' := by
  have CF : Hid (∀ W, Calls Tryz.prog 30 #[.string ⟨#[60, 112, 62, 60, 120, 45, 97, 62, 60, 47, 120, 45, 97, 62, 60, 98, 33, 120, 45, 98, 62, 60, 47, 98, 62, 60, 120, 45, 98, 62, 60, 47, 120, 45, 98, 62, 60, 47, 112, 62]⟩, .int .i64 9] W (WkFor W 9 aw10F [.int .i64 1, .int .i64 0])) := Lib.hid (fun W => pFresh_ok 9 aw10 aw10F W ⟨by decide, by decide⟩ (by decide) (by decide) (by decide) ha1 ha2.1 (by decide))
  go_enter Tryz.func7, Tryz.ntmps7
  go_upto_region 3 with (go_at_call 30; (with_reducible refine (CF.out _).mono ?_); rintro e w1 ⟨ρ, pw, g, cap, len, M, v, rfl, hWk, hsm, hcm, hb, -⟩; have HR := Lib.hid hWk.row; have HSM := Lib.hid hsm; have HCM := Lib.hid hcm; have HB1 := Lib.hid hb; clear hWk hsm hcm hb)
  obtain ⟨W, hW⟩ : ∃ W, ((w1.alloc (forB (some ⟨g, 0, none⟩) len cap 9)).alloc defsC).alloc (deskB (some ⟨w1.heap.size + 1, 0, none⟩) 2 2 none 0 0 0 false) = W := ⟨_, rfl⟩
  have hs1 : (w1.alloc (forB (some ⟨g, 0, none⟩) len cap 9)).heap.size = w1.heap.size + 1 := by simp
  have hs2 : ((w1.alloc (forB (some ⟨g, 0, none⟩) len cap 9)).alloc defsC).heap.size = w1.heap.size + 1 + 1 := by simp
  have b1 := below_box w1 (forB (some ⟨g, 0, none⟩) len cap 9)
  have b2 := below_box (w1.alloc (forB (some ⟨g, 0, none⟩) len cap 9)) defsC
  have b3 := below_box ((w1.alloc (forB (some ⟨g, 0, none⟩) len cap 9)).alloc defsC) (deskB (some ⟨w1.heap.size + 1, 0, none⟩) 2 2 none 0 0 0 false)
  have hdr := two_defs (w1.alloc (forB (some ⟨g, 0, none⟩) len cap 9))
  have hda := defs_at (w1.alloc (forB (some ⟨g, 0, none⟩) len cap 9))
  rw [hs1] at hdr hda
  have hb23 := b2.trans (b3.mono b2.size)
  have hb123 := b1.trans (hb23.mono b1.size)
  have hcd : ∀ j v, (#[.slice (some ⟨w1.heap.size + 1, 0, none⟩) 2 2, .slice none 0 0, .int .i64 0, .bool false] : Array Value)[j]? = some v → W.cell? ⟨w1.heap.size + 1 + 1, j, none⟩ = some v := fun j v h => by
    rw [← hW, ← hs2]
    exact (cell_of_row _ _ j _ 28 (0, 0) (heap_alloc_new _ _)).trans h
  have hcf : ∀ j v, (#[.slice (some ⟨g, 0, none⟩) len cap, .int .i64 9] : Array Value)[j]? = some v → W.cell? ⟨w1.heap.size, j, none⟩ = some v := fun j v h => by
    rw [← hW]
    rw [hb23.cell (p := ⟨w1.heap.size, j, none⟩) (by simp)]
    exact (cell_of_row _ _ j _ 24 (0, 0) (heap_alloc_new _ _)).trans h
  have hsW : W.heap.size = w1.heap.size + 3 := by rw [← hW]; simp
  have hdw : ∀ j v, (#[.string xaA, .string xaA, .int .i64 0, .string xbA, .string bA, .int .i64 1] : Array Value)[j]? = some v → W.cell? ⟨w1.heap.size + 1, j, none⟩ = some v := fun j v h => by
    rw [← hW, b3.cell (p := ⟨w1.heap.size + 1, j, none⟩) (by rw [hs2]; simp)]
    exact hda j v h
  have HDR : Hid (DefRow W (some ⟨w1.heap.size + 1, 0, none⟩) 2 2 aw10D) := Lib.hid (by rw [← hW]; exact hdr.below b3)
  have HR : Hid (NodeRow W (some ⟨g, 0, none⟩) len cap M) := Lib.hid (by rw [← hW]; exact HR.out.below hb123)
  have HB1 : Hid (Below w.heap.size w W) := Lib.hid (by rw [← hW]; exact HB1.out.trans (hb123.mono HB1.out.size))
  have z0 := hcf 0 _ rfl
  have z1 := hcf 1 _ rfl
  have d0 := hcd 0 _ rfl
  have d1 := hcd 1 _ rfl
  have d2 := hcd 2 _ rfl
  have d3 := hcd 3 _ rfl
  have e0 := hdw 0 _ rfl
  have e1 := hdw 1 _ rfl
  have e2 := hdw 2 _ rfl
  rw [hW]
  obtain ⟨T1, hT1⟩ : ∃ T, w1.heap.size = T := ⟨_, rfl⟩
  obtain ⟨bd, hbd⟩ : ∃ T, T1 + 1 = T := ⟨_, rfl⟩
  obtain ⟨T4, hT4⟩ : ∃ T, bd + 1 = T := ⟨_, rfl⟩
  have hl1 : T1 < W.heap.size ∧ bd < W.heap.size ∧ T4 < W.heap.size := by omega
  clear hW b1 b2 b3 hdr hda hb23 hb123 hcd hcf hdw hs1 hs2 hsW
  rw [hT1] at HDR z0 z1 d0 d1 d2 d3 e0 e1 e2 ⊢
  rw [hbd] at HDR d0 d1 d2 d3 e0 e1 e2 ⊢
  rw [hT4] at d0 d1 d2 d3 ⊢
  have HLT := Lib.hid hl1
  clear hT1 hbd hT4 hl1
  have CT : Hid (∀ X, Below W.heap.size W X → Calls Tryz.prog 16 #[forV (some ⟨g, 0, none⟩) len cap 9, .int .i64 1, deskV (some ⟨bd, 0, none⟩) 2 2 none 0 0 0 false] X (DuePost X [⟨2, upT 0⟩, ⟨3, upT 1⟩])) := Lib.hid (fun X hb => by
    have h := tries_any (some ⟨g, 0, none⟩) len cap 9 1 M (some ⟨bd, 0, none⟩) 2 2 none 0 0 0 false aw10D [] X (HR.out.below hb) ⟨by decide, by decide⟩ ⟨by decide, by decide⟩ HSM.out (HDR.out.below hb) (WaitRow.nil X)
    rw [HCM.out, ha3] at h
    exact h)
  have CH : Hid (∀ X, Below W.heap.size W X → Calls Tryz.prog 15 #[forV (some ⟨g, 0, none⟩) len cap 9, .agg #[.string xaA, .string xaA, .int .i64 0]] X (OrdPost X [])) := Lib.hid (fun X hb => by
    have h := heirs_any (some ⟨g, 0, none⟩) len cap 9 M xaA xaA 0 X (HR.out.below hb) ⟨by decide, by decide⟩ HSM.out
    rw [HCM.out, ha4] at h
    exact h)
  have CA : Hid (∀ X, Below W.heap.size W X → Calls Tryz.prog 14 #[forV (some ⟨g, 0, none⟩) len cap 9, .int .i64 4, deskV (some ⟨bd, 0, none⟩) 2 2 none 0 0 0 false] X fun e w' => e = .returned (.int .i64 (-1)) ∧ Below X.heap.size X w') := Lib.hid (fun X hb => by
    have h := fateFn_any (some ⟨g, 0, none⟩) len cap 9 M 4 (some ⟨bd, 0, none⟩) 2 2 none 0 0 0 false aw10D [] X (HR.out.below hb) ⟨by decide, by decide⟩ ⟨by decide, by decide⟩ HSM.out (HDR.out.below hb) (WaitRow.nil X)
    rw [HCM.out, ha5.1] at h
    exact h)
  have CB : Hid (∀ X, Below W.heap.size W X → Calls Tryz.prog 14 #[forV (some ⟨g, 0, none⟩) len cap 9, .int .i64 3, deskV (some ⟨bd, 0, none⟩) 2 2 none 0 0 0 false] X fun e w' => e = .returned (.int .i64 1) ∧ Below X.heap.size X w') := Lib.hid (fun X hb => by
    have h := fateFn_any (some ⟨g, 0, none⟩) len cap 9 M 3 (some ⟨bd, 0, none⟩) 2 2 none 0 0 0 false aw10D [] X (HR.out.below hb) ⟨by decide, by decide⟩ ⟨by decide, by decide⟩ HSM.out (HDR.out.below hb) (WaitRow.nil X)
    rw [HCM.out, ha5.2] at h
    exact h)
  have CP : Hid (∀ X, Calls Tryz.prog 10 #[.string ⟨#[112]⟩, .string ⟨#[]⟩] X fun e w' => e = .returned (.int .i64 0) ∧ Below X.heap.size X w') := Lib.hid (fun X => by
    have h := born_any pA ⟨#[]⟩ X (by decide)
    rw [ha6.1] at h
    exact h)
  have CQ : Hid (∀ X, Calls Tryz.prog 10 #[.string ⟨#[120, 45, 97]⟩, .string ⟨#[]⟩] X fun e w' => e = .returned (.int .i64 1) ∧ Below X.heap.size X w') := Lib.hid (fun X => by
    have h := born_any xaA ⟨#[]⟩ X (by decide)
    rw [ha6.2] at h
    exact h)
  go_upto_region 4 with (go_at_call 16; (with_reducible refine (CT.out _ (Below.refl _ _)).mono ?_); rintro e V ⟨a5, l5, c5, rfl, hdu, hbv⟩; have hl5 : l5 = 2 := hdu.row.hlen.symm; subst hl5; have HDU := Lib.hid hdu; have HBV := Lib.hid hbv; clear hdu hbv)
  obtain ⟨b5, o5, ha5', hb5, hc5⟩ : ∃ b off, a5 = some ⟨b, off, none⟩ ∧ b < V.heap.size ∧ ∀ i x j v, ([⟨2, upT 0⟩, ⟨3, upT 1⟩] : List DueD)[i]? = some x → (encU x)[j]? = some v → V.cell? ⟨b, off + i * 11 + j, none⟩ = some v := by
    rcases HDU.out.row.cells with h | h
    · cases h
    · exact h
  subst ha5'
  have HBW := Lib.hid HBV.out
  have SV : (fun w' => w'.cell? ⟨T1, 0, none⟩ = some (.slice (some ⟨g, 0, none⟩) len cap) ∧ w'.cell? ⟨T1, 1, none⟩ = some (.int .i64 9) ∧ w'.cell? ⟨T4, 0, none⟩ = some (.slice (some ⟨bd, 0, none⟩) 2 2) ∧ w'.cell? ⟨T4, 1, none⟩ = some (.slice none 0 0) ∧ w'.cell? ⟨T4, 2, none⟩ = some (.int .i64 0) ∧ w'.cell? ⟨T4, 3, none⟩ = some (.bool false) ∧ w'.cell? ⟨bd, 0, none⟩ = some (.string xaA) ∧ w'.cell? ⟨bd, 1, none⟩ = some (.string xaA) ∧ w'.cell? ⟨bd, 2, none⟩ = some (.int .i64 0) ∧ w'.cell? ⟨b5, o5, none⟩ = some (.int .i64 2) ∧ w'.cell? ⟨b5, o5 + 11, none⟩ = some (.int .i64 3) ∧ w'.cell? ⟨b5, o5 + 12, none⟩ = some (.int .i64 9) ∧ w'.cell? ⟨b5, o5 + 13, none⟩ = some (.int .i64 1) ∧ w'.cell? ⟨b5, o5 + 14, none⟩ = some (.string ⟨#[]⟩) ∧ w'.cell? ⟨b5, o5 + 15, none⟩ = some (.bool false) ∧ w'.cell? ⟨b5, o5 + 16, none⟩ = some (.bool false) ∧ w'.cell? ⟨b5, o5 + 17, none⟩ = some (.string ⟨#[]⟩) ∧ w'.cell? ⟨b5, o5 + 18, none⟩ = some (.string ⟨#[]⟩) ∧ w'.cell? ⟨b5, o5 + 19, none⟩ = some (.int .i64 0) ∧ w'.cell? ⟨b5, o5 + 20, none⟩ = some (.int .i64 0) ∧ w'.cell? ⟨b5, o5 + 21, none⟩ = some (.bool false) ∧ Below V.heap.size V w') V := by
    have k : ∀ {b o : Nat} {x : Option Value}, b < W.heap.size → W.cell? ⟨b, o, none⟩ = x → V.cell? ⟨b, o, none⟩ = x := fun hb h => (HBV.out.cell (p := ⟨_, _, none⟩) hb).trans h
    have k1 := HLT.out
    refine ⟨k k1.1 z0, k k1.1 z1, k k1.2.2 d0, k k1.2.2 d1, k k1.2.2 d2, k k1.2.2 d3, k k1.2.1 e0, k k1.2.1 e1, k k1.2.1 e2, ?_⟩
    refine ⟨hc5 0 _ 0 _ rfl rfl, hc5 1 _ 0 _ rfl rfl, hc5 1 _ 1 _ rfl rfl, hc5 1 _ 2 _ rfl rfl, hc5 1 _ 3 _ rfl rfl, hc5 1 _ 4 _ rfl rfl, hc5 1 _ 5 _ rfl rfl, hc5 1 _ 6 _ rfl rfl, hc5 1 _ 7 _ rfl rfl, hc5 1 _ 8 _ rfl rfl, hc5 1 _ 9 _ rfl rfl, hc5 1 _ 10 _ rfl rfl, Below.refl _ _⟩
  dsimp only at SV
  have HLV : Hid (T1 < V.heap.size ∧ T4 < V.heap.size ∧ bd < V.heap.size ∧ b5 < V.heap.size) := Lib.hid (by have h1 := HLT.out; have h2 := HBV.out.size; omega)
  clear z0 z1 d0 d1 d2 d3 e0 e1 e2 hc5 hb5 HLT
  go_region_held3 (fun w' => w'.cell? ⟨T1, 0, none⟩ = some (.slice (some ⟨g, 0, none⟩) len cap) ∧ w'.cell? ⟨T1, 1, none⟩ = some (.int .i64 9) ∧ w'.cell? ⟨T4, 0, none⟩ = some (.slice (some ⟨bd, 0, none⟩) 2 2) ∧ w'.cell? ⟨T4, 1, none⟩ = some (.slice none 0 0) ∧ w'.cell? ⟨T4, 2, none⟩ = some (.int .i64 0) ∧ w'.cell? ⟨T4, 3, none⟩ = some (.bool false) ∧ w'.cell? ⟨bd, 0, none⟩ = some (.string xaA) ∧ w'.cell? ⟨bd, 1, none⟩ = some (.string xaA) ∧ w'.cell? ⟨bd, 2, none⟩ = some (.int .i64 0) ∧ w'.cell? ⟨b5, o5, none⟩ = some (.int .i64 2) ∧ w'.cell? ⟨b5, o5 + 11, none⟩ = some (.int .i64 3) ∧ w'.cell? ⟨b5, o5 + 12, none⟩ = some (.int .i64 9) ∧ w'.cell? ⟨b5, o5 + 13, none⟩ = some (.int .i64 1) ∧ w'.cell? ⟨b5, o5 + 14, none⟩ = some (.string ⟨#[]⟩) ∧ w'.cell? ⟨b5, o5 + 15, none⟩ = some (.bool false) ∧ w'.cell? ⟨b5, o5 + 16, none⟩ = some (.bool false) ∧ w'.cell? ⟨b5, o5 + 17, none⟩ = some (.string ⟨#[]⟩) ∧ w'.cell? ⟨b5, o5 + 18, none⟩ = some (.string ⟨#[]⟩) ∧ w'.cell? ⟨b5, o5 + 19, none⟩ = some (.int .i64 0) ∧ w'.cell? ⟨b5, o5 + 20, none⟩ = some (.int .i64 0) ∧ w'.cell? ⟨b5, o5 + 21, none⟩ = some (.bool false) ∧ Below V.heap.size V w')
    (first | assumption | exact ha_keep V T1 T4 g len cap bd b5 o5 HLV.out.1 HLV.out.2.1 HLV.out.2.2.1 HLV.out.2.2.2 (by assumption) (by assumption) | exact ha_keep V T1 T4 g len cap bd b5 o5 HLV.out.1 HLV.out.2.1 HLV.out.2.2.1 HLV.out.2.2.2 SV (Below.refl _ _).drew)
    (first
      | (go_at_call 15; (with_reducible refine (CH.out _ (HBV.out.trans (((‹_ ∧ _ ∧ _ ∧ _ ∧ _ ∧ _ ∧ _ ∧ _ ∧ _ ∧ _ ∧ _ ∧ _ ∧ _ ∧ _ ∧ _ ∧ _ ∧ _ ∧ _ ∧ _ ∧ _ ∧ _ ∧ Below _ _ _›).2.2.2.2.2.2.2.2.2.2.2.2.2.2.2.2.2.2.2.2.2).mono HBV.out.size))).mono ?_); rintro e w' ⟨a6, l6, c6, rfl, hr6, hb⟩; have hl6 : l6 = 0 := hr6.row.hlen.symm; subst hl6; clear hr6)
      | (go_at_call 14; (with_reducible refine (CA.out _ (HBV.out.trans (((‹_ ∧ _ ∧ _ ∧ _ ∧ _ ∧ _ ∧ _ ∧ _ ∧ _ ∧ _ ∧ _ ∧ _ ∧ _ ∧ _ ∧ _ ∧ _ ∧ _ ∧ _ ∧ _ ∧ _ ∧ _ ∧ Below _ _ _›).2.2.2.2.2.2.2.2.2.2.2.2.2.2.2.2.2.2.2.2.2).mono HBV.out.size))).mono ?_); rintro e w' ⟨rfl, hb⟩)
      | (go_at_call 14; (with_reducible refine (CB.out _ (HBV.out.trans (((‹_ ∧ _ ∧ _ ∧ _ ∧ _ ∧ _ ∧ _ ∧ _ ∧ _ ∧ _ ∧ _ ∧ _ ∧ _ ∧ _ ∧ _ ∧ _ ∧ _ ∧ _ ∧ _ ∧ _ ∧ _ ∧ Below _ _ _›).2.2.2.2.2.2.2.2.2.2.2.2.2.2.2.2.2.2.2.2.2).mono HBV.out.size))).mono ?_); rintro e w' ⟨rfl, hb⟩)
      | (go_at_call 10; (with_reducible refine (CP.out _).mono ?_); rintro e w' ⟨rfl, hb⟩)
      | (go_at_call 10; (with_reducible refine (CQ.out _).mono ?_); rintro e w' ⟨rfl, hb⟩))
  have HBE : Hid (Below w.heap.size w w') := Lib.hid (HB1.out.trans ((HBV.out.trans (((‹_ ∧ _ ∧ _ ∧ _ ∧ _ ∧ _ ∧ _ ∧ _ ∧ _ ∧ _ ∧ _ ∧ _ ∧ _ ∧ _ ∧ _ ∧ _ ∧ _ ∧ _ ∧ _ ∧ _ ∧ _ ∧ Below _ _ _›).2.2.2.2.2.2.2.2.2.2.2.2.2.2.2.2.2.2.2.2.2).mono HBV.out.size)).mono HB1.out.size))
  go_wp2
  go_ret
  exact ⟨rfl, HBE.out⟩
end Go.Proofs.YtkomeijlljcdgaaGreat
