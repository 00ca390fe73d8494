/- Texts joined in build order: WatchFirstLaw. -/
import Derived.Test.YtbkhngoehoiccaaGreatF45
namespace Go.Proofs.YtbkhngoehoiccaaGreat
open Go.RowKit
theorem firstW_void {c : ClassC} {n : Int} {A : AL} {con : Bool} (h : c.hooks = []) : firstW c n A con = [] := by
  have h1 : ∀ k, hearsC c k = false := fun k => by unfold hearsC; rw [h]; rfl
  have h2 : ∀ s, watchesC c s = false := fun s => by unfold watchesC; rw [h1, Bool.and_false]
  unfold firstW
  rw [h1]
  have h3 : A.filterMap (attrZ c n) = [] := by
    rw [List.filterMap_eq_nil_iff]
    intro a _
    unfold attrZ
    rw [h2]
    rfl
  rw [h3]
  rfl
theorem firA_get {c : ClassC} {n : Int} {A : AL} {k : Nat} {a v : ByteArray} {l : List DueD} (hy : A[k]? = some (a, v)) (h : watchesC c a = true) (hl : ∃ r, l = A.filterMap (attrZ c n) ++ r) : l[(firA c n A k).length]? = some ⟨n, attrT (a, v)⟩ := by
  obtain ⟨r, rfl⟩ := hl
  have h1 : A.filterMap (attrZ c n) = firA c n A (k + 1) ++ (A.drop (k + 1)).filterMap (attrZ c n) := by
    unfold firA
    rw [← List.filterMap_append, List.take_append_drop]
  rw [h1, firA_hit hy h]
  simp
set_option maxHeartbeats 8000000 in
set_option maxRecDepth 100000 in
theorem watchFirst_walk (_F : True) (a : Option Addr) (len cap : Nat) (m : Int) (K : List NodeD) (sa : Option Addr) (sl sc : Nat) (S : List StateD) (da : Option Addr) (dl dc : Nat) (wa : Option Addr) (wl wc_ : Nat) (nx : Int) (bz : Bool) (D : List DefD) (M : List WaitD) (ca : Option Addr) (cl cc : Nat) (C : List ClassD) (x : Int) (w : World)
    (h0 : NodeRow w a len cap K) (hm : In64 m) (hs : StaRow w sa sl sc S) (hD : DeskAt w da dl dc wa wl wc_ ⟨D, M, nx, bz⟩) (hc : ClsRow w ca cl cc C) (hx : 0 ≤ x ∧ x ≤ 255) :
    Calls Tryz.prog 5 #[forV a len cap m, .slice sa sl sc, deskV da dl dc wa wl wc_ nx bz, .slice ca cl cc, .int .u8 x] w fun e w' => e = .returned (.bool true) ∧ Below w.heap.size w w' := by
  have AWK := Lib.hid (fun W => awake12_any W)
  have FX := Lib.hid (FD.start (m := m) (nx := nx) (bz := bz) h0 hD.d hD.t)
  have HM := Lib.hid hm
  have HKL := Lib.hid h0.hlen
  have HSL := Lib.hid hs.hlen
  have hl64 := h0.len64
  have hsl64 := hs.len64
  have HSR : Hid (∀ V, Below w.heap.size w V → StaRow V sa sl sc S) := Lib.hid (fun V hb => hs.below hb)
  have HCR : Hid (∀ V, Below w.heap.size w V → ClsRow V ca cl cc C) := Lib.hid (fun V hb => hc.below hb)
  have LR : Hid (∀ V, Below w.heap.size w V → NodeRow V a len cap K → DefRow V da dl dc D → WaitRow V wa wl wc_ M → Calls Tryz.prog 28 #[forV a len cap m, .slice sa sl sc, deskV da dl dc wa wl wc_ nx bz, .slice ca cl cc] V fun e w' => ∃ r, e = .returned (.bool r) ∧ Below V.heap.size V w' ∧ (r = true → RightP m K S D M nx bz C)) := Lib.hid (fun V hb h1 h2 h3 => lawright12_any a len cap m K sa sl sc S da dl dc wa wl wc_ nx bz D M ca cl cc C V h1 HM.out (HSR.out V hb) h2 h3 (HCR.out V hb))
  (have z0 := FX.out.f.c0; have z1 := FX.out.f.c1; have d0 := FX.out.d.c0; have d1 := FX.out.d.c1; have d2 := FX.out.d.c2; have d3 := FX.out.d.c3)
  clear h0 hm hs hD hc _F
  go_enter Tryz.func5, Tryz.ntmps5
  go_upto_region 5 with (first
    | (go_at_call 7; (with_reducible refine (AWK.out _).mono ?_); rintro e w5 ⟨rfl, hb⟩; ((clear z0 z1 d0 d1 d2 d3); have FX := Lib.hid (FX.out.keep hb); (have z0 := FX.out.f.c0; have z1 := FX.out.f.c1; have d0 := FX.out.d.c0; have d1 := FX.out.d.c1; have d2 := FX.out.d.c2; have d3 := FX.out.d.c3); clear hb))
    | (go_at_call 28; (with_reducible refine (LR.out _ FX.out.f.below FX.out.f.row FX.out.d.d FX.out.d.t).mono ?_); rintro e w6 ⟨r, rfl, hb, hr⟩; have HR := Lib.hid hr; clear hr; ((clear z0 z1 d0 d1 d2 d3); have FX := Lib.hid (FX.out.keep hb); (have z0 := FX.out.f.c0; have z1 := FX.out.f.c1; have d0 := FX.out.d.c0; have d1 := FX.out.d.c1; have d2 := FX.out.d.c2; have d3 := FX.out.d.c3); clear hb)))
  · go_ret
    exact ⟨rfl, FX.out.f.below⟩
  have RP := Lib.hid (HR.out (by simpa using ‹(!r) = false›))
  obtain rfl : r = true := by simpa using ‹(!r) = false›
  clear HR LR AWK
  have hlp : 0 < len := by
    have := right_len RP.out.rf
    rwa [coreL_len, HKL.out] at this
  obtain ⟨t, hxt, htl⟩ : ∃ t : Nat, x % (len : Int) = (t : Int) ∧ t < len := by
    have h1 := Int.emod_nonneg x (show (len : Int) ≠ 0 by omega)
    have h2 := Int.emod_lt_of_pos x (show (0 : Int) < len by omega)
    exact ⟨(x % (len : Int)).toNat, by omega, by omega⟩
  have hts : t < sl := by have := RP.out.le; rw [HSL.out, HKL.out] at this; omega
  have hx0 := hx.1
  have hx1 := hx.2
  have hlz : ¬ (len : Int) = 0 := by omega
  have hlb : ((len : Int) == 0) = false := beq_eq_false_iff_ne.2 hlz
  have hlz2 : ¬ len = 0 := by omega
  have hlb2 : (len == 0) = false := beq_eq_false_iff_ne.2 hlz2
  have HXT := Lib.hid hxt
  clear hxt
  go_upto_region 6 with fail
  rw [HXT.out]
  clear hlz hlb hlz2 hlb2 hx0 hx1 hx HXT
  have CFI : Hid (∀ V, Below w.heap.size w V → NodeRow V a len cap K → DefRow V da dl dc D → WaitRow V wa wl wc_ M → Calls Tryz.prog 22 #[forV a len cap m, .slice sa sl sc, deskV da dl dc wa wl wc_ nx bz, .slice ca cl cc, .int .i64 (t : Int)] V (DuePost V (firstF m (coreL K) S ⟨D, M, nx, bz⟩ (coreCl C) (t : Int)))) := Lib.hid (fun V hb h1 h2 h3 => first_any a len cap m K sa sl sc S da dl dc wa wl wc_ nx bz D M ca cl cc C t V h1 HM.out RP.out.sf (HSR.out V hb) h2 h3 (HCR.out V hb) ⟨by omega, by omega⟩)
  go_upto_region 7 with (go_at_call 22; (with_reducible refine (CFI.out _ FX.out.f.below FX.out.f.row FX.out.d.d FX.out.d.t).mono ?_); rintro e V ⟨la, ll, lc, rfl, hdu, hb⟩; have TR := Lib.hid hdu; clear hdu; ((clear z0 z1 d0 d1 d2 d3); have FX := Lib.hid (FX.out.keep hb); (have z0 := FX.out.f.c0; have z1 := FX.out.f.c1; have d0 := FX.out.d.c0; have d1 := FX.out.d.c1; have d2 := FX.out.d.c2; have d3 := FX.out.d.c3); clear hb))
  obtain ⟨T, hT⟩ : ∃ T, firstF m (coreL K) S ⟨D, M, nx, bz⟩ (coreCl C) (t : Int) = T := ⟨_, rfl⟩
  rw [hT] at TR
  have HT := Lib.hid hT
  clear CFI hT
  obtain ⟨b, off, xn, rfl, hbn, hxn, hxa, hxo⟩ := FX.out.f.row.get htl
  obtain ⟨sb, so, s, rfl, hsb, hss, hsa, -⟩ := (HSR.out V FX.out.f.below).sta hts
  obtain ⟨cz, hcz⟩ : ∃ z, classZ s D (coreCl C) = z := ⟨_, rfl⟩
  have HCZ := Lib.hid hcz
  have HFA : Hid (xn.core.kind = 1 → T = firstO cz (t : Int) xn.core.attrs (connZ m (coreL K) (t : Int))) := Lib.hid (fun h => by rw [← HT.out, firstF_at RP.out.w (coreL_get hxn) h hss, hcz])
  have HFN : Hid (xn.core.kind ≠ 1 → T = []) := Lib.hid (fun h => by rw [← HT.out]; exact firstF_no (.inr (by rw [elemB_nat (coreL_get hxn)]; exact beq_eq_false_iff_ne.2 h)))
  have CA : Hid (∀ X, Below V.heap.size V X → Calls Tryz.prog 18 #[stateV s, deskV da dl dc wa wl wc_ nx bz, .slice ca cl cc] X fun e w' => ∃ (y : ClassD) (ok : Bool), e = .returned (.tuple #[y.val, .bool ok]) ∧ ClassAt w' y ∧ Below X.heap.size X w' ∧ (∀ q, q < X.heap.size → (∀ z ∈ C, ClassOff q z) → ClassOff q y) ∧ ((ok = false ∧ cz = none ∧ y.core = clsNone.core) ∨ (ok = true ∧ cz = some y.core))) := Lib.hid (fun X hb => by
    have := classFn_any s da dl dc wa wl wc_ nx bz ca cl cc D C X ((FX.out.keep hb).d.d) (HCR.out X (FX.out.keep hb).f.below) RP.out.sc
    rw [HCZ.out] at this
    exact this)
  have HLT : Hid (sb < V.heap.size ∧ w.heap.size + 1 < V.heap.size) := Lib.hid ⟨hsb, FX.out.lt.2⟩
  have HOFF : Hid (∀ x ∈ C, ∀ q, V.heap.size ≤ q → ClassOff q x) := Lib.hid (fun x hx => ((HCR.out V FX.out.f.below).each x hx).off)
  have HBN := Lib.hid hbn
  have HXA := Lib.hid hxa
  have HXO := Lib.hid hxo
  obtain ⟨s0, s1, s2, s3⟩ := hsa
  have SV : V.cell? ⟨sb, so + t * 4, none⟩ = some (.int .i64 s.phase) ∧ V.cell? ⟨sb, so + t * 4 + 1, none⟩ = some (.int .i64 s.dfn) ∧ V.cell? ⟨sb, so + t * 4 + 2, none⟩ = some (.int .i64 s.owner) ∧ V.cell? ⟨sb, so + t * 4 + 3, none⟩ = some (.bool s.barred) ∧ V.cell? ⟨w.heap.size + 1, 0, none⟩ = some (.slice da dl dc) ∧ V.cell? ⟨w.heap.size + 1, 1, none⟩ = some (.slice wa wl wc_) ∧ V.cell? ⟨w.heap.size + 1, 2, none⟩ = some (.int .i64 nx) ∧ V.cell? ⟨w.heap.size + 1, 3, none⟩ = some (.bool bz) ∧ Below V.heap.size V V := ⟨s0, s1, s2, s3, d0, d1, d2, d3, Below.refl _ _⟩
  clear hsb hss hcz hbn hxn hxa hxo z0 z1 s0 s1 s2 s3 d0 d1 d2 d3
  go_cut [13, 14] (fun p c wx => True ∧ ∃ (g : Nat) (y : ClassD) (ok : Bool), p = .pointer (some ⟨g, 0, none⟩) ∧ c = .bool ok ∧ Hid (CBox wx g (encClD y) ∧ ClassAt wx y ∧ Below V.heap.size V wx) ∧ Hid ((ok = false ∧ cz = none ∧ y.core = clsNone.core) ∨ (ok = true ∧ cz = some y.core)))
  case first =>
    go_region_held3 (fun w' => w'.cell? ⟨sb, so + t * 4, none⟩ = some (.int .i64 s.phase) ∧ w'.cell? ⟨sb, so + t * 4 + 1, none⟩ = some (.int .i64 s.dfn) ∧ w'.cell? ⟨sb, so + t * 4 + 2, none⟩ = some (.int .i64 s.owner) ∧ w'.cell? ⟨sb, so + t * 4 + 3, none⟩ = some (.bool s.barred) ∧ w'.cell? ⟨w.heap.size + 1, 0, none⟩ = some (.slice da dl dc) ∧ w'.cell? ⟨w.heap.size + 1, 1, none⟩ = some (.slice wa wl wc_) ∧ w'.cell? ⟨w.heap.size + 1, 2, none⟩ = some (.int .i64 nx) ∧ w'.cell? ⟨w.heap.size + 1, 3, none⟩ = some (.bool bz) ∧ Below V.heap.size V w')
      (with_reducible first | (refine keep8 ⟨HLT.out.1, HLT.out.1, HLT.out.1, HLT.out.1, HLT.out.2, HLT.out.2, HLT.out.2, HLT.out.2⟩ SV ?_; first | exact HW6.out | exact below5 HW6.out (Nat.le_refl _) _ _ _ _ _ | exact HW6.out.trans ((box_below _ _).mono HW6.out.size) | exact box_below _ _ | exact (Below.refl _ _).drew | exact (box_below _ _).drew | exact HW6.out.trans ((box_below _ _).drew.mono HW6.out.size)) | assumption)
      (first
        | (go_at_call 18; (with_reducible refine (CA.out _ (kept8 ‹_ ∧ _ ∧ _ ∧ _ ∧ _ ∧ _ ∧ _ ∧ _ ∧ Below _ _ _›)).mono ?_); rintro e w6 ⟨y, ok, rfl, hya, hb, hoff, hr⟩; have HR6 := Lib.hid hr; have HYA := Lib.hid hya; clear hr hya; have HW6 : Hid (Below V.heap.size V w6) := Lib.hid ((kept8 ‹_ ∧ _ ∧ _ ∧ _ ∧ _ ∧ _ ∧ _ ∧ _ ∧ Below _ _ _›).trans (hb.mono (kept8 ‹_ ∧ _ ∧ _ ∧ _ ∧ _ ∧ _ ∧ _ ∧ _ ∧ Below _ _ _›).size)); (with_reducible first | (have hbk := ahead_drew (W0 := V) (cs := zeroCl) hb) | (have hbk := ahead_plain (W0 := V) (cs := zeroCl) hb)); have HA6 := Lib.hid hbk.1; have HYO : Hid (ClassOff V.heap.size y) := Lib.hid (hoff _ (by simp) (fun x hx => HOFF.out x hx _ (Nat.le_refl _))); clear hbk hoff; have r0 := HA6.out.c 0 _ rfl; have r1 := HA6.out.c 1 _ rfl; have r2 := HA6.out.c 2 _ rfl; have r3 := HA6.out.c 3 _ rfl; have r4 := HA6.out.c 4 _ rfl; have f0 := HA6.out.f 0; have f1 := HA6.out.f 1; have f2 := HA6.out.f 2; have f3 := HA6.out.f 3; have f4 := HA6.out.f 4)
        | (go_at_call 18; (with_reducible refine (CA.out _ (kept8 ‹_ ∧ _ ∧ _ ∧ _ ∧ _ ∧ _ ∧ _ ∧ _ ∧ Below _ _ _›)).mono ?_); rintro e w6 ⟨y, ok, rfl, hya, hb, hoff, hr⟩; have HR6 := Lib.hid hr; have HYA := Lib.hid hya; clear hr hya hoff; have HW6 : Hid (Below V.heap.size V w6) := Lib.hid ((kept8 ‹_ ∧ _ ∧ _ ∧ _ ∧ _ ∧ _ ∧ _ ∧ _ ∧ Below _ _ _›).trans (hb.mono (kept8 ‹_ ∧ _ ∧ _ ∧ _ ∧ _ ∧ _ ∧ _ ∧ _ ∧ Below _ _ _›).size))))
    all_goals
      go_wp2_with fail
      go_meet
      first
        | exact ⟨trivial, _, y, ok, rfl, rfl, Lib.hid ⟨box5 HA6.out rfl y, HYA.out.put5 HYO.out _ _ _ _ _, below5 HW6.out (Nat.le_refl _) _ _ _ _ _⟩, HR6⟩
        | exact ⟨trivial, _, y, ok, rfl, rfl, Lib.hid ⟨CBox.new w6 (encClD y).toArray _, HYA.out.below (box_below _ _), HW6.out.trans ((box_below _ _).mono HW6.out.size)⟩, HR6⟩
  case rest =>
    obtain ⟨-, g, y, ok, rfl, rfl, HG, HR⟩ := hcut
    have FX := Lib.hid (FX.out.keep HG.out.2.2)
    have HYA := Lib.hid HG.out.2.1
    have BY := Lib.hid HG.out.1
    have TR := Lib.hid (TR.out.below HG.out.2.2)
    have HXA := Lib.hid (HXA.out.below HBN.out HG.out.2.2)
    have HXO := Lib.hid (HXO.out.below HG.out.2.2)
    have HBN : Hid (b < wc.heap.size) := Lib.hid (Nat.lt_of_lt_of_le HBN.out HG.out.2.2.size)
    clear SV HG CA HLT HOFF
    have htl64 : (ll : Int) ≤ 9223372036854775807 := by have h1 := TR.out.row.hcap; have h2 := TR.out.row.hmax; unfold maxLen at h2; omega
    have HTL := Lib.hid (show T.length = ll from TR.out.row.hlen)
    have z0 := FX.out.f.c0
    have z1 := FX.out.f.c1
    have x0 := HXA.out.c0
    have x4 := HXA.out.c4
    have k0 := BY.out.c 0 _ rfl
    have k1 := BY.out.c 1 _ rfl
    have k2 := BY.out.c 2 _ rfl
    have k3 := BY.out.c 3 _ rfl
    have k4 := BY.out.c 4 _ rfl
    have VOID : Hid (T = [] → ll = 0) := Lib.hid (fun e => by rw [← HTL.out, e]; rfl)
    by_cases hk : xn.core.kind = 1
    case neg =>
      obtain rfl := VOID.out (HFN.out hk)
      have e1 : (xn.core.kind != 1) = true := bne_iff_ne.2 hk
      go_wp2_with fail
      all_goals
        go_ret
        exact ⟨rfl, FX.out.f.below⟩
    have HTO := Lib.hid (HFA.out hk)
    have e1 : (xn.core.kind != 1) = false := by rw [hk]; rfl
    clear hk HFA HFN
    cases ok with
    | false =>
      obtain rfl := VOID.out (by
        rcases HR.out with ⟨-, e, -⟩ | ⟨e, -⟩
        · rw [HTO.out, e]; rfl
        · cases e)
      go_wp2_with fail
      go_ret
      exact ⟨rfl, FX.out.f.below⟩
    | true =>
    have HTW : Hid (T = firstW y.core (t : Int) xn.core.attrs (connZ m (coreL K) (t : Int))) := Lib.hid (by
      rcases HR.out with ⟨e, -⟩ | ⟨-, e⟩
      · cases e
      · rw [HTO.out, e]; rfl)
    clear HR HTO
    by_cases hh0 : y.hn = 0
    · obtain rfl := VOID.out (by rw [HTW.out]; exact firstW_void (by
        have := HYA.out.h.hlen
        rw [hh0] at this
        unfold ClassD.core coreH
        rw [List.eq_nil_of_length_eq_zero this]
        rfl))
      have e2 : ((y.hn : Int) == 0) = true := by rw [hh0]; rfl
      go_wp2_with fail
      go_ret
      exact ⟨rfl, FX.out.f.below⟩
    have e2 : ((y.hn : Int) == 0) = false := beq_eq_false_iff_ne.2 (by omega)
    clear hh0 VOID
    have HAR : Hid (AttrRow wc xn.aA xn.aN xn.aC xn.core.attrs) := Lib.hid HXO.out.attrs
    obtain ⟨xc, aA, aN, aC, kA, kN, kC⟩ := xn
    dsimp only at HAR HTW x4 x0 e1
    obtain ⟨A, hA⟩ : ∃ A, xc.attrs = A := ⟨_, rfl⟩
    obtain ⟨con, hcon⟩ : ∃ z, connZ m (coreL K) (t : Int) = z := ⟨_, rfl⟩
    have CN : Hid (∀ X, NodeRow X (some ⟨b, off, none⟩) len cap K → Calls Tryz.prog 30 #[forV (some ⟨b, off, none⟩) len cap m, .int .i64 (t : Int)] X fun e w' => e = .returned (.bool con) ∧ Below X.heap.size X w') := Lib.hid (fun X hx => by
      have := connFn_any (some ⟨b, off, none⟩) len cap m K t X hx HM.out ⟨by omega, by omega⟩ RP.out.sf
      rw [hcon] at this
      exact this)
    rw [hA] at HAR HTW
    rw [hcon] at HTW
    have HX4 : Hid (wc.cell? ⟨b, off + t * 10 + 4, none⟩ = some (.slice aA aN aC)) := Lib.hid x4
    have ha64 := HAR.out.row.len64
    have hacap := HAR.out.row.hcap
    have hamax := HAR.out.row.hmax
    have hacap64 : aC ≤ 9223372036854775807 := by unfold maxLen at hamax; omega
    have hlcap := TR.out.row.hcap
    have hlmax := TR.out.row.hmax
    have hlcap64 : lc ≤ 9223372036854775807 := by unfold maxLen at hlmax; omega
    have HT2 : Hid (∃ r, T = A.filterMap (attrZ y.core (t : Int)) ++ r) := Lib.hid ⟨_, HTW.out⟩
    clear hamax hlmax hA hcon HXO
    go_wp2_with fail
    go_loopw [15, 16] (fun p i wr => ∃ k : Nat, k ≤ aN ∧ i = .int .i64 k ∧ (∃ q : Nat, p = .int .i64 q ∧ q ≤ k ∧ Hid (q = (firA y.core (t : Int) A k).length)) ∧ Hid (Below wc.heap.size wc wr)) (fun _ i _ => aN - (intOf i).toNat)
    case atStart => exact ⟨0, Nat.zero_le _, rfl, ⟨0, rfl, Nat.le_refl _, Lib.hid rfl⟩, Lib.hid (Below.refl _ _)⟩
    case round =>
      obtain ⟨k, hkl, rfl, ⟨q, rfl, hqk, HQ⟩, HB⟩ := hrel
      have FR := Lib.hid (FX.out.keep HB.out)
      have BYR := Lib.hid (BY.out.keep HB.out)
      clear z0 z1 x0 x4 k0 k1 k2 k3 k4
      have z0 := FR.out.f.c0
      have z1 := FR.out.f.c1
      have x4 := (HB.out.cell (p := ⟨b, off + t * 10 + 4, none⟩) HBN.out).trans HX4.out
      have k0 := BYR.out.c 0 _ rfl
      have k1 := BYR.out.c 1 _ rfl
      have k2 := BYR.out.c 2 _ rfl
      have k3 := BYR.out.c 3 _ rfl
      have k4 := BYR.out.c 4 _ rfl
      by_cases hlt : k < aN
      · obtain ⟨ab, ao, an, av, rfl, hab, hag, a0, a1, hn1, hn2⟩ := (HAR.out.below HB.out).get hlt
        have HAG := Lib.hid hag
        clear hag hab hn1 hn2
        go_upto_region 15 with fail
        obtain ⟨V0, hV0, C0, HSV, HBV⟩ := boxes1 wr #[.string an, .string av] 70
        rw [hV0]
        have C0 : Hid (CBox V0 wr.heap.size [.string an, .string av]) := Lib.hid C0
        have HBV := Lib.hid HBV
        obtain ⟨G, hG⟩ : ∃ G, wr.heap.size = G := ⟨_, rfl⟩
        rw [hG] at C0 ⊢
        clear hV0 HSV hG a0 a1 z0 z1 x4 k0 k1 k2 k3 k4
        have BYV := Lib.hid (BYR.out.keep HBV.out)
        have HYV := Lib.hid ((HYA.out.below HB.out).below HBV.out)
        have k0 := BYV.out.c 0 _ rfl
        have k1 := BYV.out.c 1 _ rfl
        have k2 := BYV.out.c 2 _ rfl
        have k3 := BYV.out.c 3 _ rfl
        have k4 := BYV.out.c 4 _ rfl
        have a0 := C0.out.c 0 _ rfl
        have a1 := C0.out.c 1 _ rfl
        obtain ⟨q9, hq9⟩ : ∃ q, watchesC y.core an = q := ⟨_, rfl⟩
        have CW : Hid (Calls Tryz.prog 13 #[y.val, .string an] V0 fun e w' => e = .returned (.bool q9) ∧ Below V0.heap.size V0 w') := Lib.hid (by
          have := watches_any y an V0 HYV.out
          rw [hq9] at this
          exact this)
        have HQ9 := Lib.hid hq9
        clear hq9
        cases q9 with
        | false =>
          have HS2 := Lib.hid (firA_miss (n := (t : Int)) HAG.out HQ9.out)
          go_wp2_with (go_at_call 13; (with_reducible refine CW.out.mono ?_); rintro e w2 ⟨rfl, hb⟩; have HBE := Lib.hid ((HB.out.trans (HBV.out.mono HB.out.size)).trans (hb.mono (Nat.le_trans HB.out.size HBV.out.size))); clear hb)
          go_roundw
          case rel => exact ⟨k + 1, by omega, by go_num, ⟨q, rfl, by omega, Lib.hid (by rw [HS2.out]; exact HQ.out)⟩, HBE⟩
          case measure => simp [intOf]; omega
        | true =>
          have HS2 := Lib.hid (firA_hit (n := (t : Int)) HAG.out HQ9.out)
          have hTq := firA_get HAG.out HQ9.out HT2.out
          rw [← HQ.out] at hTq
          have hql : q < ll := by rw [← HTL.out]; exact (List.getElem?_eq_some_iff.1 hTq).1
          have HTQ := Lib.hid hTq
          clear hTq
          go_upto_region 16 with (go_at_call 13; (with_reducible refine CW.out.mono ?_); rintro e w2 ⟨rfl, hb⟩; have HBE := Lib.hid ((HB.out.trans (HBV.out.mono HB.out.size)).trans (hb.mono (Nat.le_trans HB.out.size HBV.out.size))); have C2 := Lib.hid (C0.out.keep hb); clear hb k0 k1 k2 k3 k4 a0 a1)
          obtain ⟨lb, lo, u, rfl, hlb, hu, -, huc⟩ := (TR.out.below HBE.out).row.get hql
          obtain rfl : u = ⟨(t : Int), attrT (an, av)⟩ := Option.some.inj (hu.symm.trans HTQ.out)
          have a0 := Ext.cell (show w2.cell? ⟨G, 0, none⟩ = some (.string an) from C2.out.c 0 _ rfl) C2.out.lt
          have a1 := Ext.cell (show w2.cell? ⟨G, 1, none⟩ = some (.string av) from C2.out.c 1 _ rfl) C2.out.lt
          have t0 := Ext.cell (show w2.cell? ⟨lb, lo + q * 11, none⟩ = some (.int .i64 t) from huc 0 _ rfl) hlb
          have t1 := Ext.cell (show w2.cell? ⟨lb, lo + q * 11 + 1, none⟩ = some (.int .i64 4) from huc 1 _ rfl) hlb
          have t2 := Ext.cell (show w2.cell? ⟨lb, lo + q * 11 + 2, none⟩ = some (.int .i64 0) from huc 2 _ rfl) hlb
          have t3 := Ext.cell (show w2.cell? ⟨lb, lo + q * 11 + 3, none⟩ = some (.string an) from huc 3 _ rfl) hlb
          have t4 := Ext.cell (show w2.cell? ⟨lb, lo + q * 11 + 4, none⟩ = some (.bool false) from huc 4 _ rfl) hlb
          have t5 := Ext.cell (show w2.cell? ⟨lb, lo + q * 11 + 5, none⟩ = some (.bool true) from huc 5 _ rfl) hlb
          have t6 := Ext.cell (show w2.cell? ⟨lb, lo + q * 11 + 6, none⟩ = some (.string ⟨#[]⟩) from huc 6 _ rfl) hlb
          have t7 := Ext.cell (show w2.cell? ⟨lb, lo + q * 11 + 7, none⟩ = some (.string av) from huc 7 _ rfl) hlb
          have t8 := Ext.cell (show w2.cell? ⟨lb, lo + q * 11 + 8, none⟩ = some (.int .i64 0) from huc 8 _ rfl) hlb
          have t9 := Ext.cell (show w2.cell? ⟨lb, lo + q * 11 + 9, none⟩ = some (.int .i64 0) from huc 9 _ rfl) hlb
          have t10 := Ext.cell (show w2.cell? ⟨lb, lo + q * 11 + 10, none⟩ = some (.bool false) from huc 10 _ rfl) hlb
          have hnq := due_same12 (t : Int) 4 0 an false true ⟨#[]⟩ av 0 0 false
          have hgd := due_guard12
          have hg0 : ¬ (ll : Int) ≤ (q : Int) := by omega
          have hg1 : decide ((ll : Int) ≤ (q : Int)) = false := decide_eq_false hg0
          have hg2 : ¬ ll ≤ q := by omega
          clear huc hu hlb
          refine wp_region_ext (by kernel_rfl) (by kernel_rfl) ?_
          repeat (go_big_quiet_step (fail))
          refine wpQuiet_nil ?_
          intro w' hw'
          obtain ⟨⟨w8, hb8⟩, hw''⟩ := hw'
          dsimp only at hw''
          subst hw''
          clear a0 a1 t0 t1 t2 t3 t4 t5 t6 t7 t8 t9 t10 hnq hgd
          have HBF : Hid (Below wc.heap.size wc w') := Lib.hid (HBE.out.trans (hb8.mono HBE.out.size))
          clear hb8
          have hw1 : IntKind.i64.wrap ((q : Int) + 1) = (q : Int) + 1 := by rw [IntKind.wrap_i64]; omega
          go_wp2
          go_roundw
          case rel => exact ⟨k + 1, by omega, by go_num, ⟨q + 1, by go_num, by omega, Lib.hid (by rw [HS2.out, List.length_append, ← HQ.out]; rfl)⟩, HBF⟩
          case measure => simp [intOf]; omega
      · have hkd : k = aN := by omega
        subst hkd
        have HYR := Lib.hid (HYA.out.below HB.out)
        obtain ⟨qh, hqh⟩ : ∃ q, hearsC y.core 1 = q := ⟨_, rfl⟩
        have HFE := Lib.hid (firA_end (c := y.core) (n := (t : Int)) HAR.out.row.hlen)
        have HTE : Hid (T = firA y.core (t : Int) A k ++ (if qh && con then [⟨(t : Int), cameT⟩] else [])) := Lib.hid (by rw [HTW.out, HFE.out, ← hqh]; rfl)
        have CH : Hid (∀ X, Below wr.heap.size wr X → Calls Tryz.prog 11 #[y.val, .int .i64 1] X fun e w' => e = .returned (.bool qh) ∧ Below X.heap.size X w') := Lib.hid (fun X hb => by
          have := hears_any y 1 X (HYR.out.below hb)
          rw [hqh] at this
          exact this)
        have HLQ : Hid ((qh && con) = false → ll = q) := Lib.hid (fun e => by
          rw [← HTL.out, HTE.out, e, HQ.out]
          simp)
        have HLQ1 : Hid ((qh && con) = true → ll = q + 1 ∧ T[q]? = some ⟨(t : Int), cameT⟩) := Lib.hid (fun e => by
          rw [← HTL.out, HTE.out, e, HQ.out]
          simp)
        clear hqh
        cases con with
        | false =>
          obtain rfl := HLQ.out (by rw [Bool.and_false])
          go_wp2_with (go_at_call 30; (with_reducible refine (CN.out _ FR.out.f.row).mono ?_); rintro e w3 ⟨rfl, hb⟩; have HBE := Lib.hid (HB.out.trans (hb.mono HB.out.size)); clear hb)
          go_ret
          exact ⟨rfl, FX.out.f.below.trans (HBE.out.mono FX.out.f.below.size)⟩
        | true =>
          cases qh with
          | false =>
            obtain rfl := HLQ.out rfl
            go_wp2_with (first
              | (go_at_call 30; (with_reducible refine (CN.out _ FR.out.f.row).mono ?_); rintro e w3 ⟨rfl, hb⟩; have HB3 := Lib.hid hb; have HBE := Lib.hid (HB.out.trans (hb.mono HB.out.size)); have BY3 := Lib.hid (BYR.out.keep hb); clear hb z0 z1 k0 k1 k2 k3 k4; have k0 := BY3.out.c 0 _ rfl; have k1 := BY3.out.c 1 _ rfl; have k2 := BY3.out.c 2 _ rfl; have k3 := BY3.out.c 3 _ rfl; have k4 := BY3.out.c 4 _ rfl)
              | (go_at_call 11; (with_reducible refine (CH.out _ HB3.out).mono ?_); rintro e w4 ⟨rfl, hb⟩; have HBF := Lib.hid (HBE.out.trans (hb.mono HBE.out.size)); clear hb))
            go_ret
            exact ⟨rfl, FX.out.f.below.trans (HBF.out.mono FX.out.f.below.size)⟩
          | true =>
            obtain ⟨rfl, hTq⟩ := HLQ1.out rfl
            have HTQ := Lib.hid hTq
            clear hTq HLQ HLQ1
            go_upto_region 20 with (first
              | (go_at_call 30; (with_reducible refine (CN.out _ FR.out.f.row).mono ?_); rintro e w3 ⟨rfl, hb⟩; have HB3 := Lib.hid hb; have HBE := Lib.hid (HB.out.trans (hb.mono HB.out.size)); have BY3 := Lib.hid (BYR.out.keep hb); clear hb z0 z1 k0 k1 k2 k3 k4; have k0 := BY3.out.c 0 _ rfl; have k1 := BY3.out.c 1 _ rfl; have k2 := BY3.out.c 2 _ rfl; have k3 := BY3.out.c 3 _ rfl; have k4 := BY3.out.c 4 _ rfl)
              | (go_at_call 11; (with_reducible refine (CH.out _ HB3.out).mono ?_); rintro e w4 ⟨rfl, hb⟩; have HBF := Lib.hid (HBE.out.trans (hb.mono HBE.out.size)); clear hb))
            obtain ⟨lb, lo, u, rfl, hlb, hu, -, huc⟩ := (TR.out.below HBF.out).row.get (show q < q + 1 by omega)
            obtain rfl : u = ⟨(t : Int), cameT⟩ := Option.some.inj (hu.symm.trans HTQ.out)
            have t0 : w4.cell? ⟨lb, lo + q * 11, none⟩ = some (.int .i64 t) := huc 0 _ rfl
            have t1 : w4.cell? ⟨lb, lo + q * 11 + 1, none⟩ = some (.int .i64 1) := huc 1 _ rfl
            have t2 : w4.cell? ⟨lb, lo + q * 11 + 2, none⟩ = some (.int .i64 0) := huc 2 _ rfl
            have t3 : w4.cell? ⟨lb, lo + q * 11 + 3, none⟩ = some (.string ⟨#[]⟩) := huc 3 _ rfl
            have t4 : w4.cell? ⟨lb, lo + q * 11 + 4, none⟩ = some (.bool false) := huc 4 _ rfl
            have t5 : w4.cell? ⟨lb, lo + q * 11 + 5, none⟩ = some (.bool false) := huc 5 _ rfl
            have t6 : w4.cell? ⟨lb, lo + q * 11 + 6, none⟩ = some (.string ⟨#[]⟩) := huc 6 _ rfl
            have t7 : w4.cell? ⟨lb, lo + q * 11 + 7, none⟩ = some (.string ⟨#[]⟩) := huc 7 _ rfl
            have t8 : w4.cell? ⟨lb, lo + q * 11 + 8, none⟩ = some (.int .i64 0) := huc 8 _ rfl
            have t9 : w4.cell? ⟨lb, lo + q * 11 + 9, none⟩ = some (.int .i64 0) := huc 9 _ rfl
            have t10 : w4.cell? ⟨lb, lo + q * 11 + 10, none⟩ = some (.bool false) := huc 10 _ rfl
            have heq := due_eqs12 (t : Int) 1 0 ⟨#[]⟩ false false ⟨#[]⟩ ⟨#[]⟩ 0 0 false
            have hgd := due_guard12
            have hw1 : IntKind.i64.wrap ((q : Int) + 1) = (q : Int) + 1 := by rw [IntKind.wrap_i64]; omega
            have hee : ((q : Int) + 1 == ((q + 1 : Nat) : Int)) = true := by simp
            clear huc hu hlb
            go_wp2_with fail
            go_ret
            exact ⟨rfl, FX.out.f.below.trans (HBF.out.mono FX.out.f.below.size)⟩
end Go.Proofs.YtbkhngoehoiccaaGreat
