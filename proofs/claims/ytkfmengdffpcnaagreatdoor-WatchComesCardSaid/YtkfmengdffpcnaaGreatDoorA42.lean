/- Texts joined in build order: WatchFirst. -/
import Derived.Test.YtkfmengdffpcnaaGreatDoorA41
namespace Go.Proofs.YtkfmengdffpcnaaGreatDoor
open Go.RowKit
def firstO (c : Option ClassC) (n : Int) (A : AL) (con : Bool) : List DueD := match c with | none => [] | some c => firstW c n A con
def firstF (m : Int) (F : List Core) (S : List StateD) (D : DeskD) (L : List ClassC) (n : Int) : List DueD :=
  if rightW m F S D && elemB F n then
    match F[n.toNat]?, S[n.toNat]? with
    | some e, some s => firstO (classZ s D.defs L) n e.attrs (connZ m F n)
    | _, _ => []
  else []
def firA (c : ClassC) (n : Int) (A : AL) (k : Nat) : List DueD := (A.take k).filterMap (attrZ c n)
section
variable {c : ClassC} {n : Int} {A : AL} {k : Nat} {a v : ByteArray}
theorem firA_len : (firA c n A k).length ≤ k := Nat.le_trans (List.length_filterMap_le _ _) (by rw [List.length_take]; omega)
theorem firA_miss (hy : A[k]? = some (a, v)) (h : watchesC c a = false) : firA c n A (k + 1) = firA c n A k := by
  unfold firA
  rw [List.take_add_one, hy, List.filterMap_append]
  simp [attrZ, h]
theorem firA_hit (hy : A[k]? = some (a, v)) (h : watchesC c a = true) : firA c n A (k + 1) = firA c n A k ++ [⟨n, attrT (a, v)⟩] := by
  unfold firA
  rw [List.take_add_one, hy, List.filterMap_append]
  simp [attrZ, h]
theorem firA_end (h : A.length = k) : firA c n A k = A.filterMap (attrZ c n) := by
  unfold firA
  rw [List.take_of_length_le (by omega)]
end
theorem firstF_no {m : Int} {F : List Core} {S : List StateD} {D : DeskD} {L : List ClassC} {n : Int} (h : rightW m F S D = false ∨ elemB F n = false) : firstF m F S D L n = [] := by
  unfold firstF
  rw [if_neg (by rw [Bool.and_eq_true]; rintro ⟨h1, h2⟩; rcases h with h | h <;> simp_all)]
theorem firstF_at {m : Int} {F : List Core} {S : List StateD} {D : DeskD} {L : List ClassC} {t : Nat} {e : Core} {s : StateD} (h : rightW m F S D = true) (hc : F[t]? = some e) (hk : e.kind = 1) (hs : S[t]? = some s) :
    firstF m F S D L (t : Int) = firstO (classZ s D.defs L) (t : Int) e.attrs (connZ m F (t : Int)) := by
  unfold firstF
  rw [h, elemB_nat hc, beq_iff_eq.2 hk, Int.toNat_natCast, hc, hs]
  rfl
theorem box5 {W : World} {g : Nat} {cs : List Value} (h : CBox W g cs) (hl : cs.length = 5) (y : ClassD) : CBox (((((W.setCell ⟨g, 0, none⟩ (.bool y.form)).setCell ⟨g, 1, none⟩ (.slice y.wa y.wn y.wk)).setCell ⟨g, 2, none⟩ (.slice y.pa y.pn y.pk)).setCell ⟨g, 3, none⟩ (.slice y.ma y.mn y.mc)).setCell ⟨g, 4, none⟩ (.slice y.ha y.hn y.hk)) g (encClD y) := by
  match cs, hl with
  | [a0, a1, a2, a3, a4], _ => exact ((((h.put 0 (.bool y.form) (by simp)).put 1 (.slice y.wa y.wn y.wk) (by simp)).put 2 (.slice y.pa y.pn y.pk) (by simp)).put 3 (.slice y.ma y.mn y.mc) (by simp)).put 4 (.slice y.ha y.hn y.hk) (by simp)
theorem below5 {w W : World} {B g : Nat} (h : Below B w W) (hg : B ≤ g) (x0 x1 x2 x3 x4 : Value) : Below B w (((((W.setCell ⟨g, 0, none⟩ x0).setCell ⟨g, 1, none⟩ x1).setCell ⟨g, 2, none⟩ x2).setCell ⟨g, 3, none⟩ x3).setCell ⟨g, 4, none⟩ x4) := by
  have hle : ∀ o, B ≤ (⟨g, o, none⟩ : Addr).block := fun o => hg
  exact ((((h.setCell (hle 0) _).setCell (hle 1) _).setCell (hle 2) _).setCell (hle 3) _).setCell (hle 4) _
abbrev zeroCl : Array Value := #[.bool false, .slice none 0 0, .slice none 0 0, .slice none 0 0, .slice none 0 0]
set_option maxHeartbeats 4000000 in
set_option maxRecDepth 100000 in
theorem first_any (a : Option Addr) (len cap : Nat) (m : Int) (K : List NodeD) (sa : Option Addr) (sl sc : Nat) (S : List StateD) (da : Option Addr) (dl dc : Nat) (wa : Option Addr) (wl wc_ : Nat) (nx : Int) (bz : Bool) (D : List DefD) (M : List WaitD) (ca : Option Addr) (cl cc : Nat) (L : List ClassD) (n : Int) (w : World)
    (h : NodeRow w a len cap K) (hm : In64 m) (hsm : smallF K) (hs : StaRow w sa sl sc S) (hd : DefRow w da dl dc D) (ht : WaitRow w wa wl wc_ M) (hc : ClsRow w ca cl cc L) (hn : In64 n) :
    Calls Tryz.prog 14 #[forV a len cap m, .slice sa sl sc, deskV da dl dc wa wl wc_ nx bz, .slice ca cl cc, .int .i64 n] w (DuePost w (firstF m (coreL K) S ⟨D, M, nx, bz⟩ (coreCl L) n)) := by
  have FX := Lib.hid (FD.start (m := m) (nx := nx) (bz := bz) h hd ht)
  obtain ⟨q, hq⟩ : ∃ q, rightW m (coreL K) S ⟨D, M, nx, bz⟩ = q := ⟨_, rfl⟩
  obtain ⟨qe, hqe⟩ : ∃ q, elemB (coreL K) n = q := ⟨_, rfl⟩
  have CR : Hid (∀ V, NodeRow V a len cap K → StaRow V sa sl sc S → DefRow V da dl dc D → WaitRow V wa wl wc_ M → Calls Tryz.prog 28 #[forV a len cap m, .slice sa sl sc, deskV da dl dc wa wl wc_ nx bz] V fun e w' => e = .returned (.bool q) ∧ Below V.heap.size V w') := Lib.hid (fun V h1 h2 h3 h4 => by
    have h := wright_any a len cap m K sa sl sc S da dl dc wa wl wc_ nx bz D M V h1 hm hsm h2 h3 h4
    rw [hq] at h
    exact h)
  have CE : Hid (∀ X, NodeRow X a len cap K → Calls Tryz.prog 29 #[forV a len cap m, .int .i64 n] X fun e w' => e = .returned (.bool qe) ∧ Below X.heap.size X w') := Lib.hid (fun X hx => by
    have := iselem_any a len cap m K n X hx hn
    rw [hqe] at this
    exact this)
  have z0 := FX.out.f.c0
  have z1 := FX.out.f.c1
  have d0 := FX.out.d.c0
  have d1 := FX.out.d.c1
  have d2 := FX.out.d.c2
  have d3 := FX.out.d.c3
  have HSR : Hid (∀ V, Below w.heap.size w V → StaRow V sa sl sc S) := Lib.hid (fun V hb => hs.below hb)
  have HCR : Hid (∀ V, Below w.heap.size w V → ClsRow V ca cl cc L) := Lib.hid (fun V hb => hc.below hb)
  have hl64 := h.len64
  have hsl64 := hs.len64
  cases q with
  | false =>
    have HE := Lib.hid (firstF_no (m := m) (F := coreL K) (S := S) (D := ⟨D, M, nx, bz⟩) (L := coreCl L) (n := n) (.inl hq))
    clear h hm hsm hs hd ht hc hn hq hqe
    go_enter Tryz.func14, Tryz.ntmps14
    go_wp2_with (go_at_call 28; (with_reducible refine (CR.out _ FX.out.f.row (HSR.out _ FX.out.f.below) FX.out.d.d FX.out.d.t).mono ?_); rintro e w1 ⟨rfl, hb⟩; have FX := Lib.hid (FX.out.keep hb); clear hb)
    go_ret
    exact ⟨none, 0, 0, rfl, by rw [HE.out]; exact DueRow.nil _, FX.out.f.below⟩
  | true =>
  cases qe with
  | false =>
    have HE := Lib.hid (firstF_no (m := m) (F := coreL K) (S := S) (D := ⟨D, M, nx, bz⟩) (L := coreCl L) (n := n) (.inr hqe))
    clear h hm hsm hs hd ht hc hn hq hqe
    go_enter Tryz.func14, Tryz.ntmps14
    go_wp2_with (first
      | (go_at_call 28; (with_reducible refine (CR.out _ FX.out.f.row (HSR.out _ FX.out.f.below) FX.out.d.d FX.out.d.t).mono ?_); rintro e w1 ⟨rfl, hb⟩; have FX := Lib.hid (FX.out.keep hb); clear hb z0 z1 d0 d1 d2 d3; have z0 := FX.out.f.c0; have z1 := FX.out.f.c1)
      | (go_at_call 29; (with_reducible refine (CE.out _ FX.out.f.row).mono ?_); rintro e w2 ⟨rfl, hb⟩; have FX := Lib.hid (FX.out.keep hb); clear hb))
    go_ret
    exact ⟨none, 0, 0, rfl, by rw [HE.out]; exact DueRow.nil _, FX.out.f.below⟩
  | true =>
  obtain ⟨t, c, hyn, hct, hck⟩ := elemB_at hqe
  subst hyn
  have hlen2 : S.length = (coreL K).length := by
    unfold rightW at hq
    simp only [Bool.and_eq_true, decide_eq_true_eq] at hq
    exact hq.1.1
  have htl : t < len := by have := (List.getElem?_eq_some_iff.1 hct).1; rw [coreL_len, h.hlen] at this; exact this
  have hts : t < sl := by have := (List.getElem?_eq_some_iff.1 hct).1; rw [← hlen2, hs.hlen] at this; exact this
  obtain ⟨s, hss⟩ : ∃ s, S[t]? = some s := ⟨_, List.getElem?_eq_getElem (by rw [hs.hlen]; exact hts)⟩
  have HFE := Lib.hid (firstF_at (L := coreCl L) hq hct hck hss)
  obtain ⟨cz, hcz⟩ : ∃ z, classZ s D (coreCl L) = z := ⟨_, rfl⟩
  have HCZ := Lib.hid hcz
  obtain ⟨con, hcon⟩ : ∃ z, connZ m (coreL K) (t : Int) = z := ⟨_, rfl⟩
  have CN : Hid (∀ X, NodeRow X a len cap K → Calls Tryz.prog 6 #[forV a len cap m, .int .i64 (t : Int)] X fun e w' => e = .returned (.bool con) ∧ Below X.heap.size X w') := Lib.hid (fun X hx => by
    have := connFn_any a len cap m K t X hx hm hn hsm
    rw [hcon] at this
    exact this)
  have HSM : Hid (c.attrs.length ≤ 1000) := Lib.hid (by
    obtain ⟨x, hx⟩ : ∃ x, K[t]? = some x := ⟨_, List.getElem?_eq_getElem (by rw [h.hlen]; exact htl)⟩
    have h9 := coreL_get hx
    rw [hct] at h9
    rw [Option.some.inj h9]
    exact (hsm.2 x (List.mem_of_getElem? hx)).2.1)
  have HSS := Lib.hid hss
  have HCT := Lib.hid hct
  have HCON := Lib.hid hcon
  obtain ⟨i0, hi0, hz0, hz1, hz2⟩ := info_parts due_info
  clear h hm hsm hs hd ht hc hn hq hqe hct hck hss hcz hcon hlen2
  go_enter Tryz.func14, Tryz.ntmps14
  go_upto_region 3 with (first
      | (go_at_call 28; (with_reducible refine (CR.out _ FX.out.f.row (HSR.out _ FX.out.f.below) FX.out.d.d FX.out.d.t).mono ?_); rintro e w1 ⟨rfl, hb⟩; have FX := Lib.hid (FX.out.keep hb); clear hb z0 z1 d0 d1 d2 d3; have z0 := FX.out.f.c0; have z1 := FX.out.f.c1)
      | (go_at_call 29; (with_reducible refine (CE.out _ FX.out.f.row).mono ?_); rintro e V ⟨rfl, hb⟩; have FX := Lib.hid (FX.out.keep hb); clear hb z0 z1))
  clear CR CE
  obtain ⟨sb, so, s', rfl, hsb, hss', hsa, -⟩ := (HSR.out V FX.out.f.below).sta hts
  obtain rfl : s = s' := Option.some.inj (HSS.out.symm.trans hss')
  have CA : Hid (∀ X, Below V.heap.size V X → Calls Tryz.prog 32 #[stateV s, deskV da dl dc wa wl wc_ nx bz, .slice ca cl cc] X (ClassPost X L cz)) := Lib.hid (fun X hb => by
    have := class_any s da dl dc wa wl wc_ nx bz ca cl cc D L X ((FX.out.keep hb).d.d) (HCR.out X (FX.out.keep hb).f.below)
    rw [HCZ.out] at this
    exact this)
  have HLT : Hid (sb < V.heap.size ∧ w.heap.size + 1 < V.heap.size) := Lib.hid ⟨hsb, FX.out.lt.2⟩
  have HOFF : Hid (∀ x ∈ L, ∀ q, V.heap.size ≤ q → ClassOff q x) := Lib.hid (fun x hx => ((HCR.out V FX.out.f.below).each x hx).off)
  have d0 := FX.out.d.c0
  have d1 := FX.out.d.c1
  have d2 := FX.out.d.c2
  have d3 := FX.out.d.c3
  obtain ⟨s0, s1, s2, s3⟩ := hsa
  have SV : V.cell? ⟨sb, so + t * 4, none⟩ = some (.int .i64 s.phase) ∧ V.cell? ⟨sb, so + t * 4 + 1, none⟩ = some (.int .i64 s.dfn) ∧ V.cell? ⟨sb, so + t * 4 + 2, none⟩ = some (.int .i64 s.owner) ∧ V.cell? ⟨sb, so + t * 4 + 3, none⟩ = some (.bool s.barred) ∧ V.cell? ⟨w.heap.size + 1, 0, none⟩ = some (.slice da dl dc) ∧ V.cell? ⟨w.heap.size + 1, 1, none⟩ = some (.slice wa wl wc_) ∧ V.cell? ⟨w.heap.size + 1, 2, none⟩ = some (.int .i64 nx) ∧ V.cell? ⟨w.heap.size + 1, 3, none⟩ = some (.bool bz) ∧ Below V.heap.size V V := ⟨s0, s1, s2, s3, d0, d1, d2, d3, Below.refl _ _⟩
  clear hsb hss' HSS s0 s1 s2 s3 d0 d1 d2 d3
  go_cut [11, 12] (fun p c wx => True ∧ ∃ (g : Nat) (y : ClassD) (ok : Bool), p = .pointer (some ⟨g, 0, none⟩) ∧ c = .bool ok ∧ Hid (CBox wx g (encClD y) ∧ ClassAt wx y ∧ Below V.heap.size V wx) ∧ Hid ((ok = false ∧ cz = none ∧ y = clsNone) ∨ (ok = true ∧ cz = some y.core)))
  case first =>
    go_region_held3 (fun w' => w'.cell? ⟨sb, so + t * 4, none⟩ = some (.int .i64 s.phase) ∧ w'.cell? ⟨sb, so + t * 4 + 1, none⟩ = some (.int .i64 s.dfn) ∧ w'.cell? ⟨sb, so + t * 4 + 2, none⟩ = some (.int .i64 s.owner) ∧ w'.cell? ⟨sb, so + t * 4 + 3, none⟩ = some (.bool s.barred) ∧ w'.cell? ⟨w.heap.size + 1, 0, none⟩ = some (.slice da dl dc) ∧ w'.cell? ⟨w.heap.size + 1, 1, none⟩ = some (.slice wa wl wc_) ∧ w'.cell? ⟨w.heap.size + 1, 2, none⟩ = some (.int .i64 nx) ∧ w'.cell? ⟨w.heap.size + 1, 3, none⟩ = some (.bool bz) ∧ Below V.heap.size V w')
      (with_reducible first | (refine keep8 ⟨HLT.out.1, HLT.out.1, HLT.out.1, HLT.out.1, HLT.out.2, HLT.out.2, HLT.out.2, HLT.out.2⟩ SV ?_; first | exact HW6.out | exact below5 HW6.out (Nat.le_refl _) _ _ _ _ _ | exact HW6.out.trans ((box_below _ _).mono HW6.out.size) | exact box_below _ _ | exact (Below.refl _ _).drew | exact (box_below _ _).drew | exact HW6.out.trans ((box_below _ _).drew.mono HW6.out.size)) | assumption)
      (first
        | (go_at_call 32; (with_reducible refine (CA.out _ (kept8 ‹_ ∧ _ ∧ _ ∧ _ ∧ _ ∧ _ ∧ _ ∧ _ ∧ Below _ _ _›)).mono ?_); rintro e w6 ⟨y, ok, rfl, hya, hb, hoff, hr⟩; have HR6 := Lib.hid hr; have HYA := Lib.hid hya; have HYO := Lib.hid hoff; clear hr hya hoff; have HW6 : Hid (Below V.heap.size V w6) := Lib.hid ((kept8 ‹_ ∧ _ ∧ _ ∧ _ ∧ _ ∧ _ ∧ _ ∧ _ ∧ Below _ _ _›).trans (hb.mono (kept8 ‹_ ∧ _ ∧ _ ∧ _ ∧ _ ∧ _ ∧ _ ∧ _ ∧ Below _ _ _›).size)); (with_reducible first | (have hbk := ahead_drew (W0 := V) (cs := zeroCl) hb) | (have hbk := ahead_plain (W0 := V) (cs := zeroCl) hb)); have HA6 := Lib.hid hbk.1; clear hbk; have r0 := HA6.out.c 0 _ rfl; have r1 := HA6.out.c 1 _ rfl; have r2 := HA6.out.c 2 _ rfl; have r3 := HA6.out.c 3 _ rfl; have r4 := HA6.out.c 4 _ rfl; have f0 := HA6.out.f 0; have f1 := HA6.out.f 1; have f2 := HA6.out.f 2; have f3 := HA6.out.f 3; have f4 := HA6.out.f 4)
        | (go_at_call 32; (with_reducible refine (CA.out _ (kept8 ‹_ ∧ _ ∧ _ ∧ _ ∧ _ ∧ _ ∧ _ ∧ _ ∧ Below _ _ _›)).mono ?_); rintro e w6 ⟨y, ok, rfl, hya, hb, hoff, hr⟩; have HR6 := Lib.hid hr; have HYA := Lib.hid hya; have HYO := Lib.hid hoff; clear hr hya hoff; have HW6 : Hid (Below V.heap.size V w6) := Lib.hid ((kept8 ‹_ ∧ _ ∧ _ ∧ _ ∧ _ ∧ _ ∧ _ ∧ _ ∧ Below _ _ _›).trans (hb.mono (kept8 ‹_ ∧ _ ∧ _ ∧ _ ∧ _ ∧ _ ∧ _ ∧ _ ∧ Below _ _ _›).size))))
    all_goals
      go_wp2_with fail
      go_meet
      first
        | exact ⟨trivial, _, y, ok, rfl, rfl, Lib.hid ⟨box5 HA6.out rfl y, HYA.out.put5 (HYO.out _ (fun x hx => HOFF.out x hx _ (Nat.le_refl _))) _ _ _ _ _, below5 HW6.out (Nat.le_refl _) _ _ _ _ _⟩, HR6⟩
        | exact ⟨trivial, _, y, ok, rfl, rfl, Lib.hid ⟨CBox.new w6 (encClD y).toArray _, HYA.out.below (box_below _ _), HW6.out.trans ((box_below _ _).mono HW6.out.size)⟩, HR6⟩
  case rest =>
    obtain ⟨-, g, y, ok, rfl, rfl, HG, HR⟩ := hcut
    have FX := Lib.hid (FX.out.keep HG.out.2.2)
    have HYA := Lib.hid HG.out.2.1
    have BY := Lib.hid HG.out.1
    clear SV HG CA HLT HOFF
    cases ok with
    | false =>
      have HE : Hid (firstF m (coreL K) S ⟨D, M, nx, bz⟩ (coreCl L) (t : Int) = []) := Lib.hid (by
        rcases HR.out with ⟨-, e, -⟩ | ⟨e, -⟩
        · rw [HFE.out, HCZ.out, e]; rfl
        · cases e)
      go_wp2_with fail
      go_ret
      exact ⟨none, 0, 0, rfl, by rw [HE.out]; exact DueRow.nil _, FX.out.f.below⟩
    | true =>
      have HE : Hid (firstF m (coreL K) S ⟨D, M, nx, bz⟩ (coreCl L) (t : Int) = firstW y.core (t : Int) c.attrs con) := Lib.hid (by
        rcases HR.out with ⟨e, -⟩ | ⟨-, e⟩
        · cases e
        · rw [HFE.out, HCZ.out, e, HCON.out]; rfl)
      clear HR HFE HCZ
      obtain ⟨b, off, x, rfl, hb, hx, hxa, hxo⟩ := FX.out.f.row.get htl
      have hxc : x.core = c := Option.some.inj ((coreL_get hx).symm.trans HCT.out)
      have HAR : Hid (AttrRow wc x.aA x.aN x.aC c.attrs) := Lib.hid (by rw [← hxc]; exact hxo.attrs)
      have HXL : Hid (b < wc.heap.size) := Lib.hid hb
      have HX4 : Hid (wc.cell? ⟨b, off + t * 10 + 4, none⟩ = some (.slice x.aA x.aN x.aC)) := Lib.hid hxa.c4
      clear hx hxa hxo hb hxc
      obtain ⟨xc, aA, aN, aC, kA, kN, kC⟩ := x
      dsimp only at HAR HX4
      have z0 := FX.out.f.c0
      have x4 := HX4.out
      have ha64 := HAR.out.row.len64
      have hacap := HAR.out.row.hcap
      have hamax := HAR.out.row.hmax
      have hacap64 : aC ≤ 9223372036854775807 := by unfold maxLen at hamax; omega
      have hal : aN ≤ 1000 := by have h1 := HAR.out.row.hlen; have h2 := HSM.out; omega
      clear hamax
      obtain ⟨A, hA⟩ : ∃ A, c.attrs = A := ⟨_, rfl⟩
      rw [hA] at HAR HE
      clear hA HSM HCT
      go_wp2_with fail
      go_loopw [13, 46] (fun v i wr => ∃ k : Nat, k ≤ aN ∧ i = .int .i64 k ∧ Hid (Below wc.heap.size wc wr) ∧ Hid (wr.ownsRow wc.heap.size 59 11 v (firA y.core (t : Int) A k).length ((firA y.core (t : Int) A k).flatMap encU))) (fun _ i _ => aN - (intOf i).toNat)
      case atStart => exact ⟨0, Nat.zero_le _, rfl, Lib.hid (Below.refl _ _), Lib.hid (World.ownsRow_nil _ _ _ _)⟩
      case round =>
        obtain ⟨k, hkl, rfl, HBW, OW⟩ := hrel
        have BYR := Lib.hid (BY.out.keep HBW.out)
        clear z0 x4
        by_cases hlt : k < aN
        · obtain ⟨ab, ao, an, av, rfl, hab, hag, a0, a1, hn1, hn2⟩ := (HAR.out.below HBW.out).get hlt
          have HAG := Lib.hid hag
          have hsl : (firA y.core (t : Int) A k).length ≤ 1000 := Nat.le_trans firA_len (by omega)
          obtain ⟨n1, hn1⟩ : ∃ n1, (firA y.core (t : Int) A k).length = n1 := ⟨_, rfl⟩
          have HN1 := Lib.hid hn1
          rw [hn1] at OW hsl
          have HSZ := Lib.hid hn2
          clear hag hn1 hab hn2
          go_upto_region 10 with fail
          obtain ⟨V0, hV0, C0, HSV, HBV⟩ := boxes1 wr #[.string an, .string av] 99
          rw [hV0]
          have C0 : Hid (CBox V0 wr.heap.size [.string an, .string av]) := Lib.hid C0
          have HBV := Lib.hid HBV
          obtain ⟨G, hG⟩ : ∃ G, wr.heap.size = G := ⟨_, rfl⟩
          rw [hG] at C0 ⊢
          clear hV0 HSV hG a0 a1
          have BYV := Lib.hid (BYR.out.keep HBV.out)
          have HYV := Lib.hid ((HYA.out.below HBW.out).below HBV.out)
          have k0 := BYV.out.c 0 _ rfl
          have k1 := BYV.out.c 1 _ rfl
          have k2 := BYV.out.c 2 _ rfl
          have k3 := BYV.out.c 3 _ rfl
          have k4 := BYV.out.c 4 _ rfl
          have a0 := C0.out.c 0 _ rfl
          have a1 := C0.out.c 1 _ rfl
          obtain ⟨q, hq⟩ : ∃ q, watchesC y.core an = q := ⟨_, rfl⟩
          have CW : Hid (Calls Tryz.prog 16 #[y.val, .string an] V0 fun e w' => e = .returned (.bool q) ∧ Below V0.heap.size V0 w') := Lib.hid (by
            have := watches_any y an V0 HYV.out
            rw [hq] at this
            exact this)
          have HQ := Lib.hid hq
          clear hq
          cases q with
          | false =>
            have HS2 := Lib.hid (firA_miss (n := (t : Int)) HAG.out HQ.out)
            go_wp2_with (go_at_call 16; (with_reducible refine CW.out.mono ?_); rintro e w2 ⟨rfl, hb⟩; have HBE := Lib.hid ((HBW.out.trans (HBV.out.mono HBW.out.size)).trans (hb.mono (Nat.le_trans HBW.out.size HBV.out.size))); have OWE := Lib.hid (own_below (own_below OW.out HBV.out) hb); clear hb)
            go_roundw
            case rel => exact ⟨k + 1, by omega, by go_num, HBE, Lib.hid (by rw [HS2.out, HN1.out]; exact OWE.out)⟩
            case measure => simp [intOf]; omega
          | true =>
            have HS2 := Lib.hid (firA_hit (n := (t : Int)) HAG.out HQ.out)
            go_upto_region 11 with (go_at_call 16; (with_reducible refine CW.out.mono ?_); rintro e w2 ⟨rfl, hb⟩; have HBE := Lib.hid ((HBW.out.trans (HBV.out.mono HBW.out.size)).trans (hb.mono (Nat.le_trans HBW.out.size HBV.out.size))); have OWE := Lib.hid (own_below (own_below OW.out HBV.out) hb); have C2 := Lib.hid (C0.out.keep hb); clear hb k0 k1 k2 k3 k4 a0 a1)
            have a0 := C2.out.c 0 _ rfl
            have a1 := C2.out.c 1 _ rfl
            have hbs := HBE.out.size
            go_wp2_with (at_builtin
                         refine wpList_append_rows rfl (.tmp 54) (.tmp 62) 42 rfl 59 i0 _ 11 104 Tryz.underlying42 hi0 hz0 hz1 hz2 rfl (by decide) wc.heap.size _ n1 (firA y.core (t : Int) A k) [⟨(t : Int), attrT (an, av)⟩] rfl (OWE.out.alloc _) _ 1 1 rfl (due_one12 w2 (t : Int) (attrT (an, av))) (fun x _ => encU_one x) (by unfold maxLen; omega) (by omega) (by simp; omega) (fun h => by cases h) ?_
                         intro v3 w3 hown3 hg3 hat3
                         have HB3 : Hid (Below wc.heap.size wc w3) := Lib.hid (below_own HBE.out OWE.out hg3)
                         have HO3 := Lib.hid hown3
                         clear hown3 hg3 hat3)
            go_roundw
            case rel => exact ⟨k + 1, by omega, by go_num, HB3, Lib.hid (by
              have h1 := HO3.out
              rw [HS2.out, List.length_append, HN1.out]
              exact h1)⟩
            case measure => simp [intOf]; omega
        · have hkd : k = aN := by omega
          subst hkd
          have FR := Lib.hid (FX.out.keep HBW.out)
          have HYR := Lib.hid (HYA.out.below HBW.out)
          have HFA := Lib.hid (firA_end (c := y.core) (n := (t : Int)) HAR.out.row.hlen)
          have HE2 : Hid (firstF m (coreL K) S ⟨D, M, nx, bz⟩ (coreCl L) (t : Int) = firA y.core (t : Int) A k ++ (if hearsC y.core 1 && con then [⟨(t : Int), cameT⟩] else [])) := Lib.hid (by rw [HE.out, HFA.out]; rfl)
          have hsl : (firA y.core (t : Int) A k).length ≤ 1000 := Nat.le_trans firA_len (by omega)
          obtain ⟨n1, hn1⟩ : ∃ n1, (firA y.core (t : Int) A k).length = n1 := ⟨_, rfl⟩
          have HN1 := Lib.hid hn1
          rw [hn1] at OW hsl
          obtain ⟨qh, hqh⟩ : ∃ q, hearsC y.core 1 = q := ⟨_, rfl⟩
          have CH : Hid (Calls Tryz.prog 12 #[y.val, .int .i64 1] wr fun e w' => e = .returned (.bool qh) ∧ Below wr.heap.size wr w') := Lib.hid (by
            have := hears_any y 1 wr HYR.out
            rw [hqh] at this
            exact this)
          rw [hqh] at HE2
          clear hqh hn1
          have k0 := BYR.out.c 0 _ rfl
          have k1 := BYR.out.c 1 _ rfl
          have k2 := BYR.out.c 2 _ rfl
          have k3 := BYR.out.c 3 _ rfl
          have k4 := BYR.out.c 4 _ rfl
          have z0 := FR.out.f.c0
          have z1 := FR.out.f.c1
          have FIN : Hid (∀ W v n2 l, Below wc.heap.size wc W → l.length = n2 → W.ownsRow wc.heap.size 59 11 v n2 (l.flatMap encU) → firstF m (coreL K) S ⟨D, M, nx, bz⟩ (coreCl L) (t : Int) = l → DuePost w (firstF m (coreL K) S ⟨D, M, nx, bz⟩ (coreCl L) (t : Int)) (.returned v) W) := Lib.hid (fun W v n2 l hb hl ho e => by
            obtain ⟨a5, c5, rfl, hI⟩ := DueRow.of_own hl ho
            exact ⟨a5, _, c5, rfl, by rw [e]; exact hI, FX.out.f.below.trans (hb.mono FX.out.f.below.size)⟩)
          cases qh with
          | false =>
            go_wp2_with (go_at_call 12; (with_reducible refine CH.out.mono ?_); rintro e w2 ⟨rfl, hb⟩; have HBE := Lib.hid (HBW.out.trans (hb.mono HBW.out.size)); have OWE := Lib.hid (own_below OW.out hb); clear hb)
            go_ret
            exact FIN.out _ _ _ _ HBE.out HN1.out OWE.out (by rw [HE2.out]; simp)
          | true =>
            cases con with
            | false =>
              go_wp2_with (first
                | (go_at_call 12; (with_reducible refine CH.out.mono ?_); rintro e w2 ⟨rfl, hb⟩; have HBE := Lib.hid (HBW.out.trans (hb.mono HBW.out.size)); have OWE := Lib.hid (own_below OW.out hb); have FR := Lib.hid (FR.out.keep hb); clear hb k0 k1 k2 k3 k4 z0 z1; have z0 := FR.out.f.c0; have z1 := FR.out.f.c1)
                | (go_at_call 6; (with_reducible refine (CN.out _ FR.out.f.row).mono ?_); rintro e w3 ⟨rfl, hb⟩; have HBF := Lib.hid (HBE.out.trans (hb.mono HBE.out.size)); have OWF := Lib.hid (own_below OWE.out hb); clear hb))
              go_ret
              exact FIN.out _ _ _ _ HBF.out HN1.out OWF.out (by rw [HE2.out]; simp)
            | true =>
              go_upto_region 14 with (first
                | (go_at_call 12; (with_reducible refine CH.out.mono ?_); rintro e w2 ⟨rfl, hb⟩; have HBE := Lib.hid (HBW.out.trans (hb.mono HBW.out.size)); have OWE := Lib.hid (own_below OW.out hb); have FR := Lib.hid (FR.out.keep hb); clear hb k0 k1 k2 k3 k4 z0 z1; have z0 := FR.out.f.c0; have z1 := FR.out.f.c1)
                | (go_at_call 6; (with_reducible refine (CN.out _ FR.out.f.row).mono ?_); rintro e w3 ⟨rfl, hb⟩; have HBF := Lib.hid (HBE.out.trans (hb.mono HBE.out.size)); have OWF := Lib.hid (own_below OWE.out hb); clear hb z0 z1))
              have hbs := HBF.out.size
              go_wp2_with (at_builtin
                           refine wpList_append_rows rfl (.tmp 72) (.tmp 76) 42 rfl 59 i0 _ 11 104 Tryz.underlying42 hi0 hz0 hz1 hz2 rfl (by decide) wc.heap.size _ n1 (firA y.core (t : Int) A k) [⟨(t : Int), cameT⟩] rfl (OWF.out.alloc _) _ 1 1 rfl (due_one12 w3 (t : Int) cameT) (fun x _ => encU_one x) (by unfold maxLen; omega) (by omega) (by simp; omega) (fun h => by cases h) ?_
                           intro v4 w4 hown4 hg4 hat4
                           have HB4 : Hid (Below wc.heap.size wc w4) := Lib.hid (below_own HBF.out OWF.out hg4)
                           have HO4 := Lib.hid hown4
                           clear hown4 hg4 hat4)
              go_ret
              exact FIN.out _ _ _ _ HB4.out (by rw [List.length_append, HN1.out]; rfl) HO4.out (by rw [HE2.out]; simp)
end Go.Proofs.YtkfmengdffpcnaaGreatDoor
