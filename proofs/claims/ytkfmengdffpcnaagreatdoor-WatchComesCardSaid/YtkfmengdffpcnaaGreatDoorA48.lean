/- Texts joined in build order: WatchComesLaw. -/
import Derived.Test.YtkfmengdffpcnaaGreatDoorA43
import Derived.Test.YtkfmengdffpcnaaGreatDoorA47
import Derived.Test.YtkfmengdffpcnaaGreatDoorA46
import Derived.Test.YtkfmengdffpcnaaGreatDoorA41
import Derived.Test.YtkfmengdffpcnaaGreatDoorA38
import Derived.Test.YtkfmengdffpcnaaGreatDoorA04
import Derived.Deep.DeepCutAuto
import Derived.Deep.CutBlock
import Derived.Deep.QuietTactic
import Derived.BigQuiet
namespace Go.Proofs.YtkfmengdffpcnaaGreatDoor
open Go.RowKit
theorem elems_kind {m : Int} {F : List Core} {n z : Int} (h : z ∈ elemsZ m F n) : ∃ (t : Nat) (c : Core), z = t ∧ F[t]? = some c ∧ c.kind = 1 := by
  obtain ⟨t, rfl, ht⟩ := elemsZ_in h
  have hc : F[t]? = some F[t] := List.getElem?_eq_getElem ht
  refine ⟨t, F[t], rfl, hc, ?_⟩
  unfold elemsZ at h
  have := (List.mem_filter.1 h).2
  rw [kindK_at hc] at this
  exact beq_iff_eq.1 this
theorem fate_at12 {m : Int} {F : List Core} {D : DeskD} {t : Nat} {c : Core} (hr : rightF m F = true) (hc : F[t]? = some c) : fateZ m F (t : Int) D = fateC D c := by
  unfold fateZ
  rw [thereF_of hr (List.getElem?_eq_some_iff.1 hc).1, if_pos rfl, getC_nat, hc]
theorem conn12 {m : Int} {F : List Core} (hr : rightF m F = true) {t : Nat} (ht : t < F.length) : connZ m F (t : Int) = connF F t := by
  rw [connZ_eq' hr ht, topZ_eq hr ht]
  rfl
theorem keptWC {a0 a1 a2 a3 a4 a5 a6 a7 : Prop} {V W : World} (h : a0 ∧ a1 ∧ a2 ∧ a3 ∧ a4 ∧ a5 ∧ a6 ∧ a7 ∧ Below V.heap.size V W) : Below V.heap.size V W := h.2.2.2.2.2.2.2.2
theorem keepWC {V X : World} {b0 b2 b6 o0 o1 o2 o3 o4 o5 o6 : Nat} {v0 v1 v2 v3 v4 v5 v6 : Option Value} {B : Prop} (l : b0 < V.heap.size ∧ b2 < V.heap.size ∧ b6 < V.heap.size)
    (h : V.cell? ⟨b0, o0, none⟩ = v0 ∧ V.cell? ⟨b0, o1, none⟩ = v1 ∧ V.cell? ⟨b2, o2, none⟩ = v2 ∧ V.cell? ⟨b2, o3, none⟩ = v3 ∧ V.cell? ⟨b2, o4, none⟩ = v4 ∧ V.cell? ⟨b2, o5, none⟩ = v5 ∧ V.cell? ⟨b6, o6, none⟩ = v6) (hB : B) (hb : Below V.heap.size V X) :
    X.cell? ⟨b0, o0, none⟩ = v0 ∧ X.cell? ⟨b0, o1, none⟩ = v1 ∧ X.cell? ⟨b2, o2, none⟩ = v2 ∧ X.cell? ⟨b2, o3, none⟩ = v3 ∧ X.cell? ⟨b2, o4, none⟩ = v4 ∧ X.cell? ⟨b2, o5, none⟩ = v5 ∧ X.cell? ⟨b6, o6, none⟩ = v6 ∧ B ∧ Below V.heap.size V X :=
  ⟨(hb.cell (p := ⟨b0, o0, none⟩) l.1).trans h.1, (hb.cell (p := ⟨b0, o1, none⟩) l.1).trans h.2.1, (hb.cell (p := ⟨b2, o2, none⟩) l.2.1).trans h.2.2.1, (hb.cell (p := ⟨b2, o3, none⟩) l.2.1).trans h.2.2.2.1, (hb.cell (p := ⟨b2, o4, none⟩) l.2.1).trans h.2.2.2.2.1, (hb.cell (p := ⟨b2, o5, none⟩) l.2.1).trans h.2.2.2.2.2.1, (hb.cell (p := ⟨b6, o6, none⟩) l.2.2).trans h.2.2.2.2.2.2, hB, hb⟩
abbrev cameA : TodoD := ⟨1, 0, ⟨#[]⟩, false, false, ⟨#[]⟩, ⟨#[]⟩, 0, 0, false⟩
theorem comes_of {m : Int} {F : List Core} (hr : rightF m F = true) {n p : Nat} {x y : Core} (hx : F[n]? = some x) (hy : F[p]? = some y) (hk : (x.kind == 3) = false) (hd : (x.doc != y.doc) = false) (hcn : connZ m F (n : Int) = false) (hcp : connZ m F (p : Int) = true) :
    (∃ e, insZ m F n p (-1) = (F, [], e) ∧ (e != 0) = true) ∨ ∃ H, insZ m F n p (-1) = (H, tellN H n (note 1), 0) ∧ rightF m H = true ∧ H.length = F.length := by
  have hn : n < F.length := (List.getElem?_eq_some_iff.1 hx).1
  have hp : p < F.length := (List.getElem?_eq_some_iff.1 hy).1
  by_cases hm : mayZ m F n p (-1) = 0
  · right
    rw [conn12 hr hn] at hcn
    rw [conn12 hr hp] at hcp
    obtain ⟨H, h1, h2, h3, _⟩ := come_is hr hn hp (by rw [kindK_at hx]; exact beq_eq_false_iff_ne.1 hk) (by
      unfold docK
      rw [getC_nat, getC_nat, hx, hy]
      have : x.doc = y.doc := by simpa using hd
      exact this) hcn hcp hm
    exact ⟨H, h1, h2, h3⟩
  · left
    refine ⟨_, ?_, bne_iff_ne.2 hm⟩
    unfold insZ
    rw [if_neg hm]
set_option maxHeartbeats 16000000 in
set_option maxRecDepth 100000 in
theorem watchComes_walk (a : Option Addr) (len cap : Nat) (m : Int) (K : List NodeD) (sa : Option Addr) (sl sc : Nat) (S : List StateD) (da : Option Addr) (dl dc : Nat) (wa : Option Addr) (wl wc_ : Nat) (nx : Int) (bz : Bool) (D : List DefD) (M : List WaitD) (ca : Option Addr) (cl cc : Nat) (C : List ClassD) (x y : Int) (w : World)
    (h0 : NodeRow w a len cap K) (hm : In64 m) (hs : StaRow w sa sl sc S) (hD : DeskAt w da dl dc wa wl wc_ ⟨D, M, nx, bz⟩) (hc : ClsRow w ca cl cc C) (hx : 0 ≤ x ∧ x ≤ 255) (hy : 0 ≤ y ∧ y ≤ 255) (hg : ErrVar w) :
    Calls Tryz.prog 3 #[forV a len cap m, .slice sa sl sc, deskV da dl dc wa wl wc_ nx bz, .slice ca cl cc, .int .u8 x, .int .u8 y] w fun e w' => e = .returned (.bool true) ∧ Below w.heap.size w w' := by
  have AWK := Lib.hid (fun W => awake12_any W)
  have FX := Lib.hid (FD.start (m := m) (nx := nx) (bz := bz) h0 hD.d hD.t)
  have HM := Lib.hid hm
  have HG := Lib.hid hg
  have HKL := Lib.hid h0.hlen
  have HSL := Lib.hid hs.hlen
  have hl64 := h0.len64
  have hsl64 := hs.len64
  have HSR : Hid (∀ V, Below w.heap.size w V → StaRow V sa sl sc S) := Lib.hid (fun V hb => hs.below hb)
  have HCR : Hid (∀ V, Below w.heap.size w V → ClsRow V ca cl cc C) := Lib.hid (fun V hb => hc.below hb)
  have LR : Hid (∀ V, Below w.heap.size w V → NodeRow V a len cap K → DefRow V da dl dc D → WaitRow V wa wl wc_ M → Calls Tryz.prog 5 #[forV a len cap m, .slice sa sl sc, deskV da dl dc wa wl wc_ nx bz, .slice ca cl cc] V fun e w' => ∃ r, e = .returned (.bool r) ∧ Below V.heap.size V w' ∧ (r = true → RightP m K S D M nx bz C)) := Lib.hid (fun V hb h1 h2 h3 => lawright12_any a len cap m K sa sl sc S da dl dc wa wl wc_ nx bz D M ca cl cc C V h1 HM.out (HSR.out V hb) h2 h3 (HCR.out V hb))
  (have z0 := FX.out.f.c0; have z1 := FX.out.f.c1; have d0 := FX.out.d.c0; have d1 := FX.out.d.c1; have d2 := FX.out.d.c2; have d3 := FX.out.d.c3)
  clear h0 hm hs hD hc hg
  go_enter Tryz.func3, Tryz.ntmps3
  go_upto_region 5 with (first
    | (go_at_call 4; (with_reducible refine (AWK.out _).mono ?_); rintro e w5 ⟨rfl, hb⟩; ((clear z0 z1 d0 d1 d2 d3); have FX := Lib.hid (FX.out.keep hb); (have z0 := FX.out.f.c0; have z1 := FX.out.f.c1; have d0 := FX.out.d.c0; have d1 := FX.out.d.c1; have d2 := FX.out.d.c2; have d3 := FX.out.d.c3); clear hb))
    | (go_at_call 5; (with_reducible refine (LR.out _ FX.out.f.below FX.out.f.row FX.out.d.d FX.out.d.t).mono ?_); rintro e w6 ⟨r, rfl, hb, hr⟩; have HR := Lib.hid hr; clear hr; ((clear z0 z1 d0 d1 d2 d3); have FX := Lib.hid (FX.out.keep hb); (have z0 := FX.out.f.c0; have z1 := FX.out.f.c1; have d0 := FX.out.d.c0; have d1 := FX.out.d.c1; have d2 := FX.out.d.c2; have d3 := FX.out.d.c3); clear hb)))
  · go_ret
    exact ⟨rfl, FX.out.f.below⟩
  have RP := Lib.hid (HR.out (by simpa using ‹(!r) = false›))
  obtain rfl : r = true := by simpa using ‹(!r) = false›
  clear HR LR AWK
  have hlp : 0 < len := by
    have := right_len RP.out.rf
    rwa [coreL_len, HKL.out] at this
  obtain ⟨t, hxt, htl⟩ : ∃ t : Nat, x % (len : Int) = (t : Int) ∧ t < len := by
    have h1 := Int.emod_nonneg x (show (len : Int) ≠ 0 by omega)
    have h2 := Int.emod_lt_of_pos x (show (0 : Int) < len by omega)
    exact ⟨(x % (len : Int)).toNat, by omega, by omega⟩
  obtain ⟨p, hyp, hpl⟩ : ∃ t : Nat, y % (len : Int) = (t : Int) ∧ t < len := by
    have h1 := Int.emod_nonneg y (show (len : Int) ≠ 0 by omega)
    have h2 := Int.emod_lt_of_pos y (show (0 : Int) < len by omega)
    exact ⟨(y % (len : Int)).toNat, by omega, by omega⟩
  have hx0 := hx.1
  have hx1 := hx.2
  have hy0 := hy.1
  have hy1 := hy.2
  have hlz : ¬ (len : Int) = 0 := by omega
  have hlb : ((len : Int) == 0) = false := beq_eq_false_iff_ne.2 hlz
  have hlz2 : ¬ len = 0 := by omega
  have hlb2 : (len == 0) = false := beq_eq_false_iff_ne.2 hlz2
  have e0 := Ext.cell z0 FX.out.f.lt
  have e1 := Ext.cell z1 FX.out.f.lt
  (clear z0 z1 d0 d1 d2 d3)
  refine wp_region_ext (by kernel_rfl) (by kernel_rfl) ?_
  repeat (go_big_quiet_step (fail))
  refine wpQuiet_nil ?_
  intro w' hw'
  obtain ⟨⟨w8, hb⟩, hw''⟩ := hw'
  dsimp only at hw''
  subst hw''
  have FX := Lib.hid (FX.out.keep hb)
  rw [hxt, hyp]
  clear hxt hyp e0 e1 hb hlz hlb hlz2 hlb2 hx0 hx1 hx hy0 hy1 hy
  obtain ⟨V, rfl⟩ : ∃ V, V = w' := ⟨_, rfl⟩
  (have z0 := FX.out.f.c0; have z1 := FX.out.f.c1; have d0 := FX.out.d.c0; have d1 := FX.out.d.c1; have d2 := FX.out.d.c2; have d3 := FX.out.d.c3)
  obtain ⟨b, off, xn, rfl, hbn, hxn, hxa, hxo⟩ := FX.out.f.row.get htl
  obtain ⟨b1, off1, yn, hab, hbn1, hyn, hya, -⟩ := FX.out.f.row.get hpl
  injection hab with hab
  injection hab with hab1 hab2
  subst hab1
  subst hab2
  have HXC := Lib.hid (coreL_get hxn)
  have HYC := Lib.hid (coreL_get hyn)
  have hl0 : Hid ((coreL K).length = len) := Lib.hid (by rw [coreL_len, HKL.out])
  have t64 : In64 (t : Int) := ⟨by omega, by omega⟩
  have p64 : In64 (p : Int) := ⟨by omega, by omega⟩
  have T64 := Lib.hid t64
  have P64 := Lib.hid p64
  obtain ⟨bk, hbk⟩ : ∃ q, (xn.core.kind == 3) = q := ⟨_, rfl⟩
  obtain ⟨bd, hbd⟩ : ∃ q, (xn.core.doc != yn.core.doc) = q := ⟨_, rfl⟩
  obtain ⟨cn, hcn⟩ : ∃ q, connZ m (coreL K) (t : Int) = q := ⟨_, rfl⟩
  obtain ⟨cp, hcp⟩ : ∃ q, connZ m (coreL K) (p : Int) = q := ⟨_, rfl⟩
  have HBK := Lib.hid hbk
  have HBD := Lib.hid hbd
  have HCN := Lib.hid hcn
  have HCP := Lib.hid hcp
  have CN : Hid (∀ Y : Ext V, Calls Tryz.prog 6 #[forV (some ⟨b, off, none⟩) len cap m, .int .i64 t] Y.v fun e w' => e = .returned (.bool cn) ∧ Below Y.v.heap.size Y.v w') := Lib.hid (fun Y => by
    have := connFn_any _ len cap m K t Y.v (FX.out.keep Y.below).f.row HM.out T64.out RP.out.sf
    rwa [HCN.out] at this)
  have CP : Hid (∀ Y : Ext V, Calls Tryz.prog 6 #[forV (some ⟨b, off, none⟩) len cap m, .int .i64 p] Y.v fun e w' => e = .returned (.bool cp) ∧ Below Y.v.heap.size Y.v w') := Lib.hid (fun Y => by
    have := connFn_any _ len cap m K p Y.v (FX.out.keep Y.below).f.row HM.out P64.out RP.out.sf
    rwa [HCP.out] at this)
  have e0 := Ext.cell z0 FX.out.f.lt
  have e1 := Ext.cell z1 FX.out.f.lt
  have x0 := Ext.cell hxa.c0 hbn
  have x9 := Ext.cell hxa.c9 hbn
  have y9 := Ext.cell hya.c9 hbn1
  (clear z0 z1 d0 d1 d2 d3)
  clear hcn hcp hxa hya hxo hxn hyn hbn hbn1 t64 p64
  obtain ⟨q, hq⟩ : ∃ q, (bk || bd || cn || !cp) = q := ⟨_, rfl⟩
  go_upto_region 6 with fail
  go_cut [78] (fun v wx => True ∧ v = .bool q ∧ Hid (Below V.heap.size V wx))
  case first =>
    cases bk with
    | true =>
      obtain rfl : true = q := hq
      (
        refine wp_region_ext (by kernel_rfl) (by kernel_rfl) ?_
        repeat (go_big_quiet_step (first | (go_at_call 6; with_reducible exact Ext.call_below (CN.out _)) | (go_at_call 6; with_reducible exact Ext.call_below (CP.out _))))
        refine wpQuiet_nil ?_
        intro w' hw'
        obtain ⟨⟨w8, hb8⟩, hw''⟩ := hw'
        dsimp only at hw''
        subst hw''
        go_wp2
        go_meet
        exact ⟨trivial, rfl, Lib.hid hb8⟩)
    | false =>
      cases bd with
      | true =>
        obtain rfl : true = q := hq
        (
          refine wp_region_ext (by kernel_rfl) (by kernel_rfl) ?_
          repeat (go_big_quiet_step (first | (go_at_call 6; with_reducible exact Ext.call_below (CN.out _)) | (go_at_call 6; with_reducible exact Ext.call_below (CP.out _))))
          refine wpQuiet_nil ?_
          intro w' hw'
          obtain ⟨⟨w8, hb8⟩, hw''⟩ := hw'
          dsimp only at hw''
          subst hw''
          go_wp2
          go_meet
          exact ⟨trivial, rfl, Lib.hid hb8⟩)
      | false =>
        cases cn with
        | true =>
          obtain rfl : true = q := hq
          (
            refine wp_region_ext (by kernel_rfl) (by kernel_rfl) ?_
            repeat (go_big_quiet_step (first | (go_at_call 6; with_reducible exact Ext.call_below (CN.out _)) | (go_at_call 6; with_reducible exact Ext.call_below (CP.out _))))
            refine wpQuiet_nil ?_
            intro w' hw'
            obtain ⟨⟨w8, hb8⟩, hw''⟩ := hw'
            dsimp only at hw''
            subst hw''
            go_wp2
            go_meet
            exact ⟨trivial, rfl, Lib.hid hb8⟩)
        | false =>
          cases cp with
          | true =>
            obtain rfl : false = q := hq
            (
              refine wp_region_ext (by kernel_rfl) (by kernel_rfl) ?_
              repeat (go_big_quiet_step (first | (go_at_call 6; with_reducible exact Ext.call_below (CN.out _)) | (go_at_call 6; with_reducible exact Ext.call_below (CP.out _))))
              refine wpQuiet_nil ?_
              intro w' hw'
              obtain ⟨⟨w8, hb8⟩, hw''⟩ := hw'
              dsimp only at hw''
              subst hw''
              go_wp2
              go_meet
              exact ⟨trivial, rfl, Lib.hid hb8⟩)
          | false =>
            obtain rfl : true = q := hq
            (
              refine wp_region_ext (by kernel_rfl) (by kernel_rfl) ?_
              repeat (go_big_quiet_step (first | (go_at_call 6; with_reducible exact Ext.call_below (CN.out _)) | (go_at_call 6; with_reducible exact Ext.call_below (CP.out _))))
              refine wpQuiet_nil ?_
              intro w' hw'
              obtain ⟨⟨w8, hb8⟩, hw''⟩ := hw'
              dsimp only at hw''
              subst hw''
              go_wp2
              go_meet
              exact ⟨trivial, rfl, Lib.hid hb8⟩)
  case rest =>
  obtain ⟨-, rfl, HBW⟩ := hcut
  have FX := Lib.hid (FX.out.keep HBW.out)
  clear HBW CN CP e0 e1 x0 x9 y9 hbk hbd
  (have z0 := FX.out.f.c0; have z1 := FX.out.f.c1; have d0 := FX.out.d.c0; have d1 := FX.out.d.c1; have d2 := FX.out.d.c2; have d3 := FX.out.d.c3)
  cases q with
  | true =>
    go_wp2_with fail
    go_ret
    exact ⟨rfl, FX.out.f.below⟩
  | false =>
  obtain ⟨rfl, rfl, rfl, rfl⟩ : bk = false ∧ bd = false ∧ cn = false ∧ cp = true := by
    cases bk <;> cases bd <;> cases cn <;> cases cp <;> simp_all
  have HCO := Lib.hid (comes_of RP.out.rf HXC.out HYC.out HBK.out HBD.out HCN.out HCP.out)
  clear HBK HBD HCN HCP hq
  rcases HCO.out with ⟨e, hi, he⟩ | ⟨H, hi, hHr, hHl⟩
  · have CI : Hid (∀ W, NodeRow W (some ⟨b, off, none⟩) len cap K → ErrVar W → Calls Tryz.prog 7 #[forV (some ⟨b, off, none⟩) len cap m, .int .i64 t, .int .i64 p, .int .i64 (-1)] W (MvPost W m (coreL K, [], e))) := Lib.hid (fun W h1 h2 => by
      have := minsert_any _ len cap m K t p (-1) W h1 HM.out T64.out P64.out ⟨by decide, by decide⟩ RP.out.sf h2
      rwa [hi] at this)
    clear hi HCO
    go_upto_region 10 with (go_at_call 7; (with_reducible refine (CI.out _ FX.out.f.row (HG.out.keep FX.out.f.below)).mono ?_); rintro e3 v2 ⟨a3, len3, cap3, M3, va, vl, vc, rfl, hr3, hc3, hs3, hn3, hb3, -⟩; have FX := Lib.hid (FX.out.keep hb3); have BG := Lib.hid (MBox.new (m := m) FX.out.f.below hr3 hc3).box; have FX := Lib.hid (FX.out.keep (below_box v2 (forB a3 len3 cap3 m))); have HS3 := Lib.hid hs3; have HC3 := Lib.hid hc3; have NR := Lib.hid (hn3.below (below_box v2 (forB a3 len3 cap3 m))); (clear z0 z1 d0 d1 d2 d3); (have z0 := FX.out.f.c0; have z1 := FX.out.f.c1; have d0 := FX.out.d.c0; have d1 := FX.out.d.c1; have d2 := FX.out.d.c2; have d3 := FX.out.d.c3); have g0 := BG.out.c0; have g1 := BG.out.c1; clear hr3 hc3 hs3 hn3 hb3)
    obtain rfl : vl = 0 := NR.out.row.hlen.symm
    go_wp2_with fail
    go_ret
    exact ⟨rfl, FX.out.f.below⟩
  have CI : Hid (∀ W, NodeRow W (some ⟨b, off, none⟩) len cap K → ErrVar W → Calls Tryz.prog 7 #[forV (some ⟨b, off, none⟩) len cap m, .int .i64 t, .int .i64 p, .int .i64 (-1)] W (MvPost W m (H, tellN H t (note 1), 0))) := Lib.hid (fun W h1 h2 => by
    have := minsert_any _ len cap m K t p (-1) W h1 HM.out T64.out P64.out ⟨by decide, by decide⟩ RP.out.sf h2
    rwa [hi] at this)
  have HHR := Lib.hid hHr
  have HHL : Hid (H.length = len) := Lib.hid (hHl.trans hl0.out)
  clear hi HCO hHr hHl
  go_upto_region 11 with (go_at_call 7; (with_reducible refine (CI.out _ FX.out.f.row (HG.out.keep FX.out.f.below)).mono ?_); rintro e3 v2 ⟨a3, len3, cap3, M3, va, vl, vc, rfl, hr3, hc3, hs3, hn3, hb3, -⟩; have FX := Lib.hid (FX.out.keep hb3); have BG := Lib.hid (MBox.new (m := m) FX.out.f.below hr3 hc3).box; have FX := Lib.hid (FX.out.keep (below_box v2 (forB a3 len3 cap3 m))); have HS3 := Lib.hid hs3; have HC3 := Lib.hid hc3; have NR := Lib.hid (hn3.below (below_box v2 (forB a3 len3 cap3 m))); (clear z0 z1 d0 d1 d2 d3); (have z0 := FX.out.f.c0; have z1 := FX.out.f.c1; have d0 := FX.out.d.c0; have d1 := FX.out.d.c1; have d2 := FX.out.d.c2; have d3 := FX.out.d.c3); have g0 := BG.out.c0; have g1 := BG.out.c1; clear hr3 hc3 hs3 hn3 hb3)
  have RG : Hid (RightP m M3 S D M nx bz C) := Lib.hid ⟨HS3.out, RP.out.sc, by
    rw [RP.out.le, HKL.out]
    have h1 := congrArg List.length HC3.out
    rw [coreL_len, HHL.out] at h1
    exact h1.symm, by rw [HC3.out]; exact HHR.out, RP.out.rk⟩
  have htH : Hid (t < H.length) := Lib.hid (by rw [HHL.out]; exact htl)
  have hvl : Hid (vl ≤ 1000) := Lib.hid (by
    have h1 := tellN_len HHR.out htH.out (note 1)
    have h2 : (tellN H t (note 1)).length = vl := NR.out.row.hlen
    omega)
  obtain ⟨E, hE⟩ : ∃ E, elemsZ m H (t : Int) = E := ⟨_, rfl⟩
  have HE := Lib.hid hE
  have HEI : Hid (∀ z ∈ E, ∃ (j : Nat) (c : Core), z = j ∧ H[j]? = some c ∧ c.kind = 1) := Lib.hid (fun z hz => by
    rw [← hE] at hz
    exact elems_kind hz)
  have HE1 : Hid (E.length ≤ 1000) := Lib.hid (by
    rw [← hE]
    exact Nat.le_trans (elemsZ_len _ _ _) (by rw [HHL.out, ← HKL.out]; exact RP.out.sf.1))
  obtain ⟨T, hT⟩ : ∃ T, comeL H S ⟨D, M, nx, bz⟩ (coreCl C) E E.length = T := ⟨_, rfl⟩
  have HT := Lib.hid hT
  have CD : Hid (∀ W, Below w.heap.size w W → NodeRow W a3 len3 cap3 M3 → DefRow W da dl dc D → WaitRow W wa wl wc_ M → NoteRow W va vl vc (tellN H t (note 1)) → Calls Tryz.prog 8 #[forV a3 len3 cap3 m, .slice sa sl sc, deskV da dl dc wa wl wc_ nx bz, .slice ca cl cc, .slice va vl vc] W (DuePost W T)) := Lib.hid (fun W hb h1 h2 h3 h4 => by
    have := due_any a3 len3 cap3 m M3 sa sl sc S da dl dc wa wl wc_ nx bz D M ca cl cc C va vl vc (tellN H t (note 1)) W h1 HM.out HS3.out (HSR.out W hb) h2 h3 (HCR.out W hb) h4 hvl.out
    have hw := RG.out.w
    rw [HC3.out] at this hw
    rw [comes_dues hw htH.out, HE.out, HT.out] at this
    exact this)
  have CE : Hid (∀ W, NodeRow W a3 len3 cap3 M3 → Calls Tryz.prog 9 #[forV a3 len3 cap3 m, .int .i64 t] W (OrdPost W E)) := Lib.hid (fun W h1 => by
    have := elemsFn_any a3 len3 cap3 m M3 t W h1 HM.out T64.out HS3.out
    rw [HC3.out, HE.out] at this
    exact this)
  clear hE hT CI
  go_upto_region 13 with (first
    | (go_at_call 8; (with_reducible refine (CD.out _ FX.out.f.below BG.out.row FX.out.d.d FX.out.d.t NR.out).mono ?_); rintro e4 v4 ⟨la, ll, lc, rfl, hdu, hb⟩; have TR := Lib.hid hdu; have BG := Lib.hid (BG.out.keep hb); ((clear z0 z1 d0 d1 d2 d3); have FX := Lib.hid (FX.out.keep hb); (have z0 := FX.out.f.c0; have z1 := FX.out.f.c1; have d0 := FX.out.d.c0; have d1 := FX.out.d.c1; have d2 := FX.out.d.c2; have d3 := FX.out.d.c3); clear hb); clear g0 g1 hdu; have g0 := BG.out.c0; have g1 := BG.out.c1)
    | (go_at_call 9; (with_reducible refine (CE.out _ BG.out.row).mono ?_); rintro e5 V3 ⟨ea, el, ec, rfl, hie, hb⟩; have ER := Lib.hid hie; have TR := Lib.hid (TR.out.below hb); have BG := Lib.hid (BG.out.keep hb); ((clear z0 z1 d0 d1 d2 d3); have FX := Lib.hid (FX.out.keep hb); (have z0 := FX.out.f.c0; have z1 := FX.out.f.c1; have d0 := FX.out.d.c0; have d1 := FX.out.d.c1; have d2 := FX.out.d.c2; have d3 := FX.out.d.c3); clear hb); clear g0 g1 hie))
  have HEL := Lib.hid ER.out.hlen
  have HTL := Lib.hid (show T.length = ll from TR.out.row.hlen)
  have hel : el ≤ 1000 := by rw [← HEL.out]; exact HE1.out
  have hel64 := ER.out.len64
  have htl2 : ll ≤ 1000 := by
    rw [← HTL.out, ← HT.out]
    exact Nat.le_trans (comeL_le _ _ _ _ _ _) HE1.out
  have hlcap := TR.out.row.hcap
  have hlmax := TR.out.row.hmax
  have hlcap64 : lc ≤ 9223372036854775807 := by unfold maxLen at hlmax; omega
  have hecap := ER.out.row.hcap
  have hemax := ER.out.row.hmax
  have hecap64 : ec ≤ 9223372036854775807 := by unfold maxLen at hemax; omega
  have CF : Hid (∀ W (j : Nat) c, H[j]? = some c → j < len → NodeRow W a3 len3 cap3 M3 → DefRow W da dl dc D → WaitRow W wa wl wc_ M → Calls Tryz.prog 11 #[forV a3 len3 cap3 m, .int .i64 j, deskV da dl dc wa wl wc_ nx bz] W fun e w' => e = .returned (.int .i64 (fateC ⟨D, M, nx, bz⟩ c)) ∧ Below W.heap.size W w') := Lib.hid (fun W j c hj hl h1 h2 h3 => by
    have := fateFn_any a3 len3 cap3 m M3 j da dl dc wa wl wc_ nx bz D M W h1 HM.out ⟨by omega, by omega⟩ HS3.out h2 h3
    rw [HC3.out, fate_at12 HHR.out hj] at this
    exact this)
  clear CD CE NR hvl hlmax hemax
  (clear z0 z1 d0 d1 d2 d3)
  go_wp2_with fail
  go_loopw [20, 21] (fun v i wr => ∃ k : Nat, k ≤ el ∧ i = .int .i64 k ∧ (∃ q : Nat, v = .int .i64 q ∧ q ≤ k ∧ Hid (q = (comeL H S ⟨D, M, nx, bz⟩ (coreCl C) E k).length)) ∧ Hid (Below V3.heap.size V3 wr)) (fun _ i _ => el - (intOf i).toNat)
  case atStart => exact ⟨0, Nat.zero_le _, rfl, ⟨0, rfl, Nat.le_refl _, Lib.hid rfl⟩, Lib.hid (Below.refl _ _)⟩
  case round =>
    obtain ⟨k, hk, rfl, ⟨q, rfl, hqk, HQ⟩, HB⟩ := hrel
    have FR := Lib.hid (FX.out.keep HB.out)
    have GR := Lib.hid (BG.out.keep HB.out)
    have ERR := Lib.hid (ER.out.below HB.out)
    by_cases hlt : k < el
    · obtain ⟨eb, eo, z, rfl, heb, hz, hce, -⟩ := ERR.out.get hlt
      obtain ⟨j, c, rfl, hjc, hck⟩ := HEI.out z (List.mem_of_getElem? hz)
      have hjl : j < len := by
        have := (List.getElem?_eq_some_iff.1 hjc).1
        rwa [HHL.out] at this
      have hjs : j < sl := by have := RP.out.le; rw [HSL.out, HKL.out] at this; omega
      obtain ⟨sb, so, s, rfl, hsb, hss, hsa, -⟩ := (HSR.out wr FR.out.f.below).sta hjs
      have HZ := Lib.hid hz
      have HCM : Hid (comeE H S ⟨D, M, nx, bz⟩ (coreCl C) (j : Int) = _) := Lib.hid (comeE_at (L := coreCl C) (D := ⟨D, M, nx, bz⟩) hjc hck hss)
      have HCF : Hid (∀ W, Below wr.heap.size wr W → Calls Tryz.prog 11 #[forV a3 len3 cap3 m, .int .i64 j, deskV da dl dc wa wl wc_ nx bz] W fun e w' => e = .returned (.int .i64 (fateC ⟨D, M, nx, bz⟩ c)) ∧ Below W.heap.size W w') := Lib.hid (fun W hb => CF.out W j c hjc hjl (GR.out.keep hb).row (FR.out.keep hb).d.d (FR.out.keep hb).d.t)
      obtain ⟨cz, hcz⟩ : ∃ z, classZ s D (coreCl C) = z := ⟨_, rfl⟩
      have CA : Hid (∀ X, Below wr.heap.size wr X → Calls Tryz.prog 10 #[stateV s, deskV da dl dc wa wl wc_ nx bz, .slice ca cl cc] X fun e w' => ∃ (y : ClassD) (ok : Bool), e = .returned (.tuple #[y.val, .bool ok]) ∧ ClassAt w' y ∧ Below X.heap.size X w' ∧ (∀ q, q < X.heap.size → (∀ z ∈ C, ClassOff q z) → ClassOff q y) ∧ ((ok = false ∧ cz = none ∧ y.core = clsNone.core) ∨ (ok = true ∧ cz = some y.core))) := Lib.hid (fun X hb => by
        have := classFn_any s da dl dc wa wl wc_ nx bz ca cl cc D C X ((FR.out.keep hb).d.d) (HCR.out X (FR.out.keep hb).f.below) RP.out.sc
        rw [hcz] at this
        exact this)
      obtain ⟨ft, hft⟩ : ∃ ft, fateC ⟨D, M, nx, bz⟩ c = ft := ⟨_, rfl⟩
      dsimp only at HCM
      rw [hcz, hft] at HCM
      rw [hft] at HCF
      have HEB := Lib.hid heb
      have HCE := Lib.hid hce
      obtain ⟨s0, s1, s2, s3⟩ := hsa
      clear hcz hft hz hjc hck hss hsb heb
      go_upto_region 18 with fail
      obtain ⟨V0, hV0, C0, HSV, HBV⟩ := boxes1 wr #[.int .i64 s.phase, .int .i64 s.dfn, .int .i64 s.owner, .bool s.barred] 46
      rw [hV0]
      have C0 : Hid (CBox V0 wr.heap.size [.int .i64 s.phase, .int .i64 s.dfn, .int .i64 s.owner, .bool s.barred]) := Lib.hid C0
      have HBV := Lib.hid HBV
      obtain ⟨G, hG⟩ : ∃ G, wr.heap.size = G := ⟨_, rfl⟩
      have HGE := Lib.hid hG
      rw [hG] at C0 ⊢
      clear hV0 HSV hG s0 s1 s2 s3
      have n0 := C0.out.c 0 _ rfl
      have n1 := C0.out.c 1 _ rfl
      have n2 := C0.out.c 2 _ rfl
      have n3 := C0.out.c 3 _ rfl
      have d0 := (FR.out.keep HBV.out).d.c0
      have d1 := (FR.out.keep HBV.out).d.c1
      have d2 := (FR.out.keep HBV.out).d.c2
      have d3 := (FR.out.keep HBV.out).d.c3
      go_upto_region 20 with (go_at_call 10; (with_reducible refine (CA.out _ HBV.out).mono ?_); rintro e6 w6 ⟨y, ok, rfl, hya, hb6, hoff, hr⟩; have HR := Lib.hid hr; have HYA := Lib.hid hya; have HB6 := Lib.hid hb6; clear hya hb6 hoff hr n0 n1 n2 n3 d0 d1 d2 d3)
      obtain ⟨X, hX, B1, B2, HSX, HBX⟩ := boxes2 w6 #[.bool y.form, .slice y.wa y.wn y.wk, .slice y.pa y.pn y.pk, .slice y.ma y.mn y.mc, .slice y.ha y.hn y.hk] (todoCs cameA) 51 55
      rw [hX]
      obtain ⟨g1, hg1⟩ : ∃ g, w6.heap.size = g := ⟨_, rfl⟩
      have HBE : Hid (Below wr.heap.size wr X) := Lib.hid ((HBV.out.trans (HB6.out.mono HBV.out.size)).trans (HBX.mono (Nat.le_trans HBV.out.size HB6.out.size)))
      have hg2 : Hid (wr.heap.size ≤ g1 + 1) := Lib.hid (by have h1 := HBV.out.size; have h2 := HB6.out.size; omega)
      have C0 := Lib.hid ((C0.out.keep HB6.out).keep HBX)
      have HYA := Lib.hid (HYA.out.below HBX)
      rw [hg1] at B1 B2 ⊢
      have BC := Lib.hid B1
      have BU := Lib.hid B2
      clear hX B1 B2 HSX HBX hg1 CA HBV HB6
      have n0 : X.cell? ⟨G, 0, none⟩ = some (.int .i64 s.phase) := C0.out.c 0 _ rfl
      by_cases hp1 : s.phase = 1
      · have p1 : (s.phase == 1) = true := by rw [hp1]; rfl
        have HCM := Lib.hid (HCM.out.trans (if_pos hp1))
        go_upto_region 21 with fail
        clear n0 HR HYA BC C0 hp1 p1
        have g0 := Ext.cell (GR.out.keep HBE.out).c0 (GR.out.keep HBE.out).lt
        have g1' := Ext.cell (GR.out.keep HBE.out).c1 (GR.out.keep HBE.out).lt
        have d0 := Ext.cell (FR.out.keep HBE.out).d.c0 (FR.out.keep HBE.out).d.lt
        have d1 := Ext.cell (FR.out.keep HBE.out).d.c1 (FR.out.keep HBE.out).d.lt
        have d2 := Ext.cell (FR.out.keep HBE.out).d.c2 (FR.out.keep HBE.out).d.lt
        have d3 := Ext.cell (FR.out.keep HBE.out).d.c3 (FR.out.keep HBE.out).d.lt
        have ec1 := Ext.cell ((HBE.out.cell (p := ⟨eb, eo + k, none⟩) HEB.out).trans HCE.out) (Nat.lt_of_lt_of_le HEB.out HBE.out.size)
        have KF : Hid (∀ Y : Ext X, Calls Tryz.prog 11 #[forV a3 len3 cap3 m, .int .i64 j, deskV da dl dc wa wl wc_ nx bz] Y.v fun e w' => e = .returned (.int .i64 ft) ∧ Below Y.v.heap.size Y.v w') := Lib.hid (fun Y => HCF.out Y.v (HBE.out.trans (Y.below.mono HBE.out.size)))
        refine wp_region_ext (by kernel_rfl) (by kernel_rfl) ?_
        repeat (go_big_quiet_step (first | (go_at_call 11; with_reducible exact Ext.call_below (KF.out _))))
        refine wpQuiet_nil ?_
        intro w' hw'
        obtain ⟨⟨w8, hb8⟩, hw''⟩ := hw'
        dsimp only at hw''
        subst hw''
        clear g0 g1' d0 d1 d2 d3 ec1 KF
        obtain ⟨Z, rfl⟩ : ∃ Z, Z = w' := ⟨_, rfl⟩
        have BU := Lib.hid (BU.out.keep hb8)
        have HBZ : Hid (Below wr.heap.size wr Z) := Lib.hid (HBE.out.trans (hb8.mono HBE.out.size))
        clear hb8 HBE
        go_upto_region 22 with fail
        obtain ⟨u, hu⟩ : ∃ u, upT ft = u := ⟨_, rfl⟩
        have BUZ : Hid (∃ y : TodoD, CBox Z.drew (g1 + 1) (todoCs y).toList) := Lib.hid ⟨cameA, BU.out.drew⟩
        have HLT : Hid (v2.heap.size < wr.heap.size ∧ w.heap.size + 1 < wr.heap.size ∧ eb < wr.heap.size) := Lib.hid ⟨GR.out.lt, FR.out.lt.2, HEB.out⟩
        have SV : wr.cell? ⟨v2.heap.size, 0, none⟩ = some (.slice a3 len3 cap3) ∧ wr.cell? ⟨v2.heap.size, 1, none⟩ = some (.int .i64 m) ∧ wr.cell? ⟨w.heap.size + 1, 0, none⟩ = some (.slice da dl dc) ∧ wr.cell? ⟨w.heap.size + 1, 1, none⟩ = some (.slice wa wl wc_) ∧ wr.cell? ⟨w.heap.size + 1, 2, none⟩ = some (.int .i64 nx) ∧ wr.cell? ⟨w.heap.size + 1, 3, none⟩ = some (.bool bz) ∧ wr.cell? ⟨eb, eo + k, none⟩ = some (.int .i64 j) := ⟨GR.out.c0, GR.out.c1, FR.out.d.c0, FR.out.d.c1, FR.out.d.c2, FR.out.d.c3, HCE.out⟩
        have HSV := Lib.hid SV
        clear SV
        go_cut [25] (fun v wx => True ∧ v = .pointer (some ⟨g1 + 1, 0, none⟩) ∧ Hid (CBox wx (g1 + 1) (todoCs (upT ft)).toList ∧ Below wr.heap.size wr wx))
        case first =>
          go_region_held3 (fun w' => w'.cell? ⟨v2.heap.size, 0, none⟩ = some (.slice a3 len3 cap3) ∧ w'.cell? ⟨v2.heap.size, 1, none⟩ = some (.int .i64 m) ∧ w'.cell? ⟨w.heap.size + 1, 0, none⟩ = some (.slice da dl dc) ∧ w'.cell? ⟨w.heap.size + 1, 1, none⟩ = some (.slice wa wl wc_) ∧ w'.cell? ⟨w.heap.size + 1, 2, none⟩ = some (.int .i64 nx) ∧ w'.cell? ⟨w.heap.size + 1, 3, none⟩ = some (.bool bz) ∧ w'.cell? ⟨eb, eo + k, none⟩ = some (.int .i64 j) ∧ (∃ y : TodoD, CBox w' (g1 + 1) (todoCs y).toList) ∧ Below wr.heap.size wr w')
            (with_reducible first | (refine keepWC HLT.out HSV.out ?_ ?_; (first | exact BU7.out | exact BUS.out | exact BUZ.out); (first | exact HW6.out | exact HWS.out | exact HBZ.out.drew)) | assumption)
            (first | (go_at_call 11; (with_reducible refine (HCF.out _ (keptWC ‹_ ∧ _ ∧ _ ∧ _ ∧ _ ∧ _ ∧ _ ∧ (∃ y, CBox _ _ _) ∧ Below _ _ _›)).mono ?_); rintro e7 w7 ⟨rfl, hb⟩; have hk8 := ‹_ ∧ _ ∧ _ ∧ _ ∧ _ ∧ _ ∧ _ ∧ (∃ y, CBox _ _ _) ∧ Below _ _ _›; have HW6 : Hid (Below wr.heap.size wr w7) := Lib.hid ((keptWC hk8).trans (hb.mono (keptWC hk8).size)); obtain ⟨y7, hy7⟩ := hk8.2.2.2.2.2.2.2.1; have BY7 := Lib.hid (hy7.keep hb); have BU7 : Hid (∃ y : TodoD, CBox w7 (g1 + 1) (todoCs y).toList) := Lib.hid ⟨y7, BY7.out⟩; have HWS := Lib.hid (below10 HW6.out hg2.out (upT ft)); have BUS : Hid (∃ y : TodoD, CBox (put10 w7 (g1 + 1) (upT ft)) (g1 + 1) (todoCs y).toList) := Lib.hid ⟨upT ft, box10 (y := y7) BY7.out (upT ft)⟩; clear hb hk8 hy7; obtain ⟨r0, r1, r2, r3, r4, r5, r6, r7, r8, r9⟩ := CBox.todo (x := y7) BY7.out; have f0 := BY7.out.f 0; have f1 := BY7.out.f 1; have f2 := BY7.out.f 2; have f3 := BY7.out.f 3; have f4 := BY7.out.f 4; have f5 := BY7.out.f 5; have f6 := BY7.out.f 6; have f7 := BY7.out.f 7; have f8 := BY7.out.f 8; have f9 := BY7.out.f 9))
          all_goals
            go_wp2_with fail
            go_meet
            exact ⟨trivial, rfl, Lib.hid ⟨box10 (y := y7) BY7.out (upT ft), HWS.out⟩⟩
        case rest =>
          obtain ⟨-, rfl, HGG⟩ := hcut
          have BU := Lib.hid HGG.out.1
          have HBE := Lib.hid HGG.out.2
          rw [hu] at BU
          clear HGG HSV HLT HBZ BUZ
          by_cases hf : ft = -1
          · have hf1 : (ft != -1) = false := by rw [hf]; rfl
            have HS2 := Lib.hid (comeL_no HZ.out (HCM.out.trans (if_pos hf)))
            (
              go_wp2_with fail
              go_roundw
              case rel => exact ⟨k + 1, by omega, by go_num, ⟨q, rfl, by omega, Lib.hid (by rw [HS2.out]; exact HQ.out)⟩, Lib.hid (HB.out.trans (HBE.out.mono HB.out.size))⟩
              case measure => simp [intOf]; omega)
          · have hf1 : (ft != -1) = true := bne_iff_ne.2 hf
            have HY := (HCM.out.trans (if_neg hf))
            rw [hu] at HY
            have HS2 := Lib.hid (comeL_yes HZ.out HY)
            have TQ := comeL_at HZ.out HY
            rw [HT.out, ← HQ.out] at TQ
            have hql : q < ll := by rw [← HTL.out]; exact (List.getElem?_eq_some_iff.1 TQ).1
            have TQ := Lib.hid TQ
            clear HY hu
            go_upto_region 26 with fail
            (
              have HBX := Lib.hid (HB.out.trans (HBE.out.mono HB.out.size))
              obtain ⟨lb, lo, v, rfl, hlb, hv, -, hvc⟩ := (TR.out.below HBX.out).row.get hql
              obtain rfl : v = ⟨(j : Int), u⟩ := Option.some.inj (hv.symm.trans TQ.out)
              obtain ⟨ub0, ub1, ub2, ub3, ub4, ub5, ub6, ub7, ub8, ub9⟩ := CBox.todo BU.out
              have a0 := Ext.cell ub0 BU.out.lt
              have a1 := Ext.cell ub1 BU.out.lt
              have a2 := Ext.cell ub2 BU.out.lt
              have a3 := Ext.cell ub3 BU.out.lt
              have a4 := Ext.cell ub4 BU.out.lt
              have a5 := Ext.cell ub5 BU.out.lt
              have a6 := Ext.cell ub6 BU.out.lt
              have a7 := Ext.cell ub7 BU.out.lt
              have a8 := Ext.cell ub8 BU.out.lt
              have a9 := Ext.cell ub9 BU.out.lt
              have t0 := Ext.cell (show World.cell? _ ⟨lb, lo + q * 11, none⟩ = some (.int .i64 j) from hvc 0 _ rfl) hlb
              have t1 := Ext.cell (show World.cell? _ ⟨lb, lo + q * 11 + 1, none⟩ = some (.int .i64 u.kind) from hvc 1 _ rfl) hlb
              have t2 := Ext.cell (show World.cell? _ ⟨lb, lo + q * 11 + 2, none⟩ = some (.int .i64 u.dfn) from hvc 2 _ rfl) hlb
              have t3 := Ext.cell (show World.cell? _ ⟨lb, lo + q * 11 + 3, none⟩ = some (.string u.name) from hvc 3 _ rfl) hlb
              have t4 := Ext.cell (show World.cell? _ ⟨lb, lo + q * 11 + 4, none⟩ = some (.bool u.had) from hvc 4 _ rfl) hlb
              have t5 := Ext.cell (show World.cell? _ ⟨lb, lo + q * 11 + 5, none⟩ = some (.bool u.has) from hvc 5 _ rfl) hlb
              have t6 := Ext.cell (show World.cell? _ ⟨lb, lo + q * 11 + 6, none⟩ = some (.string u.old) from hvc 6 _ rfl) hlb
              have t7 := Ext.cell (show World.cell? _ ⟨lb, lo + q * 11 + 7, none⟩ = some (.string u.new) from hvc 7 _ rfl) hlb
              have t8 := Ext.cell (show World.cell? _ ⟨lb, lo + q * 11 + 8, none⟩ = some (.int .i64 u.src) from hvc 8 _ rfl) hlb
              have t9 := Ext.cell (show World.cell? _ ⟨lb, lo + q * 11 + 9, none⟩ = some (.int .i64 u.dst) from hvc 9 _ rfl) hlb
              have t10 := Ext.cell (show World.cell? _ ⟨lb, lo + q * 11 + 10, none⟩ = some (.bool u.on) from hvc 10 _ rfl) hlb
              have ec := Ext.cell ((HBE.out.cell (p := ⟨eb, eo + k, none⟩) HEB.out).trans HCE.out) (Nat.lt_of_lt_of_le HEB.out HBE.out.size)
              have hnq := due_same12 (j : Int) u.kind u.dfn u.name u.had u.has u.old u.new u.src u.dst u.on
              have hgd := due_guard12
              have hg0 : ¬ (ll : Int) ≤ (q : Int) := by omega
              have hg1 : decide ((ll : Int) ≤ (q : Int)) = false := decide_eq_false hg0
              have hg2 : ¬ ll ≤ q := by omega
              clear hvc hv hlb ub0 ub1 ub2 ub3 ub4 ub5 ub6 ub7 ub8 ub9
              refine wp_region_ext (by kernel_rfl) (by kernel_rfl) ?_
              repeat (go_big_quiet_step (fail))
              refine wpQuiet_nil ?_
              intro w' hw'
              obtain ⟨⟨w8, hb8⟩, hw''⟩ := hw'
              dsimp only at hw''
              subst hw''
              clear a0 a1 a2 a3 a4 a5 a6 a7 a8 a9 t0 t1 t2 t3 t4 t5 t6 t7 t8 t9 t10 ec hnq hgd
              have HBF : Hid (Below V3.heap.size V3 w') := Lib.hid (HBX.out.trans (hb8.mono HBX.out.size))
              clear hb8
              have hw1 : IntKind.i64.wrap ((q : Int) + 1) = (q : Int) + 1 := by rw [IntKind.wrap_i64]; omega
              go_wp2
              go_roundw
              case rel => exact ⟨k + 1, by omega, by go_num, ⟨q + 1, by go_num, by omega, Lib.hid (by rw [HS2.out, List.length_append, ← HQ.out]; rfl)⟩, HBF⟩
              case measure => simp [intOf]; omega)
      have p1 : (s.phase == 1) = false := beq_eq_false_iff_ne.2 hp1
      have HCM := Lib.hid (HCM.out.trans (if_neg hp1))
      by_cases hp3 : s.phase = 3
      · have p3 : (s.phase != 3) = false := by rw [hp3]; rfl
        have HCM := Lib.hid (HCM.out.trans (if_pos hp3))
        cases ok with
        | false =>
          have hcz : cz = none := by
            rcases HR.out with ⟨-, e, -⟩ | ⟨e, -⟩
            · exact e
            · cases e
          have HS2 := Lib.hid (comeL_no HZ.out (HCM.out.trans (by rw [hcz])))
          (
            go_wp2_with fail
            go_roundw
            case rel => exact ⟨k + 1, by omega, by go_num, ⟨q, rfl, by omega, Lib.hid (by rw [HS2.out]; exact HQ.out)⟩, Lib.hid (HB.out.trans (HBE.out.mono HB.out.size))⟩
            case measure => simp [intOf]; omega)
        | true =>
          have hcz : cz = some y.core := by
            rcases HR.out with ⟨e, -⟩ | ⟨-, e⟩
            · cases e
            · exact e
          obtain ⟨q9, hq9⟩ : ∃ q, hearsC y.core 1 = q := ⟨_, rfl⟩
          have HCM : Hid (comeE H S ⟨D, M, nx, bz⟩ (coreCl C) (j : Int) = if q9 = true then some (cameD j) else none) := Lib.hid (HCM.out.trans (by rw [hcz]; show (if hearsC y.core 1 = true then _ else _) = _; rw [hq9]))
          have CH : Hid (Calls Tryz.prog 12 #[y.val, .int .i64 1] X fun e w' => e = .returned (.bool q9) ∧ Below X.heap.size X w') := Lib.hid (by
            have := hears_any y 1 X HYA.out
            rw [hq9] at this
            exact this)
          have k0 : X.cell? ⟨g1, 0, none⟩ = some (.bool y.form) := BC.out.c 0 _ rfl
          have k1 : X.cell? ⟨g1, 1, none⟩ = some (.slice y.wa y.wn y.wk) := BC.out.c 1 _ rfl
          have k2 : X.cell? ⟨g1, 2, none⟩ = some (.slice y.pa y.pn y.pk) := BC.out.c 2 _ rfl
          have k3 : X.cell? ⟨g1, 3, none⟩ = some (.slice y.ma y.mn y.mc) := BC.out.c 3 _ rfl
          have k4 : X.cell? ⟨g1, 4, none⟩ = some (.slice y.ha y.hn y.hk) := BC.out.c 4 _ rfl
          clear hq9 hcz
          cases q9 with
          | false =>
            have HS2 := Lib.hid (comeL_no HZ.out HCM.out)
            go_upto_region 25 with (go_at_call 12; (with_reducible refine CH.out.mono ?_); rintro e7 w7 ⟨rfl, hb⟩; have HBE := Lib.hid (HBE.out.trans (hb.mono HBE.out.size)); clear hb k0 k1 k2 k3 k4 n0)
            (
              go_wp2_with fail
              go_roundw
              case rel => exact ⟨k + 1, by omega, by go_num, ⟨q, rfl, by omega, Lib.hid (by rw [HS2.out]; exact HQ.out)⟩, Lib.hid (HB.out.trans (HBE.out.mono HB.out.size))⟩
              case measure => simp [intOf]; omega)
          | true =>
            have HS2 := Lib.hid (comeL_yes HZ.out HCM.out)
            have TQ := comeL_at HZ.out HCM.out
            rw [HT.out, ← HQ.out] at TQ
            have hql : q < ll := by rw [← HTL.out]; exact (List.getElem?_eq_some_iff.1 TQ).1
            obtain ⟨u, hu⟩ : ∃ u, cameA = u := ⟨_, rfl⟩
            have TQ : Hid (T[q]? = some ⟨(j : Int), u⟩) := Lib.hid (by rw [← hu]; exact TQ)
            rw [hu] at BU
            have HS2 : Hid (comeL H S ⟨D, M, nx, bz⟩ (coreCl C) E (k + 1) = comeL H S ⟨D, M, nx, bz⟩ (coreCl C) E k ++ [⟨(j : Int), u⟩]) := Lib.hid (by rw [← hu]; exact HS2.out)
            clear hu
            go_upto_region 26 with (go_at_call 12; (with_reducible refine CH.out.mono ?_); rintro e7 w7 ⟨rfl, hb⟩; have BU := Lib.hid (BU.out.keep hb); have HBE := Lib.hid (HBE.out.trans (hb.mono HBE.out.size)); clear hb k0 k1 k2 k3 k4 n0)
            (
              have HBX := Lib.hid (HB.out.trans (HBE.out.mono HB.out.size))
              obtain ⟨lb, lo, v, rfl, hlb, hv, -, hvc⟩ := (TR.out.below HBX.out).row.get hql
              obtain rfl : v = ⟨(j : Int), u⟩ := Option.some.inj (hv.symm.trans TQ.out)
              obtain ⟨ub0, ub1, ub2, ub3, ub4, ub5, ub6, ub7, ub8, ub9⟩ := CBox.todo BU.out
              have a0 := Ext.cell ub0 BU.out.lt
              have a1 := Ext.cell ub1 BU.out.lt
              have a2 := Ext.cell ub2 BU.out.lt
              have a3 := Ext.cell ub3 BU.out.lt
              have a4 := Ext.cell ub4 BU.out.lt
              have a5 := Ext.cell ub5 BU.out.lt
              have a6 := Ext.cell ub6 BU.out.lt
              have a7 := Ext.cell ub7 BU.out.lt
              have a8 := Ext.cell ub8 BU.out.lt
              have a9 := Ext.cell ub9 BU.out.lt
              have t0 := Ext.cell (show World.cell? _ ⟨lb, lo + q * 11, none⟩ = some (.int .i64 j) from hvc 0 _ rfl) hlb
              have t1 := Ext.cell (show World.cell? _ ⟨lb, lo + q * 11 + 1, none⟩ = some (.int .i64 u.kind) from hvc 1 _ rfl) hlb
              have t2 := Ext.cell (show World.cell? _ ⟨lb, lo + q * 11 + 2, none⟩ = some (.int .i64 u.dfn) from hvc 2 _ rfl) hlb
              have t3 := Ext.cell (show World.cell? _ ⟨lb, lo + q * 11 + 3, none⟩ = some (.string u.name) from hvc 3 _ rfl) hlb
              have t4 := Ext.cell (show World.cell? _ ⟨lb, lo + q * 11 + 4, none⟩ = some (.bool u.had) from hvc 4 _ rfl) hlb
              have t5 := Ext.cell (show World.cell? _ ⟨lb, lo + q * 11 + 5, none⟩ = some (.bool u.has) from hvc 5 _ rfl) hlb
              have t6 := Ext.cell (show World.cell? _ ⟨lb, lo + q * 11 + 6, none⟩ = some (.string u.old) from hvc 6 _ rfl) hlb
              have t7 := Ext.cell (show World.cell? _ ⟨lb, lo + q * 11 + 7, none⟩ = some (.string u.new) from hvc 7 _ rfl) hlb
              have t8 := Ext.cell (show World.cell? _ ⟨lb, lo + q * 11 + 8, none⟩ = some (.int .i64 u.src) from hvc 8 _ rfl) hlb
              have t9 := Ext.cell (show World.cell? _ ⟨lb, lo + q * 11 + 9, none⟩ = some (.int .i64 u.dst) from hvc 9 _ rfl) hlb
              have t10 := Ext.cell (show World.cell? _ ⟨lb, lo + q * 11 + 10, none⟩ = some (.bool u.on) from hvc 10 _ rfl) hlb
              have ec := Ext.cell ((HBE.out.cell (p := ⟨eb, eo + k, none⟩) HEB.out).trans HCE.out) (Nat.lt_of_lt_of_le HEB.out HBE.out.size)
              have hnq := due_same12 (j : Int) u.kind u.dfn u.name u.had u.has u.old u.new u.src u.dst u.on
              have hgd := due_guard12
              have hg0 : ¬ (ll : Int) ≤ (q : Int) := by omega
              have hg1 : decide ((ll : Int) ≤ (q : Int)) = false := decide_eq_false hg0
              have hg2 : ¬ ll ≤ q := by omega
              clear hvc hv hlb ub0 ub1 ub2 ub3 ub4 ub5 ub6 ub7 ub8 ub9
              refine wp_region_ext (by kernel_rfl) (by kernel_rfl) ?_
              repeat (go_big_quiet_step (fail))
              refine wpQuiet_nil ?_
              intro w' hw'
              obtain ⟨⟨w8, hb8⟩, hw''⟩ := hw'
              dsimp only at hw''
              subst hw''
              clear a0 a1 a2 a3 a4 a5 a6 a7 a8 a9 t0 t1 t2 t3 t4 t5 t6 t7 t8 t9 t10 ec hnq hgd
              have HBF : Hid (Below V3.heap.size V3 w') := Lib.hid (HBX.out.trans (hb8.mono HBX.out.size))
              clear hb8
              have hw1 : IntKind.i64.wrap ((q : Int) + 1) = (q : Int) + 1 := by rw [IntKind.wrap_i64]; omega
              go_wp2
              go_roundw
              case rel => exact ⟨k + 1, by omega, by go_num, ⟨q + 1, by go_num, by omega, Lib.hid (by rw [HS2.out, List.length_append, ← HQ.out]; rfl)⟩, HBF⟩
              case measure => simp [intOf]; omega)
      · have p3 : (s.phase != 3) = true := bne_iff_ne.2 hp3
        have HS2 := Lib.hid (comeL_no HZ.out (HCM.out.trans (if_neg hp3)))
        (
          go_wp2_with fail
          go_roundw
          case rel => exact ⟨k + 1, by omega, by go_num, ⟨q, rfl, by omega, Lib.hid (by rw [HS2.out]; exact HQ.out)⟩, Lib.hid (HB.out.trans (HBE.out.mono HB.out.size))⟩
          case measure => simp [intOf]; omega)
    · obtain rfl : k = el := by omega
      have hqe : ((q : Int) == (ll : Int)) = true := by
        have h1 := HQ.out
        rw [← HEL.out, HT.out, HTL.out] at h1
        rw [h1]
        exact beq_self_eq_true _
      go_wp2_with fail
      go_ret
      exact ⟨rfl, FX.out.f.below.trans (HB.out.mono FX.out.f.below.size)⟩
end Go.Proofs.YtkfmengdffpcnaaGreatDoor
