/- Texts joined in build order: AbleOutLaw. -/
import Derived.Test.YtnjoimedilonnaaGreatDoorA46
import Derived.Test.YtnjoimedilonnaaGreatDoorA44
import Derived.Test.YtnjoimedilonnaaGreatDoorA41
import Derived.Test.YtnjoimedilonnaaGreatDoorA38
import Derived.Test.YtnjoimedilonnaaGreatDoorA05
import Derived.Deep.QuietTactic
namespace Go.Proofs.YtnjoimedilonnaaGreatDoor
open Go.RowKit
structure Gone14 (m : Int) (F G : List Core) (n : Nat) (x : Core) : Prop where
  right : rightF m G = true
  len : G.length = F.length
  at_ : ∃ y, G[n]? = some y ∧ y.kind = x.kind ∧ y.name = x.name ∧ y.attrs = x.attrs ∧ y.parent = -1
theorem gone14 {m : Int} {F : List Core} (hr : rightF m F = true) {n : Nat} {x : Core} (hx : F[n]? = some x) :
    (remZ m F n = (F, [], 6) ∧ Gone14 m F F n x) ∨ ∃ G N, remZ m F n = (G, N, 0) ∧ Gone14 m F G n x := by
  have hn : n < F.length := (List.getElem?_eq_some_iff.1 hx).1
  have hpk : parentK F n = x.parent := by unfold parentK; rw [getC_nat, hx]
  by_cases hp : x.parent = -1
  · refine .inl ⟨?_, hr, rfl, x, hx, rfl, rfl, rfl, hp⟩
    unfold remZ
    rw [thereF_of hr hn, if_pos rfl, hpk, if_pos hp]
  · obtain ⟨_, _, _, ho⟩ := mvOut_out hr hx hp
    refine .inr ⟨mvOut F n, (outS (F, []) n).2, ?_, ho.rightG, out_len _ _, ?_⟩
    · unfold remZ
      rw [thereF_of hr hn, if_pos rfl, hpk, if_neg hp, Int.toNat_natCast]
      unfold outS
      rw [hpk, if_neg hp]
    · obtain ⟨d, h1, h2, h3, h4, h5⟩ := out_at (n := n) hx
      rw [if_pos rfl] at h5
      exact ⟨d, h1, h3, h2, h4, h5⟩
section
variable {m : Int} {F G : List Core} {n : Nat} {x : Core}
theorem Gone14.dis (h : Gone14 m F G n x) : disB G n = hasA x.attrs disT := by
  obtain ⟨y, h1, _, _, h2, _⟩ := h.at_
  rw [disB_at h1, h2]
theorem Gone14.kind (h : Gone14 m F G n x) : kindK G (n : Int) = x.kind := by
  obtain ⟨y, h1, h2, _⟩ := h.at_
  rw [kindK_at h1, h2]
theorem Gone14.name (h : Gone14 m F G n x) : nameK G (n : Int) = x.name.toList := by
  obtain ⟨y, h1, _, h2, _⟩ := h.at_
  rw [nameK_nat h1, h2]
theorem Gone14.bar (h : Gone14 m F G n x) (hk : x.kind = 1) : barF G n = hasA x.attrs disT := by
  obtain ⟨y, h1, h2, _, h3, h4⟩ := h.at_
  have hn : n < G.length := (List.getElem?_eq_some_iff.1 h1).1
  rw [alone_is h.right hn (right_top h1 h4) (by rw [h.kind, hk]), h.dis]
theorem Gone14.put (h : Gone14 m F G n x) (hk : x.kind = 1) {p : Nat} {y : Core} (hy : G[p]? = some y) {H : List Core} {N : List NoteD} {e : Int} (hi : insZ m G n p (y.kids.head?.getD (-1)) = (H, N, e)) (he : e = 0) : First14 m G H n p y.kids := by
  obtain ⟨u, h1, h2, _, _, h4⟩ := h.at_
  have hm : mayZ m G n p (y.kids.head?.getD (-1)) = 0 := by
    by_cases hm : mayZ m G n p (y.kids.head?.getD (-1)) = 0
    · exact hm
    · unfold insZ at hi
      rw [if_neg hm] at hi
      injection hi with _ hi
      injection hi with _ hi
      rw [hi]; exact he
  obtain ⟨H', N', h5, h6⟩ := put_first h.right h1 (by rw [h2, hk]) h4 hy rfl hm
  rw [hi] at h5
  injection h5 with h5 _
  rw [h5]
  exact h6
end
theorem then14 {a v u : World} (h : Below a.heap.size a v) (hb : Below v.heap.size v u) : Below a.heap.size a u := h.trans (hb.mono h.size)
theorem Box.put14 {w W : World} {g q : Nat} {a : Option Addr} {len cap : Nat} {m : Int} {L : List NodeD} {u v : Value} (h : Box w W g a len cap m L (coreL L)) (h0 : NodeRow w a len cap L) (hq : Box2 W q u v) (hl : w.heap.size ≤ q) (hne : g ≠ q) :
    Box w ((W.setCell ⟨q, 0, none⟩ (.slice a len cap)).setCell ⟨q, 1, none⟩ (.int .i64 m)) g a len cap m L (coreL L) ∧ Box w ((W.setCell ⟨q, 0, none⟩ (.slice a len cap)).setCell ⟨q, 1, none⟩ (.int .i64 m)) q a len cap m L (coreL L) := by
  have hb : Below w.heap.size w ((W.setCell ⟨q, 0, none⟩ (.slice a len cap)).setCell ⟨q, 1, none⟩ (.int .i64 m)) := (h.below.setCell (p := ⟨q, 0, none⟩) hl _).setCell (p := ⟨q, 1, none⟩) hl _
  have hs : ((W.setCell ⟨q, 0, none⟩ (.slice a len cap)).setCell ⟨q, 1, none⟩ (.int .i64 m)).heap.size = W.heap.size := by simp [World.setCell]
  obtain ⟨q0, q1⟩ := stored2 hq (.slice a len cap) (.int .i64 m)
  have ho : ∀ o, ((W.setCell ⟨q, 0, none⟩ (.slice a len cap)).setCell ⟨q, 1, none⟩ (.int .i64 m)).cell? ⟨g, o, none⟩ = W.cell? ⟨g, o, none⟩ := fun o =>
    (World.cell?_setCell_other _ _ _ _ (fun e => by injection e with e _; exact hne e.symm)).trans (World.cell?_setCell_other _ _ _ _ (fun e => by injection e with e _; exact hne e.symm))
  exact ⟨⟨h0.below hb, rfl, h.low, by rw [hs]; exact h.lt, (ho 0).trans h.c0, (ho 1).trans h.c1, hb⟩, ⟨h0.below hb, rfl, hl, by rw [hs]; exact hq.lt, q0, q1, hb⟩⟩
set_option maxHeartbeats 32000000 in
set_option maxRecDepth 100000 in
theorem ableOut_walk (a : Option Addr) (len cap : Nat) (m : Int) (L : List NodeD) (x y : Int) (w : World) (h : NodeRow w a len cap L) (hm : In64 m) (hx : 0 ≤ x ∧ x ≤ 255) (hy : 0 ≤ y ∧ y ≤ 255) (hg : ErrVar w) :
    Calls Tryz.prog 4 #[forV a len cap m, .int .u8 x, .int .u8 y] w fun e w' => e = .returned (.bool true) ∧ Below w.heap.size w w' := by
  have AW := Lib.hid (fun W => awake14_any W)
  have BX := Lib.hid (Box.start (m := m) h)
  have hl0 := h.len64
  have HL := Lib.hid h.hlen
  have HM := Lib.hid hm
  have HG := Lib.hid hg
  have HH := Lib.hid h
  have z0 := BX.out.c0
  have z1 := BX.out.c1
  clear h hm hg
  cases c0 : shortF L with
  | false =>
    have C0 := Lib.hid c0
    clear c0
    go_enter Tryz.func4, Tryz.ntmps4
    go_wp2_with (first
                    | (go_at_call 6; (with_reducible refine (AW.out _).mono ?_); rintro e w1 ⟨rfl, hb⟩; have BX := Lib.hid (BX.out.keep hb); clear z0 z1; have z0 := BX.out.c0; have z1 := BX.out.c1; clear hb)
                    | (go_at_call 7; (with_reducible refine (refshortF_any _ _ _ _ _ _ BX.out.row).mono ?_); rintro e w1 ⟨rfl, hb⟩; rw [C0.out]; have BX := Lib.hid (BX.out.keep hb); clear z0 z1; have z0 := BX.out.c0; have z1 := BX.out.c1; clear hb)
                    | (go_at_call 8; (with_reducible refine (HR.out _ BX.out.row).mono ?_); rintro e w1 ⟨rfl, hb⟩; have BX := Lib.hid (BX.out.keep hb); clear z0 z1; have z0 := BX.out.c0; have z1 := BX.out.c1; clear hb))
    go_ret
    exact ⟨rfl, BX.out.below⟩
  | true =>
    have C0 := Lib.hid c0
    have SM := Lib.hid (small_of_short c0)
    clear c0
    have hlen : len ≤ 1000 := by rw [← HL.out]; exact SM.out.1
    cases c1 : rightF m (coreL L) with
    | false =>
      have HR : Hid (∀ W, NodeRow W a len cap L → Calls Tryz.prog 8 #[forV a len cap m] W fun e w' => e = .returned (.bool false) ∧ Below W.heap.size W w') := Lib.hid (fun W h => by
        have := rightF_any a len cap m L W h HM.out SM.out
        rwa [c1] at this)
      clear c1
      go_enter Tryz.func4, Tryz.ntmps4
      go_wp2_with (first
                      | (go_at_call 6; (with_reducible refine (AW.out _).mono ?_); rintro e w1 ⟨rfl, hb⟩; have BX := Lib.hid (BX.out.keep hb); clear z0 z1; have z0 := BX.out.c0; have z1 := BX.out.c1; clear hb)
                      | (go_at_call 7; (with_reducible refine (refshortF_any _ _ _ _ _ _ BX.out.row).mono ?_); rintro e w1 ⟨rfl, hb⟩; rw [C0.out]; have BX := Lib.hid (BX.out.keep hb); clear z0 z1; have z0 := BX.out.c0; have z1 := BX.out.c1; clear hb)
                      | (go_at_call 8; (with_reducible refine (HR.out _ BX.out.row).mono ?_); rintro e w1 ⟨rfl, hb⟩; have BX := Lib.hid (BX.out.keep hb); clear z0 z1; have z0 := BX.out.c0; have z1 := BX.out.c1; clear hb))
      go_ret
      exact ⟨rfl, BX.out.below⟩
    | true =>
      have HR : Hid (∀ W, NodeRow W a len cap L → Calls Tryz.prog 8 #[forV a len cap m] W fun e w' => e = .returned (.bool true) ∧ Below W.heap.size W w') := Lib.hid (fun W h => by
        have := rightF_any a len cap m L W h HM.out SM.out
        rwa [c1] at this)
      have hr := Lib.hid c1
      have hlc : Hid ((coreL L).length = len) := Lib.hid (by rw [coreL_len, HL.out])
      have hlp : 0 < len := by
        have := right_len c1
        rwa [hlc.out] at this
      clear c1
      obtain ⟨X, hX⟩ : ∃ X : Nat, x % (len : Int) = X := ⟨(x % (len : Int)).toNat, by have := Int.emod_nonneg x (show (len : Int) ≠ 0 by omega); omega⟩
      have hXl : X < len := by have := Int.emod_lt_of_pos x (show (0 : Int) < len by omega); omega
      have hX64 : Hid (In64 (X : Int)) := Lib.hid ⟨by omega, by omega⟩
      obtain ⟨P, hP⟩ : ∃ P : Nat, y % (len : Int) = P := ⟨(y % (len : Int)).toNat, by have := Int.emod_nonneg y (show (len : Int) ≠ 0 by omega); omega⟩
      have hPl : P < len := by have := Int.emod_lt_of_pos y (show (0 : Int) < len by omega); omega
      have hP64 : Hid (In64 (P : Int)) := Lib.hid ⟨by omega, by omega⟩
      obtain ⟨b, off, nx, rfl, hb, hgx, hat, hok⟩ := HH.out.get hXl
      have HXC := Lib.hid (coreL_get hgx)
      have C4 := Lib.hid (stays14 hat.c4 hb)
      obtain ⟨V, hV⟩ : ∃ V, valA nx.core.attrs disT = V := ⟨_, rfl⟩
      obtain ⟨own, hown⟩ : ∃ q, hasA nx.core.attrs disT = q := ⟨_, rfl⟩
      have CG := Lib.hid (get14 hok)
      rw [hV, hown] at CG
      clear hat hok hb hV
      have hln0 : ((len : Int) == 0) = false := beq_eq_false_iff_ne.2 (by omega)
      go_enter Tryz.func4, Tryz.ntmps4
      go_upto_region 5 with (first
                                | (go_at_call 6; (with_reducible refine (AW.out _).mono ?_); rintro e w1 ⟨rfl, hb⟩; have BX := Lib.hid (BX.out.keep hb); clear z0 z1; have z0 := BX.out.c0; have z1 := BX.out.c1; clear hb)
                                | (go_at_call 7; (with_reducible refine (refshortF_any _ _ _ _ _ _ BX.out.row).mono ?_); rintro e w1 ⟨rfl, hb⟩; rw [C0.out]; have BX := Lib.hid (BX.out.keep hb); clear z0 z1; have z0 := BX.out.c0; have z1 := BX.out.c1; clear hb)
                                | (go_at_call 8; (with_reducible refine (HR.out _ BX.out.row).mono ?_); rintro e w1 ⟨rfl, hb⟩; have BX := Lib.hid (BX.out.keep hb); clear z0 z1; have z0 := BX.out.c0; have z1 := BX.out.c1; clear hb))
      have E0 := Ext.cell z0 BX.out.lt
      have E1 := Ext.cell z1 BX.out.lt
      have HX1 : Hid (∀ W, Below w1.heap.size w1 W → Box w W w.heap.size (some ⟨b, off, none⟩) len cap m L (coreL L)) := Lib.hid (fun W hb => BX.out.keep hb)
      clear BX z0 z1 HR AW C0
      refine wp_region_ext (by kernel_rfl) (by kernel_rfl) ?_
      repeat (go_big_quiet_step (fail))
      refine wpQuiet_nil ?_
      intro w' hw'
      obtain ⟨⟨w8, hb8⟩, hw''⟩ := hw'
      dsimp only at hw''
      subst hw''
      have BX := Lib.hid (HX1.out _ hb8)
      clear E0 E1 HX1 hb8
      have z0 := BX.out.c0
      have z1 := BX.out.c1
      have c4 := C4.out _ BX.out.below
      go_upto_region 7 with (go_at_call 13; (with_reducible refine (CG.out _ BX.out.below).mono ?_); rintro e w3 ⟨rfl, hb⟩; have BX := Lib.hid (BX.out.keep hb); clear hb z0 z1 c4; have z0 := BX.out.c0; have z1 := BX.out.c1)
      clear CG
      rcases gone14 hr.out HXC.out with ⟨hrem, hgn⟩ | ⟨G, N2, hrem, hgn⟩
      · have GN := Lib.hid hgn
        have CR : Hid (∀ W, NodeRow W (some ⟨b, off, none⟩) len cap L → ErrVar W → Calls Tryz.prog 14 #[forV (some ⟨b, off, none⟩) len cap m, .int .i64 X] W (MvPost W m (coreL L, [], 6))) := Lib.hid (fun W h1 h2 => by
          have := mremove_any _ len cap m L X W h1 HM.out hX64.out SM.out h2
          rwa [hrem] at this)
        clear hrem hgn
        go_upto_region 9 with (go_at_call 14; (with_reducible refine (CR.out _ BX.out.row (HG.out.keep BX.out.below)).mono ?_); rintro e w5 ⟨a2, len2, cap2, M2, va, vl, vc, rfl, -, -, -, -, hb2, -⟩; have BX := Lib.hid (BX.out.keep hb2); have LT5 := Lib.hid BX.out.lt; have B2 := Lib.hid (Box2.new w5 (.slice a2 len2 cap2) (.int .i64 m) 24); have BX := Lib.hid (BX.out.keep (below_box w5 (forB a2 len2 cap2 m))); clear z0 z1 hb2; have z0 := BX.out.c0; have z1 := BX.out.c1)
        obtain ⟨w6, hw6⟩ : ∃ w6, w5.alloc (forB a2 len2 cap2 m) = w6 := ⟨_, rfl⟩
        obtain ⟨qz, hqz⟩ : ∃ qz, w5.heap.size = qz := ⟨_, rfl⟩
        have B3 : Hid (Box2 w6 qz (.slice a2 len2 cap2) (.int .i64 m)) := Lib.hid (by rw [← hw6, ← hqz]; exact B2.out)
        rw [hw6] at BX ⊢
        rw [hqz] at LT5 ⊢
        clear B2 hw6 hqz CR z0 z1
        have z0 := BX.out.c0
        have z1 := BX.out.c1
        have f0 := B3.out.f0
        have f1 := B3.out.f1
        have d0 := B3.out.c0
        have d1 := B3.out.c1
        go_upto_region 10 with fail
        have PB := Box.put14 BX.out HH.out B3.out (Nat.le_of_lt LT5.out) (Nat.ne_of_lt LT5.out)
        obtain ⟨wz, hwz⟩ : ∃ wz, (w6.setCell ⟨qz, 0, none⟩ (.slice (some ⟨b, off, none⟩) len cap)).setCell ⟨qz, 1, none⟩ (.int .i64 m) = wz := ⟨_, rfl⟩
        rw [hwz] at PB ⊢
        have BX := Lib.hid PB.1
        obtain ⟨ag, lg, cg, MG, G, BG, HSG, GN⟩ : ∃ ag lg cg MG G, Hid (Box w wz qz ag lg cg m MG G) ∧ Hid (smallF MG) ∧ Hid (Gone14 m (coreL L) G X nx.core) := ⟨_, _, _, _, _, Lib.hid PB.2, SM, GN⟩
        clear hwz C4 PB z0 z1 f0 f1 d0 d1 B3 LT5
        (
          have z0 := BX.out.c0
          have z1 := BX.out.c1
          have g0 := BG.out.c0
          have g1 := BG.out.c1
          obtain ⟨b1, off1, x1, hab, hb1, hx1, hat1, -⟩ := BX.out.row.get hXl
          injection hab with hab
          injection hab with hab1 hab2
          subst hab1
          subst hab2
          obtain rfl : nx = x1 := Option.some.inj (hgx.symm.trans hx1)
          have C0 := Lib.hid (stays14 hat1.c0 hb1)
          have C1 := Lib.hid (stays14 hat1.c1 hb1)
          have c0 := hat1.c0
          obtain rfl : lg = len := by
            have h1 := GN.out.len
            have h2 := BG.out.row.hlen
            rw [hlc.out, ← BG.out.core, coreL_len, h2] at h1
            exact h1
          have CBG : Hid (∀ W, NodeRow W ag lg cg MG → Calls Tryz.prog 12 #[forV ag lg cg m, .int .i64 X] W fun e w' => e = .returned (.bool (barF G X)) ∧ Below W.heap.size W w') := Lib.hid (fun W h => by
            have := barO_any ag lg cg m MG X W h HM.out HSG.out
            rwa [BG.out.core, barO_nat GN.out.right (by rw [GN.out.len, hlc.out]; exact hXl)] at this)
          clear hat1 hx1 hb1
          by_cases hk : nx.core.kind = 1
          · rw [GN.out.bar hk, hown] at CBG
            obtain ⟨bg, og, u, hag, hbg, hu, hatu, -⟩ := BG.out.row.get hXl
            have u5 := hatu.c5
            have HUP : u.core.parent = -1 := by
              obtain ⟨d, h1, _, _, _, h2⟩ := GN.out.at_
              have h3 := coreL_get hu
              rw [BG.out.core, h1] at h3
              rw [← Option.some.inj h3]
              exact h2
            rw [HUP] at u5
            obtain ⟨bp, op, y, hag2, hbp, hy, haty, hoky⟩ := BG.out.row.get hPl
            rw [hag] at hag2
            injection hag2 with hag2
            injection hag2 with hag21 hag22
            subst hag21
            subst hag22
            subst hag
            have Y6 := Lib.hid (stays14 haty.c6 hbp)
            have HYK := Lib.hid hoky.kids
            have HYC : Hid (G[P]? = some y.core) := Lib.hid (by
              have := coreL_get hy
              rwa [BG.out.core] at this)
            obtain ⟨HF, N3, e3, hI⟩ : ∃ HF N3 e3, insZ m G X P (y.core.kids.head?.getD (-1)) = (HF, N3, e3) := ⟨_, _, _, rfl⟩
            have HI := Lib.hid hI
            have HFB : Hid (In64 (y.core.kids.head?.getD (-1))) := Lib.hid (by
              cases hkk : y.core.kids with
              | nil => exact ⟨by decide, by decide⟩
              | cons z r => exact hoky.kids.inb z (by rw [hkk]; exact List.mem_cons_self))
            have CI : Hid (∀ W, NodeRow W (some ⟨bg, og, none⟩) lg cg MG → ErrVar W → Calls Tryz.prog 15 #[forV (some ⟨bg, og, none⟩) lg cg m, .int .i64 X, .int .i64 P, .int .i64 (y.core.kids.head?.getD (-1))] W (MvPost W m (HF, N3, e3))) := Lib.hid (fun W h1 h2 => by
              have := minsert_any _ lg cg m MG X P (y.core.kids.head?.getD (-1)) W h1 HM.out hX64.out hP64.out HFB.out HSG.out h2
              rwa [BG.out.core, hI] at this)
            have HKL := Lib.hid hoky.kids.hlen
            have hkn := hoky.kids.len64
            have hne1 : (nx.core.kind != 1) = false := by rw [hk]; rfl
            have hoo : (own != own) = false := by cases own <;> rfl
            obtain ⟨nq, hnq⟩ : ∃ q, (nx.core.name.toList == [108, 101, 103, 101, 110, 100]) = q := ⟨_, rfl⟩
            have W6 := Lib.hid (Below.refl wz.heap.size wz)
            clear hatu hu haty hy hoky hI HUP
            go_upto_region 15 with (go_at_call 12; (with_reducible refine (CBG.out _ BG.out.row).mono ?_); rintro e v1 ⟨rfl, hb⟩; have BX := Lib.hid (BX.out.keep hb); have BG := Lib.hid (BG.out.keep hb); have W6 := Lib.hid (W6.out.trans (hb.mono W6.out.size)); clear hb z0 z1 g0 g1 c0 u5; have z0 := BX.out.c0; have z1 := BX.out.c1; have g0 := BG.out.c0; have g1 := BG.out.c1)
            have y6 := Y6.out _ W6.out
            have HKW := Lib.hid (HYK.out.below W6.out)
            clear CBG hoo
            by_cases hk0 : 0 < y.kN
            · obtain ⟨bk, okk, z, hka, hbk, hz, hcz, -⟩ := HKW.out.get hk0
              rw [hka] at y6
              have hz2 : y.core.kids.head?.getD (-1) = z := by rw [List.head?_eq_getElem?, hz]; rfl
              rw [hz2] at CI
              rw [Nat.add_zero] at hcz
              clear hz hbk hka
              go_upto_region 17 with fail
              clear y6 HKW HYK Y6 hcz hk0
              (
                by_cases he : e3 = 0
                · have F14 := Lib.hid (GN.out.put hk HYC.out HI.out he)
                  subst he
                  cases nq with
                  | false =>
                    go_upto_region 18 with (go_at_call 15; (with_reducible refine (CI.out _ BG.out.row (HG.out.keep BX.out.below)).mono ?_); rintro e v2 ⟨a3, len3, cap3, M3, va3, vl3, vc3, rfl, hr3, hc3, hs3, -, hb3, -⟩; have BX := Lib.hid (BX.out.keep hb3); have BH := Lib.hid (MBox.new (m := m) BX.out.below hr3 hc3).box; have BX := Lib.hid (BX.out.keep (below_box v2 (forB a3 len3 cap3 m))); have HS3 := Lib.hid hs3; have W6 := Lib.hid (then14 (then14 W6.out hb3) (box_below v2 (forB a3 len3 cap3 m))); clear z0 z1 g0 g1 hr3 hc3 hs3 hb3; have z0 := BX.out.c0; have z1 := BX.out.c1; have h0 := BH.out.c0; have h1 := BH.out.c1)
                    have c1 := C1.out _ W6.out
                    go_wp2
                    go_ret
                    exact ⟨rfl, BX.out.below⟩
                  | true =>
                    have hnt : nameK G (X : Int) = legT := by rw [GN.out.name]; exact beq_iff_eq.1 hnq
                    have hXG : X < G.length := by rw [GN.out.len, hlc.out]; exact hXl
                    have hPG : P < G.length := by rw [GN.out.len, hlc.out]; exact hPl
                    have hPH : P < HF.length := by rw [F14.out.len]; exact hPG
                    have hkX : kindK G (X : Int) = 1 := by rw [GN.out.kind]; exact hk
                    rcases uns_is F14.out.right hPH with ⟨N4, e4, hu1, hu2, hu3⟩ | ⟨N4, l4, hu1, hu2, hu3, hu4⟩
                    · have CU : Hid (∀ W a3 len3 cap3 M3, NodeRow W a3 len3 cap3 M3 → coreL M3 = HF → smallF M3 → ErrVar W → Calls Tryz.prog 16 #[forV a3 len3 cap3 m, .int .i64 P, .string ⟨#[100, 105, 115, 97, 98, 108, 101, 100]⟩] W (MvPost W m (HF, N4, e4))) := Lib.hid (fun W a3 len3 cap3 M3 h hc hs hg => by
                        have := munset_any a3 len3 cap3 m M3 P ⟨#[100, 105, 115, 97, 98, 108, 101, 100]⟩ W h HM.out hP64.out (by decide) hs hg
                        rwa [disK, hc, hu1] at this)
                      have HU3 := Lib.hid hu3
                      have HPH := Lib.hid hPH
                      have he4 : (e4 != 0) = true := bne_iff_ne.2 hu2
                      clear hu1 hu2 hu3 hnt hXG hPG hPH hkX
                      go_upto_region 18 with (go_at_call 15; (with_reducible refine (CI.out _ BG.out.row (HG.out.keep BX.out.below)).mono ?_); rintro e v2 ⟨a3, len3, cap3, M3, va3, vl3, vc3, rfl, hr3, hc3, hs3, -, hb3, -⟩; have BX := Lib.hid (BX.out.keep hb3); have BH := Lib.hid (MBox.new (m := m) BX.out.below hr3 hc3).box; have BX := Lib.hid (BX.out.keep (below_box v2 (forB a3 len3 cap3 m))); have HS3 := Lib.hid hs3; have W6 := Lib.hid (then14 (then14 W6.out hb3) (box_below v2 (forB a3 len3 cap3 m))); clear z0 z1 g0 g1 hr3 hc3 hs3 hb3; have z0 := BX.out.c0; have z1 := BX.out.c1; have h0 := BH.out.c0; have h1 := BH.out.c1)
                      have c1 := C1.out _ W6.out
                      go_upto_region 20 with fail
                      clear c1
                      go_upto_region 22 with (go_at_call 16; (with_reducible refine (CU.out _ _ _ _ _ BH.out.row BH.out.core HS3.out (HG.out.keep BX.out.below)).mono ?_); rintro e v3 ⟨a4, len4, cap4, M4, va4, vl4, vc4, rfl, hr4, hc4, hs4, -, hb4, -⟩; have BX := Lib.hid (BX.out.keep hb4); have BH := Lib.hid (BH.out.keep hb4); have BW := Lib.hid (MBox.new (m := m) BX.out.below hr4 hc4).box; have BX := Lib.hid (BX.out.keep (below_box v3 (forB a4 len4 cap4 m))); have BH := Lib.hid (BH.out.keep (below_box v3 (forB a4 len4 cap4 m))); have HS4 := Lib.hid hs4; clear z0 z1 h0 h1 hr4 hc4 hs4 hb4; have h0 := BH.out.c0; have h1 := BH.out.c1; have y0 := BW.out.c0; have y1 := BW.out.c1)
                      have hl3 : P < len3 := by
                        have h1 := HPH.out
                        have h2 := BH.out.row.hlen
                        rw [← BH.out.core, coreL_len, h2] at h1
                        exact h1
                      have BXE := Lib.hid BX.out.below
                      obtain ⟨b5, o5, y5, ha5, -, hy5, hat5, -⟩ := BH.out.row.get hl3
                      have d0 := hat5.c0
                      have hke : (y5.core.kind != 1) = true := by
                        have h1 := HU3.out
                        rw [← BH.out.core, kindK_at (coreL_get hy5)] at h1
                        exact bne_iff_ne.2 h1
                      rw [ha5] at h0
                      clear hat5 hy5
                      go_wp2
                      go_ret
                      exact ⟨rfl, BXE.out⟩
                    · obtain ⟨hl1, hl2⟩ := legend_put F14.out hXG hPG hkX hnt hu2 hu3
                      rw [GN.out.dis, hown] at hl2
                      have hXH : X < HF.length := by rw [F14.out.len]; exact hXG
                      have hPW : P < (chgF HF P l4).length := by rw [chg_len]; exact hPH
                      obtain ⟨WF, hWF⟩ : ∃ WF, chgF HF P l4 = WF := ⟨_, rfl⟩
                      rw [hWF] at hu1 hu4 hl2 hPW
                      obtain ⟨wb, hwb⟩ : ∃ wb, barF WF P = wb := ⟨_, rfl⟩
                      obtain ⟨vb, hvb⟩ : ∃ vb, barF HF X = vb := ⟨_, rfl⟩
                      rw [hwb, hvb] at hl2
                      have CU : Hid (∀ W a3 len3 cap3 M3, NodeRow W a3 len3 cap3 M3 → coreL M3 = HF → smallF M3 → ErrVar W → Calls Tryz.prog 16 #[forV a3 len3 cap3 m, .int .i64 P, .string ⟨#[100, 105, 115, 97, 98, 108, 101, 100]⟩] W (MvPost W m (WF, N4, 0))) := Lib.hid (fun W a3 len3 cap3 M3 h hc hs hg => by
                        have := munset_any a3 len3 cap3 m M3 P ⟨#[100, 105, 115, 97, 98, 108, 101, 100]⟩ W h HM.out hP64.out (by decide) hs hg
                        rwa [disK, hc, hu1] at this)
                      have CL : Hid (∀ W a3 len3 cap3 M3, NodeRow W a3 len3 cap3 M3 → coreL M3 = HF → smallF M3 → Calls Tryz.prog 10 #[forV a3 len3 cap3 m, .int .i64 P] W fun e w' => e = .returned (.int .i64 X) ∧ Below W.heap.size W w') := Lib.hid (fun W a3 len3 cap3 M3 h hc hs => by
                        have := legO_any a3 len3 cap3 m M3 P W h HM.out hs
                        rwa [hc, legO_nat F14.out.right hPH, hl1] at this)
                      have CBH : Hid (∀ W a3 len3 cap3 M3, NodeRow W a3 len3 cap3 M3 → coreL M3 = HF → smallF M3 → Calls Tryz.prog 12 #[forV a3 len3 cap3 m, .int .i64 X] W fun e w' => e = .returned (.bool vb) ∧ Below W.heap.size W w') := Lib.hid (fun W a3 len3 cap3 M3 h hc hs => by
                        have := barO_any a3 len3 cap3 m M3 X W h HM.out hs
                        rwa [hc, barO_nat F14.out.right hXH, hvb] at this)
                      have CBW : Hid (∀ W a4 len4 cap4 M4, NodeRow W a4 len4 cap4 M4 → coreL M4 = WF → smallF M4 → Calls Tryz.prog 12 #[forV a4 len4 cap4 m, .int .i64 P] W fun e w' => e = .returned (.bool wb) ∧ Below W.heap.size W w') := Lib.hid (fun W a4 len4 cap4 M4 h hc hs => by
                        have := barO_any a4 len4 cap4 m M4 P W h HM.out hs
                        rwa [hc, barO_nat hu4 hPW, hwb] at this)
                      clear hu1 hu2 hu3 hu4 hnt hXG hPG hPH hkX hl1 hXH hPW hWF hwb hvb
                      go_upto_region 18 with (go_at_call 15; (with_reducible refine (CI.out _ BG.out.row (HG.out.keep BX.out.below)).mono ?_); rintro e v2 ⟨a3, len3, cap3, M3, va3, vl3, vc3, rfl, hr3, hc3, hs3, -, hb3, -⟩; have BX := Lib.hid (BX.out.keep hb3); have BH := Lib.hid (MBox.new (m := m) BX.out.below hr3 hc3).box; have BX := Lib.hid (BX.out.keep (below_box v2 (forB a3 len3 cap3 m))); have HS3 := Lib.hid hs3; have W6 := Lib.hid (then14 (then14 W6.out hb3) (box_below v2 (forB a3 len3 cap3 m))); clear z0 z1 g0 g1 hr3 hc3 hs3 hb3; have z0 := BX.out.c0; have z1 := BX.out.c1; have h0 := BH.out.c0; have h1 := BH.out.c1)
                      have c1 := C1.out _ W6.out
                      go_upto_region 20 with fail
                      clear c1
                      go_upto_region 23 with (go_at_call 16; (with_reducible refine (CU.out _ _ _ _ _ BH.out.row BH.out.core HS3.out (HG.out.keep BX.out.below)).mono ?_); rintro e v3 ⟨a4, len4, cap4, M4, va4, vl4, vc4, rfl, hr4, hc4, hs4, -, hb4, -⟩; have BX := Lib.hid (BX.out.keep hb4); have BH := Lib.hid (BH.out.keep hb4); have BW := Lib.hid (MBox.new (m := m) BX.out.below hr4 hc4).box; have BX := Lib.hid (BX.out.keep (below_box v3 (forB a4 len4 cap4 m))); have BH := Lib.hid (BH.out.keep (below_box v3 (forB a4 len4 cap4 m))); have HS4 := Lib.hid hs4; clear z0 z1 h0 h1 hr4 hc4 hs4 hb4; have h0 := BH.out.c0; have h1 := BH.out.c1; have y0 := BW.out.c0; have y1 := BW.out.c1)
                      cases own with
                      | true =>
                        obtain rfl : vb = true := hl2
                        go_wp2_with (first
                                        | (go_at_call 10; (with_reducible refine (CL.out _ _ _ _ _ BH.out.row BH.out.core HS3.out).mono ?_); rintro e v4 ⟨rfl, hb⟩; have BX := Lib.hid (BX.out.keep hb); have BH := Lib.hid (BH.out.keep hb); have BW := Lib.hid (BW.out.keep hb); clear hb h0 h1 y0 y1; have h0 := BH.out.c0; have h1 := BH.out.c1; have y0 := BW.out.c0; have y1 := BW.out.c1)
                                        | (go_at_call 12; (with_reducible refine (CBH.out _ _ _ _ _ BH.out.row BH.out.core HS3.out).mono ?_); rintro e v5 ⟨rfl, hb⟩; have BX := Lib.hid (BX.out.keep hb); have BW := Lib.hid (BW.out.keep hb); clear hb h0 h1 y0 y1; have y0 := BW.out.c0; have y1 := BW.out.c1)
                                        | (go_at_call 12; (with_reducible refine (CBW.out _ _ _ _ _ BW.out.row BW.out.core HS4.out).mono ?_); rintro e v6 ⟨rfl, hb⟩; have BX := Lib.hid (BX.out.keep hb); clear hb y0 y1))
                        go_ret
                        exact ⟨rfl, BX.out.below⟩
                      | false =>
                        obtain rfl : vb = wb := hl2
                        cases vb with
                        | true =>
                          go_wp2_with (first
                                          | (go_at_call 10; (with_reducible refine (CL.out _ _ _ _ _ BH.out.row BH.out.core HS3.out).mono ?_); rintro e v4 ⟨rfl, hb⟩; have BX := Lib.hid (BX.out.keep hb); have BH := Lib.hid (BH.out.keep hb); have BW := Lib.hid (BW.out.keep hb); clear hb h0 h1 y0 y1; have h0 := BH.out.c0; have h1 := BH.out.c1; have y0 := BW.out.c0; have y1 := BW.out.c1)
                                          | (go_at_call 12; (with_reducible refine (CBH.out _ _ _ _ _ BH.out.row BH.out.core HS3.out).mono ?_); rintro e v5 ⟨rfl, hb⟩; have BX := Lib.hid (BX.out.keep hb); have BW := Lib.hid (BW.out.keep hb); clear hb h0 h1 y0 y1; have y0 := BW.out.c0; have y1 := BW.out.c1)
                                          | (go_at_call 12; (with_reducible refine (CBW.out _ _ _ _ _ BW.out.row BW.out.core HS4.out).mono ?_); rintro e v6 ⟨rfl, hb⟩; have BX := Lib.hid (BX.out.keep hb); clear hb y0 y1))
                          go_ret
                          exact ⟨by simp, BX.out.below⟩
                        | false =>
                          go_wp2_with (first
                                          | (go_at_call 10; (with_reducible refine (CL.out _ _ _ _ _ BH.out.row BH.out.core HS3.out).mono ?_); rintro e v4 ⟨rfl, hb⟩; have BX := Lib.hid (BX.out.keep hb); have BH := Lib.hid (BH.out.keep hb); have BW := Lib.hid (BW.out.keep hb); clear hb h0 h1 y0 y1; have h0 := BH.out.c0; have h1 := BH.out.c1; have y0 := BW.out.c0; have y1 := BW.out.c1)
                                          | (go_at_call 12; (with_reducible refine (CBH.out _ _ _ _ _ BH.out.row BH.out.core HS3.out).mono ?_); rintro e v5 ⟨rfl, hb⟩; have BX := Lib.hid (BX.out.keep hb); have BW := Lib.hid (BW.out.keep hb); clear hb h0 h1 y0 y1; have y0 := BW.out.c0; have y1 := BW.out.c1)
                                          | (go_at_call 12; (with_reducible refine (CBW.out _ _ _ _ _ BW.out.row BW.out.core HS4.out).mono ?_); rintro e v6 ⟨rfl, hb⟩; have BX := Lib.hid (BX.out.keep hb); clear hb y0 y1))
                          go_ret
                          exact ⟨by simp, BX.out.below⟩
                · have he2 : (e3 != 0) = true := bne_iff_ne.2 he
                  clear he hnq
                  go_wp2_with (go_at_call 15; (with_reducible refine (CI.out _ BG.out.row (HG.out.keep BX.out.below)).mono ?_); rintro e v2 ⟨a3, len3, cap3, M3, va3, vl3, vc3, rfl, hr3, hc3, hs3, -, hb3, -⟩; have BX := Lib.hid (BX.out.keep hb3); have BH := Lib.hid (MBox.new (m := m) BX.out.below hr3 hc3).box; have BX := Lib.hid (BX.out.keep (below_box v2 (forB a3 len3 cap3 m))); have HS3 := Lib.hid hs3; have W6 := Lib.hid (then14 (then14 W6.out hb3) (box_below v2 (forB a3 len3 cap3 m))); clear z0 z1 g0 g1 hr3 hc3 hs3 hb3; have z0 := BX.out.c0; have z1 := BX.out.c1; have h0 := BH.out.c0; have h1 := BH.out.c1)
                  go_ret
                  exact ⟨rfl, BX.out.below⟩)
            · have hk1 : y.kN = 0 := by omega
              have hz2 : y.core.kids.head?.getD (-1) = -1 := by
                have := HKL.out
                rw [hk1] at this
                rw [List.length_eq_zero_iff.1 this]
                rfl
              rw [hz2] at CI
              rw [hk1] at y6
              go_upto_region 17 with fail
              clear y6 HKW HYK Y6 hk0
              (
                by_cases he : e3 = 0
                · have F14 := Lib.hid (GN.out.put hk HYC.out HI.out he)
                  subst he
                  cases nq with
                  | false =>
                    go_upto_region 18 with (go_at_call 15; (with_reducible refine (CI.out _ BG.out.row (HG.out.keep BX.out.below)).mono ?_); rintro e v2 ⟨a3, len3, cap3, M3, va3, vl3, vc3, rfl, hr3, hc3, hs3, -, hb3, -⟩; have BX := Lib.hid (BX.out.keep hb3); have BH := Lib.hid (MBox.new (m := m) BX.out.below hr3 hc3).box; have BX := Lib.hid (BX.out.keep (below_box v2 (forB a3 len3 cap3 m))); have HS3 := Lib.hid hs3; have W6 := Lib.hid (then14 (then14 W6.out hb3) (box_below v2 (forB a3 len3 cap3 m))); clear z0 z1 g0 g1 hr3 hc3 hs3 hb3; have z0 := BX.out.c0; have z1 := BX.out.c1; have h0 := BH.out.c0; have h1 := BH.out.c1)
                    have c1 := C1.out _ W6.out
                    go_wp2
                    go_ret
                    exact ⟨rfl, BX.out.below⟩
                  | true =>
                    have hnt : nameK G (X : Int) = legT := by rw [GN.out.name]; exact beq_iff_eq.1 hnq
                    have hXG : X < G.length := by rw [GN.out.len, hlc.out]; exact hXl
                    have hPG : P < G.length := by rw [GN.out.len, hlc.out]; exact hPl
                    have hPH : P < HF.length := by rw [F14.out.len]; exact hPG
                    have hkX : kindK G (X : Int) = 1 := by rw [GN.out.kind]; exact hk
                    rcases uns_is F14.out.right hPH with ⟨N4, e4, hu1, hu2, hu3⟩ | ⟨N4, l4, hu1, hu2, hu3, hu4⟩
                    · have CU : Hid (∀ W a3 len3 cap3 M3, NodeRow W a3 len3 cap3 M3 → coreL M3 = HF → smallF M3 → ErrVar W → Calls Tryz.prog 16 #[forV a3 len3 cap3 m, .int .i64 P, .string ⟨#[100, 105, 115, 97, 98, 108, 101, 100]⟩] W (MvPost W m (HF, N4, e4))) := Lib.hid (fun W a3 len3 cap3 M3 h hc hs hg => by
                        have := munset_any a3 len3 cap3 m M3 P ⟨#[100, 105, 115, 97, 98, 108, 101, 100]⟩ W h HM.out hP64.out (by decide) hs hg
                        rwa [disK, hc, hu1] at this)
                      have HU3 := Lib.hid hu3
                      have HPH := Lib.hid hPH
                      have he4 : (e4 != 0) = true := bne_iff_ne.2 hu2
                      clear hu1 hu2 hu3 hnt hXG hPG hPH hkX
                      go_upto_region 18 with (go_at_call 15; (with_reducible refine (CI.out _ BG.out.row (HG.out.keep BX.out.below)).mono ?_); rintro e v2 ⟨a3, len3, cap3, M3, va3, vl3, vc3, rfl, hr3, hc3, hs3, -, hb3, -⟩; have BX := Lib.hid (BX.out.keep hb3); have BH := Lib.hid (MBox.new (m := m) BX.out.below hr3 hc3).box; have BX := Lib.hid (BX.out.keep (below_box v2 (forB a3 len3 cap3 m))); have HS3 := Lib.hid hs3; have W6 := Lib.hid (then14 (then14 W6.out hb3) (box_below v2 (forB a3 len3 cap3 m))); clear z0 z1 g0 g1 hr3 hc3 hs3 hb3; have z0 := BX.out.c0; have z1 := BX.out.c1; have h0 := BH.out.c0; have h1 := BH.out.c1)
                      have c1 := C1.out _ W6.out
                      go_upto_region 20 with fail
                      clear c1
                      go_upto_region 22 with (go_at_call 16; (with_reducible refine (CU.out _ _ _ _ _ BH.out.row BH.out.core HS3.out (HG.out.keep BX.out.below)).mono ?_); rintro e v3 ⟨a4, len4, cap4, M4, va4, vl4, vc4, rfl, hr4, hc4, hs4, -, hb4, -⟩; have BX := Lib.hid (BX.out.keep hb4); have BH := Lib.hid (BH.out.keep hb4); have BW := Lib.hid (MBox.new (m := m) BX.out.below hr4 hc4).box; have BX := Lib.hid (BX.out.keep (below_box v3 (forB a4 len4 cap4 m))); have BH := Lib.hid (BH.out.keep (below_box v3 (forB a4 len4 cap4 m))); have HS4 := Lib.hid hs4; clear z0 z1 h0 h1 hr4 hc4 hs4 hb4; have h0 := BH.out.c0; have h1 := BH.out.c1; have y0 := BW.out.c0; have y1 := BW.out.c1)
                      have hl3 : P < len3 := by
                        have h1 := HPH.out
                        have h2 := BH.out.row.hlen
                        rw [← BH.out.core, coreL_len, h2] at h1
                        exact h1
                      have BXE := Lib.hid BX.out.below
                      obtain ⟨b5, o5, y5, ha5, -, hy5, hat5, -⟩ := BH.out.row.get hl3
                      have d0 := hat5.c0
                      have hke : (y5.core.kind != 1) = true := by
                        have h1 := HU3.out
                        rw [← BH.out.core, kindK_at (coreL_get hy5)] at h1
                        exact bne_iff_ne.2 h1
                      rw [ha5] at h0
                      clear hat5 hy5
                      go_wp2
                      go_ret
                      exact ⟨rfl, BXE.out⟩
                    · obtain ⟨hl1, hl2⟩ := legend_put F14.out hXG hPG hkX hnt hu2 hu3
                      rw [GN.out.dis, hown] at hl2
                      have hXH : X < HF.length := by rw [F14.out.len]; exact hXG
                      have hPW : P < (chgF HF P l4).length := by rw [chg_len]; exact hPH
                      obtain ⟨WF, hWF⟩ : ∃ WF, chgF HF P l4 = WF := ⟨_, rfl⟩
                      rw [hWF] at hu1 hu4 hl2 hPW
                      obtain ⟨wb, hwb⟩ : ∃ wb, barF WF P = wb := ⟨_, rfl⟩
                      obtain ⟨vb, hvb⟩ : ∃ vb, barF HF X = vb := ⟨_, rfl⟩
                      rw [hwb, hvb] at hl2
                      have CU : Hid (∀ W a3 len3 cap3 M3, NodeRow W a3 len3 cap3 M3 → coreL M3 = HF → smallF M3 → ErrVar W → Calls Tryz.prog 16 #[forV a3 len3 cap3 m, .int .i64 P, .string ⟨#[100, 105, 115, 97, 98, 108, 101, 100]⟩] W (MvPost W m (WF, N4, 0))) := Lib.hid (fun W a3 len3 cap3 M3 h hc hs hg => by
                        have := munset_any a3 len3 cap3 m M3 P ⟨#[100, 105, 115, 97, 98, 108, 101, 100]⟩ W h HM.out hP64.out (by decide) hs hg
                        rwa [disK, hc, hu1] at this)
                      have CL : Hid (∀ W a3 len3 cap3 M3, NodeRow W a3 len3 cap3 M3 → coreL M3 = HF → smallF M3 → Calls Tryz.prog 10 #[forV a3 len3 cap3 m, .int .i64 P] W fun e w' => e = .returned (.int .i64 X) ∧ Below W.heap.size W w') := Lib.hid (fun W a3 len3 cap3 M3 h hc hs => by
                        have := legO_any a3 len3 cap3 m M3 P W h HM.out hs
                        rwa [hc, legO_nat F14.out.right hPH, hl1] at this)
                      have CBH : Hid (∀ W a3 len3 cap3 M3, NodeRow W a3 len3 cap3 M3 → coreL M3 = HF → smallF M3 → Calls Tryz.prog 12 #[forV a3 len3 cap3 m, .int .i64 X] W fun e w' => e = .returned (.bool vb) ∧ Below W.heap.size W w') := Lib.hid (fun W a3 len3 cap3 M3 h hc hs => by
                        have := barO_any a3 len3 cap3 m M3 X W h HM.out hs
                        rwa [hc, barO_nat F14.out.right hXH, hvb] at this)
                      have CBW : Hid (∀ W a4 len4 cap4 M4, NodeRow W a4 len4 cap4 M4 → coreL M4 = WF → smallF M4 → Calls Tryz.prog 12 #[forV a4 len4 cap4 m, .int .i64 P] W fun e w' => e = .returned (.bool wb) ∧ Below W.heap.size W w') := Lib.hid (fun W a4 len4 cap4 M4 h hc hs => by
                        have := barO_any a4 len4 cap4 m M4 P W h HM.out hs
                        rwa [hc, barO_nat hu4 hPW, hwb] at this)
                      clear hu1 hu2 hu3 hu4 hnt hXG hPG hPH hkX hl1 hXH hPW hWF hwb hvb
                      go_upto_region 18 with (go_at_call 15; (with_reducible refine (CI.out _ BG.out.row (HG.out.keep BX.out.below)).mono ?_); rintro e v2 ⟨a3, len3, cap3, M3, va3, vl3, vc3, rfl, hr3, hc3, hs3, -, hb3, -⟩; have BX := Lib.hid (BX.out.keep hb3); have BH := Lib.hid (MBox.new (m := m) BX.out.below hr3 hc3).box; have BX := Lib.hid (BX.out.keep (below_box v2 (forB a3 len3 cap3 m))); have HS3 := Lib.hid hs3; have W6 := Lib.hid (then14 (then14 W6.out hb3) (box_below v2 (forB a3 len3 cap3 m))); clear z0 z1 g0 g1 hr3 hc3 hs3 hb3; have z0 := BX.out.c0; have z1 := BX.out.c1; have h0 := BH.out.c0; have h1 := BH.out.c1)
                      have c1 := C1.out _ W6.out
                      go_upto_region 20 with fail
                      clear c1
                      go_upto_region 23 with (go_at_call 16; (with_reducible refine (CU.out _ _ _ _ _ BH.out.row BH.out.core HS3.out (HG.out.keep BX.out.below)).mono ?_); rintro e v3 ⟨a4, len4, cap4, M4, va4, vl4, vc4, rfl, hr4, hc4, hs4, -, hb4, -⟩; have BX := Lib.hid (BX.out.keep hb4); have BH := Lib.hid (BH.out.keep hb4); have BW := Lib.hid (MBox.new (m := m) BX.out.below hr4 hc4).box; have BX := Lib.hid (BX.out.keep (below_box v3 (forB a4 len4 cap4 m))); have BH := Lib.hid (BH.out.keep (below_box v3 (forB a4 len4 cap4 m))); have HS4 := Lib.hid hs4; clear z0 z1 h0 h1 hr4 hc4 hs4 hb4; have h0 := BH.out.c0; have h1 := BH.out.c1; have y0 := BW.out.c0; have y1 := BW.out.c1)
                      cases own with
                      | true =>
                        obtain rfl : vb = true := hl2
                        go_wp2_with (first
                                        | (go_at_call 10; (with_reducible refine (CL.out _ _ _ _ _ BH.out.row BH.out.core HS3.out).mono ?_); rintro e v4 ⟨rfl, hb⟩; have BX := Lib.hid (BX.out.keep hb); have BH := Lib.hid (BH.out.keep hb); have BW := Lib.hid (BW.out.keep hb); clear hb h0 h1 y0 y1; have h0 := BH.out.c0; have h1 := BH.out.c1; have y0 := BW.out.c0; have y1 := BW.out.c1)
                                        | (go_at_call 12; (with_reducible refine (CBH.out _ _ _ _ _ BH.out.row BH.out.core HS3.out).mono ?_); rintro e v5 ⟨rfl, hb⟩; have BX := Lib.hid (BX.out.keep hb); have BW := Lib.hid (BW.out.keep hb); clear hb h0 h1 y0 y1; have y0 := BW.out.c0; have y1 := BW.out.c1)
                                        | (go_at_call 12; (with_reducible refine (CBW.out _ _ _ _ _ BW.out.row BW.out.core HS4.out).mono ?_); rintro e v6 ⟨rfl, hb⟩; have BX := Lib.hid (BX.out.keep hb); clear hb y0 y1))
                        go_ret
                        exact ⟨rfl, BX.out.below⟩
                      | false =>
                        obtain rfl : vb = wb := hl2
                        cases vb with
                        | true =>
                          go_wp2_with (first
                                          | (go_at_call 10; (with_reducible refine (CL.out _ _ _ _ _ BH.out.row BH.out.core HS3.out).mono ?_); rintro e v4 ⟨rfl, hb⟩; have BX := Lib.hid (BX.out.keep hb); have BH := Lib.hid (BH.out.keep hb); have BW := Lib.hid (BW.out.keep hb); clear hb h0 h1 y0 y1; have h0 := BH.out.c0; have h1 := BH.out.c1; have y0 := BW.out.c0; have y1 := BW.out.c1)
                                          | (go_at_call 12; (with_reducible refine (CBH.out _ _ _ _ _ BH.out.row BH.out.core HS3.out).mono ?_); rintro e v5 ⟨rfl, hb⟩; have BX := Lib.hid (BX.out.keep hb); have BW := Lib.hid (BW.out.keep hb); clear hb h0 h1 y0 y1; have y0 := BW.out.c0; have y1 := BW.out.c1)
                                          | (go_at_call 12; (with_reducible refine (CBW.out _ _ _ _ _ BW.out.row BW.out.core HS4.out).mono ?_); rintro e v6 ⟨rfl, hb⟩; have BX := Lib.hid (BX.out.keep hb); clear hb y0 y1))
                          go_ret
                          exact ⟨by simp, BX.out.below⟩
                        | false =>
                          go_wp2_with (first
                                          | (go_at_call 10; (with_reducible refine (CL.out _ _ _ _ _ BH.out.row BH.out.core HS3.out).mono ?_); rintro e v4 ⟨rfl, hb⟩; have BX := Lib.hid (BX.out.keep hb); have BH := Lib.hid (BH.out.keep hb); have BW := Lib.hid (BW.out.keep hb); clear hb h0 h1 y0 y1; have h0 := BH.out.c0; have h1 := BH.out.c1; have y0 := BW.out.c0; have y1 := BW.out.c1)
                                          | (go_at_call 12; (with_reducible refine (CBH.out _ _ _ _ _ BH.out.row BH.out.core HS3.out).mono ?_); rintro e v5 ⟨rfl, hb⟩; have BX := Lib.hid (BX.out.keep hb); have BW := Lib.hid (BW.out.keep hb); clear hb h0 h1 y0 y1; have y0 := BW.out.c0; have y1 := BW.out.c1)
                                          | (go_at_call 12; (with_reducible refine (CBW.out _ _ _ _ _ BW.out.row BW.out.core HS4.out).mono ?_); rintro e v6 ⟨rfl, hb⟩; have BX := Lib.hid (BX.out.keep hb); clear hb y0 y1))
                          go_ret
                          exact ⟨by simp, BX.out.below⟩
                · have he2 : (e3 != 0) = true := bne_iff_ne.2 he
                  clear he hnq
                  go_wp2_with (go_at_call 15; (with_reducible refine (CI.out _ BG.out.row (HG.out.keep BX.out.below)).mono ?_); rintro e v2 ⟨a3, len3, cap3, M3, va3, vl3, vc3, rfl, hr3, hc3, hs3, -, hb3, -⟩; have BX := Lib.hid (BX.out.keep hb3); have BH := Lib.hid (MBox.new (m := m) BX.out.below hr3 hc3).box; have BX := Lib.hid (BX.out.keep (below_box v2 (forB a3 len3 cap3 m))); have HS3 := Lib.hid hs3; have W6 := Lib.hid (then14 (then14 W6.out hb3) (box_below v2 (forB a3 len3 cap3 m))); clear z0 z1 g0 g1 hr3 hc3 hs3 hb3; have z0 := BX.out.c0; have z1 := BX.out.c1; have h0 := BH.out.c0; have h1 := BH.out.c1)
                  go_ret
                  exact ⟨rfl, BX.out.below⟩)
          · have hne1 : (nx.core.kind != 1) = true := bne_iff_ne.2 hk
            have hne2 : (nx.core.kind == 1) = false := beq_eq_false_iff_ne.2 hk
            have hbf : barF (coreL L) X = false := by
              cases hq : barF (coreL L) X with
              | false => rfl
              | true =>
                have := bar_kind hq
                rw [kindK_at HXC.out] at this
                exact absurd this hk
            have CBF : Hid (∀ W, NodeRow W (some ⟨b, off, none⟩) lg cap L → Calls Tryz.prog 12 #[forV (some ⟨b, off, none⟩) lg cap m, .int .i64 X] W fun e w' => e = .returned (.bool false) ∧ Below W.heap.size W w') := Lib.hid (fun W h => by
              have := barO_any _ lg cap m L X W h HM.out SM.out
              rwa [barO_nat hr.out (by rw [hlc.out]; exact hXl), hbf] at this)
            clear hk hbf
            go_wp2_with (go_at_call 12; (with_reducible refine (CBF.out _ BX.out.row).mono ?_); rintro e v1 ⟨rfl, hb⟩; have BX := Lib.hid (BX.out.keep hb); clear hb z0 z1 g0 g1)
            go_ret
            exact ⟨rfl, BX.out.below⟩)
      · have GN := Lib.hid hgn
        have CR : Hid (∀ W, NodeRow W (some ⟨b, off, none⟩) len cap L → ErrVar W → Calls Tryz.prog 14 #[forV (some ⟨b, off, none⟩) len cap m, .int .i64 X] W (MvPost W m (G, N2, 0))) := Lib.hid (fun W h1 h2 => by
          have := mremove_any _ len cap m L X W h1 HM.out hX64.out SM.out h2
          rwa [hrem] at this)
        clear hrem hgn
        go_upto_region 10 with (go_at_call 14; (with_reducible refine (CR.out _ BX.out.row (HG.out.keep BX.out.below)).mono ?_); rintro e w5 ⟨ag, lg, cg, MG, va, vl, vc, rfl, hr2, hc2, hs2, -, hb2, -⟩; have BX := Lib.hid (BX.out.keep hb2); have BG := Lib.hid (MBox.new (m := m) BX.out.below hr2 hc2).box; have BX := Lib.hid (BX.out.keep (below_box w5 (forB ag lg cg m))); have HSG := Lib.hid hs2; clear z0 z1 hr2 hc2 hs2 hb2)
        obtain ⟨wz, hwz⟩ : ∃ wz, w5.alloc (forB ag lg cg m) = wz := ⟨_, rfl⟩
        obtain ⟨qz, hqz⟩ : ∃ qz, w5.heap.size = qz := ⟨_, rfl⟩
        rw [hwz] at BX BG ⊢
        rw [hqz] at BG ⊢
        clear hwz hqz CR C4
        (
          have z0 := BX.out.c0
          have z1 := BX.out.c1
          have g0 := BG.out.c0
          have g1 := BG.out.c1
          obtain ⟨b1, off1, x1, hab, hb1, hx1, hat1, -⟩ := BX.out.row.get hXl
          injection hab with hab
          injection hab with hab1 hab2
          subst hab1
          subst hab2
          obtain rfl : nx = x1 := Option.some.inj (hgx.symm.trans hx1)
          have C0 := Lib.hid (stays14 hat1.c0 hb1)
          have C1 := Lib.hid (stays14 hat1.c1 hb1)
          have c0 := hat1.c0
          obtain rfl : lg = len := by
            have h1 := GN.out.len
            have h2 := BG.out.row.hlen
            rw [hlc.out, ← BG.out.core, coreL_len, h2] at h1
            exact h1
          have CBG : Hid (∀ W, NodeRow W ag lg cg MG → Calls Tryz.prog 12 #[forV ag lg cg m, .int .i64 X] W fun e w' => e = .returned (.bool (barF G X)) ∧ Below W.heap.size W w') := Lib.hid (fun W h => by
            have := barO_any ag lg cg m MG X W h HM.out HSG.out
            rwa [BG.out.core, barO_nat GN.out.right (by rw [GN.out.len, hlc.out]; exact hXl)] at this)
          clear hat1 hx1 hb1
          by_cases hk : nx.core.kind = 1
          · rw [GN.out.bar hk, hown] at CBG
            obtain ⟨bg, og, u, hag, hbg, hu, hatu, -⟩ := BG.out.row.get hXl
            have u5 := hatu.c5
            have HUP : u.core.parent = -1 := by
              obtain ⟨d, h1, _, _, _, h2⟩ := GN.out.at_
              have h3 := coreL_get hu
              rw [BG.out.core, h1] at h3
              rw [← Option.some.inj h3]
              exact h2
            rw [HUP] at u5
            obtain ⟨bp, op, y, hag2, hbp, hy, haty, hoky⟩ := BG.out.row.get hPl
            rw [hag] at hag2
            injection hag2 with hag2
            injection hag2 with hag21 hag22
            subst hag21
            subst hag22
            subst hag
            have Y6 := Lib.hid (stays14 haty.c6 hbp)
            have HYK := Lib.hid hoky.kids
            have HYC : Hid (G[P]? = some y.core) := Lib.hid (by
              have := coreL_get hy
              rwa [BG.out.core] at this)
            obtain ⟨HF, N3, e3, hI⟩ : ∃ HF N3 e3, insZ m G X P (y.core.kids.head?.getD (-1)) = (HF, N3, e3) := ⟨_, _, _, rfl⟩
            have HI := Lib.hid hI
            have HFB : Hid (In64 (y.core.kids.head?.getD (-1))) := Lib.hid (by
              cases hkk : y.core.kids with
              | nil => exact ⟨by decide, by decide⟩
              | cons z r => exact hoky.kids.inb z (by rw [hkk]; exact List.mem_cons_self))
            have CI : Hid (∀ W, NodeRow W (some ⟨bg, og, none⟩) lg cg MG → ErrVar W → Calls Tryz.prog 15 #[forV (some ⟨bg, og, none⟩) lg cg m, .int .i64 X, .int .i64 P, .int .i64 (y.core.kids.head?.getD (-1))] W (MvPost W m (HF, N3, e3))) := Lib.hid (fun W h1 h2 => by
              have := minsert_any _ lg cg m MG X P (y.core.kids.head?.getD (-1)) W h1 HM.out hX64.out hP64.out HFB.out HSG.out h2
              rwa [BG.out.core, hI] at this)
            have HKL := Lib.hid hoky.kids.hlen
            have hkn := hoky.kids.len64
            have hne1 : (nx.core.kind != 1) = false := by rw [hk]; rfl
            have hoo : (own != own) = false := by cases own <;> rfl
            obtain ⟨nq, hnq⟩ : ∃ q, (nx.core.name.toList == [108, 101, 103, 101, 110, 100]) = q := ⟨_, rfl⟩
            have W6 := Lib.hid (Below.refl wz.heap.size wz)
            clear hatu hu haty hy hoky hI HUP
            go_upto_region 15 with (go_at_call 12; (with_reducible refine (CBG.out _ BG.out.row).mono ?_); rintro e v1 ⟨rfl, hb⟩; have BX := Lib.hid (BX.out.keep hb); have BG := Lib.hid (BG.out.keep hb); have W6 := Lib.hid (W6.out.trans (hb.mono W6.out.size)); clear hb z0 z1 g0 g1 c0 u5; have z0 := BX.out.c0; have z1 := BX.out.c1; have g0 := BG.out.c0; have g1 := BG.out.c1)
            have y6 := Y6.out _ W6.out
            have HKW := Lib.hid (HYK.out.below W6.out)
            clear CBG hoo
            by_cases hk0 : 0 < y.kN
            · obtain ⟨bk, okk, z, hka, hbk, hz, hcz, -⟩ := HKW.out.get hk0
              rw [hka] at y6
              have hz2 : y.core.kids.head?.getD (-1) = z := by rw [List.head?_eq_getElem?, hz]; rfl
              rw [hz2] at CI
              rw [Nat.add_zero] at hcz
              clear hz hbk hka
              go_upto_region 17 with fail
              clear y6 HKW HYK Y6 hcz hk0
              (
                by_cases he : e3 = 0
                · have F14 := Lib.hid (GN.out.put hk HYC.out HI.out he)
                  subst he
                  cases nq with
                  | false =>
                    go_upto_region 18 with (go_at_call 15; (with_reducible refine (CI.out _ BG.out.row (HG.out.keep BX.out.below)).mono ?_); rintro e v2 ⟨a3, len3, cap3, M3, va3, vl3, vc3, rfl, hr3, hc3, hs3, -, hb3, -⟩; have BX := Lib.hid (BX.out.keep hb3); have BH := Lib.hid (MBox.new (m := m) BX.out.below hr3 hc3).box; have BX := Lib.hid (BX.out.keep (below_box v2 (forB a3 len3 cap3 m))); have HS3 := Lib.hid hs3; have W6 := Lib.hid (then14 (then14 W6.out hb3) (box_below v2 (forB a3 len3 cap3 m))); clear z0 z1 g0 g1 hr3 hc3 hs3 hb3; have z0 := BX.out.c0; have z1 := BX.out.c1; have h0 := BH.out.c0; have h1 := BH.out.c1)
                    have c1 := C1.out _ W6.out
                    go_wp2
                    go_ret
                    exact ⟨rfl, BX.out.below⟩
                  | true =>
                    have hnt : nameK G (X : Int) = legT := by rw [GN.out.name]; exact beq_iff_eq.1 hnq
                    have hXG : X < G.length := by rw [GN.out.len, hlc.out]; exact hXl
                    have hPG : P < G.length := by rw [GN.out.len, hlc.out]; exact hPl
                    have hPH : P < HF.length := by rw [F14.out.len]; exact hPG
                    have hkX : kindK G (X : Int) = 1 := by rw [GN.out.kind]; exact hk
                    rcases uns_is F14.out.right hPH with ⟨N4, e4, hu1, hu2, hu3⟩ | ⟨N4, l4, hu1, hu2, hu3, hu4⟩
                    · have CU : Hid (∀ W a3 len3 cap3 M3, NodeRow W a3 len3 cap3 M3 → coreL M3 = HF → smallF M3 → ErrVar W → Calls Tryz.prog 16 #[forV a3 len3 cap3 m, .int .i64 P, .string ⟨#[100, 105, 115, 97, 98, 108, 101, 100]⟩] W (MvPost W m (HF, N4, e4))) := Lib.hid (fun W a3 len3 cap3 M3 h hc hs hg => by
                        have := munset_any a3 len3 cap3 m M3 P ⟨#[100, 105, 115, 97, 98, 108, 101, 100]⟩ W h HM.out hP64.out (by decide) hs hg
                        rwa [disK, hc, hu1] at this)
                      have HU3 := Lib.hid hu3
                      have HPH := Lib.hid hPH
                      have he4 : (e4 != 0) = true := bne_iff_ne.2 hu2
                      clear hu1 hu2 hu3 hnt hXG hPG hPH hkX
                      go_upto_region 18 with (go_at_call 15; (with_reducible refine (CI.out _ BG.out.row (HG.out.keep BX.out.below)).mono ?_); rintro e v2 ⟨a3, len3, cap3, M3, va3, vl3, vc3, rfl, hr3, hc3, hs3, -, hb3, -⟩; have BX := Lib.hid (BX.out.keep hb3); have BH := Lib.hid (MBox.new (m := m) BX.out.below hr3 hc3).box; have BX := Lib.hid (BX.out.keep (below_box v2 (forB a3 len3 cap3 m))); have HS3 := Lib.hid hs3; have W6 := Lib.hid (then14 (then14 W6.out hb3) (box_below v2 (forB a3 len3 cap3 m))); clear z0 z1 g0 g1 hr3 hc3 hs3 hb3; have z0 := BX.out.c0; have z1 := BX.out.c1; have h0 := BH.out.c0; have h1 := BH.out.c1)
                      have c1 := C1.out _ W6.out
                      go_upto_region 20 with fail
                      clear c1
                      go_upto_region 22 with (go_at_call 16; (with_reducible refine (CU.out _ _ _ _ _ BH.out.row BH.out.core HS3.out (HG.out.keep BX.out.below)).mono ?_); rintro e v3 ⟨a4, len4, cap4, M4, va4, vl4, vc4, rfl, hr4, hc4, hs4, -, hb4, -⟩; have BX := Lib.hid (BX.out.keep hb4); have BH := Lib.hid (BH.out.keep hb4); have BW := Lib.hid (MBox.new (m := m) BX.out.below hr4 hc4).box; have BX := Lib.hid (BX.out.keep (below_box v3 (forB a4 len4 cap4 m))); have BH := Lib.hid (BH.out.keep (below_box v3 (forB a4 len4 cap4 m))); have HS4 := Lib.hid hs4; clear z0 z1 h0 h1 hr4 hc4 hs4 hb4; have h0 := BH.out.c0; have h1 := BH.out.c1; have y0 := BW.out.c0; have y1 := BW.out.c1)
                      have hl3 : P < len3 := by
                        have h1 := HPH.out
                        have h2 := BH.out.row.hlen
                        rw [← BH.out.core, coreL_len, h2] at h1
                        exact h1
                      have BXE := Lib.hid BX.out.below
                      obtain ⟨b5, o5, y5, ha5, -, hy5, hat5, -⟩ := BH.out.row.get hl3
                      have d0 := hat5.c0
                      have hke : (y5.core.kind != 1) = true := by
                        have h1 := HU3.out
                        rw [← BH.out.core, kindK_at (coreL_get hy5)] at h1
                        exact bne_iff_ne.2 h1
                      rw [ha5] at h0
                      clear hat5 hy5
                      go_wp2
                      go_ret
                      exact ⟨rfl, BXE.out⟩
                    · obtain ⟨hl1, hl2⟩ := legend_put F14.out hXG hPG hkX hnt hu2 hu3
                      rw [GN.out.dis, hown] at hl2
                      have hXH : X < HF.length := by rw [F14.out.len]; exact hXG
                      have hPW : P < (chgF HF P l4).length := by rw [chg_len]; exact hPH
                      obtain ⟨WF, hWF⟩ : ∃ WF, chgF HF P l4 = WF := ⟨_, rfl⟩
                      rw [hWF] at hu1 hu4 hl2 hPW
                      obtain ⟨wb, hwb⟩ : ∃ wb, barF WF P = wb := ⟨_, rfl⟩
                      obtain ⟨vb, hvb⟩ : ∃ vb, barF HF X = vb := ⟨_, rfl⟩
                      rw [hwb, hvb] at hl2
                      have CU : Hid (∀ W a3 len3 cap3 M3, NodeRow W a3 len3 cap3 M3 → coreL M3 = HF → smallF M3 → ErrVar W → Calls Tryz.prog 16 #[forV a3 len3 cap3 m, .int .i64 P, .string ⟨#[100, 105, 115, 97, 98, 108, 101, 100]⟩] W (MvPost W m (WF, N4, 0))) := Lib.hid (fun W a3 len3 cap3 M3 h hc hs hg => by
                        have := munset_any a3 len3 cap3 m M3 P ⟨#[100, 105, 115, 97, 98, 108, 101, 100]⟩ W h HM.out hP64.out (by decide) hs hg
                        rwa [disK, hc, hu1] at this)
                      have CL : Hid (∀ W a3 len3 cap3 M3, NodeRow W a3 len3 cap3 M3 → coreL M3 = HF → smallF M3 → Calls Tryz.prog 10 #[forV a3 len3 cap3 m, .int .i64 P] W fun e w' => e = .returned (.int .i64 X) ∧ Below W.heap.size W w') := Lib.hid (fun W a3 len3 cap3 M3 h hc hs => by
                        have := legO_any a3 len3 cap3 m M3 P W h HM.out hs
                        rwa [hc, legO_nat F14.out.right hPH, hl1] at this)
                      have CBH : Hid (∀ W a3 len3 cap3 M3, NodeRow W a3 len3 cap3 M3 → coreL M3 = HF → smallF M3 → Calls Tryz.prog 12 #[forV a3 len3 cap3 m, .int .i64 X] W fun e w' => e = .returned (.bool vb) ∧ Below W.heap.size W w') := Lib.hid (fun W a3 len3 cap3 M3 h hc hs => by
                        have := barO_any a3 len3 cap3 m M3 X W h HM.out hs
                        rwa [hc, barO_nat F14.out.right hXH, hvb] at this)
                      have CBW : Hid (∀ W a4 len4 cap4 M4, NodeRow W a4 len4 cap4 M4 → coreL M4 = WF → smallF M4 → Calls Tryz.prog 12 #[forV a4 len4 cap4 m, .int .i64 P] W fun e w' => e = .returned (.bool wb) ∧ Below W.heap.size W w') := Lib.hid (fun W a4 len4 cap4 M4 h hc hs => by
                        have := barO_any a4 len4 cap4 m M4 P W h HM.out hs
                        rwa [hc, barO_nat hu4 hPW, hwb] at this)
                      clear hu1 hu2 hu3 hu4 hnt hXG hPG hPH hkX hl1 hXH hPW hWF hwb hvb
                      go_upto_region 18 with (go_at_call 15; (with_reducible refine (CI.out _ BG.out.row (HG.out.keep BX.out.below)).mono ?_); rintro e v2 ⟨a3, len3, cap3, M3, va3, vl3, vc3, rfl, hr3, hc3, hs3, -, hb3, -⟩; have BX := Lib.hid (BX.out.keep hb3); have BH := Lib.hid (MBox.new (m := m) BX.out.below hr3 hc3).box; have BX := Lib.hid (BX.out.keep (below_box v2 (forB a3 len3 cap3 m))); have HS3 := Lib.hid hs3; have W6 := Lib.hid (then14 (then14 W6.out hb3) (box_below v2 (forB a3 len3 cap3 m))); clear z0 z1 g0 g1 hr3 hc3 hs3 hb3; have z0 := BX.out.c0; have z1 := BX.out.c1; have h0 := BH.out.c0; have h1 := BH.out.c1)
                      have c1 := C1.out _ W6.out
                      go_upto_region 20 with fail
                      clear c1
                      go_upto_region 23 with (go_at_call 16; (with_reducible refine (CU.out _ _ _ _ _ BH.out.row BH.out.core HS3.out (HG.out.keep BX.out.below)).mono ?_); rintro e v3 ⟨a4, len4, cap4, M4, va4, vl4, vc4, rfl, hr4, hc4, hs4, -, hb4, -⟩; have BX := Lib.hid (BX.out.keep hb4); have BH := Lib.hid (BH.out.keep hb4); have BW := Lib.hid (MBox.new (m := m) BX.out.below hr4 hc4).box; have BX := Lib.hid (BX.out.keep (below_box v3 (forB a4 len4 cap4 m))); have BH := Lib.hid (BH.out.keep (below_box v3 (forB a4 len4 cap4 m))); have HS4 := Lib.hid hs4; clear z0 z1 h0 h1 hr4 hc4 hs4 hb4; have h0 := BH.out.c0; have h1 := BH.out.c1; have y0 := BW.out.c0; have y1 := BW.out.c1)
                      cases own with
                      | true =>
                        obtain rfl : vb = true := hl2
                        go_wp2_with (first
                                        | (go_at_call 10; (with_reducible refine (CL.out _ _ _ _ _ BH.out.row BH.out.core HS3.out).mono ?_); rintro e v4 ⟨rfl, hb⟩; have BX := Lib.hid (BX.out.keep hb); have BH := Lib.hid (BH.out.keep hb); have BW := Lib.hid (BW.out.keep hb); clear hb h0 h1 y0 y1; have h0 := BH.out.c0; have h1 := BH.out.c1; have y0 := BW.out.c0; have y1 := BW.out.c1)
                                        | (go_at_call 12; (with_reducible refine (CBH.out _ _ _ _ _ BH.out.row BH.out.core HS3.out).mono ?_); rintro e v5 ⟨rfl, hb⟩; have BX := Lib.hid (BX.out.keep hb); have BW := Lib.hid (BW.out.keep hb); clear hb h0 h1 y0 y1; have y0 := BW.out.c0; have y1 := BW.out.c1)
                                        | (go_at_call 12; (with_reducible refine (CBW.out _ _ _ _ _ BW.out.row BW.out.core HS4.out).mono ?_); rintro e v6 ⟨rfl, hb⟩; have BX := Lib.hid (BX.out.keep hb); clear hb y0 y1))
                        go_ret
                        exact ⟨rfl, BX.out.below⟩
                      | false =>
                        obtain rfl : vb = wb := hl2
                        cases vb with
                        | true =>
                          go_wp2_with (first
                                          | (go_at_call 10; (with_reducible refine (CL.out _ _ _ _ _ BH.out.row BH.out.core HS3.out).mono ?_); rintro e v4 ⟨rfl, hb⟩; have BX := Lib.hid (BX.out.keep hb); have BH := Lib.hid (BH.out.keep hb); have BW := Lib.hid (BW.out.keep hb); clear hb h0 h1 y0 y1; have h0 := BH.out.c0; have h1 := BH.out.c1; have y0 := BW.out.c0; have y1 := BW.out.c1)
                                          | (go_at_call 12; (with_reducible refine (CBH.out _ _ _ _ _ BH.out.row BH.out.core HS3.out).mono ?_); rintro e v5 ⟨rfl, hb⟩; have BX := Lib.hid (BX.out.keep hb); have BW := Lib.hid (BW.out.keep hb); clear hb h0 h1 y0 y1; have y0 := BW.out.c0; have y1 := BW.out.c1)
                                          | (go_at_call 12; (with_reducible refine (CBW.out _ _ _ _ _ BW.out.row BW.out.core HS4.out).mono ?_); rintro e v6 ⟨rfl, hb⟩; have BX := Lib.hid (BX.out.keep hb); clear hb y0 y1))
                          go_ret
                          exact ⟨by simp, BX.out.below⟩
                        | false =>
                          go_wp2_with (first
                                          | (go_at_call 10; (with_reducible refine (CL.out _ _ _ _ _ BH.out.row BH.out.core HS3.out).mono ?_); rintro e v4 ⟨rfl, hb⟩; have BX := Lib.hid (BX.out.keep hb); have BH := Lib.hid (BH.out.keep hb); have BW := Lib.hid (BW.out.keep hb); clear hb h0 h1 y0 y1; have h0 := BH.out.c0; have h1 := BH.out.c1; have y0 := BW.out.c0; have y1 := BW.out.c1)
                                          | (go_at_call 12; (with_reducible refine (CBH.out _ _ _ _ _ BH.out.row BH.out.core HS3.out).mono ?_); rintro e v5 ⟨rfl, hb⟩; have BX := Lib.hid (BX.out.keep hb); have BW := Lib.hid (BW.out.keep hb); clear hb h0 h1 y0 y1; have y0 := BW.out.c0; have y1 := BW.out.c1)
                                          | (go_at_call 12; (with_reducible refine (CBW.out _ _ _ _ _ BW.out.row BW.out.core HS4.out).mono ?_); rintro e v6 ⟨rfl, hb⟩; have BX := Lib.hid (BX.out.keep hb); clear hb y0 y1))
                          go_ret
                          exact ⟨by simp, BX.out.below⟩
                · have he2 : (e3 != 0) = true := bne_iff_ne.2 he
                  clear he hnq
                  go_wp2_with (go_at_call 15; (with_reducible refine (CI.out _ BG.out.row (HG.out.keep BX.out.below)).mono ?_); rintro e v2 ⟨a3, len3, cap3, M3, va3, vl3, vc3, rfl, hr3, hc3, hs3, -, hb3, -⟩; have BX := Lib.hid (BX.out.keep hb3); have BH := Lib.hid (MBox.new (m := m) BX.out.below hr3 hc3).box; have BX := Lib.hid (BX.out.keep (below_box v2 (forB a3 len3 cap3 m))); have HS3 := Lib.hid hs3; have W6 := Lib.hid (then14 (then14 W6.out hb3) (box_below v2 (forB a3 len3 cap3 m))); clear z0 z1 g0 g1 hr3 hc3 hs3 hb3; have z0 := BX.out.c0; have z1 := BX.out.c1; have h0 := BH.out.c0; have h1 := BH.out.c1)
                  go_ret
                  exact ⟨rfl, BX.out.below⟩)
            · have hk1 : y.kN = 0 := by omega
              have hz2 : y.core.kids.head?.getD (-1) = -1 := by
                have := HKL.out
                rw [hk1] at this
                rw [List.length_eq_zero_iff.1 this]
                rfl
              rw [hz2] at CI
              rw [hk1] at y6
              go_upto_region 17 with fail
              clear y6 HKW HYK Y6 hk0
              (
                by_cases he : e3 = 0
                · have F14 := Lib.hid (GN.out.put hk HYC.out HI.out he)
                  subst he
                  cases nq with
                  | false =>
                    go_upto_region 18 with (go_at_call 15; (with_reducible refine (CI.out _ BG.out.row (HG.out.keep BX.out.below)).mono ?_); rintro e v2 ⟨a3, len3, cap3, M3, va3, vl3, vc3, rfl, hr3, hc3, hs3, -, hb3, -⟩; have BX := Lib.hid (BX.out.keep hb3); have BH := Lib.hid (MBox.new (m := m) BX.out.below hr3 hc3).box; have BX := Lib.hid (BX.out.keep (below_box v2 (forB a3 len3 cap3 m))); have HS3 := Lib.hid hs3; have W6 := Lib.hid (then14 (then14 W6.out hb3) (box_below v2 (forB a3 len3 cap3 m))); clear z0 z1 g0 g1 hr3 hc3 hs3 hb3; have z0 := BX.out.c0; have z1 := BX.out.c1; have h0 := BH.out.c0; have h1 := BH.out.c1)
                    have c1 := C1.out _ W6.out
                    go_wp2
                    go_ret
                    exact ⟨rfl, BX.out.below⟩
                  | true =>
                    have hnt : nameK G (X : Int) = legT := by rw [GN.out.name]; exact beq_iff_eq.1 hnq
                    have hXG : X < G.length := by rw [GN.out.len, hlc.out]; exact hXl
                    have hPG : P < G.length := by rw [GN.out.len, hlc.out]; exact hPl
                    have hPH : P < HF.length := by rw [F14.out.len]; exact hPG
                    have hkX : kindK G (X : Int) = 1 := by rw [GN.out.kind]; exact hk
                    rcases uns_is F14.out.right hPH with ⟨N4, e4, hu1, hu2, hu3⟩ | ⟨N4, l4, hu1, hu2, hu3, hu4⟩
                    · have CU : Hid (∀ W a3 len3 cap3 M3, NodeRow W a3 len3 cap3 M3 → coreL M3 = HF → smallF M3 → ErrVar W → Calls Tryz.prog 16 #[forV a3 len3 cap3 m, .int .i64 P, .string ⟨#[100, 105, 115, 97, 98, 108, 101, 100]⟩] W (MvPost W m (HF, N4, e4))) := Lib.hid (fun W a3 len3 cap3 M3 h hc hs hg => by
                        have := munset_any a3 len3 cap3 m M3 P ⟨#[100, 105, 115, 97, 98, 108, 101, 100]⟩ W h HM.out hP64.out (by decide) hs hg
                        rwa [disK, hc, hu1] at this)
                      have HU3 := Lib.hid hu3
                      have HPH := Lib.hid hPH
                      have he4 : (e4 != 0) = true := bne_iff_ne.2 hu2
                      clear hu1 hu2 hu3 hnt hXG hPG hPH hkX
                      go_upto_region 18 with (go_at_call 15; (with_reducible refine (CI.out _ BG.out.row (HG.out.keep BX.out.below)).mono ?_); rintro e v2 ⟨a3, len3, cap3, M3, va3, vl3, vc3, rfl, hr3, hc3, hs3, -, hb3, -⟩; have BX := Lib.hid (BX.out.keep hb3); have BH := Lib.hid (MBox.new (m := m) BX.out.below hr3 hc3).box; have BX := Lib.hid (BX.out.keep (below_box v2 (forB a3 len3 cap3 m))); have HS3 := Lib.hid hs3; have W6 := Lib.hid (then14 (then14 W6.out hb3) (box_below v2 (forB a3 len3 cap3 m))); clear z0 z1 g0 g1 hr3 hc3 hs3 hb3; have z0 := BX.out.c0; have z1 := BX.out.c1; have h0 := BH.out.c0; have h1 := BH.out.c1)
                      have c1 := C1.out _ W6.out
                      go_upto_region 20 with fail
                      clear c1
                      go_upto_region 22 with (go_at_call 16; (with_reducible refine (CU.out _ _ _ _ _ BH.out.row BH.out.core HS3.out (HG.out.keep BX.out.below)).mono ?_); rintro e v3 ⟨a4, len4, cap4, M4, va4, vl4, vc4, rfl, hr4, hc4, hs4, -, hb4, -⟩; have BX := Lib.hid (BX.out.keep hb4); have BH := Lib.hid (BH.out.keep hb4); have BW := Lib.hid (MBox.new (m := m) BX.out.below hr4 hc4).box; have BX := Lib.hid (BX.out.keep (below_box v3 (forB a4 len4 cap4 m))); have BH := Lib.hid (BH.out.keep (below_box v3 (forB a4 len4 cap4 m))); have HS4 := Lib.hid hs4; clear z0 z1 h0 h1 hr4 hc4 hs4 hb4; have h0 := BH.out.c0; have h1 := BH.out.c1; have y0 := BW.out.c0; have y1 := BW.out.c1)
                      have hl3 : P < len3 := by
                        have h1 := HPH.out
                        have h2 := BH.out.row.hlen
                        rw [← BH.out.core, coreL_len, h2] at h1
                        exact h1
                      have BXE := Lib.hid BX.out.below
                      obtain ⟨b5, o5, y5, ha5, -, hy5, hat5, -⟩ := BH.out.row.get hl3
                      have d0 := hat5.c0
                      have hke : (y5.core.kind != 1) = true := by
                        have h1 := HU3.out
                        rw [← BH.out.core, kindK_at (coreL_get hy5)] at h1
                        exact bne_iff_ne.2 h1
                      rw [ha5] at h0
                      clear hat5 hy5
                      go_wp2
                      go_ret
                      exact ⟨rfl, BXE.out⟩
                    · obtain ⟨hl1, hl2⟩ := legend_put F14.out hXG hPG hkX hnt hu2 hu3
                      rw [GN.out.dis, hown] at hl2
                      have hXH : X < HF.length := by rw [F14.out.len]; exact hXG
                      have hPW : P < (chgF HF P l4).length := by rw [chg_len]; exact hPH
                      obtain ⟨WF, hWF⟩ : ∃ WF, chgF HF P l4 = WF := ⟨_, rfl⟩
                      rw [hWF] at hu1 hu4 hl2 hPW
                      obtain ⟨wb, hwb⟩ : ∃ wb, barF WF P = wb := ⟨_, rfl⟩
                      obtain ⟨vb, hvb⟩ : ∃ vb, barF HF X = vb := ⟨_, rfl⟩
                      rw [hwb, hvb] at hl2
                      have CU : Hid (∀ W a3 len3 cap3 M3, NodeRow W a3 len3 cap3 M3 → coreL M3 = HF → smallF M3 → ErrVar W → Calls Tryz.prog 16 #[forV a3 len3 cap3 m, .int .i64 P, .string ⟨#[100, 105, 115, 97, 98, 108, 101, 100]⟩] W (MvPost W m (WF, N4, 0))) := Lib.hid (fun W a3 len3 cap3 M3 h hc hs hg => by
                        have := munset_any a3 len3 cap3 m M3 P ⟨#[100, 105, 115, 97, 98, 108, 101, 100]⟩ W h HM.out hP64.out (by decide) hs hg
                        rwa [disK, hc, hu1] at this)
                      have CL : Hid (∀ W a3 len3 cap3 M3, NodeRow W a3 len3 cap3 M3 → coreL M3 = HF → smallF M3 → Calls Tryz.prog 10 #[forV a3 len3 cap3 m, .int .i64 P] W fun e w' => e = .returned (.int .i64 X) ∧ Below W.heap.size W w') := Lib.hid (fun W a3 len3 cap3 M3 h hc hs => by
                        have := legO_any a3 len3 cap3 m M3 P W h HM.out hs
                        rwa [hc, legO_nat F14.out.right hPH, hl1] at this)
                      have CBH : Hid (∀ W a3 len3 cap3 M3, NodeRow W a3 len3 cap3 M3 → coreL M3 = HF → smallF M3 → Calls Tryz.prog 12 #[forV a3 len3 cap3 m, .int .i64 X] W fun e w' => e = .returned (.bool vb) ∧ Below W.heap.size W w') := Lib.hid (fun W a3 len3 cap3 M3 h hc hs => by
                        have := barO_any a3 len3 cap3 m M3 X W h HM.out hs
                        rwa [hc, barO_nat F14.out.right hXH, hvb] at this)
                      have CBW : Hid (∀ W a4 len4 cap4 M4, NodeRow W a4 len4 cap4 M4 → coreL M4 = WF → smallF M4 → Calls Tryz.prog 12 #[forV a4 len4 cap4 m, .int .i64 P] W fun e w' => e = .returned (.bool wb) ∧ Below W.heap.size W w') := Lib.hid (fun W a4 len4 cap4 M4 h hc hs => by
                        have := barO_any a4 len4 cap4 m M4 P W h HM.out hs
                        rwa [hc, barO_nat hu4 hPW, hwb] at this)
                      clear hu1 hu2 hu3 hu4 hnt hXG hPG hPH hkX hl1 hXH hPW hWF hwb hvb
                      go_upto_region 18 with (go_at_call 15; (with_reducible refine (CI.out _ BG.out.row (HG.out.keep BX.out.below)).mono ?_); rintro e v2 ⟨a3, len3, cap3, M3, va3, vl3, vc3, rfl, hr3, hc3, hs3, -, hb3, -⟩; have BX := Lib.hid (BX.out.keep hb3); have BH := Lib.hid (MBox.new (m := m) BX.out.below hr3 hc3).box; have BX := Lib.hid (BX.out.keep (below_box v2 (forB a3 len3 cap3 m))); have HS3 := Lib.hid hs3; have W6 := Lib.hid (then14 (then14 W6.out hb3) (box_below v2 (forB a3 len3 cap3 m))); clear z0 z1 g0 g1 hr3 hc3 hs3 hb3; have z0 := BX.out.c0; have z1 := BX.out.c1; have h0 := BH.out.c0; have h1 := BH.out.c1)
                      have c1 := C1.out _ W6.out
                      go_upto_region 20 with fail
                      clear c1
                      go_upto_region 23 with (go_at_call 16; (with_reducible refine (CU.out _ _ _ _ _ BH.out.row BH.out.core HS3.out (HG.out.keep BX.out.below)).mono ?_); rintro e v3 ⟨a4, len4, cap4, M4, va4, vl4, vc4, rfl, hr4, hc4, hs4, -, hb4, -⟩; have BX := Lib.hid (BX.out.keep hb4); have BH := Lib.hid (BH.out.keep hb4); have BW := Lib.hid (MBox.new (m := m) BX.out.below hr4 hc4).box; have BX := Lib.hid (BX.out.keep (below_box v3 (forB a4 len4 cap4 m))); have BH := Lib.hid (BH.out.keep (below_box v3 (forB a4 len4 cap4 m))); have HS4 := Lib.hid hs4; clear z0 z1 h0 h1 hr4 hc4 hs4 hb4; have h0 := BH.out.c0; have h1 := BH.out.c1; have y0 := BW.out.c0; have y1 := BW.out.c1)
                      cases own with
                      | true =>
                        obtain rfl : vb = true := hl2
                        go_wp2_with (first
                                        | (go_at_call 10; (with_reducible refine (CL.out _ _ _ _ _ BH.out.row BH.out.core HS3.out).mono ?_); rintro e v4 ⟨rfl, hb⟩; have BX := Lib.hid (BX.out.keep hb); have BH := Lib.hid (BH.out.keep hb); have BW := Lib.hid (BW.out.keep hb); clear hb h0 h1 y0 y1; have h0 := BH.out.c0; have h1 := BH.out.c1; have y0 := BW.out.c0; have y1 := BW.out.c1)
                                        | (go_at_call 12; (with_reducible refine (CBH.out _ _ _ _ _ BH.out.row BH.out.core HS3.out).mono ?_); rintro e v5 ⟨rfl, hb⟩; have BX := Lib.hid (BX.out.keep hb); have BW := Lib.hid (BW.out.keep hb); clear hb h0 h1 y0 y1; have y0 := BW.out.c0; have y1 := BW.out.c1)
                                        | (go_at_call 12; (with_reducible refine (CBW.out _ _ _ _ _ BW.out.row BW.out.core HS4.out).mono ?_); rintro e v6 ⟨rfl, hb⟩; have BX := Lib.hid (BX.out.keep hb); clear hb y0 y1))
                        go_ret
                        exact ⟨rfl, BX.out.below⟩
                      | false =>
                        obtain rfl : vb = wb := hl2
                        cases vb with
                        | true =>
                          go_wp2_with (first
                                          | (go_at_call 10; (with_reducible refine (CL.out _ _ _ _ _ BH.out.row BH.out.core HS3.out).mono ?_); rintro e v4 ⟨rfl, hb⟩; have BX := Lib.hid (BX.out.keep hb); have BH := Lib.hid (BH.out.keep hb); have BW := Lib.hid (BW.out.keep hb); clear hb h0 h1 y0 y1; have h0 := BH.out.c0; have h1 := BH.out.c1; have y0 := BW.out.c0; have y1 := BW.out.c1)
                                          | (go_at_call 12; (with_reducible refine (CBH.out _ _ _ _ _ BH.out.row BH.out.core HS3.out).mono ?_); rintro e v5 ⟨rfl, hb⟩; have BX := Lib.hid (BX.out.keep hb); have BW := Lib.hid (BW.out.keep hb); clear hb h0 h1 y0 y1; have y0 := BW.out.c0; have y1 := BW.out.c1)
                                          | (go_at_call 12; (with_reducible refine (CBW.out _ _ _ _ _ BW.out.row BW.out.core HS4.out).mono ?_); rintro e v6 ⟨rfl, hb⟩; have BX := Lib.hid (BX.out.keep hb); clear hb y0 y1))
                          go_ret
                          exact ⟨by simp, BX.out.below⟩
                        | false =>
                          go_wp2_with (first
                                          | (go_at_call 10; (with_reducible refine (CL.out _ _ _ _ _ BH.out.row BH.out.core HS3.out).mono ?_); rintro e v4 ⟨rfl, hb⟩; have BX := Lib.hid (BX.out.keep hb); have BH := Lib.hid (BH.out.keep hb); have BW := Lib.hid (BW.out.keep hb); clear hb h0 h1 y0 y1; have h0 := BH.out.c0; have h1 := BH.out.c1; have y0 := BW.out.c0; have y1 := BW.out.c1)
                                          | (go_at_call 12; (with_reducible refine (CBH.out _ _ _ _ _ BH.out.row BH.out.core HS3.out).mono ?_); rintro e v5 ⟨rfl, hb⟩; have BX := Lib.hid (BX.out.keep hb); have BW := Lib.hid (BW.out.keep hb); clear hb h0 h1 y0 y1; have y0 := BW.out.c0; have y1 := BW.out.c1)
                                          | (go_at_call 12; (with_reducible refine (CBW.out _ _ _ _ _ BW.out.row BW.out.core HS4.out).mono ?_); rintro e v6 ⟨rfl, hb⟩; have BX := Lib.hid (BX.out.keep hb); clear hb y0 y1))
                          go_ret
                          exact ⟨by simp, BX.out.below⟩
                · have he2 : (e3 != 0) = true := bne_iff_ne.2 he
                  clear he hnq
                  go_wp2_with (go_at_call 15; (with_reducible refine (CI.out _ BG.out.row (HG.out.keep BX.out.below)).mono ?_); rintro e v2 ⟨a3, len3, cap3, M3, va3, vl3, vc3, rfl, hr3, hc3, hs3, -, hb3, -⟩; have BX := Lib.hid (BX.out.keep hb3); have BH := Lib.hid (MBox.new (m := m) BX.out.below hr3 hc3).box; have BX := Lib.hid (BX.out.keep (below_box v2 (forB a3 len3 cap3 m))); have HS3 := Lib.hid hs3; have W6 := Lib.hid (then14 (then14 W6.out hb3) (box_below v2 (forB a3 len3 cap3 m))); clear z0 z1 g0 g1 hr3 hc3 hs3 hb3; have z0 := BX.out.c0; have z1 := BX.out.c1; have h0 := BH.out.c0; have h1 := BH.out.c1)
                  go_ret
                  exact ⟨rfl, BX.out.below⟩)
          · have hne1 : (nx.core.kind != 1) = true := bne_iff_ne.2 hk
            have hne2 : (nx.core.kind == 1) = false := beq_eq_false_iff_ne.2 hk
            have hbf : barF (coreL L) X = false := by
              cases hq : barF (coreL L) X with
              | false => rfl
              | true =>
                have := bar_kind hq
                rw [kindK_at HXC.out] at this
                exact absurd this hk
            have CBF : Hid (∀ W, NodeRow W (some ⟨b, off, none⟩) lg cap L → Calls Tryz.prog 12 #[forV (some ⟨b, off, none⟩) lg cap m, .int .i64 X] W fun e w' => e = .returned (.bool false) ∧ Below W.heap.size W w') := Lib.hid (fun W h => by
              have := barO_any _ lg cap m L X W h HM.out SM.out
              rwa [barO_nat hr.out (by rw [hlc.out]; exact hXl), hbf] at this)
            clear hk hbf
            go_wp2_with (go_at_call 12; (with_reducible refine (CBF.out _ BX.out.row).mono ?_); rintro e v1 ⟨rfl, hb⟩; have BX := Lib.hid (BX.out.keep hb); clear hb z0 z1 g0 g1)
            go_ret
            exact ⟨rfl, BX.out.below⟩)
end Go.Proofs.YtnjoimedilonnaaGreatDoor
