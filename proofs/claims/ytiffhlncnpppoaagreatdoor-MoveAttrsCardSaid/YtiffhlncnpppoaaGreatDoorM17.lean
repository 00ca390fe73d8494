/- Texts joined in build order: MoveAttrs. -/
import Derived.Test.YtiffhlncnpppoaaGreatDoorM14
import Derived.Test.YtiffhlncnpppoaaGreatDoorM15
import Derived.Test.YtiffhlncnpppoaaGreatDoorM16
namespace Go.Proofs.YtiffhlncnpppoaaGreatDoor
open Go.RowKit
set_option linter.unusedVariables false
theorem muns_to {m : Int} {F : List Core} {n : Int} {s : ByteArray} {R : List Core × List NoteD × Int} (hR : unsZ m F n s.toList = R) (W : World) (a : Option Addr) (len cap : Nat) (M : List NodeD) (h : NodeRow W a len cap M) (hc : coreL M = F) (hs : smallF M) (hm : In64 m) (hn : In64 n) (hsz : s.size ≤ maxLen) (hg : ErrVar W) :
    Calls Tryz.prog 25 #[forV a len cap m, .int .i64 n, .string s] W (MvPost W m R) := by
  rw [← hR, ← hc]
  exact munset_any a len cap m M n s W h hm hn hsz hs hg
structure SBox (W : World) (k : Nat) (a : Option Addr) (len cap : Nat) (m : Int) (va : Option Addr) (vl vc : Nat) : Prop where
  bx : Box3 W k (.slice a len cap) (.int .i64 m) (.slice va vl vc)
  nt : NT W k
theorem SBox.new (W : World) (a : Option Addr) (len cap : Nat) (m : Int) (va : Option Addr) (vl vc : Nat) : SBox (W.alloc (.cells #[.slice a len cap, .int .i64 m, .slice va vl vc] 34)) W.heap.size a len cap m va vl vc :=
  ⟨Box3.new W _ _ _ _, NT.new W _ _ (fun u hu s e => by subst e; simp at hu)⟩
theorem SBox.keep {W W2 : World} {k : Nat} {a : Option Addr} {len cap : Nat} {m : Int} {va : Option Addr} {vl vc : Nat} (h : SBox W k a len cap m va vl vc) (hb : Below W.heap.size W W2) : SBox W2 k a len cap m va vl vc :=
  ⟨h.bx.keep hb, h.nt.keep h.bx.lt hb⟩
theorem NT.set {W : World} {k : Nat} (h : NT W k) (o : Nat) {u x : Value} (hx : W.cell? ⟨k, o, none⟩ = some x) (hu : ∀ s, u ≠ .string s) : NT (W.setCell ⟨k, o, none⟩ u) k := fun j s => by
  by_cases e : j = o
  · subst e
    rw [World.cell?_setCell_same _ _ _ hx]
    exact fun e => hu s (Option.some.inj e)
  · rw [World.cell?_setCell_other _ _ _ _ (fun e2 => by injection e2 with _ e2; exact e e2.symm)]
    exact h j s
theorem SBox.put {W : World} {k : Nat} {a : Option Addr} {len cap : Nat} {m : Int} {va : Option Addr} {vl vc : Nat} (h : SBox W k a len cap m va vl vc) (a2 : Option Addr) (len2 cap2 : Nat) (va2 : Option Addr) (vl2 vc2 : Nat) :
    SBox (((W.setCell ⟨k, 0, none⟩ (.slice a2 len2 cap2)).setCell ⟨k, 1, none⟩ (.int .i64 m)).setCell ⟨k, 2, none⟩ (.slice va2 vl2 vc2)) k a2 len2 cap2 m va2 vl2 vc2 := by
  obtain ⟨k0, k1, k2⟩ := stored3 h.bx (.slice a2 len2 cap2) (.int .i64 m) (.slice va2 vl2 vc2)
  have e1 : (W.setCell ⟨k, 0, none⟩ (.slice a2 len2 cap2)).cell? ⟨k, 1, none⟩ = some (.int .i64 m) := (World.cell?_setCell_other _ _ _ _ (by simp)).trans h.bx.c1
  have e2 : ((W.setCell ⟨k, 0, none⟩ (.slice a2 len2 cap2)).setCell ⟨k, 1, none⟩ (.int .i64 m)).cell? ⟨k, 2, none⟩ = some (.slice va vl vc) := (World.cell?_setCell_other _ _ _ _ (by simp)).trans ((World.cell?_setCell_other _ _ _ _ (by simp)).trans h.bx.c2)
  exact ⟨⟨by simpa [World.setCell] using h.bx.lt, k0, k1, k2, fun o => by rw [World.frozen?_setCell, World.frozen?_setCell, World.frozen?_setCell]; exact h.bx.f o⟩, ((h.nt.set 0 h.bx.c0 (fun s e => by cases e)).set 1 e1 (fun s e => by cases e)).set 2 e2 (fun s e => by cases e)⟩
theorem there_no {m : Int} {F : List Core} {n : Int} (h : thereF m F n = false) : rightF m F = false ∨ n < 0 ∨ (F.length : Int) ≤ n := by
  unfold thereF at h
  cases hr : rightF m F with
  | false => exact .inl rfl
  | true =>
    right
    rw [hr] at h
    by_cases h1 : 0 ≤ n
    · right
      rw [decide_eq_true h1] at h
      have : ¬ n < (F.length : Int) := by simpa using h
      omega
    · exact .inl (by omega)
theorem set_there {m : Int} {F : List Core} {n : Int} (h : thereF m F n = false) (s : List UInt8) (v : ByteArray) (f : Int) : setZ m F n s v = (F, [], 1) ∧ unsZ m F n s = (F, [], 1) ∧ togZ m F n s f = (F, [], 1) := by
  have he : elemE m F n = 1 := by unfold elemE; rw [h]; rfl
  refine ⟨?_, ?_, ?_⟩
  · unfold setZ; rw [he, if_neg (by decide)]
  · unfold unsZ; rw [he, if_neg (by decide)]
  · unfold togZ; rw [he, if_neg (by decide)]
set_option maxHeartbeats 32000000 in
set_option maxRecDepth 100000 in
theorem moveAttrs_walk (a : Option Addr) (len cap : Nat) (m : Int) (L : List NodeD) (n : Int) (s v : ByteArray) (f : Int) (w : World) (h : NodeRow w a len cap L) (hm : In64 m) (hn : In64 n) (hsz : s.size ≤ maxLen) (hvz : v.size ≤ maxLen) (hf : In64 f) (hg : ErrVar w) :
    Calls Tryz.prog 4 #[forV a len cap m, .int .i64 n, .string s, .string v, .int .i64 f] w fun e w' => e = .returned (.bool true) ∧ Below w.heap.size w w' := by
  have AW := Lib.hid (fun W h => awake6_any W h)
  have BX := Lib.hid (Box.start (m := m) h)
  have hl0 := h.len64
  have HL := Lib.hid h.hlen
  have HM := Lib.hid hm
  have HN := Lib.hid hn
  have HH := Lib.hid h
  have HG := Lib.hid hg
  have HSZ := Lib.hid hsz
  have HVZ := Lib.hid hvz
  have hs64 : (s.size : Int) ≤ 9223372036854775807 := by unfold maxLen at hsz; omega
  have hv64 : (v.size : Int) ≤ 9223372036854775807 := by unfold maxLen at hvz; omega
  have z0 := BX.out.c0
  have z1 := BX.out.c1
  clear h hm hn hg hsz hvz hf
  cases c0 : shortF L with
  | false =>
    have C0 := Lib.hid c0
    go_enter Tryz.func4, Tryz.ntmps4
    go_wp2_with (first
                    | (go_at_call 13; (with_reducible refine (AW.out _ (HG.out.keep BX.out.below)).mono ?_); rintro e w1 ⟨rfl, hb⟩; have BX := Lib.hid (BX.out.keep hb); have z0 := BX.out.c0; have z1 := BX.out.c1; clear hb)
                    | (go_at_call 14; (with_reducible refine (refshortF_any _ _ _ _ _ _ BX.out.row).mono ?_); rintro e w1 ⟨rfl, hb⟩; have BX := Lib.hid (BX.out.keep hb); have z0 := BX.out.c0; have z1 := BX.out.c1; clear hb)
                    | (go_at_call 30; (with_reducible refine (HR.out _ BX.out.row).mono ?_); rintro e w1 ⟨rfl, hb⟩; have BX := Lib.hid (BX.out.keep hb); have z0 := BX.out.c0; have z1 := BX.out.c1; clear hb))
    go_ret
    exact ⟨rfl, BX.out.below⟩
  | true =>
    have SM := Lib.hid (small_of_short c0)
    by_cases hs3 : 300 < (s.size : Int)
    · go_enter Tryz.func4, Tryz.ntmps4
      go_wp2_with (first
                      | (go_at_call 13; (with_reducible refine (AW.out _ (HG.out.keep BX.out.below)).mono ?_); rintro e w1 ⟨rfl, hb⟩; have BX := Lib.hid (BX.out.keep hb); have z0 := BX.out.c0; have z1 := BX.out.c1; clear hb)
                      | (go_at_call 14; (with_reducible refine (refshortF_any _ _ _ _ _ _ BX.out.row).mono ?_); rintro e w1 ⟨rfl, hb⟩; have BX := Lib.hid (BX.out.keep hb); have z0 := BX.out.c0; have z1 := BX.out.c1; clear hb)
                      | (go_at_call 30; (with_reducible refine (HR.out _ BX.out.row).mono ?_); rintro e w1 ⟨rfl, hb⟩; have BX := Lib.hid (BX.out.keep hb); have z0 := BX.out.c0; have z1 := BX.out.c1; clear hb))
      go_ret
      exact ⟨rfl, BX.out.below⟩
    by_cases hv3 : 300 < (v.size : Int)
    · go_enter Tryz.func4, Tryz.ntmps4
      go_wp2_with (first
                      | (go_at_call 13; (with_reducible refine (AW.out _ (HG.out.keep BX.out.below)).mono ?_); rintro e w1 ⟨rfl, hb⟩; have BX := Lib.hid (BX.out.keep hb); have z0 := BX.out.c0; have z1 := BX.out.c1; clear hb)
                      | (go_at_call 14; (with_reducible refine (refshortF_any _ _ _ _ _ _ BX.out.row).mono ?_); rintro e w1 ⟨rfl, hb⟩; have BX := Lib.hid (BX.out.keep hb); have z0 := BX.out.c0; have z1 := BX.out.c1; clear hb)
                      | (go_at_call 30; (with_reducible refine (HR.out _ BX.out.row).mono ?_); rintro e w1 ⟨rfl, hb⟩; have BX := Lib.hid (BX.out.keep hb); have z0 := BX.out.c0; have z1 := BX.out.c1; clear hb))
      go_ret
      exact ⟨rfl, BX.out.below⟩
    have HLC : Hid ((coreL L).length = len) := Lib.hid (by rw [coreL_len, HL.out])
    obtain ⟨r, hr⟩ : ∃ r, rightF m (coreL L) = r := ⟨_, rfl⟩
    have CR : Hid (∀ W, NodeRow W a len cap L → Calls Tryz.prog 18 #[forV a len cap m] W fun e w' => e = .returned (.bool r) ∧ Below W.heap.size W w') := Lib.hid (fun W h => by
      rw [← hr]
      exact refrightN_any a len cap m L W h)
    cases q : thereF m (coreL L) n with
    | false =>
      obtain ⟨q1, q2, q3⟩ := set_there q s.toList v f
      have GS : Hid (∀ W, NodeRow W a len cap L → ErrVar W → Calls Tryz.prog 24 #[forV a len cap m, .int .i64 n, .string s, .string v] W (MvPost W m (coreL L, [], 1))) := Lib.hid (fun W h1 h2 => mset_to q1 W _ len cap L h1 rfl SM.out HM.out HN.out HSZ.out HVZ.out h2)
      have GU : Hid (∀ W, NodeRow W a len cap L → ErrVar W → Calls Tryz.prog 25 #[forV a len cap m, .int .i64 n, .string s] W (MvPost W m (coreL L, [], 1))) := Lib.hid (fun W h1 h2 => muns_to q2 W _ len cap L h1 rfl SM.out HM.out HN.out HSZ.out h2)
      have GT : Hid (∀ W, NodeRow W a len cap L → ErrVar W → Calls Tryz.prog 26 #[forV a len cap m, .int .i64 n, .string s, .int .i64 f] W (MvPost W m (coreL L, [], 1))) := Lib.hid (fun W h1 h2 => mtog_to q3 W _ len cap L h1 rfl SM.out HM.out HN.out HSZ.out h2)
      have HQ := Lib.hid (there_no q)
      have HR := Lib.hid hr
      clear q q1 q2 q3 hr
      go_enter Tryz.func4, Tryz.ntmps4
      go_upto_region 8 with (first | (first
                                         | (go_at_call 13; (with_reducible refine (AW.out _ (HG.out.keep BX.out.below)).mono ?_); rintro e w1 ⟨rfl, hb⟩; have BX := Lib.hid (BX.out.keep hb); have z0 := BX.out.c0; have z1 := BX.out.c1; clear hb)
                                         | (go_at_call 14; (with_reducible refine (refshortF_any _ _ _ _ _ _ BX.out.row).mono ?_); rintro e w1 ⟨rfl, hb⟩; have BX := Lib.hid (BX.out.keep hb); have z0 := BX.out.c0; have z1 := BX.out.c1; clear hb)
                                         | (go_at_call 30; (with_reducible refine (HR.out _ BX.out.row).mono ?_); rintro e w1 ⟨rfl, hb⟩; have BX := Lib.hid (BX.out.keep hb); have z0 := BX.out.c0; have z1 := BX.out.c1; clear hb)) | (go_at_call 24; (with_reducible refine (GS.out _ BX.out.row (HG.out.keep BX.out.below)).mono ?_); rintro e w1 ⟨a1, len1, cap1, M1, va1, vl1, vc1, rfl, hr1, hc1, -, hn1, hb1, -⟩; have BX := Lib.hid (BX.out.keep hb1); have B1 := Lib.hid (MBox.new (m := m) BX.out.below hr1 hc1); have hbb := below_box w1 (forB a1 len1 cap1 m); have N1 := Lib.hid (hn1.below hbb); have BX := Lib.hid (BX.out.keep hbb); clear z0 z1; have z0 := BX.out.c0; have z1 := BX.out.c1; clear hr1 hc1 hn1 hb1 hbb) | (go_at_call 25; (with_reducible refine (GU.out _ BX.out.row (HG.out.keep BX.out.below)).mono ?_); rintro e w2 ⟨a2, len2, cap2, M2, va2, vl2, vc2, rfl, hr2, hc2, -, hn2, hb2, -⟩; have BX := Lib.hid (BX.out.keep hb2); have B2 := Lib.hid (MBox.new (m := m) BX.out.below hr2 hc2); have hbb := below_box w2 (forB a2 len2 cap2 m); have HBB := Lib.hid (hb2.trans (hbb.mono hb2.size)); have N2 := Lib.hid (hn2.below hbb); have BX := Lib.hid (BX.out.keep hbb); have B1 := Lib.hid (B1.out.keep HBB.out); have N1 := Lib.hid (N1.out.below HBB.out); clear z0 z1; have z0 := BX.out.c0; have z1 := BX.out.c1; clear hr2 hc2 hn2 hb2 hbb HBB) | (go_at_call 26; (with_reducible refine (GT.out _ BX.out.row (HG.out.keep BX.out.below)).mono ?_); rintro e w3 ⟨a3, len3, cap3, M3, va3, vl3, vc3, rfl, hr3, hc3, -, hn3, hb3, -⟩; have BX := Lib.hid (BX.out.keep hb3); have B3 := Lib.hid (MBox.new (m := m) BX.out.below hr3 hc3); have hbb := below_box w3 (forB a3 len3 cap3 m); have HBB := Lib.hid (hb3.trans (hbb.mono hb3.size)); have N3 := Lib.hid (hn3.below hbb); have BX := Lib.hid (BX.out.keep hbb); have B1 := Lib.hid (B1.out.keep HBB.out); have N1 := Lib.hid (N1.out.below HBB.out); have B2 := Lib.hid (B2.out.keep HBB.out); have N2 := Lib.hid (N2.out.below HBB.out); clear z0 z1; have z0 := BX.out.c0; have z1 := BX.out.c1; clear hr3 hc3 hn3 hb3 hbb HBB))
      obtain rfl : 0 = vl1 := N1.out.row.hlen
      obtain rfl : 0 = vl2 := N2.out.row.hlen
      obtain rfl : 0 = vl3 := N3.out.row.hlen
      go_cut [76] (fun c wx => True ∧ c = .bool true ∧ Hid (Below (w3.alloc (forB a3 len3 cap3 m)).heap.size (w3.alloc (forB a3 len3 cap3 m)) wx))
      case first =>
        cases r with
        | false =>
          go_wp2_with (go_at_call 18; (with_reducible refine (CR.out _ BX.out.row).mono ?_); rintro e w4 ⟨rfl, hb⟩; have HB4 := Lib.hid hb; have z0 := (BX.out.keep hb).c0; clear hb)
          go_meet
          exact ⟨trivial, rfl, HB4⟩
        | true =>
          by_cases h0 : n < 0
          · go_wp2_with (go_at_call 18; (with_reducible refine (CR.out _ BX.out.row).mono ?_); rintro e w4 ⟨rfl, hb⟩; have HB4 := Lib.hid hb; have z0 := (BX.out.keep hb).c0; clear hb)
            go_meet
            exact ⟨trivial, rfl, HB4⟩
          · have h1 : (len : Int) ≤ n := by
              rcases HQ.out with e | e | e
              · rw [HR.out] at e; cases e
              · omega
              · rw [HLC.out] at e; exact e
            go_wp2_with (go_at_call 18; (with_reducible refine (CR.out _ BX.out.row).mono ?_); rintro e w4 ⟨rfl, hb⟩; have HB4 := Lib.hid hb; have z0 := (BX.out.keep hb).c0; clear hb)
            go_meet
            exact ⟨trivial, rfl, HB4⟩
      case rest =>
        obtain ⟨-, rfl, HB4⟩ := hcut
        (have BX := Lib.hid (BX.out.keep HB4.out); have B1 := Lib.hid (B1.out.keep HB4.out); have B2 := Lib.hid (B2.out.keep HB4.out); have B3 := Lib.hid (B3.out.keep HB4.out); have N1 := Lib.hid (N1.out.below HB4.out); have N2 := Lib.hid (N2.out.below HB4.out); have N3 := Lib.hid (N3.out.below HB4.out))
        clear z0 z1
        (have z0 := BX.out.c0; have z1 := BX.out.c1; have b10 := B1.out.box.c0; have b11 := B1.out.box.c1; have b20 := B2.out.box.c0; have b21 := B2.out.box.c1; have b30 := B3.out.box.c0; have b31 := B3.out.box.c1)
        go_wp2_with (first | (go_at_call 19; (with_reducible refine (refused6_any _ m _ _ _ _ _ _ _ _ _ _ BX.out.row (B1).out.box.row ((B1).out.box.core.symm)).mono ?_); rintro e w9 ⟨rfl, hb⟩; (have BX := Lib.hid (BX.out.keep hb); have B1 := Lib.hid (B1.out.keep hb); have B2 := Lib.hid (B2.out.keep hb); have B3 := Lib.hid (B3.out.keep hb); have N1 := Lib.hid (N1.out.below hb); have N2 := Lib.hid (N2.out.below hb); have N3 := Lib.hid (N3.out.below hb)); clear hb; (clear z0 z1 b10 b11 b20 b21 b30 b31; (have z0 := BX.out.c0; have z1 := BX.out.c1; have b10 := B1.out.box.c0; have b11 := B1.out.box.c1; have b20 := B2.out.box.c0; have b21 := B2.out.box.c1; have b30 := B3.out.box.c0; have b31 := B3.out.box.c1))) | (go_at_call 19; (with_reducible refine (refused6_any _ m _ _ _ _ _ _ _ _ _ _ BX.out.row (B2).out.box.row ((B2).out.box.core.symm)).mono ?_); rintro e w9 ⟨rfl, hb⟩; (have BX := Lib.hid (BX.out.keep hb); have B1 := Lib.hid (B1.out.keep hb); have B2 := Lib.hid (B2.out.keep hb); have B3 := Lib.hid (B3.out.keep hb); have N1 := Lib.hid (N1.out.below hb); have N2 := Lib.hid (N2.out.below hb); have N3 := Lib.hid (N3.out.below hb)); clear hb; (clear z0 z1 b10 b11 b20 b21 b30 b31; (have z0 := BX.out.c0; have z1 := BX.out.c1; have b10 := B1.out.box.c0; have b11 := B1.out.box.c1; have b20 := B2.out.box.c0; have b21 := B2.out.box.c1; have b30 := B3.out.box.c0; have b31 := B3.out.box.c1))) | (go_at_call 19; (with_reducible refine (refused6_any _ m _ _ _ _ _ _ _ _ _ _ BX.out.row (B3).out.box.row ((B3).out.box.core.symm)).mono ?_); rintro e w9 ⟨rfl, hb⟩; (have BX := Lib.hid (BX.out.keep hb); have B1 := Lib.hid (B1.out.keep hb); have B2 := Lib.hid (B2.out.keep hb); have B3 := Lib.hid (B3.out.keep hb); have N1 := Lib.hid (N1.out.below hb); have N2 := Lib.hid (N2.out.below hb); have N3 := Lib.hid (N3.out.below hb)); clear hb; (clear z0 z1 b10 b11 b20 b21 b30 b31; (have z0 := BX.out.c0; have z1 := BX.out.c1; have b10 := B1.out.box.c0; have b11 := B1.out.box.c1; have b20 := B2.out.box.c0; have b21 := B2.out.box.c1; have b30 := B3.out.box.c0; have b31 := B3.out.box.c1))))
        go_ret
        exact ⟨rfl, BX.out.below⟩
    | true =>
      obtain ⟨hrr, k, rfl, hk⟩ := there_nat q
      rw [HLC.out] at hk
      obtain rfl : true = r := hrr.symm.trans hr
      obtain ⟨x, hx⟩ : ∃ x, L[k]? = some x := ⟨_, List.getElem?_eq_getElem (by rw [HL.out]; exact hk)⟩
      obtain ⟨G1, X1, E1, q1⟩ : ∃ G X E, setZ m (coreL L) k s.toList v = (G, X, E) := ⟨_, _, _, rfl⟩
      obtain ⟨G2, X2, E2, q2⟩ : ∃ G X E, unsZ m (coreL L) k s.toList = (G, X, E) := ⟨_, _, _, rfl⟩
      obtain ⟨G3, X3, E3, q3⟩ : ∃ G X E, togZ m (coreL L) k s.toList f = (G, X, E) := ⟨_, _, _, rfl⟩
      have hl1k : len ≤ 1000 := by rw [← HL.out]; exact SM.out.1
      have hs1k : s.size ≤ 1000 := by omega
      have GS : Hid (∀ W, NodeRow W a len cap L → ErrVar W → Calls Tryz.prog 24 #[forV a len cap m, .int .i64 k, .string s, .string v] W (MvPost W m (G1, X1, E1))) := Lib.hid (fun W h1 h2 => mset_to q1 W _ len cap L h1 rfl SM.out HM.out HN.out HSZ.out HVZ.out h2)
      have GU : Hid (∀ W, NodeRow W a len cap L → ErrVar W → Calls Tryz.prog 25 #[forV a len cap m, .int .i64 k, .string s] W (MvPost W m (G2, X2, E2))) := Lib.hid (fun W h1 h2 => muns_to q2 W _ len cap L h1 rfl SM.out HM.out HN.out HSZ.out h2)
      have GT : Hid (∀ W, NodeRow W a len cap L → ErrVar W → Calls Tryz.prog 26 #[forV a len cap m, .int .i64 k, .string s, .int .i64 f] W (MvPost W m (G3, X3, E3))) := Lib.hid (fun W h1 h2 => mtog_to q3 W _ len cap L h1 rfl SM.out HM.out HN.out HSZ.out h2)
      have RS : Hid (∀ W, NodeRow W a len cap L → Calls Tryz.prog 27 #[forV a len cap m, .int .i64 k, .string s, .string v] W (StTup W m (fun k => AwayF k a L ∧ NT W k) (G1, X1, E1))) := Lib.hid (fun W h1 => by
        rw [← q1]
        exact refset6_any a len cap m L k x s v W h1 hrr hl1k hx hs1k HVZ.out)
      have RU : Hid (∀ W, NodeRow W a len cap L → Calls Tryz.prog 28 #[forV a len cap m, .int .i64 k, .string s] W (StTup W m (fun k => AwayF k a L ∧ NT W k) (G2, X2, E2))) := Lib.hid (fun W h1 => by
        rw [← q2]
        exact refuns6_any a len cap m L k x s W h1 hrr hl1k hx hs1k)
      have RT : Hid (∀ W, NodeRow W a len cap L → Calls Tryz.prog 29 #[forV a len cap m, .int .i64 k, .string s, .int .i64 f] W (StTup W m (fun k => AwayF k a L ∧ NT W k) (G3, X3, E3))) := Lib.hid (fun W h1 => by
        rw [← q3]
        exact reftog6_any a len cap m L k x s f W h1 hrr hl1k hx hs1k)
      have hlp : 0 < len := by omega
      clear q q1 q2 q3 hr hx hrr
      go_enter Tryz.func4, Tryz.ntmps4
      go_upto_region 10 with (first | (first
                                          | (go_at_call 13; (with_reducible refine (AW.out _ (HG.out.keep BX.out.below)).mono ?_); rintro e w1 ⟨rfl, hb⟩; have BX := Lib.hid (BX.out.keep hb); have z0 := BX.out.c0; have z1 := BX.out.c1; clear hb)
                                          | (go_at_call 14; (with_reducible refine (refshortF_any _ _ _ _ _ _ BX.out.row).mono ?_); rintro e w1 ⟨rfl, hb⟩; have BX := Lib.hid (BX.out.keep hb); have z0 := BX.out.c0; have z1 := BX.out.c1; clear hb)
                                          | (go_at_call 30; (with_reducible refine (HR.out _ BX.out.row).mono ?_); rintro e w1 ⟨rfl, hb⟩; have BX := Lib.hid (BX.out.keep hb); have z0 := BX.out.c0; have z1 := BX.out.c1; clear hb)) | (go_at_call 24; (with_reducible refine (GS.out _ BX.out.row (HG.out.keep BX.out.below)).mono ?_); rintro e w1 ⟨a1, len1, cap1, M1, va1, vl1, vc1, rfl, hr1, hc1, -, hn1, hb1, -⟩; have BX := Lib.hid (BX.out.keep hb1); have B1 := Lib.hid (MBox.new (m := m) BX.out.below hr1 hc1); have hbb := below_box w1 (forB a1 len1 cap1 m); have N1 := Lib.hid (hn1.below hbb); have BX := Lib.hid (BX.out.keep hbb); clear z0 z1; have z0 := BX.out.c0; have z1 := BX.out.c1; clear hr1 hc1 hn1 hb1 hbb) | (go_at_call 25; (with_reducible refine (GU.out _ BX.out.row (HG.out.keep BX.out.below)).mono ?_); rintro e w2 ⟨a2, len2, cap2, M2, va2, vl2, vc2, rfl, hr2, hc2, -, hn2, hb2, -⟩; have BX := Lib.hid (BX.out.keep hb2); have B2 := Lib.hid (MBox.new (m := m) BX.out.below hr2 hc2); have hbb := below_box w2 (forB a2 len2 cap2 m); have HBB := Lib.hid (hb2.trans (hbb.mono hb2.size)); have N2 := Lib.hid (hn2.below hbb); have BX := Lib.hid (BX.out.keep hbb); have B1 := Lib.hid (B1.out.keep HBB.out); have N1 := Lib.hid (N1.out.below HBB.out); clear z0 z1; have z0 := BX.out.c0; have z1 := BX.out.c1; clear hr2 hc2 hn2 hb2 hbb HBB) | (go_at_call 26; (with_reducible refine (GT.out _ BX.out.row (HG.out.keep BX.out.below)).mono ?_); rintro e w3 ⟨a3, len3, cap3, M3, va3, vl3, vc3, rfl, hr3, hc3, -, hn3, hb3, -⟩; have BX := Lib.hid (BX.out.keep hb3); have B3 := Lib.hid (MBox.new (m := m) BX.out.below hr3 hc3); have hbb := below_box w3 (forB a3 len3 cap3 m); have HBB := Lib.hid (hb3.trans (hbb.mono hb3.size)); have N3 := Lib.hid (hn3.below hbb); have BX := Lib.hid (BX.out.keep hbb); have B1 := Lib.hid (B1.out.keep HBB.out); have N1 := Lib.hid (N1.out.below HBB.out); have B2 := Lib.hid (B2.out.keep HBB.out); have N2 := Lib.hid (N2.out.below HBB.out); clear z0 z1; have z0 := BX.out.c0; have z1 := BX.out.c1; clear hr3 hc3 hn3 hb3 hbb HBB) | (go_at_call 18; (with_reducible refine (CR.out _ BX.out.row).mono ?_); rintro e w4 ⟨rfl, hb⟩; (have BX := Lib.hid (BX.out.keep hb); have B1 := Lib.hid (B1.out.keep hb); have B2 := Lib.hid (B2.out.keep hb); have B3 := Lib.hid (B3.out.keep hb); have N1 := Lib.hid (N1.out.below hb); have N2 := Lib.hid (N2.out.below hb); have N3 := Lib.hid (N3.out.below hb)); clear z0 z1 hb; have z0 := BX.out.c0; have z1 := BX.out.c1))
      clear z0 z1
      (have z0 := BX.out.c0; have z1 := BX.out.c1; have b10 := B1.out.box.c0; have b11 := B1.out.box.c1; have b20 := B2.out.box.c0; have b21 := B2.out.box.c1; have b30 := B3.out.box.c0; have b31 := B3.out.box.c1)
      go_upto_region 11 with (go_at_call 27; (with_reducible refine (RS.out _ BX.out.row).mono ?_); rintro e w5 ⟨a5, len5, cap5, M5, va5, vl5, vc5, rfl, hr5, hc5, hn5, hb5, -⟩; (have BX := Lib.hid (BX.out.keep hb5); have B1 := Lib.hid (B1.out.keep hb5); have B2 := Lib.hid (B2.out.keep hb5); have B3 := Lib.hid (B3.out.keep hb5); have N1 := Lib.hid (N1.out.below hb5); have N2 := Lib.hid (N2.out.below hb5); have N3 := Lib.hid (N3.out.below hb5)); have R5 := Lib.hid hr5; have N5 := Lib.hid hn5; have C5 := Lib.hid hc5; clear hr5 hc5 hn5 hb5; (clear z0 z1 b10 b11 b20 b21 b30 b31; (have z0 := BX.out.c0; have z1 := BX.out.c1; have b10 := B1.out.box.c0; have b11 := B1.out.box.c1; have b20 := B2.out.box.c0; have b21 := B2.out.box.c1; have b30 := B3.out.box.c0; have b31 := B3.out.box.c1)))
      obtain ⟨w6, hw6, SB, HB⟩ : ∃ w6, w5.alloc (.cells #[.slice a5 len5 cap5, .int .i64 m, .slice va5 vl5 vc5] 34) = w6 ∧ Hid (SBox w6 w5.heap.size a5 len5 cap5 m va5 vl5 vc5) ∧ Hid (Below w5.heap.size w5 w6) := ⟨_, rfl, Lib.hid (SBox.new w5 _ _ _ _ _ _ _), Lib.hid (below_box _ _)⟩
      rw [hw6]
      clear hw6 z0 z1 b10 b11 b20 b21 b30 b31
      have R5 := Lib.hid (R5.out.below HB.out)
      have N5 := Lib.hid (N5.out.below HB.out)
      have AW5 := Lib.hid (BX.out.row.awayF (k := w5.heap.size) hlp (Nat.le_refl _))
      (have z0 := (BX.out.keep HB.out).c0; have z1 := (BX.out.keep HB.out).c1; have b10 := (B1.out.keep HB.out).box.c0; have b11 := (B1.out.keep HB.out).box.c1; have b20 := (B2.out.keep HB.out).box.c0; have b21 := (B2.out.keep HB.out).box.c1; have b30 := (B3.out.keep HB.out).box.c0; have b31 := (B3.out.keep HB.out).box.c1; have r0 := SB.out.bx.c0; have r1 := SB.out.bx.c1; have r2 := SB.out.bx.c2; have rf := SB.out.bx.f)
      go_upto_region 13 with ((go_at_call 21; (refine (same6_any _ m _ _ _ _ _ _ _ _ _ _ _ _ _ _ _ _ ((B1).out.keep HB.out).box.row (R5).out ((B1).out.box.core.trans (C5).out.symm) ((N1).out.below HB.out) (N5).out).mono ?_); rintro e w7 ⟨rfl, hb⟩; have HB := Lib.hid (HB.out.trans (hb.mono HB.out.size)); have SB := Lib.hid (SB.out.keep hb); clear hb; (clear z0 z1 b10 b11 b20 b21 b30 b31 r0 r1 r2 rf; (have z0 := (BX.out.keep HB.out).c0; have z1 := (BX.out.keep HB.out).c1; have b10 := (B1.out.keep HB.out).box.c0; have b11 := (B1.out.keep HB.out).box.c1; have b20 := (B2.out.keep HB.out).box.c0; have b21 := (B2.out.keep HB.out).box.c1; have b30 := (B3.out.keep HB.out).box.c0; have b31 := (B3.out.keep HB.out).box.c1; have r0 := SB.out.bx.c0; have r1 := SB.out.bx.c1; have r2 := SB.out.bx.c2; have rf := SB.out.bx.f))))
      go_upto_region 14 with ((go_at_call 28; (with_reducible refine ((RU).out _ (BX.out.keep HB.out).row).mono ?_); rintro e w8 ⟨a6, len6, cap6, M6, va6, vl6, vc6, rfl, hr6, hc6, hn6, hb6, hp6⟩; have FR := Lib.hid (far3 (q := w5.heap.size) hr6 hn6 (hp6 _ SB.out.bx.lt ⟨AW5.out, SB.out.nt⟩).1 (hp6 _ SB.out.bx.lt ⟨AW5.out, SB.out.nt⟩).2 (.slice a6 len6 cap6) (.int .i64 m) (.slice va6 vl6 vc6)); have C6 := Lib.hid hc6; have HB := Lib.hid (HB.out.trans (hb6.mono HB.out.size)); have SB := Lib.hid (SB.out.keep hb6); clear hr6 hc6 hn6 hb6 hp6; (clear z0 z1 b10 b11 b20 b21 b30 b31 r0 r1 r2 rf; (have z0 := (BX.out.keep HB.out).c0; have z1 := (BX.out.keep HB.out).c1; have b10 := (B1.out.keep HB.out).box.c0; have b11 := (B1.out.keep HB.out).box.c1; have b20 := (B2.out.keep HB.out).box.c0; have b21 := (B2.out.keep HB.out).box.c1; have b30 := (B3.out.keep HB.out).box.c0; have b31 := (B3.out.keep HB.out).box.c1; have r0 := SB.out.bx.c0; have r1 := SB.out.bx.c1; have r2 := SB.out.bx.c2; have rf := SB.out.bx.f))))
      (obtain ⟨w9, hw9, SB, HB, R6, N6⟩ : ∃ w9, ((w8.setCell ⟨w5.heap.size, 0, none⟩ (.slice a6 len6 cap6)).setCell ⟨w5.heap.size, 1, none⟩ (.int .i64 m)).setCell ⟨w5.heap.size, 2, none⟩ (.slice va6 vl6 vc6) = w9 ∧ Hid (SBox w9 w5.heap.size a6 len6 cap6 m va6 vl6 vc6) ∧ Hid (Below w5.heap.size w5 w9) ∧ Hid (NodeRow w9 a6 len6 cap6 M6) ∧ Hid (NoteRow w9 va6 vl6 vc6 _) := ⟨_, rfl, Lib.hid (SB.out.put _ _ _ _ _ _), Lib.hid (((HB.out.setCell (p := ⟨w5.heap.size, 0, none⟩) (Nat.le_refl _) _).setCell (p := ⟨w5.heap.size, 1, none⟩) (Nat.le_refl _) _).setCell (p := ⟨w5.heap.size, 2, none⟩) (Nat.le_refl _) _), Lib.hid FR.out.1, Lib.hid FR.out.2⟩; rw [hw9]; clear hw9; clear z0 z1 b10 b11 b20 b21 b30 b31 r0 r1 r2 rf; (have z0 := (BX.out.keep HB.out).c0; have z1 := (BX.out.keep HB.out).c1; have b10 := (B1.out.keep HB.out).box.c0; have b11 := (B1.out.keep HB.out).box.c1; have b20 := (B2.out.keep HB.out).box.c0; have b21 := (B2.out.keep HB.out).box.c1; have b30 := (B3.out.keep HB.out).box.c0; have b31 := (B3.out.keep HB.out).box.c1; have r0 := SB.out.bx.c0; have r1 := SB.out.bx.c1; have r2 := SB.out.bx.c2; have rf := SB.out.bx.f))
      go_upto_region 16 with ((go_at_call 21; (refine (same6_any _ m _ _ _ _ _ _ _ _ _ _ _ _ _ _ _ _ ((B2).out.keep HB.out).box.row (R6).out ((B2).out.box.core.trans (C6).out.symm) ((N2).out.below HB.out) (N6).out).mono ?_); rintro e w7 ⟨rfl, hb⟩; have HB := Lib.hid (HB.out.trans (hb.mono HB.out.size)); have SB := Lib.hid (SB.out.keep hb); clear hb; (clear z0 z1 b10 b11 b20 b21 b30 b31 r0 r1 r2 rf; (have z0 := (BX.out.keep HB.out).c0; have z1 := (BX.out.keep HB.out).c1; have b10 := (B1.out.keep HB.out).box.c0; have b11 := (B1.out.keep HB.out).box.c1; have b20 := (B2.out.keep HB.out).box.c0; have b21 := (B2.out.keep HB.out).box.c1; have b30 := (B3.out.keep HB.out).box.c0; have b31 := (B3.out.keep HB.out).box.c1; have r0 := SB.out.bx.c0; have r1 := SB.out.bx.c1; have r2 := SB.out.bx.c2; have rf := SB.out.bx.f))))
      go_upto_region 17 with ((go_at_call 29; (with_reducible refine ((RT).out _ (BX.out.keep HB.out).row).mono ?_); rintro e w8 ⟨a6, len6, cap6, M6, va6, vl6, vc6, rfl, hr6, hc6, hn6, hb6, hp6⟩; have FR := Lib.hid (far3 (q := w5.heap.size) hr6 hn6 (hp6 _ SB.out.bx.lt ⟨AW5.out, SB.out.nt⟩).1 (hp6 _ SB.out.bx.lt ⟨AW5.out, SB.out.nt⟩).2 (.slice a6 len6 cap6) (.int .i64 m) (.slice va6 vl6 vc6)); have C6 := Lib.hid hc6; have HB := Lib.hid (HB.out.trans (hb6.mono HB.out.size)); have SB := Lib.hid (SB.out.keep hb6); clear hr6 hc6 hn6 hb6 hp6; (clear z0 z1 b10 b11 b20 b21 b30 b31 r0 r1 r2 rf; (have z0 := (BX.out.keep HB.out).c0; have z1 := (BX.out.keep HB.out).c1; have b10 := (B1.out.keep HB.out).box.c0; have b11 := (B1.out.keep HB.out).box.c1; have b20 := (B2.out.keep HB.out).box.c0; have b21 := (B2.out.keep HB.out).box.c1; have b30 := (B3.out.keep HB.out).box.c0; have b31 := (B3.out.keep HB.out).box.c1; have r0 := SB.out.bx.c0; have r1 := SB.out.bx.c1; have r2 := SB.out.bx.c2; have rf := SB.out.bx.f))))
      (obtain ⟨w9, hw9, SB, HB, R6, N6⟩ : ∃ w9, ((w8.setCell ⟨w5.heap.size, 0, none⟩ (.slice a6 len6 cap6)).setCell ⟨w5.heap.size, 1, none⟩ (.int .i64 m)).setCell ⟨w5.heap.size, 2, none⟩ (.slice va6 vl6 vc6) = w9 ∧ Hid (SBox w9 w5.heap.size a6 len6 cap6 m va6 vl6 vc6) ∧ Hid (Below w5.heap.size w5 w9) ∧ Hid (NodeRow w9 a6 len6 cap6 M6) ∧ Hid (NoteRow w9 va6 vl6 vc6 _) := ⟨_, rfl, Lib.hid (SB.out.put _ _ _ _ _ _), Lib.hid (((HB.out.setCell (p := ⟨w5.heap.size, 0, none⟩) (Nat.le_refl _) _).setCell (p := ⟨w5.heap.size, 1, none⟩) (Nat.le_refl _) _).setCell (p := ⟨w5.heap.size, 2, none⟩) (Nat.le_refl _) _), Lib.hid FR.out.1, Lib.hid FR.out.2⟩; rw [hw9]; clear hw9; clear z0 z1 b10 b11 b20 b21 b30 b31 r0 r1 r2 rf; (have z0 := (BX.out.keep HB.out).c0; have z1 := (BX.out.keep HB.out).c1; have b10 := (B1.out.keep HB.out).box.c0; have b11 := (B1.out.keep HB.out).box.c1; have b20 := (B2.out.keep HB.out).box.c0; have b21 := (B2.out.keep HB.out).box.c1; have b30 := (B3.out.keep HB.out).box.c0; have b31 := (B3.out.keep HB.out).box.c1; have r0 := SB.out.bx.c0; have r1 := SB.out.bx.c1; have r2 := SB.out.bx.c2; have rf := SB.out.bx.f))
      go_wp2_with ((go_at_call 21; (refine (same6_any _ m _ _ _ _ _ _ _ _ _ _ _ _ _ _ _ _ ((B3).out.keep HB.out).box.row (R6).out ((B3).out.box.core.trans (C6).out.symm) ((N3).out.below HB.out) (N6).out).mono ?_); rintro e w7 ⟨rfl, hb⟩; have HB := Lib.hid (HB.out.trans (hb.mono HB.out.size)); have SB := Lib.hid (SB.out.keep hb); clear hb; (clear z0 z1 b10 b11 b20 b21 b30 b31 r0 r1 r2 rf; (have z0 := (BX.out.keep HB.out).c0; have z1 := (BX.out.keep HB.out).c1; have b10 := (B1.out.keep HB.out).box.c0; have b11 := (B1.out.keep HB.out).box.c1; have b20 := (B2.out.keep HB.out).box.c0; have b21 := (B2.out.keep HB.out).box.c1; have b30 := (B3.out.keep HB.out).box.c0; have b31 := (B3.out.keep HB.out).box.c1; have r0 := SB.out.bx.c0; have r1 := SB.out.bx.c1; have r2 := SB.out.bx.c2; have rf := SB.out.bx.f))))
      go_ret
      exact ⟨rfl, BX.out.below.trans (HB.out.mono BX.out.below.size)⟩
end Go.Proofs.YtiffhlncnpppoaaGreatDoor
