/- Texts joined in build order: ForestMakes. -/
import Derived.Test.YtllfkiifkkcinaaP02
import Derived.IntWalk
/- The walk of the law ForestMakes, over the contracts of package forest. -/
namespace Go.Proofs.Ytllfkiifkkcinaa
open Go.RowKit
/-- A bare node is its own root. -/
theorem root_bare {m : Int} {F : List Core} {c : Core} (h : rightF m (F ++ [c]) = true) (hp : c.parent = -1) : rootZ m (F ++ [c]) (F.length : Int) = F.length := by
  have hl : F.length < (F ++ [c]).length := by rw [List.length_append]; simp
  rw [rootZ_eq h hl]
  have : rootF (F ++ [c]) F.length = F.length := by
    unfold rootF
    refine rootN_none ?_
    unfold parF
    rw [List.getElem?_append_right (Nat.le_refl _), Nat.sub_self]
    show (if c.parent = -1 then none else some c.parent.toNat) = none
    rw [if_pos hp]
  rw [this]
set_option maxHeartbeats 16000000 in
set_option maxRecDepth 100000 in
theorem forestMakes_walk (F : ForestFns) (a0 : Option Addr) (len0 cap0 : Nat) (m : Int) (L0 : List NodeD) (x : NodeD) (w : World)
    (h0 : NodeRow w a0 len0 cap0 L0) (hm : In64 m) (hx : NodeOk w x) :
    Calls Try.prog 5 #[forV a0 len0 cap0 m, nodVal x] w fun e w' => e = .returned (.bool true) ∧ Below w.heap.size w w' := by
  have AW := Lib.hid (fun W => awake3_any F W)
  have HF := Lib.hid F
  have BX := Lib.hid ((Box.start (m := m) h0).keep (below_box _ (nodB x)))
  have NX := Lib.hid (NBox.next (B := forB a0 len0 cap0 m) hx)
  have hl0 := h0.len64
  have hln := hx.attrs.len64
  have hls : x.core.name.size ≤ 9223372036854775807 := by have := hx.name; unfold maxLen at this; omega
  have hld : x.core.data.size ≤ 9223372036854775807 := by have := hx.data; unfold maxLen at this; omega
  have HL := Lib.hid h0.hlen
  have HM := Lib.hid hm
  clear h0 F hm hx
  cases c0 : shortF L0 with
  | false =>
    have C0 := Lib.hid c0
    go_enter Try.func5, Try.ntmps5
    go_wp2_with (first
                    | (go_at_call 14; (with_reducible refine (AW.out _).mono ?_); rintro e w1 ⟨rfl, hb⟩; have BX := Lib.hid (BX.out.keep hb); have NX := Lib.hid (NX.out.keep hb); have z0 := BX.out.c0; have z1 := BX.out.c1; obtain ⟨-, x0, x1, x2, x3, x4, x5, x6, x7, x8, x9, -⟩ := NX.out; clear hb)
                    | (go_at_call 15; (with_reducible refine (refshortF_any _ _ _ _ _ _ BX.out.row).mono ?_); rintro e w1 ⟨rfl, hb⟩; have BX := Lib.hid (BX.out.keep hb); have NX := Lib.hid (NX.out.keep hb); have z0 := BX.out.c0; have z1 := BX.out.c1; obtain ⟨-, x0, x1, x2, x3, x4, x5, x6, x7, x8, x9, -⟩ := NX.out; clear hb)
                    | (go_at_call 19; (with_reducible refine (HR.out _ BX.out.row).mono ?_); rintro e w1 ⟨rfl, hb⟩; have BX := Lib.hid (BX.out.keep hb); have NX := Lib.hid (NX.out.keep hb); have z0 := BX.out.c0; have z1 := BX.out.c1; obtain ⟨-, x0, x1, x2, x3, x4, x5, x6, x7, x8, x9, -⟩ := NX.out; clear hb))
    go_ret
    exact ⟨rfl, BX.out.below⟩
  | true =>
    have SM := Lib.hid (small_of_short c0)
    have SH := Lib.hid c0
    by_cases hn : (60 : Int) < (x.aN : Int)
    · go_enter Try.func5, Try.ntmps5
      go_wp2_with (first
                      | (go_at_call 14; (with_reducible refine (AW.out _).mono ?_); rintro e w1 ⟨rfl, hb⟩; have BX := Lib.hid (BX.out.keep hb); have NX := Lib.hid (NX.out.keep hb); have z0 := BX.out.c0; have z1 := BX.out.c1; obtain ⟨-, x0, x1, x2, x3, x4, x5, x6, x7, x8, x9, -⟩ := NX.out; clear hb)
                      | (go_at_call 15; (with_reducible refine (refshortF_any _ _ _ _ _ _ BX.out.row).mono ?_); rintro e w1 ⟨rfl, hb⟩; have BX := Lib.hid (BX.out.keep hb); have NX := Lib.hid (NX.out.keep hb); have z0 := BX.out.c0; have z1 := BX.out.c1; obtain ⟨-, x0, x1, x2, x3, x4, x5, x6, x7, x8, x9, -⟩ := NX.out; clear hb)
                      | (go_at_call 19; (with_reducible refine (HR.out _ BX.out.row).mono ?_); rintro e w1 ⟨rfl, hb⟩; have BX := Lib.hid (BX.out.keep hb); have NX := Lib.hid (NX.out.keep hb); have z0 := BX.out.c0; have z1 := BX.out.c1; obtain ⟨-, x0, x1, x2, x3, x4, x5, x6, x7, x8, x9, -⟩ := NX.out; clear hb))
      go_ret
      exact ⟨rfl, BX.out.below⟩
    by_cases hs : (300 : Int) < (x.core.name.size : Int)
    · go_enter Try.func5, Try.ntmps5
      go_wp2_with (first
                      | (go_at_call 14; (with_reducible refine (AW.out _).mono ?_); rintro e w1 ⟨rfl, hb⟩; have BX := Lib.hid (BX.out.keep hb); have NX := Lib.hid (NX.out.keep hb); have z0 := BX.out.c0; have z1 := BX.out.c1; obtain ⟨-, x0, x1, x2, x3, x4, x5, x6, x7, x8, x9, -⟩ := NX.out; clear hb)
                      | (go_at_call 15; (with_reducible refine (refshortF_any _ _ _ _ _ _ BX.out.row).mono ?_); rintro e w1 ⟨rfl, hb⟩; have BX := Lib.hid (BX.out.keep hb); have NX := Lib.hid (NX.out.keep hb); have z0 := BX.out.c0; have z1 := BX.out.c1; obtain ⟨-, x0, x1, x2, x3, x4, x5, x6, x7, x8, x9, -⟩ := NX.out; clear hb)
                      | (go_at_call 19; (with_reducible refine (HR.out _ BX.out.row).mono ?_); rintro e w1 ⟨rfl, hb⟩; have BX := Lib.hid (BX.out.keep hb); have NX := Lib.hid (NX.out.keep hb); have z0 := BX.out.c0; have z1 := BX.out.c1; obtain ⟨-, x0, x1, x2, x3, x4, x5, x6, x7, x8, x9, -⟩ := NX.out; clear hb))
      go_ret
      exact ⟨rfl, BX.out.below⟩
    cases c1 : rightF m (coreL L0) with
    | false =>
      have HR : Hid (∀ W, NodeRow W a0 len0 cap0 L0 → Calls Try.prog 19 #[forV a0 len0 cap0 m] W fun e w' => e = .returned (.bool false) ∧ Below W.heap.size W w') := Lib.hid (fun W h => by
        have := HF.out.right a0 len0 cap0 m L0 W h HM.out SM.out
        rwa [c1] at this)
      clear c1
      go_enter Try.func5, Try.ntmps5
      go_wp2_with (first
                      | (go_at_call 14; (with_reducible refine (AW.out _).mono ?_); rintro e w1 ⟨rfl, hb⟩; have BX := Lib.hid (BX.out.keep hb); have NX := Lib.hid (NX.out.keep hb); have z0 := BX.out.c0; have z1 := BX.out.c1; obtain ⟨-, x0, x1, x2, x3, x4, x5, x6, x7, x8, x9, -⟩ := NX.out; clear hb)
                      | (go_at_call 15; (with_reducible refine (refshortF_any _ _ _ _ _ _ BX.out.row).mono ?_); rintro e w1 ⟨rfl, hb⟩; have BX := Lib.hid (BX.out.keep hb); have NX := Lib.hid (NX.out.keep hb); have z0 := BX.out.c0; have z1 := BX.out.c1; obtain ⟨-, x0, x1, x2, x3, x4, x5, x6, x7, x8, x9, -⟩ := NX.out; clear hb)
                      | (go_at_call 19; (with_reducible refine (HR.out _ BX.out.row).mono ?_); rintro e w1 ⟨rfl, hb⟩; have BX := Lib.hid (BX.out.keep hb); have NX := Lib.hid (NX.out.keep hb); have z0 := BX.out.c0; have z1 := BX.out.c1; obtain ⟨-, x0, x1, x2, x3, x4, x5, x6, x7, x8, x9, -⟩ := NX.out; clear hb))
      go_ret
      exact ⟨rfl, BX.out.below⟩
    | true =>
      have HR : Hid (∀ W, NodeRow W a0 len0 cap0 L0 → Calls Try.prog 19 #[forV a0 len0 cap0 m] W fun e w' => e = .returned (.bool true) ∧ Below W.heap.size W w') := Lib.hid (fun W h => by
        have := HF.out.right a0 len0 cap0 m L0 W h HM.out SM.out
        rwa [c1] at this)
      have C1 := Lib.hid c1
      clear c1
      have hAN : x.core.attrs.length ≤ 60 := by rw [NX.out.ok.attrs.hlen]; omega
      have HXS : Hid (x.core.attrs.length ≤ 1000 ∧ x.core.name.size ≤ 1000) := Lib.hid ⟨by omega, by omega⟩
      have SX : Hid (smallX x) := Lib.hid HXS.out
      have HCL : Hid ((coreL L0).length = len0) := Lib.hid (by unfold coreL; rw [List.length_map, HL.out])
      obtain ⟨E, hE⟩ : ∃ E, makeE m (coreL L0) x.core = E := ⟨_, rfl⟩
      obtain ⟨N, hN⟩ : ∃ N, makeN m (coreL L0) x.core = N := ⟨_, rfl⟩
      have GM : Hid (∀ W, NodeRow W a0 len0 cap0 L0 → NodeOk W x → Calls Try.prog 18 #[forV a0 len0 cap0 m, nodVal x] W (ForPost W (makeL m (coreL L0) x.core) m [.int .i64 N, .int .i64 E])) := Lib.hid (fun W h1 h2 => by
        rw [← hE, ← hN]
        exact HF.out.make a0 len0 cap0 m L0 x W h1 h2 HM.out SM.out SX.out)
      have GS : Hid (∀ W b lb cb M, NodeRow W a0 len0 cap0 L0 → NodeRow W b lb cb M → coreL M = coreL L0 → Calls Try.prog 20 #[forV a0 len0 cap0 m, forV b lb cb m] W fun e w' => e = .returned (.bool true) ∧ Below W.heap.size W w') := Lib.hid (fun W b lb cb M h1 h2 he => by
        have := refsameF_any a0 b len0 cap0 lb cb m m L0 M W h1 h2
        rwa [he, decide_eq_true rfl, decide_eq_true rfl] at this)
      clear hAN
      by_cases h8 : E = 8
      · subst h8
        have hlm : (len0 : Int) = m := by
          have h1 := right_most C1.out
          have h2 := HCL.out
          unfold makeE at hE
          split at hE
          · split at hE
            · omega
            · cases hE
          · cases hE
        obtain ⟨hmL, hmN⟩ := make_not (m := m) (F := coreL L0) (x := x.core) (by rw [hE]; decide)
        rw [hN] at hmN
        subst hmN
        rw [hmL] at GM
        clear hE hN hmL
        have hlm2 : ((len0 : Int) == m) = true := beq_iff_eq.2 hlm
        clear hlm
        go_enter Try.func5, Try.ntmps5
        go_wp2_with (first
          | (first
                | (go_at_call 14; (with_reducible refine (AW.out _).mono ?_); rintro e w1 ⟨rfl, hb⟩; have BX := Lib.hid (BX.out.keep hb); have NX := Lib.hid (NX.out.keep hb); have z0 := BX.out.c0; have z1 := BX.out.c1; obtain ⟨-, x0, x1, x2, x3, x4, x5, x6, x7, x8, x9, -⟩ := NX.out; clear hb)
                | (go_at_call 15; (with_reducible refine (refshortF_any _ _ _ _ _ _ BX.out.row).mono ?_); rintro e w1 ⟨rfl, hb⟩; have BX := Lib.hid (BX.out.keep hb); have NX := Lib.hid (NX.out.keep hb); have z0 := BX.out.c0; have z1 := BX.out.c1; obtain ⟨-, x0, x1, x2, x3, x4, x5, x6, x7, x8, x9, -⟩ := NX.out; clear hb)
                | (go_at_call 19; (with_reducible refine (HR.out _ BX.out.row).mono ?_); rintro e w1 ⟨rfl, hb⟩; have BX := Lib.hid (BX.out.keep hb); have NX := Lib.hid (NX.out.keep hb); have z0 := BX.out.c0; have z1 := BX.out.c1; obtain ⟨-, x0, x1, x2, x3, x4, x5, x6, x7, x8, x9, -⟩ := NX.out; clear hb))
          | (go_at_call 18; (refine (GM.out _ BX.out.row NX.out.ok).mono ?_); rintro e w1 ⟨a1, len1, cap1, L1, rfl, hr1, hcl, hb⟩; have BX := Lib.hid ((BX.out.keep hb).keep (below_box w1 (forB a1 len1 cap1 m))); have NX := Lib.hid ((NX.out.keep hb).keep (below_box w1 (forB a1 len1 cap1 m))); have z0 := BX.out.c0; have z1 := BX.out.c1; obtain ⟨-, x0, x1, x2, x3, x4, x5, x6, x7, x8, x9, -⟩ := NX.out; have BG := Lib.hid (Box.start (m := m) hr1); have g0 := BG.out.c0; have g1 := BG.out.c1; have CL1 := Lib.hid hcl; clear hb hr1 hcl)
          | (go_at_call 20; (refine (GS.out _ _ _ _ _ BX.out.row BG.out.row CL1.out).mono ?_); rintro e w1 ⟨rfl, hb⟩; have BX := Lib.hid (BX.out.keep hb); have z0 := BX.out.c0; have z1 := BX.out.c1; clear hb))
        go_ret
        exact ⟨rfl, BX.out.below⟩
      by_cases h1 : E = 1
      · subst h1
        obtain ⟨hmL, hmN⟩ := make_not (m := m) (F := coreL L0) (x := x.core) (by rw [hE]; decide)
        rw [hN] at hmN
        subst hmN
        rw [hmL] at GM
        clear hE hN hmL h8
        cases hlm2 : ((len0 : Int) == m)
        all_goals
          go_enter Try.func5, Try.ntmps5
          go_wp2_with (first
            | (first
                  | (go_at_call 14; (with_reducible refine (AW.out _).mono ?_); rintro e w1 ⟨rfl, hb⟩; have BX := Lib.hid (BX.out.keep hb); have NX := Lib.hid (NX.out.keep hb); have z0 := BX.out.c0; have z1 := BX.out.c1; obtain ⟨-, x0, x1, x2, x3, x4, x5, x6, x7, x8, x9, -⟩ := NX.out; clear hb)
                  | (go_at_call 15; (with_reducible refine (refshortF_any _ _ _ _ _ _ BX.out.row).mono ?_); rintro e w1 ⟨rfl, hb⟩; have BX := Lib.hid (BX.out.keep hb); have NX := Lib.hid (NX.out.keep hb); have z0 := BX.out.c0; have z1 := BX.out.c1; obtain ⟨-, x0, x1, x2, x3, x4, x5, x6, x7, x8, x9, -⟩ := NX.out; clear hb)
                  | (go_at_call 19; (with_reducible refine (HR.out _ BX.out.row).mono ?_); rintro e w1 ⟨rfl, hb⟩; have BX := Lib.hid (BX.out.keep hb); have NX := Lib.hid (NX.out.keep hb); have z0 := BX.out.c0; have z1 := BX.out.c1; obtain ⟨-, x0, x1, x2, x3, x4, x5, x6, x7, x8, x9, -⟩ := NX.out; clear hb))
            | (go_at_call 18; (refine (GM.out _ BX.out.row NX.out.ok).mono ?_); rintro e w1 ⟨a1, len1, cap1, L1, rfl, hr1, hcl, hb⟩; have BX := Lib.hid ((BX.out.keep hb).keep (below_box w1 (forB a1 len1 cap1 m))); have NX := Lib.hid ((NX.out.keep hb).keep (below_box w1 (forB a1 len1 cap1 m))); have z0 := BX.out.c0; have z1 := BX.out.c1; obtain ⟨-, x0, x1, x2, x3, x4, x5, x6, x7, x8, x9, -⟩ := NX.out; have BG := Lib.hid (Box.start (m := m) hr1); have g0 := BG.out.c0; have g1 := BG.out.c1; have CL1 := Lib.hid hcl; clear hb hr1 hcl)
            | (go_at_call 20; (refine (GS.out _ _ _ _ _ BX.out.row BG.out.row CL1.out).mono ?_); rintro e w1 ⟨rfl, hb⟩; have BX := Lib.hid (BX.out.keep hb); have z0 := BX.out.c0; have z1 := BX.out.c1; clear hb))
          go_ret
          exact ⟨rfl, BX.out.below⟩
      have hE0 : E = 0 := by
        unfold makeE at hE
        split at hE
        · split at hE <;> omega
        · omega
      subst hE0
      obtain ⟨hrg, hmL, hmN⟩ := make_right C1.out hE
      rw [hN, HCL.out] at hmN
      subst hmN
      rw [hmL] at GM hrg
      have HRG := Lib.hid hrg
      clear hE hN hmL h8 h1 hrg
      go_enter Try.func5, Try.ntmps5
      go_wp2_with (first
        | (first
              | (go_at_call 14; (with_reducible refine (AW.out _).mono ?_); rintro e w1 ⟨rfl, hb⟩; have BX := Lib.hid (BX.out.keep hb); have NX := Lib.hid (NX.out.keep hb); have z0 := BX.out.c0; have z1 := BX.out.c1; obtain ⟨-, x0, x1, x2, x3, x4, x5, x6, x7, x8, x9, -⟩ := NX.out; clear hb)
              | (go_at_call 15; (with_reducible refine (refshortF_any _ _ _ _ _ _ BX.out.row).mono ?_); rintro e w1 ⟨rfl, hb⟩; have BX := Lib.hid (BX.out.keep hb); have NX := Lib.hid (NX.out.keep hb); have z0 := BX.out.c0; have z1 := BX.out.c1; obtain ⟨-, x0, x1, x2, x3, x4, x5, x6, x7, x8, x9, -⟩ := NX.out; clear hb)
              | (go_at_call 19; (with_reducible refine (HR.out _ BX.out.row).mono ?_); rintro e w1 ⟨rfl, hb⟩; have BX := Lib.hid (BX.out.keep hb); have NX := Lib.hid (NX.out.keep hb); have z0 := BX.out.c0; have z1 := BX.out.c1; obtain ⟨-, x0, x1, x2, x3, x4, x5, x6, x7, x8, x9, -⟩ := NX.out; clear hb))
        | ((go_at_call 18; (refine (GM.out _ BX.out.row NX.out.ok).mono ?_); rintro e w1 ⟨a1, len1, cap1, L1, rfl, hr1, hcl, hb⟩; have BX := Lib.hid ((BX.out.keep hb).keep (below_box w1 (forB a1 len1 cap1 m))); have NX := Lib.hid ((NX.out.keep hb).keep (below_box w1 (forB a1 len1 cap1 m))); have z0 := BX.out.c0; have z1 := BX.out.c1; obtain ⟨-, x0, x1, x2, x3, x4, x5, x6, x7, x8, x9, -⟩ := NX.out; have BG := Lib.hid (Box.start (m := m) hr1); have g0 := BG.out.c0; have g1 := BG.out.c1; have CL1 := Lib.hid hcl; clear hb hr1 hcl)
           have HL1 : Hid (len1 = len0 + 1) := Lib.hid (by
             have h1 := congrArg List.length CL1.out
             have h2 := BG.out.row.hlen
             rw [List.length_append, HCL.out] at h1
             unfold coreL at h1
             rw [List.length_map, h2] at h1
             simpa using h1)
           have SM1 : Hid (smallF L1) := Lib.hid (by
             have hl := HL1.out
             have hlow := SH.out
             unfold shortF at hlow
             simp only [Bool.and_eq_true, decide_eq_true_eq] at hlow
             refine ⟨by rw [BG.out.row.hlen]; have := HL.out; omega, fun z hz => ?_⟩
             have hc : z.core ∈ coreL L1 := List.mem_map.2 ⟨z, hz, rfl⟩
             rw [CL1.out] at hc
             unfold smallN
             rcases List.mem_append.1 hc with hc | hc
             · obtain ⟨y, hy, he⟩ := List.mem_map.1 hc
               have := SM.out.2 y hy
               unfold smallN at this
               rw [← he]
               exact this
             · have he : z.core = bareC (coreL L0) x.core := by simpa using hc
               rw [he]
               exact ⟨Nat.zero_le _, HXS.out.1, HXS.out.2⟩)
           have HR2 : Hid (∀ W, NodeRow W a1 len1 cap1 L1 → Calls Try.prog 19 #[forV a1 len1 cap1 m] W fun e w' => e = .returned (.bool true) ∧ Below W.heap.size W w') := Lib.hid (fun W h => by
             have := HF.out.right a1 len1 cap1 m L1 W h HM.out SM1.out
             rwa [CL1.out, HRG.out] at this)))
      have hl1 := HL1.out
      subst hl1
      obtain ⟨b2, o2, v, hab, hb2, hv, hat, hok⟩ := BG.out.row.get (show len0 < len0 + 1 by omega)
      subst hab
      have hvc : v.core = bareC (coreL L0) x.core := by
        have h1 : (coreL L1)[len0]? = some v.core := by unfold coreL; rw [List.getElem?_map, hv]; rfl
        rw [CL1.out, ← HCL.out, List.getElem?_append_right (Nat.le_refl _), Nat.sub_self] at h1
        exact (Option.some.inj h1).symm
      have q0 := hat.c0
      have q1 := hat.c1
      have q3 := hat.c3
      have q5 := hat.c5
      have q6 := hat.c6
      have hkn : v.kN = 0 := by rw [← hok.kids.hlen, hvc]; rfl
      rw [hvc] at q0 q1 q3 q5
      rw [hkn] at q6
      unfold bareC at q0 q1 q3 q5
      dsimp only at q0 q1 q3 q5
      have E0 := Ext.cell z0 BX.out.lt
      have EG0 := Ext.cell g0 BG.out.lt
      have EG1 := Ext.cell g1 BG.out.lt
      have EX0 := Ext.cell x0 NX.out.lt
      have EX1 := Ext.cell x1 NX.out.lt
      have EX3 := Ext.cell x3 NX.out.lt
      have EQ0 := Ext.cell q0 hb2
      have EQ1 := Ext.cell q1 hb2
      have EQ3 := Ext.cell q3 hb2
      have EQ5 := Ext.cell q5 hb2
      have EQ6 := Ext.cell q6 hb2
      have ER := Lib.hid (fun (y : Ext (w1.alloc (forB (some ⟨b2, o2, none⟩) (len0 + 1) cap1 m))) => HR2.out y.v (BG.out.row.below y.below))
      clear z0 z1 g0 g1 x0 x1 x2 x3 x4 x5 x6 x7 x8 x9 q0 q1 q3 q5 q6 hvc hkn hv hat hok hb2
      have hlow : len0 ≤ 60 := by
        have hlow := SH.out
        unfold shortF at hlow
        simp only [Bool.and_eq_true, decide_eq_true_eq] at hlow
        have := HL.out
        omega
      have hw1 : IntKind.i64.wrap ((len0 : Int) + 1) = (len0 : Int) + 1 := IntWalk.i64_in _ (by omega)
      have b1 : ((len0 : Int) != (len0 : Int)) = false := by simp
      have b3 : (((len0 : Int) + 1) != ((len0 : Int) + 1)) = false := by simp
      have b4 : (x.core.kind != x.core.kind) = false := by simp
      simp only [List.append]
      refine wp_region_ext (by kernel_rfl) (by kernel_rfl) ?_
      repeat (go_big_quiet_step ((go_at_call 19; exact Ext.call_below (ER.out _))))
      refine wpQuiet_nil ?_
      intro w' hw'
      obtain ⟨⟨w2, hb2⟩, hw''⟩ := hw'
      dsimp only at hw''
      subst hw''
      clear E0 EG0 EG1 EX0 EX1 EX3 EQ0 EQ1 EQ3 EQ5 EQ6 ER
      have BX := Lib.hid (BX.out.keep hb2)
      have BG := Lib.hid (BG.out.keep hb2)
      clear hb2
      have GO : Hid (∀ W y z, NodeOk W y → NodeOk W z → Calls Try.prog 36 #[nodV y, nodV z] W fun e w' => e = .returned (.bool (decide (y.core = z.core))) ∧ Below W.heap.size W w') := Lib.hid (fun W y z h1 h2 => refone_any y z W h1 h2)
      have RT : Hid (∀ W, NodeRow W (some ⟨b2, o2, none⟩) (len0 + 1) cap1 L1 → Calls Try.prog 22 #[forV (some ⟨b2, o2, none⟩) (len0 + 1) cap1 m, .int .i64 len0] W fun e w' => e = .returned (.int .i64 len0) ∧ Below W.heap.size W w') := Lib.hid (fun W h => by
        have h1 := HF.out.root (some ⟨b2, o2, none⟩) (len0 + 1) cap1 m L1 len0 W h HM.out ⟨by omega, by omega⟩ SM1.out
        have h2 := root_bare HRG.out rfl
        rw [HCL.out] at h2
        rwa [CL1.out, h2] at h1)
      clear hw1 b1 b3 b4
      go_wp2
      go_loopw [8] (fun i wr => ∃ k : Nat, k ≤ len0 ∧ i = .int .i64 k ∧ Hid (Box w wr w.heap.size a0 len0 cap0 m L0 (coreL L0)) ∧ Hid (Box w1 wr w1.heap.size (some ⟨b2, o2, none⟩) (len0 + 1) cap1 m L1 (coreL L1))) (fun i _ => len0 - (intOf i).toNat)
      case atStart => exact ⟨0, Nat.zero_le _, rfl, BX, BG⟩
      case round =>
        clear BX BG
        obtain ⟨k, hk, rfl, BX, BG⟩ := hrel
        have z0 := BX.out.c0
        have g0 := BG.out.c0
        have g1 := BG.out.c1
        by_cases hlt : k < len0
        · obtain ⟨ba, oa, nx, hab, hba, hgx, hatx, hokx⟩ := BX.out.row.get hlt
          subst hab
          obtain ⟨bb, ob, ny, hab, hbb, hgy, haty, hoky⟩ := BG.out.row.get (show k < len0 + 1 by omega)
          injection hab with hab
          injection hab with e1 e2
          subst e1 e2
          have heq : decide (nx.core = ny.core) = true := decide_eq_true (by
            have h1 : (coreL L1)[k]? = some ny.core := by unfold coreL; rw [List.getElem?_map, hgy]; rfl
            have h2 : (coreL L0)[k]? = some nx.core := by unfold coreL; rw [List.getElem?_map, hgx]; rfl
            rw [CL1.out, List.getElem?_append_left (by rw [HCL.out]; exact hlt), h2] at h1
            exact Option.some.inj h1)
          have EO : Hid (∀ x : Ext wr, Calls Try.prog 36 #[nodV nx, nodV ny] x.v fun e w' => e = .returned (.bool true) ∧ Below x.v.heap.size x.v w') := Lib.hid (fun x => by
            have := GO.out x.v nx ny (hokx.below x.below) (hoky.below x.below)
            rwa [heq] at this)
          obtain ⟨x0, x1, x2, x3, x4, x5, x6, x7, x8, x9⟩ := hatx
          obtain ⟨v0, v1, v2, v3, v4, v5, v6, v7, v8, v9⟩ := haty
          have E0 := Ext.cell z0 BX.out.lt
          have E1 := Ext.cell g0 BG.out.lt
          have EX0 := Ext.cell x0 hba
          have EY0 := Ext.cell v0 hbb
          have EX1 := Ext.cell x1 hba
          have EY1 := Ext.cell v1 hbb
          have EX2 := Ext.cell x2 hba
          have EY2 := Ext.cell v2 hbb
          have EX3 := Ext.cell x3 hba
          have EY3 := Ext.cell v3 hbb
          have EX4 := Ext.cell x4 hba
          have EY4 := Ext.cell v4 hbb
          have EX5 := Ext.cell x5 hba
          have EY5 := Ext.cell v5 hbb
          have EX6 := Ext.cell x6 hba
          have EY6 := Ext.cell v6 hbb
          have EX7 := Ext.cell x7 hba
          have EY7 := Ext.cell v7 hbb
          have EX8 := Ext.cell x8 hba
          have EY8 := Ext.cell v8 hbb
          have EX9 := Ext.cell x9 hba
          have EY9 := Ext.cell v9 hbb
          clear x0 x1 x2 x3 x4 x5 x6 x7 x8 x9 v0 v1 v2 v3 v4 v5 v6 v7 v8 v9 hokx hoky hgx hgy heq
          go_wp2
          refine wp_region_ext (by kernel_rfl) (by kernel_rfl) ?_
          repeat (go_big_quiet_step ((go_at_call 36; exact Ext.call_below (EO.out _))))
          refine wpQuiet_nil ?_
          intro w' hw'
          obtain ⟨⟨w2, hb2⟩, hw''⟩ := hw'
          dsimp only at hw''
          subst hw''
          have BX := Lib.hid (BX.out.keep hb2)
          have BG := Lib.hid (BG.out.keep hb2)
          clear E0 E1 EX0 EX1 EX2 EX3 EX4 EX5 EX6 EX7 EX8 EX9 EY0 EY1 EY2 EY3 EY4 EY5 EY6 EY7 EY8 EY9 hb2
          go_wp2
          go_roundw
          case rel => exact ⟨k + 1, hlt, by go_num, BX, BG⟩
          case measure => simp [intOf]; omega
        · have hkk : k = len0 := by omega
          subst hkk
          have b1 : ((k : Int) == (k : Int)) = true := by simp
          go_wp2_with (go_at_call 22; (refine (RT.out _ BG.out.row).mono ?_); rintro e w2 ⟨rfl, hb⟩; have BX := Lib.hid (BX.out.keep hb); clear hb)
          go_ret
          exact ⟨rfl, BX.out.below⟩
end Go.Proofs.Ytllfkiifkkcinaa
