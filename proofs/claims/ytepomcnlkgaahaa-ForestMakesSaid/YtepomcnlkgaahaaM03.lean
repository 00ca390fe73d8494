/- Texts joined in build order: ForestMakes AttrOpen ForestOpen NameBytes NameText NameSmall NameFit NameWords NameKinds AttrStand AttrPlaces AttrRightFn ForestFit1. -/
import Derived.IntWalk
import Derived.Test.YtepomcnlkgaahaaChecked
import Derived.Deep.SlicePairs
import Derived.ProofKit
import Derived.OpenShut
import Derived.WalkKit
import Derived.WalkLawsBesides
import Derived.Lib.Hide
import Derived.Lib.Strings
import Derived.Laws.IdiomStrings
import Derived.Below
import Derived.WideShapes
import Derived.Lib.Slices
import Derived.Lib.Walk
import Derived.Maps.OwnSet
import Derived.Test.YtepomcnlkgaahaaM02
/- The walk of the law ForestMakes, over the contracts of package forest. -/
namespace Go.Proofs.Ytepomcnlkgaahaa
open Go.RowKit
/-- A bare node is its own root. -/
theorem root_bare {m : Int} {F : List Core} {c : Core} (h : rightF m (F ++ [c]) = true) (hp : c.parent = -1) : rootZ m (F ++ [c]) (F.length : Int) = F.length := by
  have hl : F.length < (F ++ [c]).length := by rw [List.length_append]; simp
  rw [rootZ_eq h hl]
  have : rootF (F ++ [c]) F.length = F.length := by
    unfold rootF
    refine rootN_none ?_
    unfold parF
    rw [List.getElem?_append_right (Nat.le_refl _), Nat.sub_self]
    show (if c.parent = -1 then none else some c.parent.toNat) = none
    rw [if_pos hp]
  rw [this]
set_option maxHeartbeats 16000000 in
set_option maxRecDepth 100000 in
theorem forestMakes_walk (F : ForestFns) (a0 : Option Addr) (len0 cap0 : Nat) (m : Int) (L0 : List NodeD) (x : NodeD) (w : World)
    (h0 : NodeRow w a0 len0 cap0 L0) (hm : In64 m) (hx : NodeOk w x) :
    Calls Try.prog 5 #[forV a0 len0 cap0 m, nodVal x] w fun e w' => e = .returned (.bool true) ∧ Below w.heap.size w w' := by
  have AW := Lib.hid (fun W => awake3_any F W)
  have HF := Lib.hid F
  have BX := Lib.hid ((Box.start (m := m) h0).keep (below_box _ (nodB x)))
  have NX := Lib.hid (NBox.next (B := forB a0 len0 cap0 m) hx)
  have hl0 := h0.len64
  have hln := hx.attrs.len64
  have hls : x.core.name.size ≤ 9223372036854775807 := by have := hx.name; unfold maxLen at this; omega
  have hld : x.core.data.size ≤ 9223372036854775807 := by have := hx.data; unfold maxLen at this; omega
  have HL := Lib.hid h0.hlen
  have HM := Lib.hid hm
  clear h0 F hm hx
  cases c0 : shortF L0 with
  | false =>
    have C0 := Lib.hid c0
    go_enter Try.func5, Try.ntmps5
    go_wp2_with (first
                    | (go_at_call 7; (with_reducible refine (AW.out _).mono ?_); rintro e w1 ⟨rfl, hb⟩; have BX := Lib.hid (BX.out.keep hb); have NX := Lib.hid (NX.out.keep hb); have z0 := BX.out.c0; have z1 := BX.out.c1; obtain ⟨-, x0, x1, x2, x3, x4, x5, x6, x7, x8, x9, -⟩ := NX.out; clear hb)
                    | (go_at_call 8; (with_reducible refine (refshortF_any _ _ _ _ _ _ BX.out.row).mono ?_); rintro e w1 ⟨rfl, hb⟩; have BX := Lib.hid (BX.out.keep hb); have NX := Lib.hid (NX.out.keep hb); have z0 := BX.out.c0; have z1 := BX.out.c1; obtain ⟨-, x0, x1, x2, x3, x4, x5, x6, x7, x8, x9, -⟩ := NX.out; clear hb)
                    | (go_at_call 12; (with_reducible refine (HR.out _ BX.out.row).mono ?_); rintro e w1 ⟨rfl, hb⟩; have BX := Lib.hid (BX.out.keep hb); have NX := Lib.hid (NX.out.keep hb); have z0 := BX.out.c0; have z1 := BX.out.c1; obtain ⟨-, x0, x1, x2, x3, x4, x5, x6, x7, x8, x9, -⟩ := NX.out; clear hb))
    go_ret
    exact ⟨rfl, BX.out.below⟩
  | true =>
    have SM := Lib.hid (small_of_short c0)
    have SH := Lib.hid c0
    by_cases hn : (60 : Int) < (x.aN : Int)
    · go_enter Try.func5, Try.ntmps5
      go_wp2_with (first
                      | (go_at_call 7; (with_reducible refine (AW.out _).mono ?_); rintro e w1 ⟨rfl, hb⟩; have BX := Lib.hid (BX.out.keep hb); have NX := Lib.hid (NX.out.keep hb); have z0 := BX.out.c0; have z1 := BX.out.c1; obtain ⟨-, x0, x1, x2, x3, x4, x5, x6, x7, x8, x9, -⟩ := NX.out; clear hb)
                      | (go_at_call 8; (with_reducible refine (refshortF_any _ _ _ _ _ _ BX.out.row).mono ?_); rintro e w1 ⟨rfl, hb⟩; have BX := Lib.hid (BX.out.keep hb); have NX := Lib.hid (NX.out.keep hb); have z0 := BX.out.c0; have z1 := BX.out.c1; obtain ⟨-, x0, x1, x2, x3, x4, x5, x6, x7, x8, x9, -⟩ := NX.out; clear hb)
                      | (go_at_call 12; (with_reducible refine (HR.out _ BX.out.row).mono ?_); rintro e w1 ⟨rfl, hb⟩; have BX := Lib.hid (BX.out.keep hb); have NX := Lib.hid (NX.out.keep hb); have z0 := BX.out.c0; have z1 := BX.out.c1; obtain ⟨-, x0, x1, x2, x3, x4, x5, x6, x7, x8, x9, -⟩ := NX.out; clear hb))
      go_ret
      exact ⟨rfl, BX.out.below⟩
    by_cases hs : (300 : Int) < (x.core.name.size : Int)
    · go_enter Try.func5, Try.ntmps5
      go_wp2_with (first
                      | (go_at_call 7; (with_reducible refine (AW.out _).mono ?_); rintro e w1 ⟨rfl, hb⟩; have BX := Lib.hid (BX.out.keep hb); have NX := Lib.hid (NX.out.keep hb); have z0 := BX.out.c0; have z1 := BX.out.c1; obtain ⟨-, x0, x1, x2, x3, x4, x5, x6, x7, x8, x9, -⟩ := NX.out; clear hb)
                      | (go_at_call 8; (with_reducible refine (refshortF_any _ _ _ _ _ _ BX.out.row).mono ?_); rintro e w1 ⟨rfl, hb⟩; have BX := Lib.hid (BX.out.keep hb); have NX := Lib.hid (NX.out.keep hb); have z0 := BX.out.c0; have z1 := BX.out.c1; obtain ⟨-, x0, x1, x2, x3, x4, x5, x6, x7, x8, x9, -⟩ := NX.out; clear hb)
                      | (go_at_call 12; (with_reducible refine (HR.out _ BX.out.row).mono ?_); rintro e w1 ⟨rfl, hb⟩; have BX := Lib.hid (BX.out.keep hb); have NX := Lib.hid (NX.out.keep hb); have z0 := BX.out.c0; have z1 := BX.out.c1; obtain ⟨-, x0, x1, x2, x3, x4, x5, x6, x7, x8, x9, -⟩ := NX.out; clear hb))
      go_ret
      exact ⟨rfl, BX.out.below⟩
    cases c1 : rightF m (coreL L0) with
    | false =>
      have HR : Hid (∀ W, NodeRow W a0 len0 cap0 L0 → Calls Try.prog 12 #[forV a0 len0 cap0 m] W fun e w' => e = .returned (.bool false) ∧ Below W.heap.size W w') := Lib.hid (fun W h => by
        have := HF.out.right a0 len0 cap0 m L0 W h HM.out SM.out
        rwa [c1] at this)
      clear c1
      go_enter Try.func5, Try.ntmps5
      go_wp2_with (first
                      | (go_at_call 7; (with_reducible refine (AW.out _).mono ?_); rintro e w1 ⟨rfl, hb⟩; have BX := Lib.hid (BX.out.keep hb); have NX := Lib.hid (NX.out.keep hb); have z0 := BX.out.c0; have z1 := BX.out.c1; obtain ⟨-, x0, x1, x2, x3, x4, x5, x6, x7, x8, x9, -⟩ := NX.out; clear hb)
                      | (go_at_call 8; (with_reducible refine (refshortF_any _ _ _ _ _ _ BX.out.row).mono ?_); rintro e w1 ⟨rfl, hb⟩; have BX := Lib.hid (BX.out.keep hb); have NX := Lib.hid (NX.out.keep hb); have z0 := BX.out.c0; have z1 := BX.out.c1; obtain ⟨-, x0, x1, x2, x3, x4, x5, x6, x7, x8, x9, -⟩ := NX.out; clear hb)
                      | (go_at_call 12; (with_reducible refine (HR.out _ BX.out.row).mono ?_); rintro e w1 ⟨rfl, hb⟩; have BX := Lib.hid (BX.out.keep hb); have NX := Lib.hid (NX.out.keep hb); have z0 := BX.out.c0; have z1 := BX.out.c1; obtain ⟨-, x0, x1, x2, x3, x4, x5, x6, x7, x8, x9, -⟩ := NX.out; clear hb))
      go_ret
      exact ⟨rfl, BX.out.below⟩
    | true =>
      have HR : Hid (∀ W, NodeRow W a0 len0 cap0 L0 → Calls Try.prog 12 #[forV a0 len0 cap0 m] W fun e w' => e = .returned (.bool true) ∧ Below W.heap.size W w') := Lib.hid (fun W h => by
        have := HF.out.right a0 len0 cap0 m L0 W h HM.out SM.out
        rwa [c1] at this)
      have C1 := Lib.hid c1
      clear c1
      have hAN : x.core.attrs.length ≤ 60 := by rw [NX.out.ok.attrs.hlen]; omega
      have HXS : Hid (x.core.attrs.length ≤ 1000 ∧ x.core.name.size ≤ 1000) := Lib.hid ⟨by omega, by omega⟩
      have SX : Hid (smallX x) := Lib.hid HXS.out
      have HCL : Hid ((coreL L0).length = len0) := Lib.hid (by unfold coreL; rw [List.length_map, HL.out])
      obtain ⟨E, hE⟩ : ∃ E, makeE m (coreL L0) x.core = E := ⟨_, rfl⟩
      obtain ⟨N, hN⟩ : ∃ N, makeN m (coreL L0) x.core = N := ⟨_, rfl⟩
      have GM : Hid (∀ W, NodeRow W a0 len0 cap0 L0 → NodeOk W x → Calls Try.prog 11 #[forV a0 len0 cap0 m, nodVal x] W (ForPost W (makeL m (coreL L0) x.core) m [.int .i64 N, .int .i64 E])) := Lib.hid (fun W h1 h2 => by
        rw [← hE, ← hN]
        exact HF.out.make a0 len0 cap0 m L0 x W h1 h2 HM.out SM.out SX.out)
      have GS : Hid (∀ W b lb cb M, NodeRow W a0 len0 cap0 L0 → NodeRow W b lb cb M → coreL M = coreL L0 → Calls Try.prog 13 #[forV a0 len0 cap0 m, forV b lb cb m] W fun e w' => e = .returned (.bool true) ∧ Below W.heap.size W w') := Lib.hid (fun W b lb cb M h1 h2 he => by
        have := refsameF_any a0 b len0 cap0 lb cb m m L0 M W h1 h2
        rwa [he, decide_eq_true rfl, decide_eq_true rfl] at this)
      clear hAN
      by_cases h8 : E = 8
      · subst h8
        have hlm : (len0 : Int) = m := by
          have h1 := right_most C1.out
          have h2 := HCL.out
          unfold makeE at hE
          split at hE
          · split at hE
            · omega
            · cases hE
          · cases hE
        obtain ⟨hmL, hmN⟩ := make_not (m := m) (F := coreL L0) (x := x.core) (by rw [hE]; decide)
        rw [hN] at hmN
        subst hmN
        rw [hmL] at GM
        clear hE hN hmL
        have hlm2 : ((len0 : Int) == m) = true := beq_iff_eq.2 hlm
        clear hlm
        go_enter Try.func5, Try.ntmps5
        go_wp2_with (first
          | (first
                | (go_at_call 7; (with_reducible refine (AW.out _).mono ?_); rintro e w1 ⟨rfl, hb⟩; have BX := Lib.hid (BX.out.keep hb); have NX := Lib.hid (NX.out.keep hb); have z0 := BX.out.c0; have z1 := BX.out.c1; obtain ⟨-, x0, x1, x2, x3, x4, x5, x6, x7, x8, x9, -⟩ := NX.out; clear hb)
                | (go_at_call 8; (with_reducible refine (refshortF_any _ _ _ _ _ _ BX.out.row).mono ?_); rintro e w1 ⟨rfl, hb⟩; have BX := Lib.hid (BX.out.keep hb); have NX := Lib.hid (NX.out.keep hb); have z0 := BX.out.c0; have z1 := BX.out.c1; obtain ⟨-, x0, x1, x2, x3, x4, x5, x6, x7, x8, x9, -⟩ := NX.out; clear hb)
                | (go_at_call 12; (with_reducible refine (HR.out _ BX.out.row).mono ?_); rintro e w1 ⟨rfl, hb⟩; have BX := Lib.hid (BX.out.keep hb); have NX := Lib.hid (NX.out.keep hb); have z0 := BX.out.c0; have z1 := BX.out.c1; obtain ⟨-, x0, x1, x2, x3, x4, x5, x6, x7, x8, x9, -⟩ := NX.out; clear hb))
          | (go_at_call 11; (refine (GM.out _ BX.out.row NX.out.ok).mono ?_); rintro e w1 ⟨a1, len1, cap1, L1, rfl, hr1, hcl, hb⟩; have BX := Lib.hid ((BX.out.keep hb).keep (below_box w1 (forB a1 len1 cap1 m))); have NX := Lib.hid ((NX.out.keep hb).keep (below_box w1 (forB a1 len1 cap1 m))); have z0 := BX.out.c0; have z1 := BX.out.c1; obtain ⟨-, x0, x1, x2, x3, x4, x5, x6, x7, x8, x9, -⟩ := NX.out; have BG := Lib.hid (Box.start (m := m) hr1); have g0 := BG.out.c0; have g1 := BG.out.c1; have CL1 := Lib.hid hcl; clear hb hr1 hcl)
          | (go_at_call 13; (refine (GS.out _ _ _ _ _ BX.out.row BG.out.row CL1.out).mono ?_); rintro e w1 ⟨rfl, hb⟩; have BX := Lib.hid (BX.out.keep hb); have z0 := BX.out.c0; have z1 := BX.out.c1; clear hb))
        go_ret
        exact ⟨rfl, BX.out.below⟩
      by_cases h1 : E = 1
      · subst h1
        obtain ⟨hmL, hmN⟩ := make_not (m := m) (F := coreL L0) (x := x.core) (by rw [hE]; decide)
        rw [hN] at hmN
        subst hmN
        rw [hmL] at GM
        clear hE hN hmL h8
        cases hlm2 : ((len0 : Int) == m)
        all_goals
          go_enter Try.func5, Try.ntmps5
          go_wp2_with (first
            | (first
                  | (go_at_call 7; (with_reducible refine (AW.out _).mono ?_); rintro e w1 ⟨rfl, hb⟩; have BX := Lib.hid (BX.out.keep hb); have NX := Lib.hid (NX.out.keep hb); have z0 := BX.out.c0; have z1 := BX.out.c1; obtain ⟨-, x0, x1, x2, x3, x4, x5, x6, x7, x8, x9, -⟩ := NX.out; clear hb)
                  | (go_at_call 8; (with_reducible refine (refshortF_any _ _ _ _ _ _ BX.out.row).mono ?_); rintro e w1 ⟨rfl, hb⟩; have BX := Lib.hid (BX.out.keep hb); have NX := Lib.hid (NX.out.keep hb); have z0 := BX.out.c0; have z1 := BX.out.c1; obtain ⟨-, x0, x1, x2, x3, x4, x5, x6, x7, x8, x9, -⟩ := NX.out; clear hb)
                  | (go_at_call 12; (with_reducible refine (HR.out _ BX.out.row).mono ?_); rintro e w1 ⟨rfl, hb⟩; have BX := Lib.hid (BX.out.keep hb); have NX := Lib.hid (NX.out.keep hb); have z0 := BX.out.c0; have z1 := BX.out.c1; obtain ⟨-, x0, x1, x2, x3, x4, x5, x6, x7, x8, x9, -⟩ := NX.out; clear hb))
            | (go_at_call 11; (refine (GM.out _ BX.out.row NX.out.ok).mono ?_); rintro e w1 ⟨a1, len1, cap1, L1, rfl, hr1, hcl, hb⟩; have BX := Lib.hid ((BX.out.keep hb).keep (below_box w1 (forB a1 len1 cap1 m))); have NX := Lib.hid ((NX.out.keep hb).keep (below_box w1 (forB a1 len1 cap1 m))); have z0 := BX.out.c0; have z1 := BX.out.c1; obtain ⟨-, x0, x1, x2, x3, x4, x5, x6, x7, x8, x9, -⟩ := NX.out; have BG := Lib.hid (Box.start (m := m) hr1); have g0 := BG.out.c0; have g1 := BG.out.c1; have CL1 := Lib.hid hcl; clear hb hr1 hcl)
            | (go_at_call 13; (refine (GS.out _ _ _ _ _ BX.out.row BG.out.row CL1.out).mono ?_); rintro e w1 ⟨rfl, hb⟩; have BX := Lib.hid (BX.out.keep hb); have z0 := BX.out.c0; have z1 := BX.out.c1; clear hb))
          go_ret
          exact ⟨rfl, BX.out.below⟩
      have hE0 : E = 0 := by
        unfold makeE at hE
        split at hE
        · split at hE <;> omega
        · omega
      subst hE0
      obtain ⟨hrg, hmL, hmN⟩ := make_right C1.out hE
      rw [hN, HCL.out] at hmN
      subst hmN
      rw [hmL] at GM hrg
      have HRG := Lib.hid hrg
      clear hE hN hmL h8 h1 hrg
      go_enter Try.func5, Try.ntmps5
      go_wp2_with (first
        | (first
              | (go_at_call 7; (with_reducible refine (AW.out _).mono ?_); rintro e w1 ⟨rfl, hb⟩; have BX := Lib.hid (BX.out.keep hb); have NX := Lib.hid (NX.out.keep hb); have z0 := BX.out.c0; have z1 := BX.out.c1; obtain ⟨-, x0, x1, x2, x3, x4, x5, x6, x7, x8, x9, -⟩ := NX.out; clear hb)
              | (go_at_call 8; (with_reducible refine (refshortF_any _ _ _ _ _ _ BX.out.row).mono ?_); rintro e w1 ⟨rfl, hb⟩; have BX := Lib.hid (BX.out.keep hb); have NX := Lib.hid (NX.out.keep hb); have z0 := BX.out.c0; have z1 := BX.out.c1; obtain ⟨-, x0, x1, x2, x3, x4, x5, x6, x7, x8, x9, -⟩ := NX.out; clear hb)
              | (go_at_call 12; (with_reducible refine (HR.out _ BX.out.row).mono ?_); rintro e w1 ⟨rfl, hb⟩; have BX := Lib.hid (BX.out.keep hb); have NX := Lib.hid (NX.out.keep hb); have z0 := BX.out.c0; have z1 := BX.out.c1; obtain ⟨-, x0, x1, x2, x3, x4, x5, x6, x7, x8, x9, -⟩ := NX.out; clear hb))
        | ((go_at_call 11; (refine (GM.out _ BX.out.row NX.out.ok).mono ?_); rintro e w1 ⟨a1, len1, cap1, L1, rfl, hr1, hcl, hb⟩; have BX := Lib.hid ((BX.out.keep hb).keep (below_box w1 (forB a1 len1 cap1 m))); have NX := Lib.hid ((NX.out.keep hb).keep (below_box w1 (forB a1 len1 cap1 m))); have z0 := BX.out.c0; have z1 := BX.out.c1; obtain ⟨-, x0, x1, x2, x3, x4, x5, x6, x7, x8, x9, -⟩ := NX.out; have BG := Lib.hid (Box.start (m := m) hr1); have g0 := BG.out.c0; have g1 := BG.out.c1; have CL1 := Lib.hid hcl; clear hb hr1 hcl)
           have HL1 : Hid (len1 = len0 + 1) := Lib.hid (by
             have h1 := congrArg List.length CL1.out
             have h2 := BG.out.row.hlen
             rw [List.length_append, HCL.out] at h1
             unfold coreL at h1
             rw [List.length_map, h2] at h1
             simpa using h1)
           have SM1 : Hid (smallF L1) := Lib.hid (by
             have hl := HL1.out
             have hlow := SH.out
             unfold shortF at hlow
             simp only [Bool.and_eq_true, decide_eq_true_eq] at hlow
             refine ⟨by rw [BG.out.row.hlen]; have := HL.out; omega, fun z hz => ?_⟩
             have hc : z.core ∈ coreL L1 := List.mem_map.2 ⟨z, hz, rfl⟩
             rw [CL1.out] at hc
             unfold smallN
             rcases List.mem_append.1 hc with hc | hc
             · obtain ⟨y, hy, he⟩ := List.mem_map.1 hc
               have := SM.out.2 y hy
               unfold smallN at this
               rw [← he]
               exact this
             · have he : z.core = bareC (coreL L0) x.core := by simpa using hc
               rw [he]
               exact ⟨Nat.zero_le _, HXS.out.1, HXS.out.2⟩)
           have HR2 : Hid (∀ W, NodeRow W a1 len1 cap1 L1 → Calls Try.prog 12 #[forV a1 len1 cap1 m] W fun e w' => e = .returned (.bool true) ∧ Below W.heap.size W w') := Lib.hid (fun W h => by
             have := HF.out.right a1 len1 cap1 m L1 W h HM.out SM1.out
             rwa [CL1.out, HRG.out] at this)))
      have hl1 := HL1.out
      subst hl1
      obtain ⟨b2, o2, v, hab, hb2, hv, hat, hok⟩ := BG.out.row.get (show len0 < len0 + 1 by omega)
      subst hab
      have hvc : v.core = bareC (coreL L0) x.core := by
        have h1 : (coreL L1)[len0]? = some v.core := by unfold coreL; rw [List.getElem?_map, hv]; rfl
        rw [CL1.out, ← HCL.out, List.getElem?_append_right (Nat.le_refl _), Nat.sub_self] at h1
        exact (Option.some.inj h1).symm
      have q0 := hat.c0
      have q1 := hat.c1
      have q3 := hat.c3
      have q5 := hat.c5
      have q6 := hat.c6
      have hkn : v.kN = 0 := by rw [← hok.kids.hlen, hvc]; rfl
      rw [hvc] at q0 q1 q3 q5
      rw [hkn] at q6
      unfold bareC at q0 q1 q3 q5
      dsimp only at q0 q1 q3 q5
      have E0 := Ext.cell z0 BX.out.lt
      have EG0 := Ext.cell g0 BG.out.lt
      have EG1 := Ext.cell g1 BG.out.lt
      have EX0 := Ext.cell x0 NX.out.lt
      have EX1 := Ext.cell x1 NX.out.lt
      have EX3 := Ext.cell x3 NX.out.lt
      have EQ0 := Ext.cell q0 hb2
      have EQ1 := Ext.cell q1 hb2
      have EQ3 := Ext.cell q3 hb2
      have EQ5 := Ext.cell q5 hb2
      have EQ6 := Ext.cell q6 hb2
      have ER := Lib.hid (fun (y : Ext (w1.alloc (forB (some ⟨b2, o2, none⟩) (len0 + 1) cap1 m))) => HR2.out y.v (BG.out.row.below y.below))
      clear z0 z1 g0 g1 x0 x1 x2 x3 x4 x5 x6 x7 x8 x9 q0 q1 q3 q5 q6 hvc hkn hv hat hok hb2
      have hlow : len0 ≤ 60 := by
        have hlow := SH.out
        unfold shortF at hlow
        simp only [Bool.and_eq_true, decide_eq_true_eq] at hlow
        have := HL.out
        omega
      have hw1 : IntKind.i64.wrap ((len0 : Int) + 1) = (len0 : Int) + 1 := IntWalk.i64_in _ (by omega)
      have b1 : ((len0 : Int) != (len0 : Int)) = false := by simp
      have b3 : (((len0 : Int) + 1) != ((len0 : Int) + 1)) = false := by simp
      have b4 : (x.core.kind != x.core.kind) = false := by simp
      simp only [List.append]
      refine wp_region_ext (by kernel_rfl) (by kernel_rfl) ?_
      repeat (go_big_quiet_step ((go_at_call 12; exact Ext.call_below (ER.out _))))
      refine wpQuiet_nil ?_
      intro w' hw'
      obtain ⟨⟨w2, hb2⟩, hw''⟩ := hw'
      dsimp only at hw''
      subst hw''
      clear E0 EG0 EG1 EX0 EX1 EX3 EQ0 EQ1 EQ3 EQ5 EQ6 ER
      have BX := Lib.hid (BX.out.keep hb2)
      have BG := Lib.hid (BG.out.keep hb2)
      clear hb2
      have GO : Hid (∀ W y z, NodeOk W y → NodeOk W z → Calls Try.prog 29 #[nodV y, nodV z] W fun e w' => e = .returned (.bool (decide (y.core = z.core))) ∧ Below W.heap.size W w') := Lib.hid (fun W y z h1 h2 => refone_any y z W h1 h2)
      have RT : Hid (∀ W, NodeRow W (some ⟨b2, o2, none⟩) (len0 + 1) cap1 L1 → Calls Try.prog 15 #[forV (some ⟨b2, o2, none⟩) (len0 + 1) cap1 m, .int .i64 len0] W fun e w' => e = .returned (.int .i64 len0) ∧ Below W.heap.size W w') := Lib.hid (fun W h => by
        have h1 := HF.out.root (some ⟨b2, o2, none⟩) (len0 + 1) cap1 m L1 len0 W h HM.out ⟨by omega, by omega⟩ SM1.out
        have h2 := root_bare HRG.out rfl
        rw [HCL.out] at h2
        rwa [CL1.out, h2] at h1)
      clear hw1 b1 b3 b4
      go_wp2
      go_loopw [8] (fun i wr => ∃ k : Nat, k ≤ len0 ∧ i = .int .i64 k ∧ Hid (Box w wr w.heap.size a0 len0 cap0 m L0 (coreL L0)) ∧ Hid (Box w1 wr w1.heap.size (some ⟨b2, o2, none⟩) (len0 + 1) cap1 m L1 (coreL L1))) (fun i _ => len0 - (intOf i).toNat)
      case atStart => exact ⟨0, Nat.zero_le _, rfl, BX, BG⟩
      case round =>
        clear BX BG
        obtain ⟨k, hk, rfl, BX, BG⟩ := hrel
        have z0 := BX.out.c0
        have g0 := BG.out.c0
        have g1 := BG.out.c1
        by_cases hlt : k < len0
        · obtain ⟨ba, oa, nx, hab, hba, hgx, hatx, hokx⟩ := BX.out.row.get hlt
          subst hab
          obtain ⟨bb, ob, ny, hab, hbb, hgy, haty, hoky⟩ := BG.out.row.get (show k < len0 + 1 by omega)
          injection hab with hab
          injection hab with e1 e2
          subst e1 e2
          have heq : decide (nx.core = ny.core) = true := decide_eq_true (by
            have h1 : (coreL L1)[k]? = some ny.core := by unfold coreL; rw [List.getElem?_map, hgy]; rfl
            have h2 : (coreL L0)[k]? = some nx.core := by unfold coreL; rw [List.getElem?_map, hgx]; rfl
            rw [CL1.out, List.getElem?_append_left (by rw [HCL.out]; exact hlt), h2] at h1
            exact Option.some.inj h1)
          have EO : Hid (∀ x : Ext wr, Calls Try.prog 29 #[nodV nx, nodV ny] x.v fun e w' => e = .returned (.bool true) ∧ Below x.v.heap.size x.v w') := Lib.hid (fun x => by
            have := GO.out x.v nx ny (hokx.below x.below) (hoky.below x.below)
            rwa [heq] at this)
          obtain ⟨x0, x1, x2, x3, x4, x5, x6, x7, x8, x9⟩ := hatx
          obtain ⟨v0, v1, v2, v3, v4, v5, v6, v7, v8, v9⟩ := haty
          have E0 := Ext.cell z0 BX.out.lt
          have E1 := Ext.cell g0 BG.out.lt
          have EX0 := Ext.cell x0 hba
          have EY0 := Ext.cell v0 hbb
          have EX1 := Ext.cell x1 hba
          have EY1 := Ext.cell v1 hbb
          have EX2 := Ext.cell x2 hba
          have EY2 := Ext.cell v2 hbb
          have EX3 := Ext.cell x3 hba
          have EY3 := Ext.cell v3 hbb
          have EX4 := Ext.cell x4 hba
          have EY4 := Ext.cell v4 hbb
          have EX5 := Ext.cell x5 hba
          have EY5 := Ext.cell v5 hbb
          have EX6 := Ext.cell x6 hba
          have EY6 := Ext.cell v6 hbb
          have EX7 := Ext.cell x7 hba
          have EY7 := Ext.cell v7 hbb
          have EX8 := Ext.cell x8 hba
          have EY8 := Ext.cell v8 hbb
          have EX9 := Ext.cell x9 hba
          have EY9 := Ext.cell v9 hbb
          clear x0 x1 x2 x3 x4 x5 x6 x7 x8 x9 v0 v1 v2 v3 v4 v5 v6 v7 v8 v9 hokx hoky hgx hgy heq
          go_wp2
          refine wp_region_ext (by kernel_rfl) (by kernel_rfl) ?_
          repeat (go_big_quiet_step ((go_at_call 29; exact Ext.call_below (EO.out _))))
          refine wpQuiet_nil ?_
          intro w' hw'
          obtain ⟨⟨w2, hb2⟩, hw''⟩ := hw'
          dsimp only at hw''
          subst hw''
          have BX := Lib.hid (BX.out.keep hb2)
          have BG := Lib.hid (BG.out.keep hb2)
          clear E0 E1 EX0 EX1 EX2 EX3 EX4 EX5 EX6 EX7 EX8 EX9 EY0 EY1 EY2 EY3 EY4 EY5 EY6 EY7 EY8 EY9 hb2
          go_wp2
          go_roundw
          case rel => exact ⟨k + 1, hlt, by go_num, BX, BG⟩
          case measure => simp [intOf]; omega
        · have hkk : k = len0 := by omega
          subst hkk
          have b1 : ((k : Int) == (k : Int)) = true := by simp
          go_wp2_with (go_at_call 15; (refine (RT.out _ BG.out.row).mono ?_); rintro e w2 ⟨rfl, hb⟩; have BX := Lib.hid (BX.out.keep hb); clear hb)
          go_ret
          exact ⟨rfl, BX.out.below⟩
end Go.Proofs.Ytepomcnlkgaahaa
/- An argument that is a list of attributes, opened. -/
namespace Go.Proofs.Ytepomcnlkgaahaa
open Go.RowKit Go.Deep Go.ChangeShapes Go.WideShapes
theorem block_lt {W : World} {p : Addr} {v : Value} (h : W.cell? p = some v) : p.block < W.heap.size := by
  rcases Nat.lt_or_ge p.block W.heap.size with h1 | h1
  · exact h1
  · unfold World.cell? at h
    rw [Array.getElem?_eq_none h1] at h
    simp at h
theorem open_attrs {H : Type} {enc : TypeId × Value → H} {W : World} {a : Option Addr} {len cap : Nat} {d : DataW H} {p : List MemPlace}
    (h : DataW.Trod enc Try.prog W 0 (fun _ => true) true 25 (.slice a len cap) d p) : ∃ L, AttrRow W a len cap L := by
  obtain ⟨fuel, hf⟩ := h
  rcases open_slice_pairs Try.underlying25 Try.underlying68 (by kernel_rfl) rfl rfl (by kernel_rfl) (by kernel_rfl) hf with ⟨hcs, _⟩ | ⟨ad, l, c, m, n, V0, V1, D0, D1, P0, P1, hcs, _, hl, hm, hmm, _, hi⟩
  · simp [Value.cells] at hcs
    obtain ⟨rfl, rfl, rfl⟩ := hcs
    exact ⟨[], SRow.nil, by simp, fun _ => rfl⟩
  · simp [Value.cells] at hcs
    obtain ⟨rfl, rfl, rfl⟩ := hcs
    have hml : len ≤ m := by rw [hmm]; simpa using hl
    have each : ∀ i, i < len → ∃ x : ByteArray × ByteArray, W.cell? (ad.add (i * 2)) = some (.string x.1) ∧ W.cell? (ad.add (i * 2 + 1)) = some (.string x.2) ∧ x.1.size ≤ maxLen ∧ x.2.size ≤ maxLen := by
      intro i hil
      obtain ⟨h1, h2, h3, h4⟩ := hi i (by omega)
      obtain ⟨s, hs, _, hs3⟩ := DataW.trod_string Try.underlying9 h3
      obtain ⟨t, ht, _, ht3⟩ := DataW.trod_string Try.underlying9 h4
      simp at hs ht
      exact ⟨(s, t), by rw [h1, hs], by rw [h2, ht], hs3, ht3⟩
    obtain ⟨q, hq⟩ := choose_lt each
    refine ⟨(List.range len).map q, ⟨by simp, hl, hm, fun x _ => encA_len x, ?_⟩, ?_, fun h => by cases h⟩
    · rcases Nat.eq_zero_or_pos len with h0 | h0
      · exact .inl h0
      · obtain ⟨b, off, spot⟩ := ad
        have hc := (hq 0 h0).1
        have hspot : spot = none := by simpa [Addr.add] using World.cell?_spot hc
        subst hspot
        refine .inr ⟨b, off, rfl, ?_, ?_⟩
        · have := block_lt hc
          rwa [add_plain] at this
        · intro i x j v hx hv
          obtain ⟨hil, hgx⟩ := List.getElem?_eq_some_iff.1 hx
          have hil' : i < len := by simpa using hil
          simp at hgx
          obtain ⟨h1, h2, _⟩ := hq i hil'
          rw [add_plain] at h1 h2
          rw [hgx] at h1 h2
          obtain ⟨hjl, hgv⟩ := List.getElem?_eq_some_iff.1 hv
          match j, hjl with
          | 0, _ => simp [encA] at hgv; subst hgv; exact h1
          | 1, _ => simp [encA] at hgv; subst hgv; simpa [Nat.add_assoc] using h2
    · intro x hx
      obtain ⟨i, hi1, rfl⟩ := List.mem_map.1 hx
      have := hq i (List.mem_range.1 hi1)
      exact ⟨this.2.2.1, this.2.2.2⟩
end Go.Proofs.Ytepomcnlkgaahaa
/- Arguments that are forests and nodes, opened. -/
namespace Go.Proofs.Ytepomcnlkgaahaa
open Go.RowKit Go.Deep Go.ChangeShapes Go.WideShapes
theorem in64_of {z : Int} (h : (Lit.int .i64 z).wf = true) : In64 z := by
  exact bounds_i64 h
/-- A slice of numbers. -/
theorem open_introw {H : Type} {enc : TypeId × Value → H} {W : World} {a : Option Addr} {len cap : Nat} {d : DataW H} {p : List MemPlace}
    (h : DataW.Trod enc Try.prog W 0 (fun _ => true) true 26 (.slice a len cap) d p) : ∃ L, IntRow W a len cap L := by
  obtain ⟨fuel, hf⟩ := h
  rcases open_slice Try.underlying26 hf with ⟨hcs, _⟩ | ⟨ad, l, c, m, n, D, Pl, hcs, _, hl, hm, hmm, _, hi⟩
  · simp [Value.cells] at hcs
    obtain ⟨rfl, rfl, rfl⟩ := hcs
    exact ⟨[], SRow.nil, by simp, fun _ => rfl⟩
  · simp [Value.cells] at hcs
    obtain ⟨rfl, rfl, rfl⟩ := hcs
    have hml : len ≤ m := by rw [hmm]; simpa using hl
    have ce : Try.prog.cellsOf 3 = 1 := by kernel_rfl
    have each : ∀ i, i < len → ∃ x : Int, W.cell? (ad.add i) = some (.int .i64 x) ∧ In64 x := by
      intro i hil
      obtain ⟨cs', h1, h2⟩ := hi i (by omega)
      rw [ce] at h1
      obtain ⟨_, hlen, hcell⟩ := World.cells?_some h1
      match cs', hlen with
      | [v0], _ =>
        have e0 := hcell 0 (by omega)
        rw [add_add] at e0
        obtain ⟨n0, hn0, _, hw0⟩ := DataW.trod_int Try.underlying3 h2
        simp at hn0
        subst hn0
        exact ⟨n0, by simpa using e0, in64_of hw0⟩
    obtain ⟨q, hq⟩ : ∃ q : Nat → Int, ∀ i, i < len → W.cell? (ad.add i) = some (.int .i64 (q i)) ∧ In64 (q i) := by
      refine ⟨fun i => if h : i < len then (each i h).choose else 0, fun i hil => ?_⟩
      simp only [dif_pos hil]
      exact (each i hil).choose_spec
    refine ⟨(List.range len).map q, ⟨by simp, hl, hm, fun x _ => rfl, ?_⟩, ?_, fun h => by cases h⟩
    · rcases Nat.eq_zero_or_pos len with h0 | h0
      · exact .inl h0
      · obtain ⟨b, off, spot⟩ := ad
        have hc := (hq 0 h0).1
        have hspot : spot = none := by simpa [Addr.add] using World.cell?_spot hc
        subst hspot
        refine .inr ⟨b, off, rfl, ?_, ?_⟩
        · have := block_lt hc
          rwa [add_plain] at this
        · intro i x j v hx hv
          obtain ⟨hil, hgx⟩ := List.getElem?_eq_some_iff.1 hx
          have hil' : i < len := by simpa using hil
          simp at hgx
          obtain ⟨h1, _⟩ := hq i hil'
          rw [add_plain] at h1
          rw [hgx] at h1
          obtain ⟨hjl, hgv⟩ := List.getElem?_eq_some_iff.1 hv
          match j, hjl with
          | 0, _ => simp [encZ] at hgv; subst hgv; simpa using h1
    · intro x hx
      obtain ⟨i, hi1, rfl⟩ := List.mem_map.1 hx
      exact (hq i (List.mem_range.1 hi1)).2
theorem slice_cells {H : Type} {enc : TypeId × Value → H} {W : World} {t e : TypeId} {fuel : Nat} {v : Value} {x : DataW H × List MemPlace} (ht : Try.prog.underlying t = some (.slice e))
    (h : DataW.trod enc Try.prog W 0 (fun _ => true) true fuel t [v] = some x) : ∃ a n c, v = .slice a n c := by
  rcases open_slice ht h with ⟨hcs, _⟩ | ⟨ad, l, c, m, n, D, Pl, hcs, _⟩
  · exact ⟨none, 0, 0, by simpa using hcs⟩
  · exact ⟨some ad, l, c, by simpa using hcs⟩
/-- The cells of a node, read as data. -/
theorem open_nodecells {H : Type} {enc : TypeId × Value → H} {W : World} {cs : List Value} {d : DataW H} {p : List MemPlace} {fuel : Nat} (hc : cs.length = 10)
    (h : DataW.trod enc Try.prog W 0 (fun _ => true) true fuel 28 cs = some (d, p)) : ∃ x : NodeD, cs = encN x ∧ NodeOk W x := by
  obtain ⟨xs, k, _, _, _, hxl, hff⟩ := DataW.trod_struct Try.underlying28 h
  have c3 : Try.prog.cellsOf 3 = 1 := by kernel_rfl
  have c9 : Try.prog.cellsOf 9 = 1 := by kernel_rfl
  have ca : Try.prog.cellsOf 25 = 1 := by kernel_rfl
  have ci : Try.prog.cellsOf 26 = 1 := by kernel_rfl
  match cs, hc with
  | [v0, v1, v2, v3, v4, v5, v6, v7, v8, v9], _ =>
    match xs, hxl with
    | [y0, y1, y2, y3, y4, y5, y6, y7, y8, y9], _ =>
      have g0 := hff 0 _ rfl
      have g1 := hff 1 _ rfl
      have g2 := hff 2 _ rfl
      have g3 := hff 3 _ rfl
      have g4 := hff 4 _ rfl
      have g5 := hff 5 _ rfl
      have g6 := hff 6 _ rfl
      have g7 := hff 7 _ rfl
      have g8 := hff 8 _ rfl
      have g9 := hff 9 _ rfl
      simp [c3, c9, ca, ci] at g0 g1 g2 g3 g4 g5 g6 g7 g8 g9
      obtain ⟨n0, hn0, _, hw0⟩ := DataW.trod_int Try.underlying3 g0
      obtain ⟨s1, hs1, _, hl1⟩ := DataW.trod_string Try.underlying9 g1
      obtain ⟨s2, hs2, _, hl2⟩ := DataW.trod_string Try.underlying9 g2
      obtain ⟨s3, hs3, _, hl3⟩ := DataW.trod_string Try.underlying9 g3
      obtain ⟨n5, hn5, _, hw5⟩ := DataW.trod_int Try.underlying3 g5
      obtain ⟨n7, hn7, _, hw7⟩ := DataW.trod_int Try.underlying3 g7
      obtain ⟨n8, hn8, _, hw8⟩ := DataW.trod_int Try.underlying3 g8
      obtain ⟨n9, hn9, _, hw9⟩ := DataW.trod_int Try.underlying3 g9
      simp at hn0 hs1 hs2 hs3 hn5 hn7 hn8 hn9
      subst hn0 hs1 hs2 hs3 hn5 hn7 hn8 hn9
      obtain ⟨a4, l4, c4, rfl⟩ := slice_cells Try.underlying25 g4
      obtain ⟨a6, l6, c6, rfl⟩ := slice_cells Try.underlying26 g6
      obtain ⟨A, hA⟩ := open_attrs (enc := enc) (W := W) (a := a4) (len := l4) (cap := c4) (d := y4.1) (p := y4.2) ⟨k, by simpa [Value.cells] using g4⟩
      obtain ⟨K, hK⟩ := open_introw (enc := enc) (W := W) (a := a6) (len := l6) (cap := c6) (d := y6.1) (p := y6.2) ⟨k, by simpa [Value.cells] using g6⟩
      exact ⟨⟨⟨n0, s1, s2, s3, A, n5, K, n7, n8, n9⟩, a4, l4, c4, a6, l6, c6⟩, rfl, hA, hK, hl1, hl2, hl3, in64_of hw0, in64_of hw5, in64_of hw7, in64_of hw8, in64_of hw9⟩
/-- A slice of nodes. -/
theorem open_noderow {H : Type} {enc : TypeId × Value → H} {W : World} {a : Option Addr} {len cap : Nat} {d : DataW H} {p : List MemPlace}
    (h : DataW.Trod enc Try.prog W 0 (fun _ => true) true 22 (.slice a len cap) d p) : ∃ L, NodeRow W a len cap L := by
  obtain ⟨fuel, hf⟩ := h
  rcases open_slice Try.underlying22 hf with ⟨hcs, _⟩ | ⟨ad, l, c, m, n, D, Pl, hcs, _, hl, hm, hmm, _, hi⟩
  · simp [Value.cells] at hcs
    obtain ⟨rfl, rfl, rfl⟩ := hcs
    exact ⟨[], SRow.nil, by simp, fun _ => rfl⟩
  · simp [Value.cells] at hcs
    obtain ⟨rfl, rfl, rfl⟩ := hcs
    have hml : len ≤ m := by rw [hmm]; simpa using hl
    have ce : Try.prog.cellsOf 28 = 10 := by kernel_rfl
    have each : ∀ i, i < len → ∃ x : NodeD, NodeOk W x ∧ ∀ j v, (encN x)[j]? = some v → W.cell? (ad.add (i * 10 + j)) = some v := by
      intro i hil
      obtain ⟨cs', h1, h2⟩ := hi i (by omega)
      rw [ce] at h1
      obtain ⟨_, hlen, hcell⟩ := World.cells?_some h1
      obtain ⟨x, hx, hok⟩ := open_nodecells hlen h2
      refine ⟨x, hok, fun j v hv => ?_⟩
      have hj : j < 10 := (List.getElem?_eq_some_iff.1 hv).1
      have e0 := hcell j hj
      rw [add_add, hx, hv] at e0
      exact e0
    obtain ⟨q, hq⟩ : ∃ q : Nat → NodeD, ∀ i, i < len → NodeOk W (q i) ∧ ∀ j v, (encN (q i))[j]? = some v → W.cell? (ad.add (i * 10 + j)) = some v := by
      rcases Nat.eq_zero_or_pos len with h0 | h0
      · exact ⟨fun _ => ⟨⟨0, ByteArray.empty, ByteArray.empty, ByteArray.empty, [], 0, [], 0, 0, 0⟩, none, 0, 0, none, 0, 0⟩, fun i hi => by omega⟩
      · refine ⟨fun i => if h : i < len then (each i h).choose else (each 0 h0).choose, fun i hil => ?_⟩
        simp only [dif_pos hil]
        exact (each i hil).choose_spec
    refine ⟨(List.range len).map q, ⟨by simp, hl, hm, fun x _ => rfl, ?_⟩, ?_, fun h => by cases h⟩
    · rcases Nat.eq_zero_or_pos len with h0 | h0
      · exact .inl h0
      · obtain ⟨b, off, spot⟩ := ad
        have hc := (hq 0 h0).2 0 _ rfl
        have hspot : spot = none := by simpa [Addr.add] using World.cell?_spot hc
        subst hspot
        refine .inr ⟨b, off, rfl, ?_, ?_⟩
        · have := block_lt hc
          rwa [add_plain] at this
        · intro i x j v hx hv
          obtain ⟨hil, hgx⟩ := List.getElem?_eq_some_iff.1 hx
          have hil' : i < len := by simpa using hil
          simp at hgx
          have h1 := (hq i hil').2 j v (by rw [hgx]; exact hv)
          rw [add_plain] at h1
          simpa [Nat.add_assoc] using h1
    · intro x hx
      obtain ⟨i, hi1, rfl⟩ := List.mem_map.1 hx
      exact (hq i (List.mem_range.1 hi1)).1
/-- A forest, by value. -/
theorem open_forest {H : Type} {enc : TypeId × Value → H} {W : World} {r : Reach} {b0 : Nat} {v : Value} {d : DataW H} {p : List MemPlace} (hv : Value.okWide Try.prog W r b0 24 v)
    (h : DataW.Trod enc Try.prog W 0 (fun _ => true) true 24 v d p) : ∃ a len cap m L, v = .agg #[.slice a len cap, .int .i64 m] ∧ NodeRow W a len cap L ∧ In64 m := by
  obtain ⟨cs, rfl, hsz⟩ := okWide_struct Try.underlying24 hv
  have hC : Try.prog.cellsOf 24 = 2 := by kernel_rfl
  have c3 : Try.prog.cellsOf 3 = 1 := by kernel_rfl
  have cn : Try.prog.cellsOf 22 = 1 := by kernel_rfl
  obtain ⟨l⟩ := cs
  match l, hsz.trans hC with
  | [v0, v1], _ =>
    obtain ⟨fuel, hf⟩ := h
    obtain ⟨xs, k, _, _, _, hxl, hff⟩ := DataW.trod_struct Try.underlying24 hf
    match xs, hxl with
    | [y0, y1], _ =>
      have g0 := hff 0 _ rfl
      have g1 := hff 1 _ rfl
      simp [c3, cn, Value.cells] at g0 g1
      obtain ⟨n1, hn1, _, hw1⟩ := DataW.trod_int Try.underlying3 g1
      simp at hn1
      subst hn1
      obtain ⟨a4, l4, c4, rfl⟩ := slice_cells Try.underlying22 g0
      obtain ⟨L, hL⟩ := open_noderow (enc := enc) (W := W) (a := a4) (len := l4) (cap := c4) (d := y0.1) (p := y0.2) ⟨k, by simpa [Value.cells] using g0⟩
      exact ⟨a4, l4, c4, n1, L, rfl, hL, in64_of hw1⟩
/-- A node, by value. -/
theorem open_node {H : Type} {enc : TypeId × Value → H} {W : World} {r : Reach} {b0 : Nat} {v : Value} {d : DataW H} {p : List MemPlace} (hv : Value.okWide Try.prog W r b0 28 v)
    (h : DataW.Trod enc Try.prog W 0 (fun _ => true) true 28 v d p) : ∃ x, v = .agg (encN x).toArray ∧ NodeOk W x := by
  obtain ⟨cs, rfl, hsz⟩ := okWide_struct Try.underlying28 hv
  have hC : Try.prog.cellsOf 28 = 10 := by kernel_rfl
  obtain ⟨l⟩ := cs
  obtain ⟨fuel, hf⟩ := h
  obtain ⟨x, hx, hok⟩ := open_nodecells (cs := l) (hsz.trans hC) (by simpa [Value.cells] using hf)
  exact ⟨x, by rw [hx], hok⟩
end Go.Proofs.Ytepomcnlkgaahaa
/- The byte tests of package name, as the Go text has them, answer what NamePure says. -/
namespace Go.Proofs.Ytepomcnlkgaahaa
open Go.RowKit
theorem isSmall_any (n : Int) (w : World) : Calls Try.prog 64 #[.int .u8 n] w fun e w' => e = .returned (.bool (lowI n)) ∧ w = w' := by
  go_enter Try.func64, Try.ntmps64
  go_wp2
  all_goals (go_ret; exact ⟨ret_bool (by unfold lowI; rw [Bool.eq_iff_iff]; simp <;> omega), rfl⟩)
theorem isCapital_any (n : Int) (w : World) : Calls Try.prog 70 #[.int .u8 n] w fun e w' => e = .returned (.bool (capI n)) ∧ w = w' := by
  go_enter Try.func70, Try.ntmps70
  go_wp2
  all_goals (go_ret; exact ⟨ret_bool (by unfold capI; rw [Bool.eq_iff_iff]; simp <;> omega), rfl⟩)
theorem isSign_any (n : Int) (w : World) : Calls Try.prog 69 #[.int .u8 n] w fun e w' => e = .returned (.bool (signI n)) ∧ w = w' := by
  go_enter Try.func69, Try.ntmps69
  go_wp2
  all_goals (go_ret; exact ⟨ret_bool (by unfold signI alphI lowI capI digI; rw [Bool.eq_iff_iff]; simp <;> omega), rfl⟩)
theorem mayBegin_any (n : Int) (w : World) : Calls Try.prog 68 #[.int .u8 n] w fun e w' => e = .returned (.bool (headI n)) ∧ w = w' := by
  go_enter Try.func68, Try.ntmps68
  go_wp2
  all_goals (go_ret; exact ⟨ret_bool (by unfold headI alphI lowI capI; rw [Bool.eq_iff_iff]; simp <;> omega), rfl⟩)
end Go.Proofs.Ytepomcnlkgaahaa
/- Right answers what NamePure says, for every string that fits into memory. -/
namespace Go.Proofs.Ytepomcnlkgaahaa
open Go.RowKit
set_option maxHeartbeats 1000000 in
theorem right_any (s : ByteArray) (w : World) (hs : s.size ≤ maxLen) :
    Calls Try.prog 62 #[.string s] w fun e w' => e = .returned (.bool (rightL s.toList)) ∧ w = w' := by
  unfold maxLen at hs
  have hlen := tl_len s
  by_cases h0 : s.size < 1
  · have H := Lib.hid (rightL_ends s.toList (by omega))
    clear hlen
    go_enter Try.func62, Try.ntmps62
    go_wp2
    go_ret
    exact ⟨ret_bool H.out.symm, rfl⟩
  by_cases h1 : 40 < s.size
  · have H := Lib.hid (rightL_ends s.toList (by omega))
    clear hlen
    go_enter Try.func62, Try.ntmps62
    go_wp2
    go_ret
    exact ⟨ret_bool H.out.symm, rfl⟩
  have hp : 0 < s.size := by omega
  have hg0 := tl_get s 0 hp
  by_cases hh : headB (s[0]'hp) = true
  · have HL := Lib.hid hlen
    have HG := Lib.hid hg0
    have hh' : headI ((s[0]'hp).toNat : Int) = true := hh
    have HH := Lib.hid hh
    have HS := Lib.hid (sign_of_head _ hh)
    clear hlen hg0 hh
    go_enter Try.func62, Try.ntmps62
    go_wp2_with (go_at_call 68; refine (mayBegin_any _ _).mono ?_; rintro e w' ⟨rfl, rfl⟩)
    go_loop [3] (fun i => ∃ k : Nat, 1 ≤ k ∧ k ≤ s.size ∧ i = .int .i64 k ∧ Hid ((s.toList.take k).all signB = true)) (fun i => s.size - (intOf i).toNat)
    case atStart =>
      refine ⟨1, by omega, by omega, rfl, ?_⟩
      have := all_take_succ s.toList 0 _ HG.out rfl
      exact Lib.hid (this.trans HS.out)
    case round =>
      obtain ⟨k, hk1, hk2, rfl, HA⟩ := hrel
      by_cases hlt : k < s.size
      · have HK := Lib.hid (tl_get s k hlt)
        go_wp2_with (go_at_call 69; refine (isSign_any _ _).mono ?_; rintro e w' ⟨rfl, rfl⟩)
        · have hb : signI (s[k].toNat : Int) = false := by first | assumption | (simpa using ‹(!signI (s[k].toNat : Int)) = true›)
          go_ret
          exact ⟨ret_bool (rightL_stop _ k _ HK.out hb).symm, rfl⟩
        · have hb : signI (s[k].toNat : Int) = true := by first | assumption | (simpa using ‹(!signI (s[k].toNat : Int)) = false›)
          go_round
          case rel => exact ⟨k + 1, by omega, by omega, by go_num, Lib.hid ((all_take_succ _ k _ HK.out HA.out).trans hb)⟩
          case measure => simp [intOf]; omega
      · go_wp2
        go_ret
        refine ⟨ret_bool ?_, rfl⟩
        have e : k = s.toList.length := by rw [HL.out]; omega
        have h2 := HA.out
        rw [e] at h2
        exact (rightL_full s.toList _ (by rw [HL.out]; omega) (by rw [HL.out]; omega) HG.out HH.out h2).symm
  · have hh2 : headB (s[0]'hp) = false := by simpa using hh
    have hh' : headI ((s[0]'hp).toNat : Int) = false := hh2
    have HR := Lib.hid (rightL_head _ _ hg0 hh2)
    clear hlen hg0 hh hh2
    go_enter Try.func62, Try.ntmps62
    go_wp2_with (go_at_call 68; refine (mayBegin_any _ _).mono ?_; rintro e w' ⟨rfl, rfl⟩)
    go_ret
    exact ⟨ret_bool HR.out.symm, rfl⟩
end Go.Proofs.Ytepomcnlkgaahaa
/- Small answers the list of bytes with A to Z made small, and turns nothing that was there. -/
namespace Go.Proofs.Ytepomcnlkgaahaa
open Go.RowKit
theorem bytes_made (s : ByteArray) (w : World) : ∃ (cap : Nat) (C : Array Value) (mk : Nat × Nat),
    (convert 9 75 (.string s)).run Try.prog w = .ok (.slice (some ⟨w.heap.size, 0, none⟩) s.size cap) (w.drew.alloc (.cells C 5 mk)) ∧
    (∀ j (h : j < s.size), (w.alloc (.cells C 5 mk)).cell? ⟨w.heap.size, j, none⟩ = some (.int .u8 (s[j].toNat : Int))) ∧
    ∀ j, j < s.size → (w.alloc (.cells C 5 mk)).frozen? ⟨w.heap.size, j, none⟩ = false := by
  refine ⟨_, _, _, run_bytes_of_string w 9 75 5 s Try.underlying9 Try.underlying75 Try.underlying5, ?_, ?_⟩
  · intro j h
    rw [World.cell?_alloc_mark]
    exact bytesRow_at s _ j h
  · intro j h
    rw [World.frozen?_alloc_mark]
    have : s.size ≤ (bytesRow s (grownCap w s.size 0 5)).size := by
      simp [bytesRow]
    simp
    omega

structure SmallRow (s : ByteArray) (w wr : World) (k : Nat) : Prop where
  cells : ∀ j (h : j < s.size), wr.cell? ⟨w.heap.size, j, none⟩ = some (.int .u8 ((if j < k then smallB s[j] else s[j]).toNat : Int))
  free : ∀ j, j < s.size → wr.frozen? ⟨w.heap.size, j, none⟩ = false
  below : Below w.heap.size w wr

theorem SmallRow.keep {s : ByteArray} {w wr : World} {k : Nat} (h : SmallRow s w wr k) (hk : k < s.size) (hc : capI (s[k].toNat : Int) = false) : SmallRow s w wr (k + 1) := by
  refine ⟨fun j hj => ?_, h.free, h.below⟩
  rw [h.cells j hj]
  by_cases e : j = k
  · subst e
    rw [if_neg (by omega), if_pos (by omega)]
    unfold smallB
    rw [hc]
    rfl
  · by_cases e2 : j < k
    · rw [if_pos e2, if_pos (by omega)]
    · rw [if_neg e2, if_neg (by omega)]

theorem SmallRow.store {s : ByteArray} {w wr : World} {k : Nat} (h : SmallRow s w wr k) (hk : k < s.size) :
    SmallRow s w (wr.setCell ⟨w.heap.size, k, none⟩ (.int .u8 ((smallB s[k]).toNat : Int))) (k + 1) := by
  refine ⟨fun j hj => ?_, fun j hj => ?_, h.below.setCell (Nat.le_refl _) _⟩
  · by_cases e : j = k
    · subst e
      rw [World.cell?_setCell_same _ _ _ (h.cells j hj), if_pos (by omega)]
    · rw [World.cell?_setCell_other _ _ _ _ (by intro h; injection h; omega), h.cells j hj]
      by_cases e2 : j < k
      · rw [if_pos e2, if_pos (by omega)]
      · rw [if_neg e2, if_neg (by omega)]
  · rw [World.frozen?_setCell]
    exact h.free j hj

theorem smallL_len (l : List UInt8) : (smallL l).length = l.length := by simp [smallL]
theorem smallB_cap (c : UInt8) (h : capI (c.toNat : Int) = true) : ((smallB c).toNat : Int) = (c.toNat : Int) + 32 := by
  have hb := of_decide_eq_true h
  unfold smallB
  rw [h]
  simp [UInt8.toNat_add]
  omega

theorem SmallRow.back {s : ByteArray} {w wr : World} {k : Nat} (h : SmallRow s w wr k) (hk : k = s.size) (cap : Nat) :
    (convert 75 9 (.slice (some ⟨w.heap.size, 0, none⟩) s.size cap)).run Try.prog wr = .ok (.string (ofL (smallL s.toList))) wr := by
  have hl : (smallL s.toList).length = s.size := by rw [smallL_len, tl_len]
  have := run_convert_bytes_back (P := Try.prog) wr 75 9 5 ⟨w.heap.size, 0, none⟩ cap (smallL s.toList) Try.underlying75 Try.underlying5 Try.underlying9 (fun j hj => by
    have hj' : j < s.size := by omega
    have hg := tl_get s j hj'
    have e : (smallL s.toList)[j] = smallB s[j] := by
      have h1 : (smallL s.toList)[j]? = some (smallB s[j]) := by
        unfold smallL
        rw [List.getElem?_map, hg]
        rfl
      exact (List.getElem?_eq_some_iff.1 h1).2
    have hc := h.cells j hj'
    rw [if_pos (by omega)] at hc
    rw [e]
    have ha : (⟨w.heap.size, 0, none⟩ : Addr).add j = ⟨w.heap.size, j, none⟩ := by rw [Go.WideShapes.add_plain, Nat.zero_add]
    rw [ha]
    exact hc)
  rw [hl] at this
  exact this

set_option maxHeartbeats 2000000 in
set_option maxRecDepth 100000 in
theorem small_any (s : ByteArray) (w : World) (hs : s.size ≤ maxLen) :
    Calls Try.prog 63 #[.string s] w fun e w' => e = .returned (.string (ofL (smallL s.toList))) ∧ Below w.heap.size w w' := by
  unfold maxLen at hs
  obtain ⟨cap, C, mk, hconv, hcell, hfree⟩ := bytes_made s w
  have H1 := Lib.hid hcell
  have H2 := Lib.hid hfree
  clear hcell hfree
  go_enter Try.func63, Try.ntmps63
  go_wp2
  clear hconv
  go_loopw [10] (fun i wr => ∃ k : Nat, k ≤ s.size ∧ i = .int .i64 k ∧ Hid (SmallRow s w wr k)) (fun i _ => s.size - (intOf i).toNat)
  case atStart =>
    refine ⟨0, Nat.zero_le _, rfl, Lib.hid ⟨fun j h => ?_, fun j h => ?_, ((Below.refl _ _).alloc (Nat.le_refl _) _).drew⟩⟩
    · rw [if_neg (by omega)]
      exact H1.out j h
    · exact H2.out j h
  case round =>
    obtain ⟨k, hk, rfl, HR⟩ := hrel
    by_cases hlt : k < s.size
    · have hcell : wr.cell? ⟨w.heap.size, k, none⟩ = some (.int .u8 (s[k].toNat : Int)) := by
        have := HR.out.cells k hlt
        rwa [if_neg (by omega)] at this
      have hfree := HR.out.free k hlt
      by_cases hc : capI (s[k].toNat : Int) = true
      · have hb := of_decide_eq_true hc
        have hb1 : (65 : Int) ≤ (s[k].toNat : Int) := hb.1
        have hb2 : (s[k].toNat : Int) ≤ 90 := hb.2
        have HE := Lib.hid (smallB_cap _ hc)
        clear hb
        go_wp2_with (go_at_call 70; refine (isCapital_any _ _).mono ?_; rintro e w' ⟨rfl, rfl⟩)
        go_roundw
        case rel =>
          refine ⟨k + 1, by omega, by go_num, ?_⟩
          have := HR.out.store hlt
          rw [HE.out] at this
          have e : (s[k].toNat : Int) - 65 + 97 = (s[k].toNat : Int) + 32 := by omega
          first | exact Lib.hid this | (rw [e]; exact Lib.hid this)
        case measure => simp [intOf]; omega
      · have hc' : capI (s[k].toNat : Int) = false := by simpa using hc
        clear hc
        go_wp2_with (go_at_call 70; refine (isCapital_any _ _).mono ?_; rintro e w' ⟨rfl, rfl⟩)
        go_roundw
        case rel => exact ⟨k + 1, by omega, by go_num, Lib.hid (HR.out.keep hlt hc')⟩
        case measure => simp [intOf]; omega
    · have hback := HR.out.back (by omega) cap
      go_wp2
      go_ret
      exact ⟨rfl, HR.out.below⟩
end Go.Proofs.Ytepomcnlkgaahaa
/- Fit answers what NamePure says. -/
namespace Go.Proofs.Ytepomcnlkgaahaa
open Go.RowKit
def fitL (l : List UInt8) : List UInt8 := if rightL l then smallL l else []
def fitE (l : List UInt8) : Int := if rightL l then 0 else 4
set_option maxHeartbeats 2000000 in
theorem fit_any (s : ByteArray) (w : World) (hs : s.size ≤ maxLen) :
    Calls Try.prog 61 #[.string s] w fun e w' => e = .returned (.tuple #[.string (ofL (fitL s.toList)), .int .i64 (fitE s.toList)]) ∧ Below w.heap.size w w' := by
  have HB : Below w.heap.size w w := Below.refl _ _
  by_cases hr : rightL s.toList = true
  · have e1 := Lib.hid (show fitL s.toList = smallL s.toList by unfold fitL; rw [if_pos hr])
    have e2 := Lib.hid (show fitE s.toList = 0 by unfold fitE; rw [if_pos hr])
    go_enter Try.func61, Try.ntmps61
    go_wp2_with (first
      | (go_at_call 62; refine (right_any _ _ hs).mono ?_; rintro e w' ⟨rfl, rfl⟩)
      | (go_at_call 63; refine (small_any _ _ hs).mono ?_; rintro e w' ⟨rfl, hb⟩; have HB := HB.trans (hb.mono HB.size); clear hb))
    go_ret2
    exact ⟨by rw [e1.out, e2.out]; rfl, by assumption⟩
  · have hr' : rightL s.toList = false := by simpa using hr
    have e1 := Lib.hid (show fitL s.toList = [] by unfold fitL; rw [if_neg hr])
    have e2 := Lib.hid (show fitE s.toList = 4 by unfold fitE; rw [if_neg hr])
    clear hr
    go_enter Try.func61, Try.ntmps61
    go_wp2_with (first
      | (go_at_call 62; refine (right_any _ _ hs).mono ?_; rintro e w' ⟨rfl, rfl⟩))
    go_ret2
    exact ⟨by rw [e1.out, e2.out]; rfl, by assumption⟩
end Go.Proofs.Ytepomcnlkgaahaa
/- Known, isReserved and strings.Contains at "-" answer what NamePure says. -/
namespace Go.Proofs.Ytepomcnlkgaahaa
open Go.RowKit
set_option maxHeartbeats 1000000 in
set_option maxRecDepth 100000 in
theorem indexByte_any (s : ByteArray) (c : Int) (w : World) :
    Calls Try.prog 76 #[.string s, .int .u8 c] w fun e w' => e = .returned (.int .i64 (Lib.indexByte s.data.toList c.toNat.toUInt8)) ∧ w' = w := by
  go_enter Try.func76, Try.ntmps76
  go_wp2
  rw [run_callFunc_extern Try.func80 (by kernel_rfl) (by kernel_rfl) (by kernel_rfl) (e := Extern.BytealgIndexByte.indexByte) (by kernel_rfl), Lib.run_indexByteString]
  simp only [Result.andThen]
  rw [Oper.upon_value]
  go_wp2
  go_ret
  exact ⟨rfl, rfl⟩

theorem has_indexByte (c : UInt8) : ∀ l : List UInt8, l.contains c = decide (0 ≤ Lib.indexByte l c)
  | [] => by simp [Lib.indexByte]
  | b :: l => by
    have ih := has_indexByte c l
    have hg := Lib.indexByte_ge l c
    unfold Lib.indexByte
    rw [List.contains_cons, ih]
    by_cases h : b = c
    · subst h; simp
    · have h1 : (c == b) = false := by simp; exact fun e => h e.symm
      have h2 : (b == c) = false := by simp [h]
      rw [h1, h2]
      by_cases h3 : Lib.indexByte l c = -1
      · simp [h3]
      · have h4 : (Lib.indexByte l c == -1) = false := by simp [h3]
        simp only [h4, Bool.false_or, Bool.false_eq_true, if_false]
        rw [decide_eq_decide]
        omega

set_option maxHeartbeats 2000000 in
set_option maxRecDepth 100000 in
theorem dash_any (s : ByteArray) (w : World) :
    Calls Try.prog 65 #[.string s, .string ⟨#[45]⟩] w fun e w' => e = .returned (.bool (dashL s.toList)) ∧ w = w' := by
  go_enter Try.func65, Try.ntmps65
  go_wp2_with (first | (go_at_call 76; refine (indexByte_any _ _ _).mono ?_; rintro e w' ⟨rfl, rfl⟩) | go_in)
  · have h : ([45] == s.toList) = true := by assumption
    go_ret
    refine ⟨ret_bool ?_, rfl⟩
    have e : s.toList = [45] := (beq_iff_eq.1 h).symm
    rw [e]; rfl
  · go_ret
    refine ⟨ret_bool ?_, rfl⟩
    unfold dashL
    rw [has_indexByte, tl]
    rfl

set_option maxHeartbeats 1000000 in
theorem reserved_any (s : ByteArray) (w : World) :
    Calls Try.prog 66 #[.string s] w fun e w' => e = .returned (.bool (reservedL s.toList)) ∧ w = w' := by
  go_enter Try.func66, Try.ntmps66
  go_wp2
  all_goals (go_ret; exact ⟨ret_bool (by unfold reservedL; simp_all), rfl⟩)

end Go.Proofs.Ytepomcnlkgaahaa
/- Custom and Kind answer what NamePure says. -/
namespace Go.Proofs.Ytepomcnlkgaahaa
open Go.RowKit
theorem headD_get (s : ByteArray) (h : 0 < s.size) : s.toList.headD 0 = s[0] := by
  have := tl_get s 0 h
  cases e : s.toList with
  | nil => rw [e] at this; simp at this
  | cons b r => rw [e] at this; simpa using this
theorem rightL_pos (s : ByteArray) (h : rightL s.toList = true) : 0 < s.size := by
  by_cases h0 : 0 < s.size
  · exact h0
  · rw [rightL_ends _ (by rw [tl_len]; omega)] at h
    cases h
theorem customL_no (l : List UInt8) (h : rightL l = false) : customL l = false := by unfold customL; rw [h]; rfl
theorem customL_eq (s : ByteArray) (h : rightL s.toList = true) (hp : 0 < s.size) :
    customL s.toList = ((smallL s.toList == s.toList) && lowI (s[0].toNat : Int) && dashL s.toList && !reservedL s.toList) := by
  unfold customL
  rw [h, headD_get s hp, Bool.true_and]

set_option maxHeartbeats 2000000 in
theorem custom_any (s : ByteArray) (w : World) (hs : s.size ≤ maxLen) :
    Calls Try.prog 59 #[.string s] w fun e w' => e = .returned (.bool (customL s.toList)) ∧ Below w.heap.size w w' := by
  have HB : Below w.heap.size w w := Below.refl _ _
  by_cases hr : rightL s.toList = true
  · have hp := rightL_pos s hr
    have HC := Lib.hid (customL_eq s hr hp)
    go_enter Try.func59, Try.ntmps59
    go_wp2_with (first
      | (go_at_call 62; refine (right_any _ _ hs).mono ?_; rintro e w' ⟨rfl, rfl⟩)
      | (go_at_call 63; refine (small_any _ _ hs).mono ?_; rintro e w' ⟨rfl, hb⟩; have HB := HB.trans (hb.mono HB.size); clear hb)
      | (go_at_call 64; refine (isSmall_any _ _).mono ?_; rintro e w' ⟨rfl, rfl⟩)
      | (go_at_call 65; refine (dash_any _ _).mono ?_; rintro e w' ⟨rfl, rfl⟩)
      | (go_at_call 66; refine (reserved_any _ _).mono ?_; rintro e w' ⟨rfl, rfl⟩))
    all_goals (go_ret; exact ⟨ret_bool (by rw [HC.out]; simp [*]), by assumption⟩)
  · have hr' : rightL s.toList = false := by simpa using hr
    have HC := Lib.hid (customL_no _ hr')
    clear hr
    go_enter Try.func59, Try.ntmps59
    go_wp2_with (go_at_call 62; refine (right_any _ _ hs).mono ?_; rintro e w' ⟨rfl, rfl⟩)
    go_ret
    exact ⟨ret_bool HC.out.symm, HB⟩

end Go.Proofs.Ytepomcnlkgaahaa
/- Package attr's mayStand: may an attribute, by itself, stand in a list that is right? -/
namespace Go.Proofs.Ytepomcnlkgaahaa
open Go.RowKit
def standB (x : ByteArray × ByteArray) : Bool := rightL x.1.toList && (smallL x.1.toList == x.1.toList) && decide (x.2.size ≤ 200)
theorem box2 {w w' : World} {x y : Value} {t : TypeId} (hb : Below (w.alloc (.cells #[x, y] t)).heap.size (w.alloc (.cells #[x, y] t)) w') :
    w'.cell? ⟨w.heap.size, 0, none⟩ = some x ∧ w'.cell? ⟨w.heap.size, 1, none⟩ = some y ∧ Below w.heap.size w w' := by
  refine ⟨?_, ?_, ((Below.refl _ _).alloc (Nat.le_refl _) _).trans (hb.mono (by simp))⟩
  · rw [hb.cell (p := ⟨w.heap.size, 0, none⟩) (by simp), cell_of_row (w.alloc (.cells #[x, y] t)) w.heap.size 0 _ t (0, 0) (heap_alloc_new w _)]
    rfl
  · rw [hb.cell (p := ⟨w.heap.size, 1, none⟩) (by simp), cell_of_row (w.alloc (.cells #[x, y] t)) w.heap.size 1 _ t (0, 0) (heap_alloc_new w _)]
    rfl
set_option maxHeartbeats 2000000 in
theorem stand_any (xn xv : ByteArray) (w : World) (h1 : xn.size ≤ maxLen) (h2 : xv.size ≤ maxLen) :
    Calls Try.prog 72 #[.agg #[.string xn, .string xv]] w fun e w' => e = .returned (.bool (standB (xn, xv))) ∧ Below w.heap.size w w' := by
  have hv64 : xv.size ≤ 9223372036854775807 := by unfold maxLen at h2; omega
  have HN := Lib.hid h1
  clear h1 h2
  by_cases hr : rightL xn.toList = true
  rotate_left
  · have hr : rightL xn.toList = false := by simpa using hr
    have HR : Hid (standB (xn, xv) = false) := Lib.hid (by unfold standB; rw [hr]; rfl)
    have e1 : fitE xn.toList = 4 := by unfold fitE; rw [hr]; rfl
    have C1 : Hid (∀ W, Calls Try.prog 61 #[.string xn] W fun e w' => e = .returned (.tuple #[.string (ofL (fitL xn.toList)), .int .i64 4]) ∧ Below W.heap.size W w') := Lib.hid (fun W => by
      have := fit_any xn W HN.out
      rwa [e1] at this)
    clear hr e1
    go_enter Try.func72, Try.ntmps72
    go_wp2_with (first
      | (go_at_call 61; refine (C1.out _).mono ?_; rintro e w' ⟨rfl, hb⟩; obtain ⟨c1, c2, HB⟩ := box2 hb))
    go_ret
    exact ⟨ret_bool HR.out.symm, by assumption⟩
  have e1 : fitE xn.toList = 0 := by unfold fitE; rw [hr]; rfl
  have e2 : fitL xn.toList = smallL xn.toList := by unfold fitL; rw [hr]; rfl
  have C1 : Hid (∀ W, Calls Try.prog 61 #[.string xn] W fun e w' => e = .returned (.tuple #[.string (ofL (smallL xn.toList)), .int .i64 0]) ∧ Below W.heap.size W w') := Lib.hid (fun W => by
    have := fit_any xn W HN.out
    rwa [e1, e2] at this)
  have HRT := Lib.hid hr
  clear hr e1 e2
  by_cases hsm : smallL xn.toList = xn.toList
  rotate_left
  · have s1 : (smallL xn.toList == xn.toList) = false := beq_eq_false_iff_ne.2 hsm
    have HR : Hid (standB (xn, xv) = false) := Lib.hid (by unfold standB; rw [s1]; simp)
    clear hsm
    go_enter Try.func72, Try.ntmps72
    go_wp2_with (first
      | (go_at_call 61; refine (C1.out _).mono ?_; rintro e w' ⟨rfl, hb⟩; obtain ⟨c1, c2, HB⟩ := box2 hb))
    go_ret
    exact ⟨ret_bool HR.out.symm, by assumption⟩
  have s1 : (smallL xn.toList == xn.toList) = true := beq_iff_eq.2 hsm
  have HR : Hid (standB (xn, xv) = decide ((xv.size : Int) ≤ 200)) := Lib.hid (by unfold standB; rw [s1, HRT.out]; simp; omega)
  clear hsm
  go_enter Try.func72, Try.ntmps72
  go_wp2_with (first
    | (go_at_call 61; refine (C1.out _).mono ?_; rintro e w' ⟨rfl, hb⟩; obtain ⟨c1, c2, HB⟩ := box2 hb))
  go_ret
  exact ⟨ret_bool HR.out.symm, by assumption⟩
end Go.Proofs.Ytepomcnlkgaahaa
/- Package attr's places: a map from each name to its place, if the list is right. -/
namespace Go.Proofs.Ytepomcnlkgaahaa
open Go.RowKit Go.Maps Go.WideMaps
theorem isK (l : List UInt8) : WideAt.IsKeyLit (.string l) := trivial
theorem makeMap_len (n : Nat) (w : World) : (Instr.makeMap 81 (some (.int .i64 (n : Int)))).run Try.prog w = .ok (.map (some w.heap.size)) (w.alloc (.map #[] 0)) := by
  simp [Instr.makeMap, run_underlying Try.underlying81, asInt, newObj, Result.andThen]
  rfl
/-- The map behind k rounds. -/
def plD (L : AL) : Nat → DataW Unit
  | 0 => .map []
  | k + 1 => match L[k]? with
    | some x => (plD L k).put (.string x.1.data.toList) (.lit (.int .i64 k))
    | none => plD L k
theorem plD_succ {L : AL} {k : Nat} {x : ByteArray × ByteArray} (h : L[k]? = some x) : plD L (k + 1) = (plD L k).put (.string x.1.data.toList) (.lit (.int .i64 k)) := by
  show (match L[k]? with | some x => _ | none => _) = _
  rw [h]
theorem plD_tidy (L : AL) : ∀ k, Tidy (plD L k)
  | 0 => tidy_empty
  | k + 1 => by
    show Tidy (match L[k]? with | some x => _ | none => _)
    cases L[k]? with
    | none => exact plD_tidy L k
    | some x => exact (plD_tidy L k).put (isK _) _
theorem str_ne {a b : List UInt8} (h : a ≠ b) : (Lit.string a) ≠ Lit.string b := fun e => h (by injection e)
theorem plD_has {L : AL} (n : List UInt8) : ∀ k, k ≤ L.length → Maps.has (plD L k) (.string n) = decide (atN L n < k)
  | 0, _ => by rw [decide_eq_false (by omega)]; rfl
  | k + 1, hk => by
    have hkl : k < L.length := by omega
    have hx : L[k]? = some (L[k]'hkl) := List.getElem?_eq_getElem hkl
    have ih := plD_has (L := L) n k (by omega)
    rw [plD_succ hx]
    by_cases e : (L[k]'hkl).1.toList = n
    · rw [← e, tl, has_put_same (plD_tidy L k).isMap (isK _)]
      symm
      rw [decide_eq_true_eq]
      rcases Nat.lt_or_ge k (atN L (L[k]'hkl).1.data.toList) with h | h
      · have := atN_here (L := L) (n := (L[k]'hkl).1.data.toList) (Nat.le_of_lt h) hx (show keyIs _ (L[k]'hkl) = true by unfold keyIs; rw [tl]; simp)
        omega
      · omega
    · rw [has_put_other (str_ne (fun h => e (by rw [tl, ← h]))), ih]
      have hf : keyIs n (L[k]'hkl) = false := by unfold keyIs; exact beq_eq_false_iff_ne.2 e
      rcases Nat.lt_or_ge (atN L n) k with h | h
      · rw [decide_eq_true h, decide_eq_true (by omega)]
      · have := atN_step h hx hf
        rw [decide_eq_false (by omega), decide_eq_false (by omega)]
/-- Names ahead of k stand where they are first found. -/
def firstK (L : AL) (k : Nat) : Prop := ∀ (j : Nat) x, j < k → L[j]? = some x → atN L x.1.toList = j
theorem plD_at {L : AL} (n : List UInt8) (z : DataW Unit) : ∀ k, k ≤ L.length → firstK L k → atN L n < k → (plD L k).atKey (.string n) z = .lit (.int .i64 (atN L n))
  | 0, _, _, h => absurd h (by omega)
  | k + 1, hk, hf, h => by
    have hkl : k < L.length := by omega
    have hx : L[k]? = some (L[k]'hkl) := List.getElem?_eq_getElem hkl
    rw [plD_succ hx]
    by_cases e : (L[k]'hkl).1.toList = n
    · have h1 := hf k _ (by omega) hx
      rw [e] at h1
      rw [h1, ← e, tl, atKey_put_same (plD_tidy L k).isMap (isK _)]
    · rw [atKey_put_other (str_ne (fun h => e (by rw [tl, ← h])))]
      refine plD_at n z k (by omega) (fun j x hj hx => hf j x (by omega) hx) ?_
      have hff : keyIs n (L[k]'hkl) = false := by unfold keyIs; exact beq_eq_false_iff_ne.2 e
      rcases Nat.lt_or_ge (atN L n) k with h1 | h1
      · exact h1
      · have := atN_step h1 hx hff
        omega
theorem plD_size {L : AL} : ∀ k, k ≤ L.length → firstK L k → Maps.size (plD L k) = k
  | 0, _, _ => rfl
  | k + 1, hk, hf => by
    have hkl : k < L.length := by omega
    have hx : L[k]? = some (L[k]'hkl) := List.getElem?_eq_getElem hkl
    rw [plD_succ hx, size_put (plD_tidy L k), ← tl, plD_has _ k (by omega), hf k _ (by omega) hx, decide_eq_false (by omega), plD_size k (by omega) (fun j x hj hx => hf j x (by omega) hx)]
    rfl
theorem okAt_eq (L : AL) (k : Nat) (x : ByteArray × ByteArray) : okAt L k x = (standB x && decide (atN L x.1.toList = k)) := rfl
theorem atN_here_le {L : AL} {k : Nat} {x : ByteArray × ByteArray} (h : L[k]? = some x) : atN L x.1.toList ≤ k := by
  rcases Nat.lt_or_ge k (atN L x.1.toList) with h1 | h1
  · have := atN_here (Nat.le_of_lt h1) h (show keyIs x.1.toList x = true by unfold keyIs; simp)
    omega
  · exact h1
theorem lawS : Keyed Try.prog 9 := string_keyed Try.underlying9
theorem zeroI (w : World) : (zeroValue 3).run Try.prog w = .ok (.int .i64 0) w := by kernel_rfl
abbrev ownsPl (w : World) (b n : Nat) (D : DataW Unit) : Prop := w.ownsMap Try.prog 9 (plainElem Try.prog 3) b n D
/-- What places hands back. -/
def PlacesPost (w : World) (L : AL) (e : Ending) (w' : World) : Prop :=
  if rightA L then ∃ b, e = .returned (.tuple #[.map (some b), .bool true]) ∧ w.heap.size ≤ b ∧ ownsPl w' b L.length (plD L L.length) ∧ Below w.heap.size w w'
  else e = .returned (.tuple #[.map none, .bool false]) ∧ Below w.heap.size w w'
theorem PlacesPost.no {w w' : World} {L : AL} (h : rightA L = false) (hb : Below w.heap.size w w') : PlacesPost w L (.returned (.tuple #[.map none, .bool false])) w' := by
  unfold PlacesPost
  rw [h]
  exact ⟨rfl, hb⟩
theorem PlacesPost.yes {w w' : World} {L : AL} {b : Nat} (h : rightA L = true) (h1 : w.heap.size ≤ b) (h2 : ownsPl w' b L.length (plD L L.length)) (hb : Below w.heap.size w w') : PlacesPost w L (.returned (.tuple #[.map (some b), .bool true])) w' := by
  unfold PlacesPost
  rw [h]
  exact ⟨b, rfl, h1, h2, hb⟩
theorem keyS {s : ByteArray} (h : s.size ≤ maxLen) : keyOf Try.prog 9 (.string s) = some (.string s.data.toList) := keyOf_string_mk Try.underlying9 h
theorem own_belowM {w w' : World} {b n : Nat} {D : DataW Unit} (h : ownsPl w b n D) (hb : Below w.heap.size w w') : ownsPl w' b n D := by
  have hlt := h.lt
  obtain ⟨es, clock, h1, F, hs, hD⟩ := h
  exact ⟨es, clock, (hb.block b hlt).trans h1, F, hs, hD⟩
set_option maxHeartbeats 16000000 in
set_option maxRecDepth 100000 in
theorem places_any (a : Option Addr) (len cap : Nat) (L : AL) (w : World) (h : AttrRow w a len cap L) :
    Calls Try.prog 67 #[.slice a len cap] w (PlacesPost w L) := by
  have hmm := makeMap_len
  have hl := h.len64
  have HL := Lib.hid h.hlen
  by_cases h40 : 40 < len
  · have HR := Lib.hid (rightA_long (L := L) (by rw [h.hlen]; exact h40))
    go_enter Try.func67, Try.ntmps67
    go_wp2
    go_ret2
    exact PlacesPost.no HR.out (Below.refl _ _)
  go_enter Try.func67, Try.ntmps67
  go_wp2
  go_loopw [17] (fun i wr => ∃ k : Nat, k ≤ len ∧ i = .int .i64 k ∧ Below w.heap.size w wr ∧ Hid (ownsPl wr w.heap.size k (plD L k)) ∧ Hid (∀ (j : Nat) x, j < k → L[j]? = some x → okAt L j x = true)) (fun i _ => len - (intOf i).toNat)
  case atStart => exact ⟨0, Nat.zero_le _, rfl, (Below.refl _ _).alloc (Nat.le_refl _) _, Lib.hid (World.ownsMap_made _ _ _ _), Lib.hid (fun j x hj _ => absurd hj (by omega))⟩
  case round =>
    obtain ⟨k, hk, rfl, HB, HM, HA⟩ := hrel
    by_cases hlt : k < len
    · have h2 := h.below HB
      obtain ⟨b, off, xn, xv, rfl, hblt, hx, hc1, hc2, hn1, hn2⟩ := h2.get hlt
      have HX := Lib.hid hx
      have HN1 := Lib.hid hn1
      have HN2 := Lib.hid hn2
      have HB2 := Lib.hid HB
      have HF : Hid (firstK L k) := Lib.hid (fun j x hj hx => by
        have := HA.out j x hj hx
        rw [okAt_eq] at this
        simp at this
        exact this.2)
      have HH : Hid (Maps.has (plD L k) (.string xn.data.toList) = decide (atN L xn.toList < k)) := Lib.hid (by
        have := plD_has (L := L) xn.toList k (by rw [HL.out]; omega)
        rw [← tl]; exact this)
      have hkey := Lib.hid (keyS hn1)
      have hlt0 := HM.out.lt
      clear hx hn1 hn2
      by_cases htw : atN L xn.toList < k
      · have HHt : Hid (Maps.has (plD L k) (.string xn.data.toList) = true) := Lib.hid (by rw [HH.out, decide_eq_true htw])
        have HR := Lib.hid (rightA_stop HX.out (show okAt L k (xn, xv) = false by rw [okAt_eq, decide_eq_false (by show ¬ atN L xn.toList = k; omega)]; simp))
        clear htw
        go_wp2_with (first
          | (at_lookup; refine wpList_lookup_own_ok_int _ rfl _ _ 81 rfl 9 3 .i64 lawS Try.underlying81 Try.underlying3 (zeroI _) w.heap.size k (plD L k) rfl (HM.out.alloc _) _ _ rfl hkey.out ?_; intro c hat hwc; simp only [HHt.out]; clear hat hwc))
        go_ret2
        exact PlacesPost.no HR.out (HB.alloc HB.size _)
      · have HHt : Hid (Maps.has (plD L k) (.string xn.data.toList) = false) := Lib.hid (by rw [HH.out, decide_eq_false htw])
        have HAT : Hid (atN L xn.toList = k) := Lib.hid (by have := atN_here_le HX.out; dsimp only at this; omega)
        clear htw
        by_cases hs : standB (xn, xv) = true
        · have C1 : Hid (∀ W, Calls Try.prog 72 #[.agg #[.string xn, .string xv]] W fun e w' => e = .returned (.bool true) ∧ Below W.heap.size W w') := Lib.hid (fun W => by
            have := stand_any xn xv W HN1.out HN2.out
            rwa [hs] at this)
          have HO : Hid (okAt L k (xn, xv) = true) := Lib.hid (by rw [okAt_eq, hs, decide_eq_true (show atN L (xn, xv).1.toList = k from HAT.out)]; rfl)
          clear hs
          go_wp2_with (first
            | (at_lookup; refine wpList_lookup_own_ok_int _ rfl _ _ 81 rfl 9 3 .i64 lawS Try.underlying81 Try.underlying3 (zeroI _) w.heap.size k (plD L k) rfl (HM.out.alloc _) _ _ rfl hkey.out ?_; intro c hat hwc; simp only [HHt.out]; clear hat hwc)
            | (go_at_call 72; refine (C1.out _).mono ?_; rintro e w1 ⟨rfl, hb⟩; obtain ⟨d1, d2, hb1⟩ := box2 hb; clear hb; have HM1 := Lib.hid (own_belowM HM.out hb1); have hz1 : wr.heap.size ≤ w1.heap.size := hb1.size; have HB1 := Lib.hid hb1; clear hb1)
            | (at_mapUpdate; refine wpList_mapUpdate_own _ rfl _ _ _ 81 rfl 9 3 lawS Try.underlying81 _ w.heap.size k _ rfl HM1.out (by unfold maxLen; omega) _ _ _ rfl rfl hkey.out _ [] (plainElem_int Try.underlying3 (WalkArith.wf_i64 (by omega))) ?_; intro w2 hown2 hgrow2; have HM2 := Lib.hid hown2; have HG2 := Lib.hid hgrow2; clear hown2 hgrow2))
          have HB2 := HB.trans (HB1.out.mono HB.size)
          have hz0 := HB.size
          go_roundw
          case rel =>
            refine ⟨k + 1, by omega, by go_num, HB2.grown HG2.out HB2.size (fun j hj => by injection hj with hj; omega), Lib.hid ?_, Lib.hid (fun j x hj hx => ?_)⟩
            · rw [plD_succ HX.out]
              exact HM2.out
            · by_cases e : j = k
              · subst e
                rw [HX.out] at hx
                rw [← Option.some.inj hx]
                exact HO.out
              · exact HA.out j x (by omega) hx
          case measure => simp [intOf]; omega
        · have hs : standB (xn, xv) = false := by simpa using hs
          have C1 : Hid (∀ W, Calls Try.prog 72 #[.agg #[.string xn, .string xv]] W fun e w' => e = .returned (.bool false) ∧ Below W.heap.size W w') := Lib.hid (fun W => by
            have := stand_any xn xv W HN1.out HN2.out
            rwa [hs] at this)
          have HR := Lib.hid (rightA_stop HX.out (show okAt L k (xn, xv) = false by rw [okAt_eq, hs]; rfl))
          clear hs
          go_wp2_with (first
            | (at_lookup; refine wpList_lookup_own_ok_int _ rfl _ _ 81 rfl 9 3 .i64 lawS Try.underlying81 Try.underlying3 (zeroI _) w.heap.size k (plD L k) rfl (HM.out.alloc _) _ _ rfl hkey.out ?_; intro c hat hwc; simp only [HHt.out]; clear hat hwc)
            | (go_at_call 72; refine (C1.out _).mono ?_; rintro e w1 ⟨rfl, hb⟩; obtain ⟨d1, d2, hb1⟩ := box2 hb; clear hb; have HB1 := Lib.hid hb1; clear hb1))
          go_ret2
          exact PlacesPost.no HR.out (HB.trans (HB1.out.mono HB.size))
    · have HR := Lib.hid ((rightA_iff L).2 ⟨by rw [h.hlen]; omega, fun j x hx => HA.out j x (by
        obtain ⟨hl1, _⟩ := List.getElem?_eq_some_iff.1 hx
        have := h.hlen
        omega) hx⟩)
      have hkl : k = len := by omega
      have HM2 : Hid (ownsPl wr w.heap.size L.length (plD L L.length)) := Lib.hid (by
        rw [HL.out, ← hkl]
        exact HM.out)
      clear hkl
      go_wp2
      go_ret2
      exact PlacesPost.yes HR.out (Nat.le_refl _) HM2.out HB
end Go.Proofs.Ytepomcnlkgaahaa
/- Package attr's Right. -/
namespace Go.Proofs.Ytepomcnlkgaahaa
open Go.RowKit Go.Maps Go.WideMaps
/-- A list that is right: the map in hand has each name at its place. -/
theorem right_first {L : AL} (h : rightA L = true) : firstK L L.length := fun j x _ hx => by
  have := ((rightA_iff L).1 h).2 j x hx
  rw [okAt_eq] at this
  simp at this
  exact this.2
theorem placesRight_any (a : Option Addr) (len cap : Nat) (L : AL) (w : World) (h : AttrRow w a len cap L) (hr : rightA L = true) :
    Calls Try.prog 67 #[.slice a len cap] w fun e w' => ∃ b, e = .returned (.tuple #[.map (some b), .bool true]) ∧ w.heap.size ≤ b ∧ ownsPl w' b L.length (plD L L.length) ∧ Below w.heap.size w w' :=
  (places_any a len cap L w h).mono fun e w' hp => by
    unfold PlacesPost at hp
    rw [hr] at hp
    exact hp
theorem placesWrong_any (a : Option Addr) (len cap : Nat) (L : AL) (w : World) (h : AttrRow w a len cap L) (hr : rightA L = false) :
    Calls Try.prog 67 #[.slice a len cap] w fun e w' => e = .returned (.tuple #[.map none, .bool false]) ∧ Below w.heap.size w w' :=
  (places_any a len cap L w h).mono fun e w' hp => by
    unfold PlacesPost at hp
    rw [hr] at hp
    exact hp
theorem right_any' (a : Option Addr) (len cap : Nat) (L : AL) (w : World) (h : AttrRow w a len cap L) :
    Calls Try.prog 60 #[.slice a len cap] w fun e w' => e = .returned (.bool (rightA L)) ∧ Below w.heap.size w w' := by
  by_cases hr : rightA L = true
  · have C1 := Lib.hid (placesRight_any a len cap L w h hr)
    rw [hr]
    clear h hr
    go_enter Try.func60, Try.ntmps60
    go_wp2_with (first
      | (go_at_call 67; refine C1.out.mono ?_; rintro e w' ⟨b, rfl, _, _, HB⟩))
    go_ret
    exact ⟨rfl, HB⟩
  · have hr : rightA L = false := by simpa using hr
    have C1 := Lib.hid (placesWrong_any a len cap L w h hr)
    rw [hr]
    clear h hr
    go_enter Try.func60, Try.ntmps60
    go_wp2_with (first
      | (go_at_call 67; refine C1.out.mono ?_; rintro e w' ⟨rfl, HB⟩))
    go_ret
    exact ⟨rfl, HB⟩
end Go.Proofs.Ytepomcnlkgaahaa
/- Package forest's is, docFits, isElemName, fieldsFit, up: one node's own rules. -/
namespace Go.Proofs.Ytepomcnlkgaahaa
open Go.RowKit
/-- Is n the number of a node of the kind k? -/
def isKd (F : List Core) (n k : Int) : Bool := match getC F n with | some c => c.kind == k | none => false
theorem getC_len {F : List Core} {n : Int} (h0 : 0 ≤ n) (h1 : n < F.length) : ∃ c, getC F n = some c ∧ F[n.toNat]? = some c := by
  have hl : n.toNat < F.length := by omega
  refine ⟨F[n.toNat], ?_, List.getElem?_eq_getElem hl⟩
  unfold getC
  rw [if_pos h0, List.getElem?_eq_getElem hl]
theorem getC_not {F : List Core} {n : Int} (h : n < 0 ∨ (F.length : Int) ≤ n) : getC F n = none := by
  unfold getC
  by_cases h0 : 0 ≤ n
  · rw [if_pos h0]
    exact List.getElem?_eq_none_iff.2 (by omega)
  · rw [if_neg h0]
theorem coreL_len (L : List NodeD) : (coreL L).length = L.length := by unfold coreL; rw [List.length_map]
theorem coreL_get {L : List NodeD} {k : Nat} {x : NodeD} (h : L[k]? = some x) : (coreL L)[k]? = some x.core := by unfold coreL; rw [List.getElem?_map, h]; rfl
set_option maxHeartbeats 2000000 in
theorem is_any (a : Option Addr) (len cap : Nat) (L : List NodeD) (n k : Int) (w : World) (h : NodeRow w a len cap L) (hn : In64 n) :
    Calls Try.prog 34 #[.slice a len cap, .int .i64 n, .int .i64 k] w fun e w' => e = .returned (.bool (isKd (coreL L) n k)) ∧ w = w' := by
  have hl := h.len64
  have HL := Lib.hid h.hlen
  by_cases h0 : 0 ≤ n
  rotate_left
  · have HR : Hid (isKd (coreL L) n k = false) := Lib.hid (by unfold isKd; rw [getC_not (.inl (by omega))])
    clear h
    go_enter Try.func34, Try.ntmps34
    go_wp2
    go_ret
    exact ⟨ret_bool HR.out.symm, rfl⟩
  by_cases h1 : n < len
  rotate_left
  · have HR : Hid (isKd (coreL L) n k = false) := Lib.hid (by unfold isKd; rw [getC_not (.inr (by rw [coreL_len, HL.out]; omega))])
    clear h
    go_enter Try.func34, Try.ntmps34
    go_wp2
    go_ret
    exact ⟨ret_bool HR.out.symm, rfl⟩
  obtain ⟨m, rfl⟩ : ∃ m : Nat, n = m := ⟨n.toNat, by omega⟩
  obtain ⟨b, off, x, rfl, hb, hx, hc, hok⟩ := h.get (show m < len by omega)
  have HR : Hid (isKd (coreL L) (m : Int) k = (x.core.kind == k)) := Lib.hid (by unfold isKd; rw [getC_nat, coreL_get hx])
  have c0 := hc.c0
  clear h hc hok hx
  go_enter Try.func34, Try.ntmps34
  go_wp2
  go_ret
  exact ⟨ret_bool HR.out.symm, rfl⟩
def docB (F : List Core) (i : Int) (x : Core) : Bool := isKd F x.doc 0 && (x.kind != 0 || x.doc == i)
set_option maxHeartbeats 2000000 in
theorem docFits_any (a : Option Addr) (len cap : Nat) (L : List NodeD) (n : Nat) (x : NodeD) (w : World) (h : NodeRow w a len cap L) (hx : L[n]? = some x) :
    Calls Try.prog 51 #[.slice a len cap, .int .i64 n] w fun e w' => e = .returned (.bool (docB (coreL L) n x.core)) ∧ w = w' := by
  have hl := h.len64
  have hnl : n < len := by rw [← h.hlen]; exact (List.getElem?_eq_some_iff.1 hx).1
  obtain ⟨b, off, x', rfl, hb, hx', hc, hok⟩ := h.get hnl
  obtain rfl : x = x' := Option.some.inj (hx.symm.trans hx')
  have c0 := hc.c0
  have c9 := hc.c9
  have C1 := Lib.hid (is_any (some ⟨b, off, none⟩) len cap L x.core.doc 0 w h hok.doc)
  have HX := Lib.hid hx
  clear h hc hx hx' hok
  by_cases q1 : isKd (coreL L) x.core.doc 0 = true
  rotate_left
  · have q1 : isKd (coreL L) x.core.doc 0 = false := by simpa using q1
    have HR : Hid (docB (coreL L) n x.core = false) := Lib.hid (by unfold docB; rw [q1]; rfl)
    rw [q1] at C1
    clear q1
    go_enter Try.func51, Try.ntmps51
    go_wp2_with (go_at_call 34; refine C1.out.mono ?_; rintro e w' ⟨rfl, rfl⟩)
    go_ret
    exact ⟨ret_bool HR.out.symm, rfl⟩
  have HR : Hid (docB (coreL L) n x.core = (x.core.kind != 0 || x.core.doc == (n : Int))) := Lib.hid (by unfold docB; rw [q1]; rfl)
  rw [q1] at C1
  clear q1
  by_cases q2 : x.core.kind = 0
  · have e1 : (x.core.kind != 0) = false := by rw [q2]; rfl
    have HR : Hid (docB (coreL L) n x.core = (x.core.doc == (n : Int))) := Lib.hid (by rw [HR.out, e1]; rfl)
    clear q2
    go_enter Try.func51, Try.ntmps51
    go_wp2_with (go_at_call 34; refine C1.out.mono ?_; rintro e w' ⟨rfl, rfl⟩)
    go_ret
    exact ⟨ret_bool HR.out.symm, rfl⟩
  · have e1 : (x.core.kind != 0) = true := bne_iff_ne.2 q2
    have HR : Hid (docB (coreL L) n x.core = true) := Lib.hid (by rw [HR.out, e1]; rfl)
    clear q2
    go_enter Try.func51, Try.ntmps51
    go_wp2_with (go_at_call 34; refine C1.out.mono ?_; rintro e w' ⟨rfl, rfl⟩)
    go_ret
    exact ⟨ret_bool HR.out.symm, rfl⟩
end Go.Proofs.Ytepomcnlkgaahaa
