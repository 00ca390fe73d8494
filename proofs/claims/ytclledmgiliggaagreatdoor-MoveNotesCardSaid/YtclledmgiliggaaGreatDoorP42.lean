/- Texts joined in build order: MoveNotesSkel. -/
import Derived.Test.YtclledmgiliggaaGreatDoorP39
import Derived.Test.YtclledmgiliggaaGreatDoorP41
import Derived.Test.YtclledmgiliggaaGreatDoorP29
import Derived.Test.YtclledmgiliggaaGreatDoorP37
import Derived.Test.YtclledmgiliggaaGreatDoorP03
import Derived.Test.YtclledmgiliggaaGreatDoorP22
import Derived.Deep.CutBlock
namespace Go.Proofs.YtclledmgiliggaaGreatDoor
open Go.RowKit
set_option linter.unusedVariables false
structure Leaf (P : Prop) : Prop where
  out : P
open Go.RowKit
set_option linter.unusedVariables false
theorem one_max {l : UInt8} : (ofL [l]).size ≤ maxLen := by
  show 1 ≤ maxLen
  decide
theorem mrem_toN {m : Int} {F : List Core} {n : Int} {R : List Core × List NoteD × Int} (hR : remZ m F n = R) (W : World) (a : Option Addr) (len cap : Nat) (M : List NodeD) (h : NodeRow W a len cap M) (hc : coreL M = F) (hs : smallF M) (hm : In64 m) (hn : In64 n) (hg : ErrVar W) :
    Calls Tryz.prog 12 #[forV a len cap m, .int .i64 n] W (MvPost W m R) := by
  rw [← hR, ← hc]
  exact mremove_any a len cap m M n W h hm hn hs hg
theorem mrep_toN {m : Int} {F : List Core} {n p c : Int} {R : List Core × List NoteD × Int} (hR : repZ m F n p c = R) (W : World) (a : Option Addr) (len cap : Nat) (M : List NodeD) (h : NodeRow W a len cap M) (hc : coreL M = F) (hs : smallF M) (hm : In64 m) (hn : In64 n) (hp : In64 p) (hcc : In64 c) (hg : ErrVar W) :
    Calls Tryz.prog 13 #[forV a len cap m, .int .i64 n, .int .i64 p, .int .i64 c] W (MvPost W m R) := by
  rw [← hR, ← hc]
  exact mreplace_any a len cap m M n p c W h hm hn hp hcc hs hg
theorem muns_toN {m : Int} {F : List Core} {n : Int} {s : ByteArray} {R : List Core × List NoteD × Int} (hR : unsZ m F n s.toList = R) (W : World) (a : Option Addr) (len cap : Nat) (M : List NodeD) (h : NodeRow W a len cap M) (hc : coreL M = F) (hs : smallF M) (hm : In64 m) (hn : In64 n) (hsz : s.size ≤ maxLen) (hg : ErrVar W) :
    Calls Tryz.prog 22 #[forV a len cap m, .int .i64 n, .string s] W (MvPost W m R) := by
  rw [← hR, ← hc]
  exact munset_any a len cap m M n s W h hm hn hsz hs hg
set_option maxHeartbeats 32000000 in
set_option maxRecDepth 100000 in
noncomputable def mnSkel : { P : Prop × Prop // Leaf P.1 → Leaf P.2 → ∀ (a : Option Addr) (len cap : Nat) (m : Int) (L : List NodeD) (pa : Option Addr) (pl pc : Nat) (D : List DoF) (w : World) (h : NodeRow w a len cap L) (hm : In64 m) (hd : SRow encF 6 w pa pl pc D) (hf : ∀ x ∈ D, fineF x) (hg : ErrVar w),
    Calls Tryz.prog 4 #[forV a len cap m, .slice pa pl pc] w fun e w' => e = .returned (.bool true) ∧ Below w.heap.size w w' } := by
  apply Subtype.mk (val := (_, _))
  next =>
  intro leafR leafX
  intro a len cap m L pa pl pc D w h hm hd hf hg
  have AW := Lib.hid (fun W h => awake6_any W h)
  have BX := Lib.hid (Box.start (m := m) h)
  have hl0 := h.len64
  have HL := Lib.hid h.hlen
  have HM := Lib.hid hm
  have HH := Lib.hid h
  have HG := Lib.hid hg
  have HD := Lib.hid hd
  have HF := Lib.hid hf
  have hp64 : (pl : Int) ≤ 9223372036854775807 := by
    have h1 := hd.hcap
    have h2 := hd.hmax
    unfold maxLen at h2
    omega
  have z0 := BX.out.c0
  have z1 := BX.out.c1
  clear h hm hg hd hf
  cases c0 : shortF L with
  | false =>
    have C0 := Lib.hid c0
    go_enter Tryz.func4, Tryz.ntmps4
    go_wp2_with (first
                    | (go_at_call 9; (with_reducible refine (AW.out _ (HG.out.keep BX.out.below)).mono ?_); rintro e w1 ⟨rfl, hb⟩; have BX := Lib.hid (BX.out.keep hb); have z0 := BX.out.c0; have z1 := BX.out.c1; clear hb)
                    | (go_at_call 10; (with_reducible refine (refshortF_any _ _ _ _ _ _ BX.out.row).mono ?_); rintro e w1 ⟨rfl, hb⟩; have BX := Lib.hid (BX.out.keep hb); have z0 := BX.out.c0; have z1 := BX.out.c1; clear hb)
                    | (go_at_call 20; (with_reducible refine (HR.out _ BX.out.row).mono ?_); rintro e w1 ⟨rfl, hb⟩; have BX := Lib.hid (BX.out.keep hb); have z0 := BX.out.c0; have z1 := BX.out.c1; clear hb))
    go_ret
    exact ⟨rfl, BX.out.below⟩
  | true =>
    have SM := Lib.hid (small_of_short c0)
    cases c1 : rightF m (coreL L) with
    | false =>
      have HR : Hid (∀ W, NodeRow W a len cap L → Calls Tryz.prog 20 #[forV a len cap m] W fun e w' => e = .returned (.bool false) ∧ Below W.heap.size W w') := Lib.hid (fun W h => by
        have := rightF_any a len cap m L W h HM.out SM.out
        rwa [c1] at this)
      clear c1
      go_enter Tryz.func4, Tryz.ntmps4
      go_wp2_with (first
                      | (go_at_call 9; (with_reducible refine (AW.out _ (HG.out.keep BX.out.below)).mono ?_); rintro e w1 ⟨rfl, hb⟩; have BX := Lib.hid (BX.out.keep hb); have z0 := BX.out.c0; have z1 := BX.out.c1; clear hb)
                      | (go_at_call 10; (with_reducible refine (refshortF_any _ _ _ _ _ _ BX.out.row).mono ?_); rintro e w1 ⟨rfl, hb⟩; have BX := Lib.hid (BX.out.keep hb); have z0 := BX.out.c0; have z1 := BX.out.c1; clear hb)
                      | (go_at_call 20; (with_reducible refine (HR.out _ BX.out.row).mono ?_); rintro e w1 ⟨rfl, hb⟩; have BX := Lib.hid (BX.out.keep hb); have z0 := BX.out.c0; have z1 := BX.out.c1; clear hb))
      go_ret
      exact ⟨rfl, BX.out.below⟩
    | true =>
      have HR : Hid (∀ W, NodeRow W a len cap L → Calls Tryz.prog 20 #[forV a len cap m] W fun e w' => e = .returned (.bool true) ∧ Below W.heap.size W w') := Lib.hid (fun W h => by
        have := rightF_any a len cap m L W h HM.out SM.out
        rwa [c1] at this)
      have HRR := Lib.hid c1
      have HLC : Hid ((coreL L).length = len) := Lib.hid (by rw [coreL_len, HL.out])
      clear c1
      by_cases h40 : 40 < (pl : Int)
      · go_enter Tryz.func4, Tryz.ntmps4
        go_wp2_with (first
                        | (go_at_call 9; (with_reducible refine (AW.out _ (HG.out.keep BX.out.below)).mono ?_); rintro e w1 ⟨rfl, hb⟩; have BX := Lib.hid (BX.out.keep hb); have z0 := BX.out.c0; have z1 := BX.out.c1; clear hb)
                        | (go_at_call 10; (with_reducible refine (refshortF_any _ _ _ _ _ _ BX.out.row).mono ?_); rintro e w1 ⟨rfl, hb⟩; have BX := Lib.hid (BX.out.keep hb); have z0 := BX.out.c0; have z1 := BX.out.c1; clear hb)
                        | (go_at_call 20; (with_reducible refine (HR.out _ BX.out.row).mono ?_); rintro e w1 ⟨rfl, hb⟩; have BX := Lib.hid (BX.out.keep hb); have z0 := BX.out.c0; have z1 := BX.out.c1; clear hb))
        go_ret
        exact ⟨rfl, BX.out.below⟩
      go_enter Tryz.func4, Tryz.ntmps4
      go_upto_region 6 with (first
                                | (go_at_call 9; (with_reducible refine (AW.out _ (HG.out.keep BX.out.below)).mono ?_); rintro e w1 ⟨rfl, hb⟩; have BX := Lib.hid (BX.out.keep hb); have z0 := BX.out.c0; have z1 := BX.out.c1; clear hb)
                                | (go_at_call 10; (with_reducible refine (refshortF_any _ _ _ _ _ _ BX.out.row).mono ?_); rintro e w1 ⟨rfl, hb⟩; have BX := Lib.hid (BX.out.keep hb); have z0 := BX.out.c0; have z1 := BX.out.c1; clear hb)
                                | (go_at_call 20; (with_reducible refine (HR.out _ BX.out.row).mono ?_); rintro e w1 ⟨rfl, hb⟩; have BX := Lib.hid (BX.out.keep hb); have z0 := BX.out.c0; have z1 := BX.out.c1; clear hb))
      obtain ⟨wg, hwg, GX, HBG⟩ : ∃ wg, w1.alloc (.cells #[.slice a len cap, .int .i64 m] 24) = wg ∧ Hid (MBox w wg w1.heap.size a len cap m L (coreL L)) ∧ Hid (Below w1.heap.size w1 wg) := ⟨_, rfl, Lib.hid (MBox.new BX.out.below BX.out.row rfl), Lib.hid (below_box _ _)⟩
      rw [hwg]
      clear hwg z0 z1
      go_wp2
      go_loopw [6, 7] (fun nv iv wr => ∃ (i nn : Nat) (G : List Core) (N : List NoteD) (a1 : Option Addr) (len1 cap1 : Nat) (M1 : List NodeD), i ≤ pl ∧ iv = .int .i64 i ∧ nn ≤ 1000000 * i ∧ Hid (N.length = nn) ∧ Hid (∀ x ∈ N, NoteOk x) ∧ Hid (rightF m G = true) ∧ Hid (Told (coreL L) N G) ∧ Hid (smallF M1) ∧ Hid (MBox w wr w1.heap.size a1 len1 cap1 m M1 G) ∧ Hid (Below w1.heap.size w1 wr) ∧ Hid (wr.ownsRow (w1.heap.size + 1) 53 9 nv nn (N.flatMap encO))) (fun _ iv _ => pl - (intOf iv).toNat)
      case atStart => exact ⟨0, 0, coreL L, [], a, len, cap, L, Nat.zero_le _, rfl, Nat.zero_le _, Lib.hid rfl, Lib.hid (fun x hx => by cases hx), HRR, Lib.hid (Told.refl _), SM, GX, HBG, Lib.hid (World.ownsRow_nil _ _ _ _)⟩
      case round =>
        obtain ⟨i, nn, G, N, a1, len1, cap1, M1, hi, rfl, hnn, HNL, HNO, HGR, HT, HSM1, GX1, HB1, HO⟩ := hrel
        by_cases hlt : i < pl
        · skip
          rename_i sh1 sh2 sh3 sh4 sh5 sh6 sh7 sh8 sh9 sh10 sh11 sh12 sh13
          revert a len cap m L pa pl pc D w AW sh1 hl0 HL HM HH HG HD HF hp64 sh2 sh3 c0 SM HR HRR HLC sh4 sh5 sh6 sh7 sh8 h40 sh9 sh10 z0 z1 w1 BX sh11 wg GX HBG sh12 sh13 wr u4 u6 u8 u9 u10 u11 u12 u13 u14 u35 u36 u37 u38 u39 u40 u41 u42 u43 u44 u45 u46 u47 u48 u49 u50 u51 u52 u53 u54 u55 u56 u57 u58 u59 u60 u61 u62 u63 u64 u65 u66 u67 u68 u69 u70 u71 u72 u73 u74 u75 u76 u77 u78 u79 u80 u81 u82 u83 u84 u85 u86 u87 u88 u89 u90 u91 u92 u93 u94 u95 u96 u97 u98 u99 u100 u101 u102 u103 u104 u105 u106 u107 u108 u109 u110 u111 u112 u113 u114 u115 u116 u117 u118 u119 u120 u121 u122 u123 u124 u125 u126 u127 u128 u129 u130 u131 u132 u133 u134 u135 u136 u137 u138 u139 u140 u141 u142 u143 u144 u145 u146 u147 u148 u149 u150 u151 u152 u153 u154 u155 u156 u157 u158 u159 u160 u161 u162 u163 u164 u165 u166 u167 u168 u169 u170 u171 u172 u173 u174 u175 u176 u177 u178 u179 u180 u181 u182 u183 u184 u185 u186 u187 u188 u189 u190 u191 u192 u193 u194 u195 u196 u197 u198 u199 u200 u201 i nn G N a1 len1 cap1 M1 hi hnn HNL HNO HGR HT HSM1 GX1 HB1 HO hlt
          exact leafR.out
        · skip
          rename_i sh1 sh2 sh3 sh4 sh5 sh6 sh7 sh8 sh9 sh10 sh11 sh12 sh13
          revert a len cap m L pa pl pc D w AW sh1 hl0 HL HM HH HG HD HF hp64 sh2 sh3 c0 SM HR HRR HLC sh4 sh5 sh6 sh7 sh8 h40 sh9 sh10 z0 z1 w1 BX sh11 wg GX HBG sh12 sh13 wr u4 u6 u8 u9 u10 u11 u12 u13 u14 u35 u36 u37 u38 u39 u40 u41 u42 u43 u44 u45 u46 u47 u48 u49 u50 u51 u52 u53 u54 u55 u56 u57 u58 u59 u60 u61 u62 u63 u64 u65 u66 u67 u68 u69 u70 u71 u72 u73 u74 u75 u76 u77 u78 u79 u80 u81 u82 u83 u84 u85 u86 u87 u88 u89 u90 u91 u92 u93 u94 u95 u96 u97 u98 u99 u100 u101 u102 u103 u104 u105 u106 u107 u108 u109 u110 u111 u112 u113 u114 u115 u116 u117 u118 u119 u120 u121 u122 u123 u124 u125 u126 u127 u128 u129 u130 u131 u132 u133 u134 u135 u136 u137 u138 u139 u140 u141 u142 u143 u144 u145 u146 u147 u148 u149 u150 u151 u152 u153 u154 u155 u156 u157 u158 u159 u160 u161 u162 u163 u164 u165 u166 u167 u168 u169 u170 u171 u172 u173 u174 u175 u176 u177 u178 u179 u180 u181 u182 u183 u184 u185 u186 u187 u188 u189 u190 u191 u192 u193 u194 u195 u196 u197 u198 u199 u200 u201 i nn G N a1 len1 cap1 M1 hi hnn HNL HNO HGR HT HSM1 GX1 HB1 HO hlt
          exact leafX.out
end Go.Proofs.YtclledmgiliggaaGreatDoor
