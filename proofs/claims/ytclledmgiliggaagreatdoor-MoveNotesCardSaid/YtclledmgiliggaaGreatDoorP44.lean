/- Texts joined in build order: MoveNotesArms. -/
import Derived.Test.YtclledmgiliggaaGreatDoorP43
namespace Go.Proofs.YtclledmgiliggaaGreatDoor
open Go.RowKit
set_option linter.unusedVariables false
set_option maxHeartbeats 32000000 in
set_option maxRecDepth 100000 in
theorem mnArms : mnRound.1.1 := by
  conv => whnf
  intro a len cap m L pl pc D w AW sh1 hl0 HL HM HH HG HF hp64 sh2 sh3 c0 SM HR HRR HLC sh4 sh5 sh6 sh7 sh8 h40 sh9 sh10 z0 z1 w1 BX sh11 wg GX HBG sh12 sh13 u4 u6 u8 u9 u10 u11 u12 u13 u14 si1 si2 si3 si4 si5 si6 si7 si8 si9 si10 si11 si12 si13 si14 si15 si16 si17 si18 si19 si20 si21 si22 si23 si24 si25 si26 si27 si28 si29 si30 si31 si32 si33 si34 si35 si36 si37 si38 si39 si40 si41 si42 si43 si44 si45 si46 si47 si48 si49 si50 si51 si52 si53 si54 si55 si56 si57 si58 si59 si60 si61 u96 si62 si63 si64 si65 si66 si67 si68 si69 si70 si71 si72 si73 si74 si75 si76 si77 u113 si78 si79 si80 si81 si82 si83 si84 si85 si86 si87 u124 si88 si89 si90 si91 si92 si93 si94 si95 u133 si96 si97 si98 si99 si100 si101 si102 si103 si104 si105 u144 si106 si107 si108 si109 si110 si111 si112 si113 si114 si115 si116 si117 si118 si119 si120 si121 si122 si123 si124 si125 si126 si127 si128 si129 si130 si131 si132 si133 si134 si135 si136 si137 si138 si139 si140 si141 si142 si143 si144 si145 si146 si147 si148 si149 si150 si151 si152 si153 si154 si155 si156 si157 si158 si159 si160 si161 si162 i nn G N cap1 M1 hi hnn HNL HNO HGR HT HSM1 hlt bd od HD hbd x0 x1 x2 x3 x4 x5 D0 D1 D2 D3 D4 D5 p0 q0 p1 q1 p2 q2 p3 q3 p4 q4 p5 q5 hi64 hlp HGL X Y hXl hYl HX64 HY64 b2 o2 ny hk64 wp HB1 HO GX1 hblt CY KR BXR si163 si164 si165 r3 si166 si167 si168 si169 si170 si171 si172 si173 si174 si175 si176 si177 si178 si179 si180 si181 si182 si183 si184 si185 si186 si187 si188 si189 si190 si191 si192 si193 si194 si195 si196 si197 si198 si199 si200 si201 si202 si203 si204 si205 si206 si207 si208 si209 si210 si211 si212 si213 si214 si215 si216 si217 si218 si219 si220 si221 si222 si223 si224 si225 si226 si227 si228 si229 si230 si231 si232 si233 si234 si235 si236 si237 si238 si239 si240 si241 si242 si243 si244 si245 si246 si247 si248 si249 si250 si251 si252 si253 si254 si255 si256 si257 si258 si259 si260 si261 si262 si263 si264 si265 si266 si267 si268 si269 si270 si271 si272 si273 si274 si275 si276 si277 si278 si279 si280 si281 si282 si283 si284 si285 si286 si287 si288 si289 si290 si291 si292 si293 si294 si295 si296 si297 si298 si299 si300 si301 si302 si303 si304 si305 si306 si307 si308 si309 si310 si311 si312 si313 si314 si315 si316 si317 si318 si319 si320 si321 si322 si323 si324 si325 si326 B HBB u35 u36 u37 u38 u39 u40 u41 u42 u43 u44 u45 u46 u47 u48 u49 u50 u51 u52 u53 u54 u55 u56 u57 u58 u59 u60 u61 u62 u63 u64 u65 u66 u67 u68 u69 u70 u71 u72 u73 u74 u75 u76 u77 u78 u79 u80 u81 u82 u83 u84 u85 u86 u87 u88 u89 u90 u91 u92 u93 u94 u95 u97 u98 u99 u100 u101 u102 u103 u104 u105 u106 u107 u108 u109 u110 u111 u112 u114 u115 u116 u117 u118 u119 u120 u121 u122 u123 u125 u126 u127 u128 u129 u130 u131 u132 u134 u135 u136 u137 u138 u139 u140 u141 u142 u143 u145 u146 u147 u148 u149 u150 u151 u152 u153 u154 u155 u156 u157 u158 u159 u160 u161 u162 u163 u164 u165 u166 u167 u168 u169 u170 u171 u172 u173 u174 u175 u176 u177 u178 u179 u180 u181 u182 u183 u184 u185 u186 u187 u188 u189 u190 u191 u192 u193 u194 u195 u196 u197 u198 u199 u200 u201 C HC64 K hK0 hK5 HKK W BXQ GXQ HBQ HOQ KRQ si327 si328 Wa ZB HZA HWA GXA BXA hgB si329 si330 si331 si332
  have g0 := GXA.out.box.c0
  have g1 := GXA.out.box.c1
  obtain h | h | h | h | h : K = 0 ∨ K = 1 ∨ K = 2 ∨ K = 3 ∨ K = 4 := by omega
  · skip
    subst h
    obtain ⟨⟨G2, X2, E⟩, hR⟩ : ∃ R, insZ m G X Y C = R := ⟨_, rfl⟩
    have HOR : Hid (OpR m G (G2, X2, E)) := Lib.hid (by rw [← hR]; exact op_ins HGR.out (by rw [HGL.out]; exact hXl) (by rw [HGL.out]; exact hYl))
    have GI : Hid (Calls Tryz.prog 11 #[forV (some ⟨b2, o2, none⟩) len cap1 m, .int .i64 X, .int .i64 Y, .int .i64 C] Wa (OpPost W w1.heap.size m G2 X2 E)) := Lib.hid (op_call hgB HWA.out (Below.refl _ _) (mins_to hR Wa _ len cap1 M1 GXA.out.box.row GXA.out.box.core HSM1.out HM.out HX64.out HY64.out HC64.out (HG.out.keep GXA.out.box.below)))
    clear hR
    go_wp2_with (go_at_call 11; ((with_reducible refine GI.out.mono ?_); rintro e w7 ⟨a2, len2, cap2, M2, va, vl, vc, rfl, t0, t1, tf, hoe⟩; have OE := Lib.hid hoe; clear hoe))
    go_meet
    exact ⟨trivial, _, _, _, _, _, _, _, _, _, _, rfl, rfl, HOR, OE⟩
  · skip
    subst h
    obtain ⟨⟨G2, X2, E⟩, hR⟩ : ∃ R, remZ m G X = R := ⟨_, rfl⟩
    have HOR : Hid (OpR m G (G2, X2, E)) := Lib.hid (by rw [← hR]; exact op_rem HGR.out (by rw [HGL.out]; exact hXl))
    have GI : Hid (Calls Tryz.prog 12 #[forV (some ⟨b2, o2, none⟩) len cap1 m, .int .i64 X] Wa (OpPost W w1.heap.size m G2 X2 E)) := Lib.hid (op_call hgB HWA.out (Below.refl _ _) (mrem_toN hR Wa _ len cap1 M1 GXA.out.box.row GXA.out.box.core HSM1.out HM.out HX64.out (HG.out.keep GXA.out.box.below)))
    clear hR
    go_wp2_with (go_at_call 12; ((with_reducible refine GI.out.mono ?_); rintro e w7 ⟨a2, len2, cap2, M2, va, vl, vc, rfl, t0, t1, tf, hoe⟩; have OE := Lib.hid hoe; clear hoe))
    go_meet
    exact ⟨trivial, _, _, _, _, _, _, _, _, _, _, rfl, rfl, HOR, OE⟩
  · skip
    subst h
    obtain ⟨⟨G2, X2, E⟩, hR⟩ : ∃ R, repZ m G X Y C = R := ⟨_, rfl⟩
    have HOR : Hid (OpR m G (G2, X2, E)) := Lib.hid (by rw [← hR]; exact op_rep HGR.out (by rw [HGL.out]; exact hXl) (by rw [HGL.out]; exact hYl))
    have GI : Hid (Calls Tryz.prog 13 #[forV (some ⟨b2, o2, none⟩) len cap1 m, .int .i64 X, .int .i64 Y, .int .i64 C] Wa (OpPost W w1.heap.size m G2 X2 E)) := Lib.hid (op_call hgB HWA.out (Below.refl _ _) (mrep_toN hR Wa _ len cap1 M1 GXA.out.box.row GXA.out.box.core HSM1.out HM.out HX64.out HY64.out HC64.out (HG.out.keep GXA.out.box.below)))
    clear hR
    go_wp2_with (go_at_call 13; ((with_reducible refine GI.out.mono ?_); rintro e w7 ⟨a2, len2, cap2, M2, va, vl, vc, rfl, t0, t1, tf, hoe⟩; have OE := Lib.hid hoe; clear hoe))
    go_meet
    exact ⟨trivial, _, _, _, _, _, _, _, _, _, _, rfl, rfl, HOR, OE⟩
  · skip
    subst h
    obtain ⟨l4, HL4⟩ : ∃ l : UInt8, Hid (97 + x4 % 3 = (l.toNat : Int)) := ⟨UInt8.ofNat (97 + x4 % 3).toNat, Lib.hid (by rw [UInt8.toNat_ofNat']; omega)⟩
    obtain ⟨l5, HL5⟩ : ∃ l : UInt8, Hid (48 + x5 % 4 = (l.toNat : Int)) := ⟨UInt8.ofNat (48 + x5 % 4).toNat, Lib.hid (by rw [UInt8.toNat_ofNat']; omega)⟩
    obtain ⟨⟨G2, X2, E⟩, hR⟩ : ∃ R, setZ m G X (ofL [l4]).toList (ofL [l5]) = R := ⟨_, rfl⟩
    have HOR : Hid (OpR m G (G2, X2, E)) := Lib.hid (by rw [← hR]; exact op_set HGR.out (by rw [HGL.out]; exact hXl) _ _)
    go_upto_region 27 with fail
    refine mn27_region (by kernel_rfl) GXA.out.box.lt g0 g1 (Nat.lt_of_lt_of_le hbd BXA.out.below.size) hlt hi64 (D4.out _ BXA.out.below) p4 q4 HL4 (D5.out _ BXA.out.below) p5 q5 HL5 rfl rfl rfl rfl ?_
    intro v w8 hb8
    simp only [puts, List.set_cons_succ, List.set_cons_zero]
    unfold mn27Ops
    have GXB := Lib.hid (GXA.out.keep hb8)
    have HB8 := Lib.hid hb8
    clear hb8 g0 g1
    refine wpAny_ready (rs := [20]) (by kernel_rfl) (by simp) ?_
    refine AllReady.cons rfl (fun K hK => ?_) AllReady.nil
    go_simp
    have GI : Hid (Calls Tryz.prog 21 #[forV (some ⟨b2, o2, none⟩) len cap1 m, .int .i64 X, .string (ofL [l4]), .string (ofL [l5])] w8 (OpPost W w1.heap.size m G2 X2 E)) := Lib.hid (op_call hgB HWA.out HB8.out (mset_to hR w8 _ len cap1 M1 GXB.out.box.row GXB.out.box.core HSM1.out HM.out HX64.out one_max one_max (HG.out.keep GXB.out.box.below)))
    clear hR
    ((with_reducible refine GI.out.mono ?_); rintro e w7 ⟨a2, len2, cap2, M2, va, vl, vc, rfl, t0, t1, tf, hoe⟩; have OE := Lib.hid hoe; clear hoe)
    refine hK _ _ ?_
    clear hK K
    (refine wpAny_take (i := 21) (v := (.tuple #[forV a2 len2 cap2 m, .slice va vl vc, .int .i64 E])) rfl (by kernel_rfl) (by kernel_rfl) (by kernel_rfl) (fun _ _ _ h => h) (Or.inl ⟨by rfl, fun w => by go_simp⟩) ?_)
    (refine wpAny_take (i := 22) (v := (forV a2 len2 cap2 m)) rfl (by kernel_rfl) (by kernel_rfl) (by kernel_rfl) (fun _ _ _ h => h) (Or.inl ⟨by rfl, fun w => by go_simp⟩) ?_)
    (refine wpAny_take (i := 23) (v := (.slice va vl vc)) rfl (by kernel_rfl) (by kernel_rfl) (by kernel_rfl) (fun _ _ _ h => h) (Or.inl ⟨by rfl, fun w => by go_simp⟩) ?_)
    (refine wpAny_take (i := 24) (v := (.int .i64 E)) rfl (by kernel_rfl) (by kernel_rfl) (by kernel_rfl) (fun _ _ _ h => h) (Or.inl ⟨by rfl, fun w => by go_simp⟩) ?_)
    refine wpAny_ready (rs := [25]) (by kernel_rfl) (by simp) ?_
    refine AllReady.cons rfl (fun K hK => ?_) AllReady.nil
    go_simp
    refine hK _ _ ?_
    clear hK K
    (refine wpAny_take (i := 26) (v := (.slice va vl vc)) rfl (by kernel_rfl) (by kernel_rfl) (by kernel_rfl) (fun _ _ _ h => h) (Or.inl ⟨by rfl, fun w => by go_simp⟩) ?_)
    (refine wpAny_take (i := 27) (v := (.int .i64 E)) rfl (by kernel_rfl) (by kernel_rfl) (by kernel_rfl) (fun _ _ _ h => h) (Or.inl ⟨by rfl, fun w => by go_simp⟩) ?_)
    refine wpAny_done (by kernel_rfl) ?_ _
    go_wp2
    go_meet
    exact ⟨trivial, _, _, _, _, _, _, _, _, _, _, rfl, rfl, HOR, OE⟩
  · skip
    subst h
    obtain ⟨l4, HL4⟩ : ∃ l : UInt8, Hid (97 + x4 % 3 = (l.toNat : Int)) := ⟨UInt8.ofNat (97 + x4 % 3).toNat, Lib.hid (by rw [UInt8.toNat_ofNat']; omega)⟩
    obtain ⟨⟨G2, X2, E⟩, hR⟩ : ∃ R, unsZ m G X (ofL [l4]).toList = R := ⟨_, rfl⟩
    have HOR : Hid (OpR m G (G2, X2, E)) := Lib.hid (by rw [← hR]; exact op_uns HGR.out (by rw [HGL.out]; exact hXl) _)
    go_upto_region 19 with fail
    refine mn19_region (by kernel_rfl) GXA.out.box.lt g0 g1 (Nat.lt_of_lt_of_le hbd BXA.out.below.size) hlt hi64 (D4.out _ BXA.out.below) p4 q4 HL4 rfl rfl rfl rfl ?_
    intro v w8 hb8
    simp only [puts, List.set_cons_succ, List.set_cons_zero]
    unfold mn19Ops
    have GXB := Lib.hid (GXA.out.keep hb8)
    have HB8 := Lib.hid hb8
    clear hb8 g0 g1
    refine wpAny_ready (rs := [11]) (by kernel_rfl) (by simp) ?_
    refine AllReady.cons rfl (fun K hK => ?_) AllReady.nil
    go_simp
    have GI : Hid (Calls Tryz.prog 22 #[forV (some ⟨b2, o2, none⟩) len cap1 m, .int .i64 X, .string (ofL [l4])] w8 (OpPost W w1.heap.size m G2 X2 E)) := Lib.hid (op_call hgB HWA.out HB8.out (muns_toN hR w8 _ len cap1 M1 GXB.out.box.row GXB.out.box.core HSM1.out HM.out HX64.out one_max (HG.out.keep GXB.out.box.below)))
    clear hR
    ((with_reducible refine GI.out.mono ?_); rintro e w7 ⟨a2, len2, cap2, M2, va, vl, vc, rfl, t0, t1, tf, hoe⟩; have OE := Lib.hid hoe; clear hoe)
    refine hK _ _ ?_
    clear hK K
    (refine wpAny_take (i := 12) (v := (.tuple #[forV a2 len2 cap2 m, .slice va vl vc, .int .i64 E])) rfl (by kernel_rfl) (by kernel_rfl) (by kernel_rfl) (fun _ _ _ h => h) (Or.inl ⟨by rfl, fun w => by go_simp⟩) ?_)
    (refine wpAny_take (i := 13) (v := (forV a2 len2 cap2 m)) rfl (by kernel_rfl) (by kernel_rfl) (by kernel_rfl) (fun _ _ _ h => h) (Or.inl ⟨by rfl, fun w => by go_simp⟩) ?_)
    (refine wpAny_take (i := 14) (v := (.slice va vl vc)) rfl (by kernel_rfl) (by kernel_rfl) (by kernel_rfl) (fun _ _ _ h => h) (Or.inl ⟨by rfl, fun w => by go_simp⟩) ?_)
    (refine wpAny_take (i := 15) (v := (.int .i64 E)) rfl (by kernel_rfl) (by kernel_rfl) (by kernel_rfl) (fun _ _ _ h => h) (Or.inl ⟨by rfl, fun w => by go_simp⟩) ?_)
    refine wpAny_ready (rs := [16]) (by kernel_rfl) (by simp) ?_
    refine AllReady.cons rfl (fun K hK => ?_) AllReady.nil
    go_simp
    refine hK _ _ ?_
    clear hK K
    (refine wpAny_take (i := 17) (v := (.slice va vl vc)) rfl (by kernel_rfl) (by kernel_rfl) (by kernel_rfl) (fun _ _ _ h => h) (Or.inl ⟨by rfl, fun w => by go_simp⟩) ?_)
    (refine wpAny_take (i := 18) (v := (.int .i64 E)) rfl (by kernel_rfl) (by kernel_rfl) (by kernel_rfl) (fun _ _ _ h => h) (Or.inl ⟨by rfl, fun w => by go_simp⟩) ?_)
    refine wpAny_done (by kernel_rfl) ?_ _
    go_wp2
    go_meet
    exact ⟨trivial, _, _, _, _, _, _, _, _, _, _, rfl, rfl, HOR, OE⟩
end Go.Proofs.YtclledmgiliggaaGreatDoor
