/- Texts joined in build order: MoveNotesRound. -/
import Derived.Test.YtclledmgiliggaaGreatDoorP42
namespace Go.Proofs.YtclledmgiliggaaGreatDoor
open Go.RowKit
set_option linter.unusedVariables false
set_option maxHeartbeats 32000000 in
set_option maxRecDepth 100000 in
noncomputable def mnRound : { P : Prop × Prop // Leaf P.1 → Leaf P.2 → mnSkel.1.1 } := by
  apply Subtype.mk (val := (_, _))
  next =>
  intro leafF leafT
  conv => whnf
  intro a len cap m L pa pl pc D w AW sh1 hl0 HL HM HH HG HD HF hp64 sh2 sh3 c0 SM HR HRR HLC sh4 sh5 sh6 sh7 sh8 h40 sh9 sh10 z0 z1 w1 BX sh11 wg GX HBG sh12 sh13 wr u4 u6 u8 u9 u10 u11 u12 u13 u14 u35 u36 u37 u38 u39 u40 u41 u42 u43 u44 u45 u46 u47 u48 u49 u50 u51 u52 u53 u54 u55 u56 u57 u58 u59 u60 u61 u62 u63 u64 u65 u66 u67 u68 u69 u70 u71 u72 u73 u74 u75 u76 u77 u78 u79 u80 u81 u82 u83 u84 u85 u86 u87 u88 u89 u90 u91 u92 u93 u94 u95 u96 u97 u98 u99 u100 u101 u102 u103 u104 u105 u106 u107 u108 u109 u110 u111 u112 u113 u114 u115 u116 u117 u118 u119 u120 u121 u122 u123 u124 u125 u126 u127 u128 u129 u130 u131 u132 u133 u134 u135 u136 u137 u138 u139 u140 u141 u142 u143 u144 u145 u146 u147 u148 u149 u150 u151 u152 u153 u154 u155 u156 u157 u158 u159 u160 u161 u162 u163 u164 u165 u166 u167 u168 u169 u170 u171 u172 u173 u174 u175 u176 u177 u178 u179 u180 u181 u182 u183 u184 u185 u186 u187 u188 u189 u190 u191 u192 u193 u194 u195 u196 u197 u198 u199 u200 u201 i nn G N a1 len1 cap1 M1 hi hnn HNL HNO HGR HT HSM1 GX1 HB1 HO hlt
  obtain ⟨bd, od, x, rfl, hbd, hdx, -, hcd⟩ := HD.out.get hlt
  have hfx := HF.out x (List.mem_of_getElem? hdx)
  obtain ⟨x0, x1, x2, x3, x4, x5⟩ := x
  have D0 : Hid (∀ W, Below w.heap.size w W → W.cell? ⟨bd, od + i * 6, none⟩ = some (.int .u8 x0)) := Lib.hid (stays (by have := hcd 0 _ rfl; rwa [Nat.add_zero] at this) hbd)
  have D1 : Hid (∀ W, Below w.heap.size w W → W.cell? ⟨bd, od + i * 6 + 1, none⟩ = some (.int .u8 x1)) := Lib.hid (stays (hcd 1 _ rfl) hbd)
  have D2 : Hid (∀ W, Below w.heap.size w W → W.cell? ⟨bd, od + i * 6 + 2, none⟩ = some (.int .u8 x2)) := Lib.hid (stays (hcd 2 _ rfl) hbd)
  have D3 : Hid (∀ W, Below w.heap.size w W → W.cell? ⟨bd, od + i * 6 + 3, none⟩ = some (.int .u8 x3)) := Lib.hid (stays (hcd 3 _ rfl) hbd)
  have D4 : Hid (∀ W, Below w.heap.size w W → W.cell? ⟨bd, od + i * 6 + 4, none⟩ = some (.int .u8 x4)) := Lib.hid (stays (hcd 4 _ rfl) hbd)
  have D5 : Hid (∀ W, Below w.heap.size w W → W.cell? ⟨bd, od + i * 6 + 5, none⟩ = some (.int .u8 x5)) := Lib.hid (stays (hcd 5 _ rfl) hbd)
  unfold fineF at hfx
  dsimp only at hfx
  obtain ⟨⟨p0, q0⟩, ⟨p1, q1⟩, ⟨p2, q2⟩, ⟨p3, q3⟩, ⟨p4, q4⟩, ⟨p5, q5⟩⟩ := hfx
  have hi64 : (i : Int) + 1 ≤ 9223372036854775807 := by omega
  have hlp : 0 < len := by
    have := right_len HRR.out
    rwa [HLC.out] at this
  have hl1 : len = len1 := by
    have h1 := GX1.out.box.row.hlen
    have h2 := congrArg List.length GX1.out.box.core
    rw [coreL_len, HT.out.len, HLC.out] at h2
    omega
  subst hl1
  have HGL : Hid (G.length = len) := Lib.hid (by rw [HT.out.len, HLC.out])
  obtain ⟨X, hX⟩ : ∃ X : Nat, x1 % (len : Int) = X := ⟨(x1 % (len : Int)).toNat, by have := Int.emod_nonneg x1 (show (len : Int) ≠ 0 by omega); omega⟩
  obtain ⟨Y, hY⟩ : ∃ Y : Nat, x2 % (len : Int) = Y := ⟨(x2 % (len : Int)).toNat, by have := Int.emod_nonneg x2 (show (len : Int) ≠ 0 by omega); omega⟩
  have hXl : X < len := by have := Int.emod_lt_of_pos x1 (show (0 : Int) < len by omega); omega
  have hYl : Y < len := by have := Int.emod_lt_of_pos x2 (show (0 : Int) < len by omega); omega
  have HX64 : Hid (In64 (X : Int)) := Lib.hid ⟨by omega, by omega⟩
  have HY64 : Hid (In64 (Y : Int)) := Lib.hid ⟨by omega, by omega⟩
  obtain ⟨b2, o2, ny, rfl, hblt, hgy, hat2, hoky⟩ := GX1.out.box.row.get hYl
  have CY := Lib.hid (stays hat2.c6 hblt)
  have KR := Lib.hid hoky.kids
  have hk64 := KR.out.len64
  clear hgy hat2 hoky hdx hcd
  have BXR := Lib.hid (BX.out.keep HB1.out)
  have z0 := BXR.out.c0
  have z1 := BXR.out.c1
  obtain ⟨wp, rfl⟩ : ∃ wp, wp = wr := ⟨_, rfl⟩
  go_upto_region 10 with fail
  have E0 := Ext.cell z0 BXR.out.lt
  have E1 := Ext.stays D1.out BXR.out.below
  have E2 := Ext.stays D2.out BXR.out.below
  refine wp_region_ext (by kernel_rfl) (by kernel_rfl) ?_
  repeat (go_big_quiet_step (fail))
  refine wpQuiet_nil ?_
  intro w' hw'
  obtain ⟨⟨wq, hb2⟩, hw''⟩ := hw'
  dsimp only at hw''
  subst hw''
  rw [hX, hY]
  clear E0 E1 E2 hX hY z0 z1
  have BXQ := Lib.hid (BXR.out.keep hb2)
  have GXQ := Lib.hid (GX1.out.keep hb2)
  have HBQ := Lib.hid (HB1.out.trans (hb2.mono HB1.out.size))
  have HOQ := Lib.hid (own_below HO.out hb2)
  have KRQ := Lib.hid (KR.out.below hb2)
  have y6 := CY.out _ hb2
  have d3 := D3.out _ BXQ.out.below
  have g0 := GXQ.out.box.c0
  clear hb2
  obtain ⟨r3, hr3⟩ : ∃ r, x3 % 3 = r := ⟨_, rfl⟩
  have e3 : x3.tmod 3 = r3 := by rw [← hr3]; exact Int.tmod_eq_emod_of_nonneg p3
  go_upto_region 13 with fail
  go_cut [78] (fun c wx => c = .bool (decide (0 < (ny.kN : Int)) && decide (0 < r3)) ∧ wx = w')
  case first =>
    by_cases hk0 : 0 < (ny.kN : Int)
    · as_aux_lemma =>
      have hkn : 0 < ny.kN := by omega
      by_cases h3 : 0 < r3
      · go_wp2
        go_meet
        exact ⟨by rw [decide_eq_true hk0, decide_eq_true h3]; rfl, rfl⟩
      · go_wp2
        go_meet
        exact ⟨by rw [decide_eq_true hk0, decide_eq_false (show ¬ 0 < r3 by omega)]; rfl, rfl⟩
    · as_aux_lemma =>
      have hkn : ¬ 0 < ny.kN := by omega
      go_wp2
      go_meet
      exact ⟨by rw [decide_eq_false (show ¬ 0 < (ny.kN : Int) by omega)]; rfl, rfl⟩
  case rest =>
  obtain ⟨rfl, rfl⟩ := hcut
  clear hr3 e3
  generalize hB : (decide (0 < (ny.kN : Int)) && decide (0 < r3)) = B
  have HBB := Lib.hid hB
  clear hB
  go_upto_if 78 with fail
  go_cut [10, 11] (fun c s wx => wx = wc ∧ s = .slice ny.kA ny.kN ny.kC ∧ ∃ C : Int, c = .int .i64 C ∧ Hid (In64 C))
  case first =>
    cases B with
    | true => as_aux_lemma =>
      have hb0 := HBB.out
      rw [Bool.and_eq_true, decide_eq_true_eq] at hb0
      have hk0 := hb0.1
      clear hb0
      obtain ⟨K, hK⟩ : ∃ K : Nat, x3 % (ny.kN : Int) = K := ⟨(x3 % (ny.kN : Int)).toNat, by have := Int.emod_nonneg x3 (show (ny.kN : Int) ≠ 0 by omega); omega⟩
      have hKl : K < ny.kN := by have := Int.emod_lt_of_pos x3 (show (0 : Int) < ny.kN by omega); omega
      obtain ⟨bk, ok, zc, hka, hbk, hzc, hcc, -⟩ := KRQ.out.get hKl
      rw [hka]
      have HCH : Hid (In64 zc) := Lib.hid (KRQ.out.inb zc (List.mem_of_getElem? hzc))
      have ek : ((ny.kN : Int) == 0) = false := beq_eq_false_iff_ne.2 (by omega)
      have HKA := Lib.hid hka
      clear hzc hka
      go_wp2
      go_meet
      exact ⟨rfl, by rw [HKA.out], zc, rfl, HCH⟩
    | false =>
      go_wp2
      go_meet
      exact ⟨rfl, rfl, -1, rfl, Lib.hid ⟨by decide, by decide⟩⟩
  case rest =>
    obtain ⟨rfl, rfl, C, rfl, HC64⟩ := hcut
    clear y6 d3 g0
    obtain ⟨K, hK⟩ : ∃ K, x0 % 5 = K := ⟨_, rfl⟩
    have hK0 : 0 ≤ K := by rw [← hK]; exact Int.emod_nonneg _ (by decide)
    have hK5 : K < 5 := by rw [← hK]; exact Int.emod_lt_of_pos _ (by decide)
    have HKK := Lib.hid hK
    clear hK
    obtain ⟨W, rfl⟩ : ∃ W, W = wc := ⟨_, rfl⟩
    go_upto_region 18 with fail
    obtain ⟨Wa, hWa, ZB, HZA⟩ : ∃ Wa, W.alloc (.cells #[.slice none 0 0, .int .i64 0] 24) = Wa ∧ Hid (MBox W Wa W.heap.size none 0 0 0 [] []) ∧ Hid (Below W.heap.size W Wa) := ⟨_, rfl, Lib.hid (MBox.new (m := 0) (Below.refl _ W) ⟨SRow.nil, (fun z hz => by cases hz), fun _ => rfl⟩ rfl), Lib.hid (below_box _ _)⟩
    have HWA := Lib.hid hWa
    rw [hWa]
    clear hWa
    have GXA := Lib.hid (GXQ.out.keep HZA.out)
    have BXA := Lib.hid (BXQ.out.keep HZA.out)
    have hgB : w1.heap.size < W.heap.size := GXQ.out.box.lt
    have d0 := D0.out _ BXA.out.below
    go_upto_block 2 with (fail)
    rw [HKK.out]
    clear d0
    go_cut [13, 14] (fun lv ev wx => True ∧ ∃ (a2 : Option Addr) (len2 cap2 : Nat) (M2 : List NodeD) (G2 : List Core) (va : Option Addr) (vl vc : Nat) (X2 : List NoteD) (E : Int), lv = .slice va vl vc ∧ ev = .int .i64 E ∧ Hid (OpR m G (G2, X2, E)) ∧ Hid (OpEnd W wx w1.heap.size m a2 len2 cap2 M2 G2 va vl vc X2))
    case first =>
      rename_i si1 si2 si3 si4 si5 si6 si7 si8 si9 si10 si11 si12 si13 si14 si15 si16 si17 si18 si19 si20 si21 si22 si23 si24 si25 si26 si27 si28 si29 si30 si31 si32 si33 si34 si35 si36 si37 si38 si39 si40 si41 si42 si43 si44 si45 si46 si47 si48 si49 si50 si51 si52 si53 si54 si55 si56 si57 si58 si59 si60 si61 si62 si63 si64 si65 si66 si67 si68 si69 si70 si71 si72 si73 si74 si75 si76 si77 si78 si79 si80 si81 si82 si83 si84 si85 si86 si87 si88 si89 si90 si91 si92 si93 si94 si95 si96 si97 si98 si99 si100 si101 si102 si103 si104 si105 si106 si107 si108 si109 si110 si111 si112 si113 si114 si115 si116 si117 si118 si119 si120 si121 si122 si123 si124 si125 si126 si127 si128 si129 si130 si131 si132 si133 si134 si135 si136 si137 si138 si139 si140 si141 si142 si143 si144 si145 si146 si147 si148 si149 si150 si151 si152 si153 si154 si155 si156 si157 si158 si159 si160 si161 si162 si163 si164 si165 si166 si167 si168 si169 si170 si171 si172 si173 si174 si175 si176 si177 si178 si179 si180 si181 si182 si183 si184 si185 si186 si187 si188 si189 si190 si191 si192 si193 si194 si195 si196 si197 si198 si199 si200 si201 si202 si203 si204 si205 si206 si207 si208 si209 si210 si211 si212 si213 si214 si215 si216 si217 si218 si219 si220 si221 si222 si223 si224 si225 si226 si227 si228 si229 si230 si231 si232 si233 si234 si235 si236 si237 si238 si239 si240 si241 si242 si243 si244 si245 si246 si247 si248 si249 si250 si251 si252 si253 si254 si255 si256 si257 si258 si259 si260 si261 si262 si263 si264 si265 si266 si267 si268 si269 si270 si271 si272 si273 si274 si275 si276 si277 si278 si279 si280 si281 si282 si283 si284 si285 si286 si287 si288 si289 si290 si291 si292 si293 si294 si295 si296 si297 si298 si299 si300 si301 si302 si303 si304 si305 si306 si307 si308 si309 si310 si311 si312 si313 si314 si315 si316 si317 si318 si319 si320 si321 si322 si323 si324 si325 si326 si327 si328 si329 si330 si331 si332
      revert a len cap m L pl pc D w AW sh1 hl0 HL HM HH HG HF hp64 sh2 sh3 c0 SM HR HRR HLC sh4 sh5 sh6 sh7 sh8 h40 sh9 sh10 z0 z1 w1 BX sh11 wg GX HBG sh12 sh13 u4 u6 u8 u9 u10 u11 u12 u13 u14 si1 si2 si3 si4 si5 si6 si7 si8 si9 si10 si11 si12 si13 si14 si15 si16 si17 si18 si19 si20 si21 si22 si23 si24 si25 si26 si27 si28 si29 si30 si31 si32 si33 si34 si35 si36 si37 si38 si39 si40 si41 si42 si43 si44 si45 si46 si47 si48 si49 si50 si51 si52 si53 si54 si55 si56 si57 si58 si59 si60 si61 u96 si62 si63 si64 si65 si66 si67 si68 si69 si70 si71 si72 si73 si74 si75 si76 si77 u113 si78 si79 si80 si81 si82 si83 si84 si85 si86 si87 u124 si88 si89 si90 si91 si92 si93 si94 si95 u133 si96 si97 si98 si99 si100 si101 si102 si103 si104 si105 u144 si106 si107 si108 si109 si110 si111 si112 si113 si114 si115 si116 si117 si118 si119 si120 si121 si122 si123 si124 si125 si126 si127 si128 si129 si130 si131 si132 si133 si134 si135 si136 si137 si138 si139 si140 si141 si142 si143 si144 si145 si146 si147 si148 si149 si150 si151 si152 si153 si154 si155 si156 si157 si158 si159 si160 si161 si162 i nn G N cap1 M1 hi hnn HNL HNO HGR HT HSM1 hlt bd od HD hbd x0 x1 x2 x3 x4 x5 D0 D1 D2 D3 D4 D5 p0 q0 p1 q1 p2 q2 p3 q3 p4 q4 p5 q5 hi64 hlp HGL X Y hXl hYl HX64 HY64 b2 o2 ny hk64 wp HB1 HO GX1 hblt CY KR BXR si163 si164 si165 r3 si166 si167 si168 si169 si170 si171 si172 si173 si174 si175 si176 si177 si178 si179 si180 si181 si182 si183 si184 si185 si186 si187 si188 si189 si190 si191 si192 si193 si194 si195 si196 si197 si198 si199 si200 si201 si202 si203 si204 si205 si206 si207 si208 si209 si210 si211 si212 si213 si214 si215 si216 si217 si218 si219 si220 si221 si222 si223 si224 si225 si226 si227 si228 si229 si230 si231 si232 si233 si234 si235 si236 si237 si238 si239 si240 si241 si242 si243 si244 si245 si246 si247 si248 si249 si250 si251 si252 si253 si254 si255 si256 si257 si258 si259 si260 si261 si262 si263 si264 si265 si266 si267 si268 si269 si270 si271 si272 si273 si274 si275 si276 si277 si278 si279 si280 si281 si282 si283 si284 si285 si286 si287 si288 si289 si290 si291 si292 si293 si294 si295 si296 si297 si298 si299 si300 si301 si302 si303 si304 si305 si306 si307 si308 si309 si310 si311 si312 si313 si314 si315 si316 si317 si318 si319 si320 si321 si322 si323 si324 si325 si326 B HBB u35 u36 u37 u38 u39 u40 u41 u42 u43 u44 u45 u46 u47 u48 u49 u50 u51 u52 u53 u54 u55 u56 u57 u58 u59 u60 u61 u62 u63 u64 u65 u66 u67 u68 u69 u70 u71 u72 u73 u74 u75 u76 u77 u78 u79 u80 u81 u82 u83 u84 u85 u86 u87 u88 u89 u90 u91 u92 u93 u94 u95 u97 u98 u99 u100 u101 u102 u103 u104 u105 u106 u107 u108 u109 u110 u111 u112 u114 u115 u116 u117 u118 u119 u120 u121 u122 u123 u125 u126 u127 u128 u129 u130 u131 u132 u134 u135 u136 u137 u138 u139 u140 u141 u142 u143 u145 u146 u147 u148 u149 u150 u151 u152 u153 u154 u155 u156 u157 u158 u159 u160 u161 u162 u163 u164 u165 u166 u167 u168 u169 u170 u171 u172 u173 u174 u175 u176 u177 u178 u179 u180 u181 u182 u183 u184 u185 u186 u187 u188 u189 u190 u191 u192 u193 u194 u195 u196 u197 u198 u199 u200 u201 C HC64 K hK0 hK5 HKK W BXQ GXQ HBQ HOQ KRQ si327 si328 Wa ZB HZA HWA GXA BXA hgB si329 si330 si331 si332
      exact leafF.out
    case rest =>
      rename_i si1 si2 si3 si4 si5 si6 si7 si8 si9 si10 si11 si12 si13 si14 si15 si16 si17 si18 si19 si20 si21 si22 si23 si24 si25 si26 si27 si28 si29 si30 si31 si32 si33 si34 si35 si36 si37 si38 si39 si40 si41 si42 si43 si44 si45 si46 si47 si48 si49 si50 si51 si52 si53 si54 si55 si56 si57 si58 si59 si60 si61 si62 si63 si64 si65 si66 si67 si68 si69 si70 si71 si72 si73 si74 si75 si76 si77 si78 si79 si80 si81 si82 si83 si84 si85 si86 si87 si88 si89 si90 si91 si92 si93 si94 si95 si96 si97 si98 si99 si100 si101 si102 si103 si104 si105 si106 si107 si108 si109 si110 si111 si112 si113 si114 si115 si116 si117 si118 si119 si120 si121 si122 si123 si124 si125 si126 si127 si128 si129 si130 si131 si132 si133 si134 si135 si136 si137 si138 si139 si140 si141 si142 si143 si144 si145 si146 si147 si148 si149 si150 si151 si152 si153 si154 si155 si156 si157 si158 si159 si160 si161 si162 si163 si164 si165 si166 si167 si168 si169 si170 si171 si172 si173 si174 si175 si176 si177 si178 si179 si180 si181 si182 si183 si184 si185 si186 si187 si188 si189 si190 si191 si192 si193 si194 si195 si196 si197 si198 si199 si200 si201 si202 si203 si204 si205 si206 si207 si208 si209 si210 si211 si212 si213 si214 si215 si216 si217 si218 si219 si220 si221 si222 si223 si224 si225 si226 si227 si228 si229 si230 si231 si232 si233 si234 si235 si236 si237 si238 si239 si240 si241 si242 si243 si244 si245 si246 si247 si248 si249 si250 si251 si252 si253 si254 si255 si256 si257 si258 si259 si260 si261 si262 si263 si264 si265 si266 si267 si268 si269 si270 si271 si272 si273 si274 si275 si276 si277 si278 si279 si280 si281 si282 si283 si284 si285 si286 si287 si288 si289 si290 si291 si292 si293 si294 si295 si296 si297 si298 si299 si300 si301 si302 si303 si304 si305 si306 si307 si308 si309 si310 si311 si312 si313 si314 si315 si316 si317 si318 si319 si320 si321 si322 si323 si324 si325 si326 si327 si328 si329 si330 si331 si332 si333 si334 si335 si336 si337 si338 si339 si340 si341 si342 si343 si344 si345 si346 si347 si348 si349 si350 si351 si352 si353 si354 si355 si356 si357 si358 si359 si360 si361 si362 si363 si364 si365 si366 si367 si368 si369 si370 si371 si372 si373 si374 si375 si376 si377 si378 si379 si380 si381 si382 si383 si384 si385 si386 si387 si388 si389 si390 si391 si392 si393 si394 si395 si396 si397 si398 si399 si400 si401 si402 si403 si404 si405 si406 si407 si408 si409 si410 si411 si412 si413 si414 si415 si416 si417 si418 si419 si420 si421 si422 si423 si424 si425 si426 si427 si428 si429 si430 si431 si432 si433 si434 si435 si436 si437 si438 si439 si440 si441 si442 si443 si444 si445 si446 si447 si448 si449 si450 si451 si452 si453 si454 si455 si456 si457 si458 si459 si460 si461 si462 si463 si464 si465 si466 si467 si468 si469 si470 si471 si472 si473 si474 si475 si476 si477 si478 si479 si480 si481 si482 si483 si484 si485 si486 si487 si488 si489 si490 si491 si492 si493 si494 si495 si496
      revert a len cap m L pl pc D w AW sh1 hl0 HL HM HH HG HF hp64 sh2 sh3 c0 SM HR HRR HLC sh4 sh5 sh6 sh7 sh8 h40 sh9 sh10 z0 z1 w1 BX sh11 wg GX HBG sh12 sh13 u4 u6 u8 u9 u10 u11 u12 si1 si2 si3 si4 si5 si6 si7 si8 si9 si10 si11 si12 si13 si14 si15 si16 si17 si18 si19 si20 si21 si22 si23 si24 si25 si26 si27 si28 si29 si30 si31 si32 si33 si34 si35 si36 si37 si38 si39 si40 si41 si42 si43 si44 si45 si46 si47 si48 si49 si50 si51 si52 si53 si54 si55 si56 si57 si58 si59 si60 si61 si62 si63 u96 si64 si65 si66 si67 si68 si69 si70 si71 si72 si73 si74 si75 si76 si77 si78 si79 si80 si81 si82 si83 si84 si85 si86 si87 si88 si89 si90 si91 si92 si93 si94 si95 si96 si97 si98 si99 si100 si101 si102 si103 si104 si105 si106 si107 si108 si109 si110 si111 si112 si113 si114 si115 si116 si117 si118 si119 si120 si121 si122 si123 si124 si125 si126 si127 si128 si129 si130 si131 si132 si133 si134 si135 si136 si137 si138 si139 si140 si141 si142 si143 si144 si145 si146 si147 si148 si149 si150 si151 si152 si153 si154 si155 si156 si157 si158 si159 si160 si161 si162 si163 si164 si165 si166 si167 si168 i nn G N cap1 M1 hi hnn HNL HNO HGR HT HSM1 hlt bd od HD hbd x0 x1 x2 x3 x4 x5 D0 D1 D2 D3 D4 D5 p0 q0 p1 q1 p2 q2 p3 q3 p4 q4 p5 q5 hi64 hlp HGL X Y hXl hYl HX64 HY64 b2 o2 ny hk64 wp HB1 HO GX1 hblt CY KR BXR si169 si170 si171 r3 si172 si173 si174 si175 si176 si177 si178 si179 si180 si181 si182 si183 si184 si185 si186 si187 si188 si189 si190 si191 si192 si193 si194 si195 si196 si197 si198 si199 si200 si201 si202 si203 si204 si205 si206 si207 si208 si209 si210 si211 si212 si213 si214 si215 si216 si217 si218 si219 si220 si221 si222 si223 si224 si225 si226 si227 si228 si229 si230 si231 si232 si233 si234 si235 si236 si237 si238 si239 si240 si241 si242 si243 si244 si245 si246 si247 si248 si249 si250 si251 si252 si253 si254 si255 si256 si257 si258 si259 si260 si261 si262 si263 si264 si265 si266 si267 si268 si269 si270 si271 si272 si273 si274 si275 si276 si277 si278 si279 si280 si281 si282 si283 si284 si285 si286 si287 si288 si289 si290 si291 si292 si293 si294 si295 si296 si297 si298 si299 si300 si301 si302 si303 si304 si305 si306 si307 si308 si309 si310 si311 si312 si313 si314 si315 si316 si317 si318 si319 si320 si321 si322 si323 si324 si325 si326 si327 si328 si329 si330 si331 si332 B HBB si333 si334 si335 si336 si337 si338 si339 si340 si341 si342 si343 si344 si345 si346 si347 si348 si349 si350 si351 si352 si353 si354 si355 si356 si357 si358 si359 si360 si361 si362 si363 si364 si365 si366 si367 si368 si369 si370 si371 si372 si373 si374 si375 si376 si377 si378 si379 si380 si381 si382 si383 si384 si385 si386 si387 si388 si389 si390 si391 si392 si393 si394 si395 si396 si397 si398 si399 si400 si401 si402 si403 si404 si405 si406 si407 si408 si409 si410 si411 si412 si413 si414 si415 si416 si417 si418 si419 si420 si421 si422 si423 si424 si425 si426 si427 si428 si429 si430 si431 si432 si433 si434 si435 si436 si437 si438 si439 si440 si441 si442 si443 si444 si445 si446 si447 si448 si449 si450 si451 si452 si453 si454 si455 si456 si457 si458 si459 si460 si461 si462 si463 si464 si465 si466 si467 si468 si469 si470 si471 si472 si473 si474 si475 si476 si477 si478 si479 si480 si481 si482 si483 si484 si485 si486 si487 si488 si489 si490 si491 si492 si493 si494 C HC64 K hK0 hK5 HKK W BXQ GXQ HBQ HOQ KRQ si495 si496 Wa ZB HZA HWA GXA BXA hgB wc u13 u14 u35 u36 u37 u38 u39 u40 u41 u42 u43 u44 u45 u46 u47 u48 u49 u50 u51 u52 u53 u54 u55 u56 u57 u58 u59 u60 u61 u62 u63 u64 u65 u66 u67 u68 u69 u70 u71 u72 u73 u74 u75 u76 u77 u78 u79 u80 u81 u82 u83 u84 u85 u86 u87 u88 u89 u90 u91 u92 u93 u94 u95 u97 u98 u99 u100 u101 u102 u103 u104 u105 u106 u107 u108 u109 u110 u111 u112 u113 u114 u115 u116 u117 u118 u119 u120 u121 u122 u123 u124 u125 u126 u127 u128 u129 u130 u131 u132 u133 u134 u135 u136 u137 u138 u139 u140 u141 u142 u143 u144 u145 u146 u147 u148 u149 u150 u151 u152 u153 u154 u155 u156 u157 u158 u159 u160 u161 u162 u163 u164 u165 u166 u167 u168 u169 u170 u171 u172 u173 u174 u175 u176 u177 u178 u179 u180 u181 u182 u183 u184 u185 u186 u187 u188 u189 u190 u191 u192 u193 u194 u195 u196 u197 u198 u199 u200 u201 hcut
      exact leafT.out
end Go.Proofs.YtclledmgiliggaaGreatDoor
