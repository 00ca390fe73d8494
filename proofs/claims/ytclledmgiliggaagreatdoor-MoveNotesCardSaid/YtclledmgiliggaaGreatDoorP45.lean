/- Texts joined in build order: MoveNotesRest. -/
import Derived.Test.YtclledmgiliggaaGreatDoorP43
namespace Go.Proofs.YtclledmgiliggaaGreatDoor
open Go.RowKit
set_option linter.unusedVariables false
set_option maxHeartbeats 32000000 in
set_option maxRecDepth 100000 in
theorem mnRest : mnRound.1.2 := by
  conv => whnf
  intro a len cap m L pl pc D w AW sh1 hl0 HL HM HH HG HF hp64 sh2 sh3 c0 SM HR HRR HLC sh4 sh5 sh6 sh7 sh8 h40 sh9 sh10 z0 z1 w1 BX sh11 wg GX HBG sh12 sh13 u4 u6 u8 u9 u10 u11 u12 si1 si2 si3 si4 si5 si6 si7 si8 si9 si10 si11 si12 si13 si14 si15 si16 si17 si18 si19 si20 si21 si22 si23 si24 si25 si26 si27 si28 si29 si30 si31 si32 si33 si34 si35 si36 si37 si38 si39 si40 si41 si42 si43 si44 si45 si46 si47 si48 si49 si50 si51 si52 si53 si54 si55 si56 si57 si58 si59 si60 si61 si62 si63 u96 si64 si65 si66 si67 si68 si69 si70 si71 si72 si73 si74 si75 si76 si77 si78 si79 si80 si81 si82 si83 si84 si85 si86 si87 si88 si89 si90 si91 si92 si93 si94 si95 si96 si97 si98 si99 si100 si101 si102 si103 si104 si105 si106 si107 si108 si109 si110 si111 si112 si113 si114 si115 si116 si117 si118 si119 si120 si121 si122 si123 si124 si125 si126 si127 si128 si129 si130 si131 si132 si133 si134 si135 si136 si137 si138 si139 si140 si141 si142 si143 si144 si145 si146 si147 si148 si149 si150 si151 si152 si153 si154 si155 si156 si157 si158 si159 si160 si161 si162 si163 si164 si165 si166 si167 si168 i nn G N cap1 M1 hi hnn HNL HNO HGR HT HSM1 hlt bd od HD hbd x0 x1 x2 x3 x4 x5 D0 D1 D2 D3 D4 D5 p0 q0 p1 q1 p2 q2 p3 q3 p4 q4 p5 q5 hi64 hlp HGL X Y hXl hYl HX64 HY64 b2 o2 ny hk64 wp HB1 HO GX1 hblt CY KR BXR si169 si170 si171 r3 si172 si173 si174 si175 si176 si177 si178 si179 si180 si181 si182 si183 si184 si185 si186 si187 si188 si189 si190 si191 si192 si193 si194 si195 si196 si197 si198 si199 si200 si201 si202 si203 si204 si205 si206 si207 si208 si209 si210 si211 si212 si213 si214 si215 si216 si217 si218 si219 si220 si221 si222 si223 si224 si225 si226 si227 si228 si229 si230 si231 si232 si233 si234 si235 si236 si237 si238 si239 si240 si241 si242 si243 si244 si245 si246 si247 si248 si249 si250 si251 si252 si253 si254 si255 si256 si257 si258 si259 si260 si261 si262 si263 si264 si265 si266 si267 si268 si269 si270 si271 si272 si273 si274 si275 si276 si277 si278 si279 si280 si281 si282 si283 si284 si285 si286 si287 si288 si289 si290 si291 si292 si293 si294 si295 si296 si297 si298 si299 si300 si301 si302 si303 si304 si305 si306 si307 si308 si309 si310 si311 si312 si313 si314 si315 si316 si317 si318 si319 si320 si321 si322 si323 si324 si325 si326 si327 si328 si329 si330 si331 si332 B HBB si333 si334 si335 si336 si337 si338 si339 si340 si341 si342 si343 si344 si345 si346 si347 si348 si349 si350 si351 si352 si353 si354 si355 si356 si357 si358 si359 si360 si361 si362 si363 si364 si365 si366 si367 si368 si369 si370 si371 si372 si373 si374 si375 si376 si377 si378 si379 si380 si381 si382 si383 si384 si385 si386 si387 si388 si389 si390 si391 si392 si393 si394 si395 si396 si397 si398 si399 si400 si401 si402 si403 si404 si405 si406 si407 si408 si409 si410 si411 si412 si413 si414 si415 si416 si417 si418 si419 si420 si421 si422 si423 si424 si425 si426 si427 si428 si429 si430 si431 si432 si433 si434 si435 si436 si437 si438 si439 si440 si441 si442 si443 si444 si445 si446 si447 si448 si449 si450 si451 si452 si453 si454 si455 si456 si457 si458 si459 si460 si461 si462 si463 si464 si465 si466 si467 si468 si469 si470 si471 si472 si473 si474 si475 si476 si477 si478 si479 si480 si481 si482 si483 si484 si485 si486 si487 si488 si489 si490 si491 si492 si493 si494 C HC64 K hK0 hK5 HKK W BXQ GXQ HBQ HOQ KRQ si495 si496 Wa ZB HZA HWA GXA BXA hgB wc u13 u14 u35 u36 u37 u38 u39 u40 u41 u42 u43 u44 u45 u46 u47 u48 u49 u50 u51 u52 u53 u54 u55 u56 u57 u58 u59 u60 u61 u62 u63 u64 u65 u66 u67 u68 u69 u70 u71 u72 u73 u74 u75 u76 u77 u78 u79 u80 u81 u82 u83 u84 u85 u86 u87 u88 u89 u90 u91 u92 u93 u94 u95 u97 u98 u99 u100 u101 u102 u103 u104 u105 u106 u107 u108 u109 u110 u111 u112 u113 u114 u115 u116 u117 u118 u119 u120 u121 u122 u123 u124 u125 u126 u127 u128 u129 u130 u131 u132 u133 u134 u135 u136 u137 u138 u139 u140 u141 u142 u143 u144 u145 u146 u147 u148 u149 u150 u151 u152 u153 u154 u155 u156 u157 u158 u159 u160 u161 u162 u163 u164 u165 u166 u167 u168 u169 u170 u171 u172 u173 u174 u175 u176 u177 u178 u179 u180 u181 u182 u183 u184 u185 u186 u187 u188 u189 u190 u191 u192 u193 u194 u195 u196 u197 u198 u199 u200 u201 hcut
  obtain ⟨-, a2, len2, cap2, M2, G2, va, vl, vc, X2, E, rfl, rfl, HOR, OE⟩ := hcut
  have hrG : rightF m G2 = true := HOR.out.right
  have htG : Told G X2 G2 := HOR.out.told
  have hl2 : len = len2 := by
    have h1 := OE.out.row.hlen
    have h2 := congrArg List.length OE.out.core
    rw [coreL_len, htG.len, HGL.out] at h2
    omega
  subst hl2
  have HRG := Lib.hid hrG
  have HTG := Lib.hid htG
  have HXN : Hid (X2.length = vl) := Lib.hid OE.out.notes.row.hlen
  have hvl : vl ≤ 1000000 := by rw [← HXN.out]; exact HOR.out.short
  clear hrG htG
  obtain ⟨wv, rfl⟩ : ∃ wv, wv = wc := ⟨_, rfl⟩
  have GXC := Lib.hid (GXQ.out.keep OE.out.below)
  have BXC := Lib.hid (BXQ.out.keep OE.out.below)
  have HBC := Lib.hid (HBQ.out.trans (OE.out.below.mono HBQ.out.size))
  have HOC := Lib.hid (own_below HOQ.out OE.out.below)
  have HRH : Hid (∀ V, Below wv.heap.size wv V → Calls Tryz.prog 20 #[forV a2 len cap2 m] V fun e w' => e = .returned (.bool true) ∧ Below V.heap.size V w') := Lib.hid (fun V hb => by
    have h1 := rightF_any a2 len cap2 m M2 V (OE.out.row.below hb) HM.out OE.out.small
    rwa [OE.out.core, HRG.out] at h1)
  have y0 := OE.out.c0
  have y1 := OE.out.c1
  have z0 := BXC.out.c0
  have g0 := GXC.out.box.c0
  have g1 := GXC.out.box.c1
  have HBV := Lib.hid (Below.refl wv.heap.size wv)
  go_upto_region 28 with fail
  go_cut [197] (fun c wx => c = .bool false ∧ Hid (Below wv.heap.size wv wx))
  case first =>
    by_cases hE : E = 0
    · as_aux_lemma =>
      subst hE
      go_wp2_with (go_at_call 20; (with_reducible refine (HRH.out _ HBV.out).mono ?_); rintro e w5 ⟨rfl, hb⟩; have HBV := Lib.hid (HBV.out.trans (hb.mono HBV.out.size)); clear y0 y1 z0 g0 g1 hb; have y0 := (OE.out.keep HBV.out).c0; have y1 := (OE.out.keep HBV.out).c1; have z0 := (BXC.out.keep HBV.out).c0; have g0 := (GXC.out.keep HBV.out).box.c0; have g1 := (GXC.out.keep HBV.out).box.c1)
      go_meet
      exact ⟨rfl, HBV⟩
    · as_aux_lemma =>
      have e1 : (E != 0) = true := bne_iff_ne.2 hE
      have hs : G2 = G ∧ X2 = [] := HOR.out.same hE
      have HSS : Hid (∀ V, Below wv.heap.size wv V → Calls Tryz.prog 23 #[forV (some ⟨b2, o2, none⟩) len cap1 m, forV a2 len cap2 m] V fun e w' => e = .returned (.bool true) ∧ Below V.heap.size V w') := Lib.hid (fun V hb => same_is V m _ len cap1 M1 a2 len cap2 M2 (GXC.out.box.row.below hb) (OE.out.row.below hb) (by rw [GXC.out.box.core, OE.out.core]; exact hs.1.symm))
      have hv0 : vl = 0 := by rw [← HXN.out, hs.2]; rfl
      have HV0 := Lib.hid hv0
      have e2 : ((vl : Int) != 0) = false := by rw [hv0]; rfl
      clear hE hs hv0
      go_wp2_with (first
        | (go_at_call 20; (with_reducible refine (HRH.out _ HBV.out).mono ?_); rintro e w5 ⟨rfl, hb⟩; have HBV := Lib.hid (HBV.out.trans (hb.mono HBV.out.size)); clear y0 y1 z0 g0 g1 hb; have y0 := (OE.out.keep HBV.out).c0; have y1 := (OE.out.keep HBV.out).c1; have z0 := (BXC.out.keep HBV.out).c0; have g0 := (GXC.out.keep HBV.out).box.c0; have g1 := (GXC.out.keep HBV.out).box.c1)
        | (go_at_call 23; (with_reducible refine (HSS.out _ HBV.out).mono ?_); rintro e w5 ⟨rfl, hb⟩; have HBV := Lib.hid (HBV.out.trans (hb.mono HBV.out.size)); clear y0 y1 z0 g0 g1 hb; have y0 := (OE.out.keep HBV.out).c0; have y1 := (OE.out.keep HBV.out).c1; have z0 := (BXC.out.keep HBV.out).c0; have g0 := (GXC.out.keep HBV.out).box.c0; have g1 := (GXC.out.keep HBV.out).box.c1))
      go_meet
      exact ⟨rfl, HBV⟩
  case rest => as_aux_lemma =>
    clear y0 y1 z0 g0 g1 HBV
    obtain ⟨rfl, HBV⟩ := hcut
    obtain ⟨wd, rfl⟩ : ∃ wd, wd = wc := ⟨_, rfl⟩
    have GXD := Lib.hid (GXC.out.keep HBV.out)
    have OED := Lib.hid (OE.out.keep HBV.out)
    have HBD := Lib.hid (HBC.out.trans (HBV.out.mono HBC.out.size))
    have HOD := Lib.hid (own_below HOC.out HBV.out)
    have y0 := OED.out.c0
    have y1 := OED.out.c1
    have g0 := GXD.out.box.c0
    have g1 := GXD.out.box.c1
    have gf := GXD.out.free
    go_upto_region 31 with fail
    obtain ⟨we, hwe, GXE, HBE, HOE, NRE⟩ : ∃ we, (wd.setCell ⟨w1.heap.size, 0, none⟩ (.slice a2 len cap2)).setCell ⟨w1.heap.size, 1, none⟩ (.int .i64 m) = we ∧ Hid (MBox w we w1.heap.size a2 len cap2 m M2 G2) ∧ Hid (Below w1.heap.size w1 we) ∧ Hid (we.ownsRow (w1.heap.size + 1) 53 9 u6 nn (N.flatMap encO)) ∧ Hid (NoteRow we va vl vc X2) := by
      have hA := OED.out.away _ hgB
      exact ⟨_, rfl, Lib.hid (GXD.out.put ((OED.out.row.far hA.1 hA.2.1 0 _).far hA.1 hA.2.1 1 _) OED.out.core), Lib.hid ((HBD.out.setCell (p := ⟨w1.heap.size, 0, none⟩) (Nat.le_refl _) _).setCell (p := ⟨w1.heap.size, 1, none⟩) (Nat.le_refl _) _), Lib.hid (own_otherCell (own_otherCell HOD.out (by omega) _) (by omega) _), Lib.hid ((OED.out.notes.far hA.2.2 0 _).far hA.2.2 1 _)⟩
    rw [hwe]
    clear hwe y0 y1 g0 g1 gf
    obtain ⟨i0, hi0, hq0, hq1, hq2⟩ := info_parts note_info
    have HKO : Hid (∀ k, u6.ownBlock = some k → w1.heap.size + 1 ≤ k ∧ k < W.heap.size) := Lib.hid (fun k hk => HOQ.out.lt k hk)
    go_wp2_with (at_builtin; (refine wpList_append_rows rfl (.tmp 199) (.tmp 200) 27 rfl 53 i0 _ 9 88 Tryz.underlying27 hi0 hq0 hq1 hq2 rfl (by decide) (w1.heap.size + 1) _ nn N X2 rfl HOE.out _ _ _ rfl NRE.out.row (fun x _ => encO_one x) (by unfold maxLen; omega) (by omega) (by have := GXE.out.box.lt; omega) NRE.out.hnil ?_); intro v3 w3 hown3 hg3 hat3; have B9 := Lib.hid (GXE.out.grown hg3 (fun k hk => by obtain ⟨h1, h2⟩ := HKO.out k hk; have h3 := OE.out.away k h2; exact ⟨by have := BX.out.below.size; omega, by omega, h3.1, h3.2.1⟩)); have HB9 := Lib.hid (HBE.out.grown hg3 HBE.out.size (fun k hk => by have := (HKO.out k hk).1; omega)); have HO9 := Lib.hid hown3; clear hown3 hg3 hat3)
    go_roundw
    case rel => exact ⟨i + 1, nn + vl, G2, N ++ X2, a2, len, cap2, M2, hlt, by go_num, by omega, Lib.hid (by rw [List.length_append, HNL.out, HXN.out]), Lib.hid (fun x hx => (List.mem_append.1 hx).elim (fun h => HNO.out x h) (fun h => OE.out.notes.ok x h)), HRG, Lib.hid (HT.out.trans HTG.out), Lib.hid OE.out.small, B9, HB9, HO9⟩
    case measure => simp [intOf]; omega
end Go.Proofs.YtclledmgiliggaaGreatDoor
