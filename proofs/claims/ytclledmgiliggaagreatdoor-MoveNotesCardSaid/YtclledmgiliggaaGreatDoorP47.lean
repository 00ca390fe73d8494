/- Texts joined in build order: MoveNotesIn. -/
import Derived.Test.YtclledmgiliggaaGreatDoorP46
namespace Go.Proofs.YtclledmgiliggaaGreatDoor
open Go.RowKit
set_option linter.unusedVariables false
set_option maxHeartbeats 32000000 in
set_option maxRecDepth 100000 in
theorem mnIn : mnExit.1 := by
  conv => whnf
  intro len cap m L pa pl pc D w AW hl0 HL HM HG HD HF hp64 si1 SM HRR HLC sh4 sh5 sh8 h40 sh9 si2 w1 sh11 wg HBG sh12 si3 u8 u9 u10 u11 u12 u13 u14 u35 u36 u37 u38 u39 u40 u41 u42 u43 u44 u45 u46 u47 u48 u49 u50 u51 u52 u53 u54 u55 u56 u57 u58 u59 u60 u61 u62 u63 u64 u65 u66 u67 u68 u69 u70 u71 u72 u73 u74 u75 u76 u77 u78 u79 u80 u81 u82 u83 u84 u85 u86 u87 u88 u89 u90 u91 u92 u93 u94 u95 u96 u97 u98 u99 u100 u101 u102 u103 u104 u105 u106 u107 u108 u109 u110 u111 u112 u113 u114 u115 u116 u117 u118 u119 u120 u121 u122 u123 u124 u125 u126 u127 u128 u129 u130 u131 u132 u133 u134 u135 u136 u137 u138 u139 u140 u141 u142 u143 u144 u145 u146 u147 u148 u149 u150 u151 u152 u153 u154 u155 u156 u157 u158 u159 u160 u161 u162 u163 u164 u165 u166 u167 u168 u169 u170 u171 u172 u173 u174 u175 u176 u177 u178 u179 u180 u181 u182 u183 u184 u185 u186 u187 u188 u189 u190 u191 u192 u193 u194 u195 u196 u197 u198 u199 u200 u201 i nn G N len1 cap1 M1 hi hnn HNL HNO HGR HT HSM1 hlt na nc hn64 wz HB1 HO NR HL1 si4 si5 si6 si7 si8 si9 si10 si11 si12 si13 si14 si15 si16 si17 si18 si19 si20 si21 si22 si23 si24 si25 si26 si27 si28 si29 si30 si31 si32 si33 si34 si35 si36 si37 si38 si39 si40 si41 si42 si43 si44 si45 si46 si47 si48 si49 si50 si51 si52 si53 si54 si55 si56 si57 si58 si59 si60 si61 si62 si63 si64 si65 si66 si67 si68 si69 si70 si71 si72 si73 si74 si75 si76 si77 si78 si79 si80 si81 si82 si83 si84 si85 si86 si87 si88 si89 si90 si91 si92 si93 si94 si95 si96 si97 si98 si99 si100 si101 si102 si103 si104 si105 si106 si107 si108 si109 si110 si111 si112 si113 si114 si115 si116 si117 si118 si119 si120 si121 si122 si123 si124 si125 si126 n hn HB2 hltn hnl1 b off x sh1 HH sh2 sh3 HR sh6 sh7 sh10 si127 BX GX BXZ si128 si129 hb b2 off2 y GX1 hb2 HX HY HCX HCY HN64 cf cg kx C0 dx C9 dy D9 CF CG CH HRN HEL HBW si130 si131 si132 w3 si133 wc u202 u203 u204 u205 u206 u207 u208 u209 u210 u211 u212 u213 u214 u215 u216 u217 si134 si135 si136 si137 si138 si139 si140 si141 si142 si143 si144 si145 si146 si147 si148 si149 si150 si151 si152 si153 si154 si155 si156 si157 si158 si159 si160 si161 si162 si163 si164 si165 si166 si167 si168 si169 si170 si171 si172 si173 si174 si175 si176 si177 si178 si179 si180 si181 si182 si183 si184 si185 si186 si187 si188 si189 si190 si191 si192 si193 si194 si195 u284 u285 u286 u287 u288 u289 u290 u291 u292 u293 u294 u295 u296 u297 u298 u299 u300 u301 u302 u303 u304 u305 u306 u307 u308 u309 u310 u311 u312 u313 u314 u315 u316 bi0 HBI0 HB3 HBW3 z0 z1 c0 c9 si196 si197 wr u4 u16 u17 u18 u218 u219 u220 u221 u222 u223 u224 u225 u226 u227 u228 u229 u230 u231 u232 u233 u234 u235 u236 u237 u238 u239 u240 u241 u242 u243 u244 u245 u246 u247 u248 u249 u250 u251 u252 u253 u254 u255 u256 u257 u258 u259 u260 u261 u262 u263 u264 u265 u266 u267 u268 u269 u270 u271 u272 u273 u274 u275 u276 u277 u278 u279 u280 u281 u282 u283 hrel
  obtain ⟨p, bi, d, sb, sd, hp, rfl, rfl, rfl, HBI, HDD, HRU, HB4⟩ := hrel
  have HBW4 := Lib.hid (BXZ.out.below.trans (HB4.out.mono BXZ.out.below.size))
  clear z0 z1 c0 c9
  have z0 := (BXZ.out.keep HB4.out).c0
  have z1 := (BXZ.out.keep HB4.out).c1
  have c0 := C0.out _ HBW4.out
  have c9 := C9.out _ HBW4.out
  by_cases hpl : p < nn
  · obtain ⟨bl, ol, xl, rfl, hbl, hxl, -, hcl⟩ := (NR.out.below HB4.out).row.get hpl
    have HXL := Lib.hid hxl
    have HMEM := Lib.hid (List.mem_of_getElem? hxl)
    obtain ⟨k0, k1, k2, k3, k4, k5, k6, k7, k8⟩ := xl
    have p0 : wr.cell? ⟨bl, ol + p * 9 + 0, none⟩ = some (.int .i64 k0) := hcl 0 _ rfl
    have p1 : wr.cell? ⟨bl, ol + p * 9 + 1, none⟩ = some (.int .i64 k1) := hcl 1 _ rfl
    have p2 : wr.cell? ⟨bl, ol + p * 9 + 2, none⟩ = some (.int .i64 k2) := hcl 2 _ rfl
    have p3 : wr.cell? ⟨bl, ol + p * 9 + 3, none⟩ = some (.int .i64 k3) := hcl 3 _ rfl
    rw [Nat.add_zero] at p0
    have hp64 : (p : Int) + 1 ≤ 9223372036854775807 := by omega
    clear hcl hxl
    by_cases d1 : k1 = (n : Int)
    rotate_left
    · as_aux_lemma =>
      have f1 : (k1 != (n : Int)) = true := bne_iff_ne.2 d1
      have HRU2 : Hid (kx = 1 → runN (stepB n) (cf, dx) (N.take (p + 1)) = some (sb, sd)) := Lib.hid (fun e => by
        obtain ⟨t', h1, h2⟩ := runN_next (HRN.out e) HXL.out (HRU.out e)
        rw [stepB_off d1 h1]
        exact h2)
      clear d1
      go_wp2
      go_roundw
      case rel => exact ⟨p + 1, bi, d, sb, sd, hpl, by go_num, rfl, rfl, HBI, HDD, HRU2, HB4⟩
      case measure => simp [intOf]; omega
    obtain rfl : kx = 1 := HEL.out _ HMEM.out d1
    obtain rfl : d = sd := HDD.out
    obtain ⟨t', h1, h2⟩ := runN_next (HRN.out rfl) HXL.out (HRU.out rfl)
    have f1 : (k1 != (n : Int)) = false := by rw [d1]; simp
    have HRU2 := Lib.hid h2
    have h3 := stepB_on d1 h1
    clear h1 h2 d1
    rcases h3 with ⟨h3, h4, h5⟩ | ⟨h3, h4, h5⟩ | ⟨h3, h4, h6, h7, h5⟩ | ⟨h3, h4, h6, h5⟩
    · as_aux_lemma =>
      obtain rfl : k0 = 1 := h3
      obtain rfl : sb = false := h4
      subst h5
      obtain rfl : bi = 0 := HBI.out
      go_wp2
      go_roundw
      case rel => exact ⟨p + 1, 1, d, true, d, hpl, by go_num, rfl, rfl, Lib.hid rfl, Lib.hid rfl, Lib.hid (fun _ => HRU2.out), HB4⟩
      case measure => simp [intOf]; omega
    · as_aux_lemma =>
      obtain rfl : k0 = 2 := h3
      obtain rfl : sb = true := h4
      subst h5
      obtain rfl : bi = 1 := HBI.out
      go_wp2
      go_roundw
      case rel => exact ⟨p + 1, 0, d, false, d, hpl, by go_num, rfl, rfl, Lib.hid rfl, Lib.hid rfl, Lib.hid (fun _ => HRU2.out), HB4⟩
      case measure => simp [intOf]; omega
    · as_aux_lemma =>
      obtain rfl : k0 = 3 := h3
      obtain rfl : sb = false := h7
      obtain rfl : k2 = d := h4
      subst h5
      obtain rfl : bi = 0 := HBI.out
      have f2 : (k2 != k2) = false := by simp
      have f3 : (k3 == k2) = false := beq_eq_false_iff_ne.2 h6
      clear h6
      go_wp2
      go_roundw
      case rel => exact ⟨p + 1, 0, k3, false, k3, hpl, by go_num, rfl, rfl, Lib.hid rfl, Lib.hid rfl, Lib.hid (fun _ => HRU2.out), HB4⟩
      case measure => simp [intOf]; omega
    · as_aux_lemma =>
      have f2 : (k0 == 1) = false := beq_eq_false_iff_ne.2 h3
      have f3 : (k0 == 2) = false := beq_eq_false_iff_ne.2 h4
      have f4 : (k0 == 3) = false := beq_eq_false_iff_ne.2 h6
      subst h5
      clear h3 h4 h6
      cases sb
      · as_aux_lemma =>
        obtain rfl : bi = 0 := HBI.out
        go_wp2
        go_roundw
        case rel => exact ⟨p + 1, 0, d, false, d, hpl, by go_num, rfl, rfl, Lib.hid rfl, Lib.hid rfl, Lib.hid (fun _ => HRU2.out), HB4⟩
        case measure => simp [intOf]; omega
      · as_aux_lemma =>
        obtain rfl : bi = 1 := HBI.out
        go_wp2
        go_roundw
        case rel => exact ⟨p + 1, 1, d, true, d, hpl, by go_num, rfl, rfl, Lib.hid rfl, Lib.hid rfl, Lib.hid (fun _ => HRU2.out), HB4⟩
        case measure => simp [intOf]; omega
  · obtain rfl : p = nn := by omega
    have g0 := (GX1.out.keep HB4.out).box.c0
    have g1 := (GX1.out.keep HB4.out).box.c1
    have d9 := D9.out _ HB4.out
    by_cases hk1 : kx = 1
    · have HEND : Hid (sb = cg ∧ sd = dy) := Lib.hid (by
        have h1 := HRU.out hk1
        rw [List.take_of_length_le (by rw [HNL.out]; exact Nat.le_refl _), HRN.out hk1] at h1
        have h2 := Option.some.inj h1
        injection h2 with h3 h4
        exact ⟨h3.symm, h4.symm⟩)
      obtain rfl : d = dy := by rw [HDD.out]; exact HEND.out.2
      obtain rfl : sb = cg := HEND.out.1
      have e1 : (kx == 1) = true := beq_iff_eq.2 hk1
      have e2 : (d != d) = false := by simp
      clear hk1
      have HBX := HB4
      cases sb
      · as_aux_lemma =>
        obtain rfl : bi = 0 := HBI.out
        go_wp2_with (first
                        | (go_at_call 24; (with_reducible refine (CG.out _ HBX.out).mono ?_); rintro e w5 ⟨rfl, hb⟩; have HBX := Lib.hid (HBX.out.trans (hb.mono HBX.out.size)); clear hb z0 z1 g0 g1 d9; have z0 := (BXZ.out.keep HBX.out).c0; have z1 := (BXZ.out.keep HBX.out).c1; have g0 := (GX1.out.keep HBX.out).box.c0; have g1 := (GX1.out.keep HBX.out).box.c1; have d9 := D9.out _ HBX.out)
                        | (go_at_call 25; (with_reducible refine (CH.out _ HBX.out).mono ?_); rintro e w6 ⟨rfl, hb⟩; have HB6 := Lib.hid (HBX.out.trans (hb.mono HBX.out.size)); clear hb))
        go_roundw
        case rel => exact ⟨n + 1, hltn, by go_num, HB6⟩
        case measure => simp [intOf]; omega
      · as_aux_lemma =>
        obtain rfl : bi = 1 := HBI.out
        go_wp2_with (first
                        | (go_at_call 24; (with_reducible refine (CG.out _ HBX.out).mono ?_); rintro e w5 ⟨rfl, hb⟩; have HBX := Lib.hid (HBX.out.trans (hb.mono HBX.out.size)); clear hb z0 z1 g0 g1 d9; have z0 := (BXZ.out.keep HBX.out).c0; have z1 := (BXZ.out.keep HBX.out).c1; have g0 := (GX1.out.keep HBX.out).box.c0; have g1 := (GX1.out.keep HBX.out).box.c1; have d9 := D9.out _ HBX.out)
                        | (go_at_call 25; (with_reducible refine (CH.out _ HBX.out).mono ?_); rintro e w6 ⟨rfl, hb⟩; have HB6 := Lib.hid (HBX.out.trans (hb.mono HBX.out.size)); clear hb))
        go_roundw
        case rel => exact ⟨n + 1, hltn, by go_num, HB6⟩
        case measure => simp [intOf]; omega
    · as_aux_lemma =>
      have e1 : (kx == 1) = false := beq_eq_false_iff_ne.2 hk1
      clear hk1
      have HBX := HB4
      go_wp2_with (first
                      | (go_at_call 24; (with_reducible refine (CG.out _ HBX.out).mono ?_); rintro e w5 ⟨rfl, hb⟩; have HBX := Lib.hid (HBX.out.trans (hb.mono HBX.out.size)); clear hb z0 z1 g0 g1 d9; have z0 := (BXZ.out.keep HBX.out).c0; have z1 := (BXZ.out.keep HBX.out).c1; have g0 := (GX1.out.keep HBX.out).box.c0; have g1 := (GX1.out.keep HBX.out).box.c1; have d9 := D9.out _ HBX.out)
                      | (go_at_call 25; (with_reducible refine (CH.out _ HBX.out).mono ?_); rintro e w6 ⟨rfl, hb⟩; have HB6 := Lib.hid (HBX.out.trans (hb.mono HBX.out.size)); clear hb))
      go_roundw
      case rel => exact ⟨n + 1, hltn, by go_num, HB6⟩
      case measure => simp [intOf]; omega
end Go.Proofs.YtclledmgiliggaaGreatDoor
