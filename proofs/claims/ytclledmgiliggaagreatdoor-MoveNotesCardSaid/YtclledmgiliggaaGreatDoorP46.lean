/- Texts joined in build order: MoveNotesExit. -/
import Derived.Test.YtclledmgiliggaaGreatDoorP42
namespace Go.Proofs.YtclledmgiliggaaGreatDoor
open Go.RowKit
set_option linter.unusedVariables false
set_option maxHeartbeats 32000000 in
set_option maxRecDepth 100000 in
noncomputable def mnExit : { P : Prop // Leaf P → mnSkel.1.2 } := by
  apply Subtype.mk
  next =>
  intro leafI
  conv => whnf
  intro a len cap m L pa pl pc D w AW sh1 hl0 HL HM HH HG HD HF hp64 sh2 sh3 c0 SM HR HRR HLC sh4 sh5 sh6 sh7 sh8 h40 sh9 sh10 z0 z1 w1 BX sh11 wg GX HBG sh12 sh13 wr u4 u6 u8 u9 u10 u11 u12 u13 u14 u35 u36 u37 u38 u39 u40 u41 u42 u43 u44 u45 u46 u47 u48 u49 u50 u51 u52 u53 u54 u55 u56 u57 u58 u59 u60 u61 u62 u63 u64 u65 u66 u67 u68 u69 u70 u71 u72 u73 u74 u75 u76 u77 u78 u79 u80 u81 u82 u83 u84 u85 u86 u87 u88 u89 u90 u91 u92 u93 u94 u95 u96 u97 u98 u99 u100 u101 u102 u103 u104 u105 u106 u107 u108 u109 u110 u111 u112 u113 u114 u115 u116 u117 u118 u119 u120 u121 u122 u123 u124 u125 u126 u127 u128 u129 u130 u131 u132 u133 u134 u135 u136 u137 u138 u139 u140 u141 u142 u143 u144 u145 u146 u147 u148 u149 u150 u151 u152 u153 u154 u155 u156 u157 u158 u159 u160 u161 u162 u163 u164 u165 u166 u167 u168 u169 u170 u171 u172 u173 u174 u175 u176 u177 u178 u179 u180 u181 u182 u183 u184 u185 u186 u187 u188 u189 u190 u191 u192 u193 u194 u195 u196 u197 u198 u199 u200 u201 i nn G N a1 len1 cap1 M1 hi hnn HNL HNO HGR HT HSM1 GX1 HB1 HO hlt
  obtain ⟨na, nc, rfl, hnr⟩ := NoteRow.of_own HNL.out HO.out HNO.out
  have NR := Lib.hid hnr
  have hn64 := hnr.len64
  clear hnr
  obtain ⟨wz, rfl⟩ : ∃ wz, wz = wr := ⟨_, rfl⟩
  have BXZ := Lib.hid (BX.out.keep HB1.out)
  have HL1 : Hid (len1 = len) := Lib.hid (by
    have h1 := GX1.out.box.row.hlen
    have h2 := congrArg List.length GX1.out.box.core
    rw [coreL_len, HT.out.len, HLC.out] at h2
    omega)
  go_wp2
  go_loopw [15] (fun nv wr => ∃ n : Nat, n ≤ len ∧ nv = .int .i64 n ∧ Hid (Below wz.heap.size wz wr)) (fun nv _ => len - (intOf nv).toNat)
  case atStart => exact ⟨0, Nat.zero_le _, rfl, Lib.hid (Below.refl _ _)⟩
  case round =>
    obtain ⟨n, hn, rfl, HB2⟩ := hrel
    have z0 := (BXZ.out.keep HB2.out).c0
    have z1 := (BXZ.out.keep HB2.out).c1
    by_cases hltn : n < len
    · have hnl1 : n < len1 := by rw [HL1.out]; exact hltn
      obtain ⟨b, off, x, rfl, hb, hx, hat, -⟩ := HH.out.get hltn
      obtain ⟨b2, off2, y, rfl, hb2, hy, hat2, -⟩ := GX1.out.box.row.get (show n < len1 by rw [HL1.out]; exact hltn)
      have C0 := Lib.hid (stays hat.c0 hb)
      have C9 := Lib.hid (stays hat.c9 hb)
      have D9 := Lib.hid (stays hat2.c9 hb2)
      have HX := Lib.hid hx
      have HY := Lib.hid hy
      have HCX := Lib.hid (coreL_get hx)
      have HCY : Hid (G[n]? = some y.core) := Lib.hid (by rw [← GX1.out.box.core]; exact coreL_get hy)
      have HN64 : Hid (In64 (n : Int)) := Lib.hid ⟨by omega, by omega⟩
      obtain ⟨cf, hcf⟩ : ∃ cf, connF (coreL L) n = cf := ⟨_, rfl⟩
      obtain ⟨cg, hcg⟩ : ∃ cg, connF G n = cg := ⟨_, rfl⟩
      obtain ⟨kx, hkx⟩ : ∃ kx, x.core.kind = kx := ⟨_, rfl⟩
      obtain ⟨dx, hdx⟩ : ∃ dx, x.core.doc = dx := ⟨_, rfl⟩
      obtain ⟨dy, hdy⟩ : ∃ dy, y.core.doc = dy := ⟨_, rfl⟩
      have CF : Hid (∀ W, Below w.heap.size w W → Calls Tryz.prog 24 #[forV (some ⟨b, off, none⟩) len cap m, .int .i64 n] W fun e w' => e = .returned (.bool cf) ∧ Below W.heap.size W w') := Lib.hid (fun W hb => by
        have h1 := connFn_any _ len cap m L n W (HH.out.below hb) HM.out HN64.out SM.out
        rwa [conn_eq HRR.out (by rw [HLC.out]; exact hltn), hcf] at h1)
      have CG : Hid (∀ W, Below wz.heap.size wz W → Calls Tryz.prog 24 #[forV (some ⟨b2, off2, none⟩) len1 cap1 m, .int .i64 n] W fun e w' => e = .returned (.bool cg) ∧ Below W.heap.size W w') := Lib.hid (fun W hb => by
        have h1 := connFn_any _ len1 cap1 m M1 n W (GX1.out.box.row.below hb) HM.out HN64.out HSM1.out
        rw [GX1.out.box.core] at h1
        rwa [conn_eq HGR.out (by rw [HT.out.len, HLC.out]; exact hltn), hcg] at h1)
      have CH : Hid (∀ W, Below wz.heap.size wz W → Calls Tryz.prog 25 #[forV (some ⟨b, off, none⟩) len cap m, forV (some ⟨b2, off2, none⟩) len1 cap1 m, .int .i64 n, .slice na nn nc] W fun e w' => e = .returned (.bool true) ∧ Below W.heap.size W w') := Lib.hid (fun W hb => chained_any _ len cap m L _ len1 cap1 m M1 n x y na nn nc N W (BXZ.out.row.below hb) (GX1.out.box.row.below hb) (NR.out.below hb) HX.out HY.out (fun k => by
        have h1 := HT.out.att n k (by rw [HLC.out]; exact hltn)
        rwa [attrsK_at HCX.out, attrsK_at HCY.out] at h1))
      have HRN : Hid (kx = 1 → runN (stepB n) (cf, dx) N = some (cg, dy)) := Lib.hid (fun e => by
        have h1 := HT.out.run n (by rw [HLC.out]; exact hltn) (by rw [kindK_at HCX.out, hkx]; exact e)
        rwa [hcf, hcg, docK_at HCX.out, docK_at HCY.out, hdx, hdy] at h1)
      have HEL : Hid (∀ q ∈ N, q.node = (n : Int) → kx = 1) := Lib.hid (fun q hq e => by
        obtain ⟨j, e1, _, e2⟩ := HT.out.els q hq
        obtain rfl : j = n := by omega
        rw [kindK_at HCX.out, hkx] at e2
        exact e2)
      have HBW := Lib.hid (BXZ.out.below.trans (HB2.out.mono BXZ.out.below.size))
      have c0 := C0.out _ HBW.out
      have c9 := C9.out _ HBW.out
      rw [hkx] at C0 c0
      rw [hdx] at C9 c9
      rw [hdy] at D9
      clear hx hy hat hat2 hcf hcg hkx hdx hdy
      go_upto_if 211 with (go_at_call 24; (with_reducible refine (CF.out _ HBW.out).mono ?_); rintro e w3 ⟨rfl, hb⟩; have HB3 := Lib.hid (HB2.out.trans (hb.mono HB2.out.size)); clear hb z0 z1 c0 c9)
      go_cut [16] (fun bv wx => True ∧ ∃ bi : Int, bv = .int .i64 bi ∧ Hid (bi = if cf = true then 1 else 0) ∧ Hid (Below wz.heap.size wz wx))
      case first =>
        cases cf
        all_goals
          go_wp2
          go_meet
          exact ⟨trivial, _, rfl, Lib.hid (by simp), HB3⟩
      case rest =>
        obtain ⟨-, bi0, rfl, HBI0, HB3⟩ := hcut
        have HBW3 := Lib.hid (BXZ.out.below.trans (HB3.out.mono BXZ.out.below.size))
        have z0 := (BXZ.out.keep HB3.out).c0
        have z1 := (BXZ.out.keep HB3.out).c1
        have c0 := C0.out _ HBW3.out
        have c9 := C9.out _ HBW3.out
        go_wp2
        go_loopw [16, 17, 18] (fun bv dv iv wr => ∃ (p : Nat) (bi d : Int) (sb : Bool) (sd : Int), p ≤ nn ∧ iv = .int .i64 p ∧ bv = .int .i64 bi ∧ dv = .int .i64 d ∧ Hid (bi = if sb = true then 1 else 0) ∧ Hid (d = sd) ∧ Hid (kx = 1 → runN (stepB n) (cf, dx) (N.take p) = some (sb, sd)) ∧ Hid (Below wz.heap.size wz wr)) (fun _ _ iv _ => nn - (intOf iv).toNat)
        case atStart => exact ⟨0, bi0, dx, cf, dx, Nat.zero_le _, rfl, rfl, rfl, HBI0, Lib.hid rfl, Lib.hid (fun _ => rfl), HB3⟩
        case round =>
          rename_i si1 si2 si3 si4 si5 si6 si7 si8 si9 si10 si11 si12 si13 si14 si15 si16 si17 si18 si19 si20 si21 si22 si23 si24 si25 si26 si27 si28 si29 si30 si31 si32 si33 si34 si35 si36 si37 si38 si39 si40 si41 si42 si43 si44 si45 si46 si47 si48 si49 si50 si51 si52 si53 si54 si55 si56 si57 si58 si59 si60 si61 si62 si63 si64 si65 si66 si67 si68 si69 si70 si71 si72 si73 si74 si75 si76 si77 si78 si79 si80 si81 si82 si83 si84 si85 si86 si87 si88 si89 si90 si91 si92 si93 si94 si95 si96 si97 si98 si99 si100 si101 si102 si103 si104 si105 si106 si107 si108 si109 si110 si111 si112 si113 si114 si115 si116 si117 si118 si119 si120 si121 si122 si123 si124 si125 si126 si127 si128 si129 si130 si131 si132 si133 si134 si135 si136 si137 si138 si139 si140 si141 si142 si143 si144 si145 si146 si147 si148 si149 si150 si151 si152 si153 si154 si155 si156 si157 si158 si159 si160 si161 si162 si163 si164 si165 si166 si167 si168 si169 si170 si171 si172 si173 si174 si175 si176 si177 si178 si179 si180 si181 si182 si183 si184 si185 si186 si187 si188 si189 si190 si191 si192 si193 si194 si195 si196 si197
          revert len cap m L pa pl pc D w AW hl0 HL HM HG HD HF hp64 si1 SM HRR HLC sh4 sh5 sh8 h40 sh9 si2 w1 sh11 wg HBG sh12 si3 u8 u9 u10 u11 u12 u13 u14 u35 u36 u37 u38 u39 u40 u41 u42 u43 u44 u45 u46 u47 u48 u49 u50 u51 u52 u53 u54 u55 u56 u57 u58 u59 u60 u61 u62 u63 u64 u65 u66 u67 u68 u69 u70 u71 u72 u73 u74 u75 u76 u77 u78 u79 u80 u81 u82 u83 u84 u85 u86 u87 u88 u89 u90 u91 u92 u93 u94 u95 u96 u97 u98 u99 u100 u101 u102 u103 u104 u105 u106 u107 u108 u109 u110 u111 u112 u113 u114 u115 u116 u117 u118 u119 u120 u121 u122 u123 u124 u125 u126 u127 u128 u129 u130 u131 u132 u133 u134 u135 u136 u137 u138 u139 u140 u141 u142 u143 u144 u145 u146 u147 u148 u149 u150 u151 u152 u153 u154 u155 u156 u157 u158 u159 u160 u161 u162 u163 u164 u165 u166 u167 u168 u169 u170 u171 u172 u173 u174 u175 u176 u177 u178 u179 u180 u181 u182 u183 u184 u185 u186 u187 u188 u189 u190 u191 u192 u193 u194 u195 u196 u197 u198 u199 u200 u201 i nn G N len1 cap1 M1 hi hnn HNL HNO HGR HT HSM1 hlt na nc hn64 wz HB1 HO NR HL1 si4 si5 si6 si7 si8 si9 si10 si11 si12 si13 si14 si15 si16 si17 si18 si19 si20 si21 si22 si23 si24 si25 si26 si27 si28 si29 si30 si31 si32 si33 si34 si35 si36 si37 si38 si39 si40 si41 si42 si43 si44 si45 si46 si47 si48 si49 si50 si51 si52 si53 si54 si55 si56 si57 si58 si59 si60 si61 si62 si63 si64 si65 si66 si67 si68 si69 si70 si71 si72 si73 si74 si75 si76 si77 si78 si79 si80 si81 si82 si83 si84 si85 si86 si87 si88 si89 si90 si91 si92 si93 si94 si95 si96 si97 si98 si99 si100 si101 si102 si103 si104 si105 si106 si107 si108 si109 si110 si111 si112 si113 si114 si115 si116 si117 si118 si119 si120 si121 si122 si123 si124 si125 si126 n hn HB2 hltn hnl1 b off x sh1 HH sh2 sh3 HR sh6 sh7 sh10 si127 BX GX BXZ si128 si129 hb b2 off2 y GX1 hb2 HX HY HCX HCY HN64 cf cg kx C0 dx C9 dy D9 CF CG CH HRN HEL HBW si130 si131 si132 w3 si133 wc u202 u203 u204 u205 u206 u207 u208 u209 u210 u211 u212 u213 u214 u215 u216 u217 si134 si135 si136 si137 si138 si139 si140 si141 si142 si143 si144 si145 si146 si147 si148 si149 si150 si151 si152 si153 si154 si155 si156 si157 si158 si159 si160 si161 si162 si163 si164 si165 si166 si167 si168 si169 si170 si171 si172 si173 si174 si175 si176 si177 si178 si179 si180 si181 si182 si183 si184 si185 si186 si187 si188 si189 si190 si191 si192 si193 si194 si195 u284 u285 u286 u287 u288 u289 u290 u291 u292 u293 u294 u295 u296 u297 u298 u299 u300 u301 u302 u303 u304 u305 u306 u307 u308 u309 u310 u311 u312 u313 u314 u315 u316 bi0 HBI0 HB3 HBW3 z0 z1 c0 c9 si196 si197 wr u4 u16 u17 u18 u218 u219 u220 u221 u222 u223 u224 u225 u226 u227 u228 u229 u230 u231 u232 u233 u234 u235 u236 u237 u238 u239 u240 u241 u242 u243 u244 u245 u246 u247 u248 u249 u250 u251 u252 u253 u254 u255 u256 u257 u258 u259 u260 u261 u262 u263 u264 u265 u266 u267 u268 u269 u270 u271 u272 u273 u274 u275 u276 u277 u278 u279 u280 u281 u282 u283 hrel
          exact leafI.out
    · go_wp2
      go_ret
      exact ⟨rfl, BXZ.out.below.trans (HB2.out.mono BXZ.out.below.size)⟩
end Go.Proofs.YtclledmgiliggaaGreatDoor
