/- Texts joined in build order: WatchClass WatchAsk. -/
import Derived.Test.YtkfmengdffpcnaaGreatDoorA36
import Derived.Test.YtkfmengdffpcnaaGreatDoorA37
import Derived.Test.YtkfmengdffpcnaaGreatDoorA38
namespace Go.Proofs.YtkfmengdffpcnaaGreatDoor
open Go.RowKit
def ClassPost (w : World) (L : List ClassD) (c : Option ClassC) (e : Ending) (w' : World) : Prop := ∃ (y : ClassD) (ok : Bool), e = .returned (.tuple #[y.val, .bool ok]) ∧ ClassAt w' y ∧ Below w.heap.size w w' ∧ (∀ q, (∀ x ∈ L, ClassOff q x) → ClassOff q y) ∧ ((ok = false ∧ c = none ∧ y = clsNone) ∨ (ok = true ∧ c = some y.core))
theorem classZ_out {s : StateD} {D : List DefD} {L : List ClassC} (h : s.dfn < 0 ∨ (D.length : Int) ≤ s.dfn) : classZ s D L = none := by
  unfold classZ classAtZ
  rw [if_neg (by omega)]
  rfl
theorem classZ_at {s : StateD} {D : List DefD} {L : List ClassC} {k : Nat} {d : DefD} (hk : s.dfn = (k : Int)) (hd : D[k]? = some d) : classZ s D L = if 0 ≤ d.cls ∧ d.cls < (L.length : Int) then L[d.cls.toNat]? else none := by
  have hl := (List.getElem?_eq_some_iff.1 hd).1
  unfold classZ classAtZ
  rw [if_pos (by omega), hk, Int.toNat_natCast, hd]
  dsimp only
  split <;> rfl
theorem class_mem {s : StateD} {D : List DefD} {L : List ClassC} {c : ClassC} (h : classZ s D L = some c) : c ∈ L := by
  unfold classZ at h
  cases hk : classAtZ s D L.length with
  | none => rw [hk] at h; cases h
  | some k => rw [hk] at h; exact List.mem_of_getElem? h
set_option maxHeartbeats 2000000 in
set_option maxRecDepth 100000 in
theorem class_any (s : StateD) (da : Option Addr) (dl dc : Nat) (wa : Option Addr) (wl wc : Nat) (nx : Int) (bz : Bool) (ca : Option Addr) (cl cc : Nat) (D : List DefD) (L : List ClassD) (w : World) (hd : DefRow w da dl dc D) (hc : ClsRow w ca cl cc L) :
    Calls Tryz.prog 32 #[stateV s, deskV da dl dc wa wl wc nx bz, .slice ca cl cc] w (ClassPost w L (classZ s D (coreCl L))) := by
  obtain ⟨ph, df, ow, ba⟩ := s
  obtain ⟨W0, hW0, B0, B1, B2, HS, HB⟩ := boxes3 w #[.int .i64 ph, .int .i64 df, .int .i64 ow, .bool ba] #[.slice da dl dc, .slice wa wl wc, .int .i64 nx, .bool bz] #[.bool false, .slice none 0 0, .slice none 0 0, .slice none 0 0, .slice none 0 0] 46 29 51
  have HW0 := Lib.hid hW0
  have B2 := Lib.hid B2
  have HB := Lib.hid HB
  have s1 := B0.c 1 _ rfl
  have d0 := B1.c 0 _ rfl
  have r0 := B2.out.c 0 _ rfl
  have r1 := B2.out.c 1 _ rfl
  have r2 := B2.out.c 2 _ rfl
  have r3 := B2.out.c 3 _ rfl
  have r4 := B2.out.c 4 _ rfl
  have f0 := B2.out.f 0
  have f1 := B2.out.f 1
  have f2 := B2.out.f 2
  have f3 := B2.out.f 3
  have f4 := B2.out.f 4
  have hd64 := hd.len64
  have hc64 := hc.len64
  have hcap := hc.row.hcap
  have hmax := hc.row.hmax
  have hcap64 : cc ≤ 9223372036854775807 := by unfold maxLen at hmax; omega
  have hdlen := hd.hlen
  have hclen := hc.hlen
  have NONE : ∀ W, Below w.heap.size w W → ClassPost w L none (.returned (.tuple #[clsNone.val, .bool false])) W := fun W hb => ⟨clsNone, false, rfl, clsNone_at W, hb, (fun q _ => ⟨(fun b off e => by cases e), (fun b off e => by cases e), (fun b off e => by cases e), (fun b off e => by cases e), fun x hx => by cases hx⟩), .inl ⟨rfl, rfl, rfl⟩⟩
  have hb5 : ∀ x0 x1 x2 x3 x4 : Value, Below w.heap.size w (((((W0.setCell ⟨w.heap.size + 1 + 1, 0, none⟩ x0).setCell ⟨w.heap.size + 1 + 1, 1, none⟩ x1).setCell ⟨w.heap.size + 1 + 1, 2, none⟩ x2).setCell ⟨w.heap.size + 1 + 1, 3, none⟩ x3).setCell ⟨w.heap.size + 1 + 1, 4, none⟩ x4) := fun x0 x1 x2 x3 x4 => by
    have hle : ∀ o, w.heap.size ≤ (⟨w.heap.size + 1 + 1, o, none⟩ : Addr).block := fun o => by show w.heap.size ≤ w.heap.size + 1 + 1; omega
    exact ((((HB.out.setCell (hle 0) x0).setCell (hle 1) x1).setCell (hle 2) x2).setCell (hle 3) x3).setCell (hle 4) x4
  have hp5 : ∀ x0 x1 x2 x3 x4 : Value, CBox (((((W0.setCell ⟨w.heap.size + 1 + 1, 0, none⟩ x0).setCell ⟨w.heap.size + 1 + 1, 1, none⟩ x1).setCell ⟨w.heap.size + 1 + 1, 2, none⟩ x2).setCell ⟨w.heap.size + 1 + 1, 3, none⟩ x3).setCell ⟨w.heap.size + 1 + 1, 4, none⟩ x4) (w.heap.size + 1 + 1) [x0, x1, x2, x3, x4] := fun x0 x1 x2 x3 x4 =>
    ((((B2.out.put 0 x0 (by simp)).put 1 x1 (by simp)).put 2 x2 (by simp)).put 3 x3 (by simp)).put 4 x4 (by simp)
  have HB5 := Lib.hid hb5
  have HP5 := Lib.hid hp5
  have HNONE := Lib.hid NONE
  have ZNONE : Hid (∀ W, Below w.heap.size w W → classZ ⟨ph, df, ow, ba⟩ D (coreCl L) = none → ClassPost w L (classZ ⟨ph, df, ow, ba⟩ D (coreCl L)) (.returned (.tuple #[clsNone.val, .bool false])) W) := Lib.hid (fun W hb e => by rw [e]; exact NONE W hb)
  clear hb5 hp5 NONE hmax hW0 B0 B1 HS HNONE
  by_cases h1 : df < 0
  · have HZ := Lib.hid (classZ_out (s := ⟨ph, df, ow, ba⟩) (D := D) (L := coreCl L) (.inl h1))
    clear hd hc
    go_enter Tryz.func32, Tryz.ntmps32
    go_upto_region 1 with fail
    rw [HW0.out]
    go_wp2_with fail
    have P := HP5.out (.bool false) (.slice none 0 0) (.slice none 0 0) (.slice none 0 0) (.slice none 0 0)
    have q0 := P.c 0 _ rfl
    have q1 := P.c 1 _ rfl
    have q2 := P.c 2 _ rfl
    have q3 := P.c 3 _ rfl
    have q4 := P.c 4 _ rfl
    refine bodyPost_ret (v := .tuple #[clsNone.val, .bool false]) ?_ rfl (ZNONE.out _ (HB5.out _ _ _ _ _) HZ.out)
    simp [results, Tryz.results32, go_sem, q0, q1, q2, q3, q4, clsNone]
  by_cases h2 : (dl : Int) ≤ df
  · have HZ := Lib.hid (classZ_out (s := ⟨ph, df, ow, ba⟩) (D := D) (L := coreCl L) (.inr (by rw [hdlen]; exact h2)))
    clear hd hc
    go_enter Tryz.func32, Tryz.ntmps32
    go_upto_region 1 with fail
    rw [HW0.out]
    go_wp2_with fail
    have P := HP5.out (.bool false) (.slice none 0 0) (.slice none 0 0) (.slice none 0 0) (.slice none 0 0)
    have q0 := P.c 0 _ rfl
    have q1 := P.c 1 _ rfl
    have q2 := P.c 2 _ rfl
    have q3 := P.c 3 _ rfl
    have q4 := P.c 4 _ rfl
    refine bodyPost_ret (v := .tuple #[clsNone.val, .bool false]) ?_ rfl (ZNONE.out _ (HB5.out _ _ _ _ _) HZ.out)
    simp [results, Tryz.results32, go_sem, q0, q1, q2, q3, q4, clsNone]
  obtain ⟨k, rfl, hk⟩ : ∃ k : Nat, df = (k : Int) ∧ k < dl := ⟨df.toNat, by omega, by omega⟩
  obtain ⟨db, do_, x, rfl, hdb, hx, -, -, x2, -⟩ := (hd.below HB.out).get hk
  have HZA := Lib.hid (classZ_at (s := ⟨ph, (k : Int), ow, ba⟩) (L := coreCl L) rfl hx)
  obtain ⟨xn, xl, xc⟩ := x
  dsimp only at x2 HZA
  have hcl2 : (coreCl L).length = cl := by rw [coreCl_len, hclen]
  rw [hcl2] at HZA
  by_cases h3 : xc < 0
  · have HZ : Hid (classZ ⟨ph, (k : Int), ow, ba⟩ D (coreCl L) = none) := Lib.hid (by rw [HZA.out, if_neg (by omega)])
    clear hd hc hx
    go_enter Tryz.func32, Tryz.ntmps32
    go_upto_region 1 with fail
    rw [HW0.out]
    go_wp2_with fail
    have P := HP5.out (.bool false) (.slice none 0 0) (.slice none 0 0) (.slice none 0 0) (.slice none 0 0)
    have q0 := P.c 0 _ rfl
    have q1 := P.c 1 _ rfl
    have q2 := P.c 2 _ rfl
    have q3 := P.c 3 _ rfl
    have q4 := P.c 4 _ rfl
    refine bodyPost_ret (v := .tuple #[clsNone.val, .bool false]) ?_ rfl (ZNONE.out _ (HB5.out _ _ _ _ _) HZ.out)
    simp [results, Tryz.results32, go_sem, q0, q1, q2, q3, q4, clsNone]
  by_cases h4 : (cl : Int) ≤ xc
  · have HZ : Hid (classZ ⟨ph, (k : Int), ow, ba⟩ D (coreCl L) = none) := Lib.hid (by rw [HZA.out, if_neg (by omega)])
    clear hd hc hx
    go_enter Tryz.func32, Tryz.ntmps32
    go_upto_region 1 with fail
    rw [HW0.out]
    go_wp2_with fail
    have P := HP5.out (.bool false) (.slice none 0 0) (.slice none 0 0) (.slice none 0 0) (.slice none 0 0)
    have q0 := P.c 0 _ rfl
    have q1 := P.c 1 _ rfl
    have q2 := P.c 2 _ rfl
    have q3 := P.c 3 _ rfl
    have q4 := P.c 4 _ rfl
    refine bodyPost_ret (v := .tuple #[clsNone.val, .bool false]) ?_ rfl (ZNONE.out _ (HB5.out _ _ _ _ _) HZ.out)
    simp [results, Tryz.results32, go_sem, q0, q1, q2, q3, q4, clsNone]
  obtain ⟨j, rfl, hj⟩ : ∃ j : Nat, xc = (j : Int) ∧ j < cl := ⟨xc.toNat, by omega, by omega⟩
  obtain ⟨cb, co, y, rfl, hcb, hy, hyc, -⟩ := (hc.below HB.out).get hj
  have HZ : Hid (classZ ⟨ph, (k : Int), ow, ba⟩ D (coreCl L) = some y.core) := Lib.hid (by
    rw [HZA.out, if_pos (by omega), Int.toNat_natCast]
    exact coreCl_get hy)
  have HYM := Lib.hid (List.mem_of_getElem? hy)
  have HYA := Lib.hid (hc.each y (List.mem_of_getElem? hy))
  obtain ⟨y0, y1, y2, y3, y4⟩ := hyc
  have HY := Lib.hid (show ∃ z : ClassD, z = y from ⟨y, rfl⟩)
  clear hd hc hx hy h1 h2 h3 h4 ZNONE HZA
  go_enter Tryz.func32, Tryz.ntmps32
  go_upto_region 1 with fail
  rw [HW0.out]
  go_wp2_with fail
  have P := HP5.out (.bool y.form) (.slice y.wa y.wn y.wk) (.slice y.pa y.pn y.pk) (.slice y.ma y.mn y.mc) (.slice y.ha y.hn y.hk)
  have q0 := P.c 0 _ rfl
  have q1 := P.c 1 _ rfl
  have q2 := P.c 2 _ rfl
  have q3 := P.c 3 _ rfl
  have q4 := P.c 4 _ rfl
  refine bodyPost_ret (v := .tuple #[y.val, .bool true]) ?_ rfl ⟨y, true, rfl, HYA.out.below (HB5.out _ _ _ _ _), HB5.out _ _ _ _ _, (fun q h => h y HYM.out), .inr ⟨rfl, HZ.out⟩⟩
  simp [results, Tryz.results32, go_sem, q0, q1, q2, q3, q4]
set_option maxHeartbeats 2000000 in
set_option maxRecDepth 100000 in
theorem classFn_any (s : StateD) (da : Option Addr) (dl dc : Nat) (wa : Option Addr) (wl wc : Nat) (nx : Int) (bz : Bool) (ca : Option Addr) (cl cc : Nat) (D : List DefD) (L : List ClassD) (w : World) (hd : DefRow w da dl dc D) (hc : ClsRow w ca cl cc L) (hs : ∀ c ∈ coreCl L, SmallCl c) :
    Calls Tryz.prog 10 #[stateV s, deskV da dl dc wa wl wc nx bz, .slice ca cl cc] w fun e w' => ∃ (y : ClassD) (ok : Bool), e = .returned (.tuple #[y.val, .bool ok]) ∧ ClassAt w' y ∧ Below w.heap.size w w' ∧ (∀ q, q < w.heap.size → (∀ z ∈ L, ClassOff q z) → ClassOff q y) ∧ ((ok = false ∧ classZ s D (coreCl L) = none ∧ y.core = clsNone.core) ∨ (ok = true ∧ classZ s D (coreCl L) = some y.core)) := by
  have CC : Hid (∀ V, DefRow V da dl dc D → ClsRow V ca cl cc L → Calls Tryz.prog 32 #[stateV s, deskV da dl dc wa wl wc nx bz, .slice ca cl cc] V (ClassPost V L (classZ s D (coreCl L)))) := Lib.hid (fun V h1 h2 => class_any s da dl dc wa wl wc nx bz ca cl cc D L V h1 h2)
  have CF : Hid (∀ V x, ClassAt V x → SmallCl x.core → Calls Tryz.prog 33 #[x.val] V (FreshC V x)) := Lib.hid (fun V x h1 h2 => freshclass_any x V h1 h2)
  have HMEM : Hid (∀ c, classZ s D (coreCl L) = some c → SmallCl c) := Lib.hid (fun c e => hs c (class_mem e))
  obtain ⟨z, hz⟩ : ∃ z, classZ s D (coreCl L) = z := ⟨_, rfl⟩
  rw [hz] at CC HMEM ⊢
  obtain ⟨ph, df, ow, ba⟩ := s
  obtain ⟨W0, hW0, B0, B1, B2, HS, HB⟩ := boxes3 w #[.int .i64 ph, .int .i64 df, .int .i64 ow, .bool ba] #[.slice da dl dc, .slice wa wl wc, .int .i64 nx, .bool bz] #[.bool false, .slice none 0 0, .slice none 0 0, .slice none 0 0, .slice none 0 0] 46 29 51
  have HW0 := Lib.hid hW0
  have B2 := Lib.hid B2
  have HB := Lib.hid HB
  have s0 := B0.c 0 _ rfl
  have s1 := B0.c 1 _ rfl
  have s2 := B0.c 2 _ rfl
  have s3 := B0.c 3 _ rfl
  have d0 := B1.c 0 _ rfl
  have d1 := B1.c 1 _ rfl
  have d2 := B1.c 2 _ rfl
  have d3 := B1.c 3 _ rfl
  have HD := Lib.hid (hd.below HB.out)
  have HC := Lib.hid (hc.below HB.out)
  have HL0 : Hid (∀ z ∈ L, ∀ q, w.heap.size ≤ q → ClassOff q z) := Lib.hid (fun z hz => (hc.each z hz).off)
  clear hd hc hs hz hW0 B0 B1
  go_enter Tryz.func10, Tryz.ntmps10
  go_upto_region 1 with fail
  rw [HW0.out]
  go_upto_region 2 with (go_at_call 32; (with_reducible refine (CC.out _ HD.out HC.out).mono ?_); rintro e w1 ⟨y, ok, rfl, hy, hb, hoff, hor⟩; have HOFF := Lib.hid hoff; have HY := Lib.hid hy; have HB1 := Lib.hid hb; have HOR := Lib.hid hor; clear hy hb hor hoff)
  have HSM : Hid (SmallCl y.core) := Lib.hid (by
    rcases HOR.out with ⟨-, -, rfl⟩ | ⟨-, e⟩
    · exact ⟨by simp [clsNone, ClassD.core], by simp [clsNone, ClassD.core], by simp [clsNone, ClassD.core], by simp [clsNone, ClassD.core, coreH], by simp [clsNone, ClassD.core, coreH]⟩
    · exact HMEM.out _ e)
  obtain ⟨V, hV, C0, HSV, HBV⟩ := boxes1 w1 #[.bool y.form, .slice y.wa y.wn y.wk, .slice y.pa y.pn y.pk, .slice y.ma y.mn y.mc, .slice y.ha y.hn y.hk] 51
  rw [hV]
  have HYV := Lib.hid (HY.out.below HBV)
  have HBV := Lib.hid HBV
  have y0 := C0.c 0 _ rfl
  have y1 := C0.c 1 _ rfl
  have y2 := C0.c 2 _ rfl
  have y3 := C0.c 3 _ rfl
  have y4 := C0.c 4 _ rfl
  have BV := Lib.hid ((B2.out.keep HB1.out).keep HBV.out)
  have HBT := Lib.hid ((HB.out.trans (HB1.out.mono HB.out.size)).trans (HBV.out.mono (Nat.le_trans HB.out.size HB1.out.size)))
  clear hV C0 HSV s0 s1 s2 s3 d0 d1 d2 d3
  have r0 := BV.out.c 0 _ rfl
  have r1 := BV.out.c 1 _ rfl
  have r2 := BV.out.c 2 _ rfl
  have r3 := BV.out.c 3 _ rfl
  have r4 := BV.out.c 4 _ rfl
  have f0 := BV.out.f 0
  have f1 := BV.out.f 1
  have f2 := BV.out.f 2
  have f3 := BV.out.f 3
  have f4 := BV.out.f 4
  go_wp2_with (go_at_call 33; (with_reducible refine (CF.out _ y HYV.out HSM.out).mono ?_); rintro e w2 ⟨x, rfl, hxc, hx, hb, hxo⟩; have HXO := Lib.hid hxo; have HXC := Lib.hid hxc; have HX := Lib.hid hx; have HB2 := Lib.hid hb; have BX := Lib.hid (BV.out.keep hb); clear r0 r1 r2 r3 r4 f0 f1 f2 f3 f4 hxc hx hb hxo; have r0 := BX.out.c 0 _ rfl; have r1 := BX.out.c 1 _ rfl; have r2 := BX.out.c 2 _ rfl; have r3 := BX.out.c 3 _ rfl; have r4 := BX.out.c 4 _ rfl; have f0 := BX.out.f 0; have f1 := BX.out.f 1; have f2 := BX.out.f 2; have f3 := BX.out.f 3; have f4 := BX.out.f 4)
  have P := ((((BX.out.put 0 (.bool x.form) (by simp)).put 1 (.slice x.wa x.wn x.wk) (by simp)).put 2 (.slice x.pa x.pn x.pk) (by simp)).put 3 (.slice x.ma x.mn x.mc) (by simp)).put 4 (.slice x.ha x.hn x.hk) (by simp)
  have q0 := P.c 0 _ rfl
  have q1 := P.c 1 _ rfl
  have q2 := P.c 2 _ rfl
  have q3 := P.c 3 _ rfl
  have q4 := P.c 4 _ rfl
  have hq : w.heap.size + 1 + 1 < V.heap.size := BV.out.lt
  have XA := HX.out.put5 (HXO.out _ hq (HOFF.out _ (fun z hz => HL0.out z hz _ (by omega))).o) (.bool x.form) (.slice x.wa x.wn x.wk) (.slice x.pa x.pn x.pk) (.slice x.ma x.mn x.mc) (.slice x.ha x.hn x.hk)
  have hle : ∀ o, w.heap.size ≤ (⟨w.heap.size + 1 + 1, o, none⟩ : Addr).block := fun o => by show w.heap.size ≤ w.heap.size + 1 + 1; omega
  have XB := ((((((HBT.out.trans (HB2.out.mono HBT.out.size)).setCell (hle 0) (.bool x.form)).setCell (hle 1) (.slice x.wa x.wn x.wk)).setCell (hle 2) (.slice x.pa x.pn x.pk)).setCell (hle 3) (.slice x.ma x.mn x.mc)).setCell (hle 4) (.slice x.ha x.hn x.hk))
  refine bodyPost_ret (v := .tuple #[x.val, .bool ok]) ?_ rfl ⟨x, ok, rfl, XA, XB, fun q h1 h2 => HXO.out q (by omega) (HOFF.out q h2).o, ?_⟩
  · simp [results, Tryz.results10, go_sem, q0, q1, q2, q3, q4]
  · rcases HOR.out with ⟨e1, e2, e3⟩ | ⟨e1, e2⟩
    · exact .inl ⟨e1, e2, by rw [HXC.out, e3]⟩
    · exact .inr ⟨e1, by rw [HXC.out]; exact e2⟩
end Go.Proofs.YtkfmengdffpcnaaGreatDoor
namespace Go.Proofs.YtkfmengdffpcnaaGreatDoor
open Go.RowKit
abbrev todoVal (x : TodoD) : Value := .agg #[.int .i64 x.kind, .int .i64 x.dfn, .string x.name, .bool x.had, .bool x.has, .string x.old, .string x.new, .int .i64 x.src, .int .i64 x.dst, .bool x.on]
abbrev zeroT : TodoD := ⟨0, 0, ⟨#[]⟩, false, false, ⟨#[]⟩, ⟨#[]⟩, 0, 0, false⟩
abbrev todoCs (x : TodoD) : Array Value := #[.int .i64 x.kind, .int .i64 x.dfn, .string x.name, .bool x.had, .bool x.has, .string x.old, .string x.new, .int .i64 x.src, .int .i64 x.dst, .bool x.on]
abbrev noteCs (x : NoteD) : Array Value := #[.int .i64 x.kind, .int .i64 x.node, .int .i64 x.src, .int .i64 x.dst, .string x.name, .bool x.had, .bool x.has, .string x.old, .string x.new]
abbrev nodeCs (x : NodeD) : Array Value := #[.int .i64 x.core.kind, .string x.core.name, .string x.core.is, .string x.core.data, .slice x.aA x.aN x.aC, .int .i64 x.core.parent, .slice x.kA x.kN x.kC, .int .i64 x.core.host, .int .i64 x.core.under, .int .i64 x.core.doc]
abbrev put10 (W : World) (g : Nat) (x : TodoD) : World := (((((((((W.setCell ⟨g, 0, none⟩ (.int .i64 x.kind)).setCell ⟨g, 1, none⟩ (.int .i64 x.dfn)).setCell ⟨g, 2, none⟩ (.string x.name)).setCell ⟨g, 3, none⟩ (.bool x.had)).setCell ⟨g, 4, none⟩ (.bool x.has)).setCell ⟨g, 5, none⟩ (.string x.old)).setCell ⟨g, 6, none⟩ (.string x.new)).setCell ⟨g, 7, none⟩ (.int .i64 x.src)).setCell ⟨g, 8, none⟩ (.int .i64 x.dst)).setCell ⟨g, 9, none⟩ (.bool x.on)
theorem box10 {W : World} {g : Nat} {y : TodoD} (h : CBox W g (todoCs y).toList) (x : TodoD) : CBox (put10 W g x) g (todoCs x).toList :=
  (((((((((h.put 0 (.int .i64 x.kind) (by simp)).put 1 (.int .i64 x.dfn) (by simp)).put 2 (.string x.name) (by simp)).put 3 (.bool x.had) (by simp)).put 4 (.bool x.has) (by simp)).put 5 (.string x.old) (by simp)).put 6 (.string x.new) (by simp)).put 7 (.int .i64 x.src) (by simp)).put 8 (.int .i64 x.dst) (by simp)).put 9 (.bool x.on) (by simp)
theorem below10 {w W : World} {B g : Nat} (h : Below B w W) (hg : B ≤ g) (x : TodoD) : Below B w (put10 W g x) := by
  have hle : ∀ o, B ≤ (⟨g, o, none⟩ : Addr).block := fun o => hg
  exact (((((((((h.setCell (hle 0) _).setCell (hle 1) _).setCell (hle 2) _).setCell (hle 3) _).setCell (hle 4) _).setCell (hle 5) _).setCell (hle 6) _).setCell (hle 7) _).setCell (hle 8) _).setCell (hle 9) _
structure TCells (W : World) (g : Nat) (x : TodoD) : Prop where
  c0 : W.cell? ⟨g, 0, none⟩ = some (.int .i64 x.kind)
  c1 : W.cell? ⟨g, 1, none⟩ = some (.int .i64 x.dfn)
  c2 : W.cell? ⟨g, 2, none⟩ = some (.string x.name)
  c3 : W.cell? ⟨g, 3, none⟩ = some (.bool x.had)
  c4 : W.cell? ⟨g, 4, none⟩ = some (.bool x.has)
  c5 : W.cell? ⟨g, 5, none⟩ = some (.string x.old)
  c6 : W.cell? ⟨g, 6, none⟩ = some (.string x.new)
  c7 : W.cell? ⟨g, 7, none⟩ = some (.int .i64 x.src)
  c8 : W.cell? ⟨g, 8, none⟩ = some (.int .i64 x.dst)
  c9 : W.cell? ⟨g, 9, none⟩ = some (.bool x.on)
theorem CBox.todo {W : World} {g : Nat} {x : TodoD} (h : CBox W g (todoCs x).toList) : TCells W g x :=
  ⟨h.c 0 _ rfl, h.c 1 _ rfl, h.c 2 _ rfl, h.c 3 _ rfl, h.c 4 _ rfl, h.c 5 _ rfl, h.c 6 _ rfl, h.c 7 _ rfl, h.c 8 _ rfl, h.c 9 _ rfl⟩
set_option maxHeartbeats 1000000 in
set_option maxRecDepth 100000 in
theorem call_any (y : NoteD) (w : World) : Calls Tryz.prog 58 #[noteV y] w fun e w' => e = .returned (todoVal (callT y)) ∧ Below w.heap.size w w' := by
  obtain ⟨kind, node, src, dst, name, had, has, old, new⟩ := y
  obtain ⟨W0, hW0, B0, B1, HS, HB⟩ := boxes2 w (noteCs ⟨kind, node, src, dst, name, had, has, old, new⟩) (todoCs zeroT) 71 55
  have HW0 := Lib.hid hW0
  have B1 := Lib.hid B1
  have HB := Lib.hid HB
  have n0 := B0.c 0 _ rfl
  have n2 := B0.c 2 _ rfl
  have n3 := B0.c 3 _ rfl
  have n4 := B0.c 4 _ rfl
  have n5 := B0.c 5 _ rfl
  have n6 := B0.c 6 _ rfl
  have n7 := B0.c 7 _ rfl
  have n8 := B0.c 8 _ rfl
  obtain ⟨r0, r1, r2, r3, r4, r5, r6, r7, r8, r9⟩ := CBox.todo (x := zeroT) B1.out
  have f0 := B1.out.f 0
  have f1 := B1.out.f 1
  have f2 := B1.out.f 2
  have f3 := B1.out.f 3
  have f4 := B1.out.f 4
  have f5 := B1.out.f 5
  have f6 := B1.out.f 6
  have f7 := B1.out.f 7
  have f8 := B1.out.f 8
  have f9 := B1.out.f 9
  clear hW0 B0 HS
  go_enter Tryz.func58, Tryz.ntmps58
  go_upto_region 1 with fail
  rw [HW0.out]
  go_wp2_with fail
  obtain ⟨q0, q1, q2, q3, q4, q5, q6, q7, q8, q9⟩ := (box10 (y := zeroT) B1.out (callT ⟨kind, node, src, dst, name, had, has, old, new⟩)).todo
  refine bodyPost_ret (v := todoVal (callT ⟨kind, node, src, dst, name, had, has, old, new⟩)) ?_ rfl ⟨rfl, below10 HB.out (by omega) (callT ⟨kind, node, src, dst, name, had, has, old, new⟩)⟩
  unfold put10 callT at q0 q1 q2 q3 q4 q5 q6 q7 q8 q9
  dsimp only at q0 q1 q2 q3 q4 q5 q6 q7 q8 q9
  simp [results, Tryz.results58, go_sem, q0, q1, q2, q3, q4, q5, q6, q7, q8, q9, callT]
def AskPost (w : World) (r : Option TodoD) (e : Ending) (w' : World) : Prop := ∃ (t : TodoD) (ok : Bool), e = .returned (.tuple #[todoVal t, .bool ok]) ∧ Below w.heap.size w w' ∧ r = if ok then some t else none
def upZ (z : Int) : Option TodoD := if z = -1 then none else some (upT z)
set_option maxHeartbeats 1000000 in
set_option maxRecDepth 100000 in
theorem upgrade_any (x : NodeD) (da : Option Addr) (dl dc : Nat) (wa : Option Addr) (wl wc : Nat) (nx : Int) (bz : Bool) (L : List DefD) (w : World) (hd : DefRow w da dl dc L) :
    Calls Tryz.prog 57 #[nodVal x, deskV da dl dc wa wl wc nx bz] w (AskPost w (upZ (fateC ⟨L, [], nx, bz⟩ x.core))) := by
  obtain ⟨z, hz⟩ : ∃ z, fateC ⟨L, [], nx, bz⟩ x.core = z := ⟨_, rfl⟩
  have CF : Hid (∀ V, DefRow V da dl dc L → Calls Tryz.prog 35 #[nodVal x, deskV da dl dc wa wl wc nx bz] V fun e w' => e = .returned (.int .i64 z) ∧ Below V.heap.size V w') := Lib.hid (fun V h => by
    have := fateOf_any x da dl dc wa wl wc nx bz L V h
    rw [hz] at this
    exact this)
  rw [hz]
  obtain ⟨⟨kind, name, is, data, attrs, parent, kids, host, under, doc⟩, aA, aN, aC, kA, kN, kC⟩ := x
  obtain ⟨W0, hW0, B0, B1, B2, HS, HB⟩ := boxes3 w (nodeCs ⟨⟨kind, name, is, data, attrs, parent, kids, host, under, doc⟩, aA, aN, aC, kA, kN, kC⟩) #[.slice da dl dc, .slice wa wl wc, .int .i64 nx, .bool bz] (todoCs zeroT) 36 29 55
  have HW0 := Lib.hid hW0
  have B2 := Lib.hid B2
  have HB := Lib.hid HB
  have HD := Lib.hid (hd.below HB.out)
  have n0 := B0.c 0 _ rfl
  have n1 := B0.c 1 _ rfl
  have n2 := B0.c 2 _ rfl
  have n3 := B0.c 3 _ rfl
  have n4 := B0.c 4 _ rfl
  have n5 := B0.c 5 _ rfl
  have n6 := B0.c 6 _ rfl
  have n7 := B0.c 7 _ rfl
  have n8 := B0.c 8 _ rfl
  have n9 := B0.c 9 _ rfl
  have d0 := B1.c 0 _ rfl
  have d1 := B1.c 1 _ rfl
  have d2 := B1.c 2 _ rfl
  have d3 := B1.c 3 _ rfl
  clear hW0 B0 B1 HS hd hz
  go_enter Tryz.func57, Tryz.ntmps57
  go_upto_region 1 with fail
  rw [HW0.out]
  go_upto_region 2 with (go_at_call 35; (with_reducible refine (CF.out _ HD.out).mono ?_); rintro e w1 ⟨rfl, hb⟩; have HB1 := Lib.hid (HB.out.trans (hb.mono HB.out.size)); have BX := Lib.hid (B2.out.keep hb); clear hb n0 n1 n2 n3 n4 n5 n6 n7 n8 n9 d0 d1 d2 d3)
  obtain ⟨r0, r1, r2, r3, r4, r5, r6, r7, r8, r9⟩ := CBox.todo (x := zeroT) BX.out
  have f0 := BX.out.f 0
  have f1 := BX.out.f 1
  have f2 := BX.out.f 2
  have f3 := BX.out.f 3
  have f4 := BX.out.f 4
  have f5 := BX.out.f 5
  have f6 := BX.out.f 6
  have f7 := BX.out.f 7
  have f8 := BX.out.f 8
  have f9 := BX.out.f 9
  by_cases h1 : z = -1
  · subst h1
    go_wp2_with fail
    obtain ⟨q0, q1, q2, q3, q4, q5, q6, q7, q8, q9⟩ := (box10 (y := zeroT) BX.out zeroT).todo
    unfold put10 at q0 q1 q2 q3 q4 q5 q6 q7 q8 q9
    dsimp only at q0 q1 q2 q3 q4 q5 q6 q7 q8 q9
    refine bodyPost_ret (v := .tuple #[todoVal zeroT, .bool false]) ?_ rfl ⟨zeroT, false, rfl, below10 HB1.out (by omega) zeroT, rfl⟩
    simp [results, Tryz.results57, go_sem, q0, q1, q2, q3, q4, q5, q6, q7, q8, q9]
  · have e1 : (z == -1) = false := beq_eq_false_iff_ne.2 h1
    have HU : Hid (upZ z = some (upT z)) := Lib.hid (if_neg h1)
    clear h1
    go_wp2_with fail
    obtain ⟨q0, q1, q2, q3, q4, q5, q6, q7, q8, q9⟩ := (box10 (y := zeroT) BX.out (upT z)).todo
    unfold put10 at q0 q1 q2 q3 q4 q5 q6 q7 q8 q9
    dsimp only at q0 q1 q2 q3 q4 q5 q6 q7 q8 q9
    refine bodyPost_ret (v := .tuple #[todoVal (upT z), .bool true]) ?_ rfl ⟨upT z, true, rfl, below10 HB1.out (by omega) (upT z), HU.out⟩
    simp [results, Tryz.results57, go_sem, q0, q1, q2, q3, q4, q5, q6, q7, q8, q9]
def askedZ (x : NoteD) (z : Int) (s : StateD) (c : Option ClassC) : Option TodoD :=
  if s.phase = 1 then (if x.kind = 1 then upZ z else none)
  else if s.phase = 3 then (match c with | none => none | some c => if toldC c x.kind x.name then some (callT x) else none)
  else none
end Go.Proofs.YtkfmengdffpcnaaGreatDoor
