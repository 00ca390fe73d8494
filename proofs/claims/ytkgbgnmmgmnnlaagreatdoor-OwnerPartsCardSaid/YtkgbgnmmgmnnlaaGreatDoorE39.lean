/- Texts joined in build order: OwnerSmall. -/
import Derived.Test.YtkgbgnmmgmnnlaaGreatDoorE21
import Derived.Test.YtkgbgnmmgmnnlaaGreatDoorE16
import Derived.Test.YtkgbgnmmgmnnlaaGreatDoorE11
import Derived.Test.YtkgbgnmmgmnnlaaGreatDoorE06
import Derived.Test.YtkgbgnmmgmnnlaaGreatDoorE05
namespace Go.Proofs.YtkgbgnmmgmnnlaaGreatDoor
open Go.RowKit Go.Maps Go.WideMaps
set_option maxHeartbeats 2000000 in
theorem isForm_any (x : NodeD) (w : World) : Calls Tryz.prog 98 #[nodVal x] w fun e w' => e = .returned (.bool (formC x.core)) ∧ Below w.heap.size w w' := by
  obtain ⟨⟨kind, name, is, data, attrs, parent, kids, host, under, doc⟩, aA, aN, aC, kA, kN, kC⟩ := x
  have HR : Hid (formC ⟨kind, name, is, data, attrs, parent, kids, host, under, doc⟩ = (name.toList == [102, 111, 114, 109])) := Lib.hid rfl
  go_enter Tryz.func98, Tryz.ntmps98
  go_wp2
  go_ret
  exact ⟨ret_bool HR.out.symm, below_box _ _⟩
set_option maxHeartbeats 8000000 in
set_option maxRecDepth 100000 in
theorem nearest_any (a : Option Addr) (len cap : Nat) (m : Int) (L : List NodeD) (k : Nat) (w : World) (h : NodeRow w a len cap L) (hr : rightF m (coreL L) = true) (hk : k < len) :
    Calls Tryz.prog 65 #[.slice a len cap, .int .i64 k] w fun e w' => e = .returned (.int .i64 (nearF (coreL L) k)) ∧ Below w.heap.size w w' := by
  have HCL : Hid ((coreL L).length = len) := Lib.hid (by rw [coreL_len, h.hlen])
  have hlen := h.len64
  have NR := Lib.hid h
  have HRT := Lib.hid hr
  obtain ⟨b, off, x, hab, hb, hx, hat, hok⟩ := h.get hk
  have hxc := coreL_get hx
  obtain ⟨c0, c1, c2, c3, c4, c5, c6, c7, c8, c9⟩ := hat
  have START : ∃ p : Int, x.core.parent = p ∧ Hid (p = -1 ∧ nearF (coreL L) k = -1 ∨ ∃ c : Nat, p = c ∧ c < len ∧ parF (coreL L) k = some c) := by
    by_cases hp : x.core.parent = -1
    · exact ⟨-1, hp, Lib.hid (.inl ⟨rfl, nearF_none (right_top hxc hp)⟩)⟩
    · obtain ⟨p, hpp, hpl, hpar⟩ := right_par hr hxc hp
      exact ⟨p, hpp, Lib.hid (.inr ⟨p, rfl, by rw [← HCL.out]; exact hpl, hpar⟩)⟩
  obtain ⟨p0, hp0, HP0⟩ := START
  rw [hp0] at c5
  subst hab
  clear h hr hxc hx hok hp0 hb
  go_enter Tryz.func65, Tryz.ntmps65
  go_wp2
  clear c0 c1 c2 c3 c4 c5 c6 c7 c8 c9
  go_loopw [5] (fun i wr => ∃ p : Int, i = .int .i64 p ∧ Hid (p = -1 ∧ nearF (coreL L) k = -1 ∨ ∃ c j : Nat, p = c ∧ c < len ∧ j < len ∧ parF (coreL L) j = some c ∧ nearF (coreL L) k = nearF (coreL L) j) ∧ Hid (Below w.heap.size w wr)) (fun i _ => if intOf i = -1 then 0 else rankF (coreL L) (intOf i).toNat + 1)
  case atStart => exact ⟨p0, rfl, Lib.hid (by
    rcases HP0.out with h | ⟨c, h1, h2, h3⟩
    · exact .inl h
    · exact .inr ⟨c, k, h1, h2, hk, h3, rfl⟩), Lib.hid (Below.refl _ _)⟩
  case round =>
    clear HP0
    obtain ⟨p, rfl, HP, HBW⟩ := hrel
    by_cases hp : p = -1
    · subst hp
      have HR : Hid (nearF (coreL L) k = -1) := Lib.hid (by
        rcases HP.out with h | ⟨c, j, h1, _⟩
        · exact h.2
        · omega)
      go_wp2
      go_ret
      exact ⟨ret_int HR.out.symm, HBW.out⟩
    · obtain ⟨c, j, rfl, hc, hj, hpar, hn⟩ : ∃ c j : Nat, p = c ∧ c < len ∧ j < len ∧ parF (coreL L) j = some c ∧ nearF (coreL L) k = nearF (coreL L) j := by
        rcases HP.out with h | h
        · exact absurd h.1 hp
        · exact h
      have HJ : Hid (j < (coreL L).length) := Lib.hid (by rw [HCL.out]; exact hj)
      have HC : Hid (c < (coreL L).length) := Lib.hid (by rw [HCL.out]; exact hc)
      obtain ⟨b2, off2, y, hab, hb2, hy, hat, hok⟩ := (NR.out.below HBW.out).get hc
      have HAT := Lib.hid hat
      have HBL := Lib.hid hb2
      obtain ⟨c0, c1, c2, c3, c4, c5, c6, c7, c8, c9⟩ := hat
      have hyc := coreL_get hy
      injection hab with hab
      injection hab with hab1 hab2
      subst hab1
      subst hab2
      have hne : ((c : Int) != -1) = true := bne_iff_ne.2 (by omega)
      cases hf : formC y.core with
      | true =>
        have FM : Hid (∀ W, Calls Tryz.prog 98 #[nodVal y] W fun e w' => e = .returned (.bool true) ∧ Below W.heap.size W w') := Lib.hid (fun W => by
          have := isForm_any y W
          rwa [hf] at this)
        have HR : Hid (nearF (coreL L) k = c) := Lib.hid (by
          rw [hn]
          exact nearF_form hpar (by rw [formB_at hyc]; exact hf))
        clear hy hyc hok hf hpar hn hb2 HP
        go_wp2_with (go_at_call 98; (refine (FM.out _).mono ?_); rintro e w2 ⟨rfl, hb⟩; have HBW := Lib.hid (HBW.out.trans (hb.mono HBW.out.size)); have HAT := Lib.hid (HAT.out.below HBL.out hb); have HBL := Lib.hid (Nat.lt_of_lt_of_le HBL.out hb.size); clear c0 c1 c2 c3 c4 c5 c6 c7 c8 c9; obtain ⟨c0, c1, c2, c3, c4, c5, c6, c7, c8, c9⟩ := HAT.out; clear hb)
        go_ret
        exact ⟨ret_int HR.out.symm, HBW.out⟩
      | false =>
        have FM : Hid (∀ W, Calls Tryz.prog 98 #[nodVal y] W fun e w' => e = .returned (.bool false) ∧ Below W.heap.size W w') := Lib.hid (fun W => by
          have := isForm_any y W
          rwa [hf] at this)
        have HN : Hid (nearF (coreL L) k = nearF (coreL L) c) := Lib.hid (by
          rw [hn]
          exact nearF_up HRT.out HJ.out hpar (by rw [formB_at hyc]; exact hf))
        have NEXT : ∃ q : Int, y.core.parent = q ∧ Hid ((q = -1 ∧ nearF (coreL L) k = -1 ∨ ∃ d i : Nat, q = d ∧ d < len ∧ i < len ∧ parF (coreL L) i = some d ∧ nearF (coreL L) k = nearF (coreL L) i) ∧ (if q = -1 then 0 else rankF (coreL L) q.toNat + 1) < rankF (coreL L) c + 1) := by
          by_cases hq : y.core.parent = -1
          · exact ⟨-1, hq, Lib.hid ⟨.inl ⟨rfl, by rw [HN.out]; exact nearF_none (right_top hyc hq)⟩, by rw [if_pos rfl]; omega⟩⟩
          · obtain ⟨d, hdd, hdl, hdp⟩ := right_par HRT.out hyc hq
            refine ⟨d, hdd, Lib.hid ⟨.inr ⟨d, c, rfl, by rw [← HCL.out]; exact hdl, hc, hdp, HN.out⟩, ?_⟩⟩
            have := (par_lt HRT.out HC.out hdp).2
            rw [if_neg (by omega), Int.toNat_natCast]
            omega
        obtain ⟨q, hq, HQ⟩ := NEXT
        have HQE := Lib.hid hq
        clear hy hyc hok hf hpar hn hb2 HP hq
        go_wp2_with (go_at_call 98; (refine (FM.out _).mono ?_); rintro e w2 ⟨rfl, hb⟩; have HBW := Lib.hid (HBW.out.trans (hb.mono HBW.out.size)); have HAT := Lib.hid (HAT.out.below HBL.out hb); have HBL := Lib.hid (Nat.lt_of_lt_of_le HBL.out hb.size); clear c0 c1 c2 c3 c4 c5 c6 c7 c8 c9; obtain ⟨c0, c1, c2, c3, c4, c5, c6, c7, c8, c9⟩ := HAT.out; rw [HQE.out] at c5; clear hb)
        go_roundw
        case rel => exact ⟨q, rfl, Lib.hid HQ.out.1, HBW⟩
        case measure =>
          have := HQ.out.2
          have e2 : (if (c : Int) = -1 then 0 else rankF (coreL L) (c : Int).toNat + 1) = rankF (coreL L) c + 1 := by rw [if_neg (by omega), Int.toNat_natCast]
          exact Nat.lt_of_lt_of_eq this e2.symm
theorem makeMap_none (w : World) : (Instr.makeMap 89 none).run Tryz.prog w = .ok (.map (some w.heap.size)) (w.alloc (.map #[] 0)) := by
  simp [Instr.makeMap, newObj, Result.andThen]
  rfl
theorem val_le {W : World} {a : Option Addr} {n c : Nat} {l : AL} (h : AttrRow W a n c l) (s : List UInt8) : (valA l s).size ≤ maxLen := by
  unfold valA
  by_cases e : hasA l s = true
  · rw [if_pos e]
    unfold hasA at e
    simp only [Bool.and_eq_true, decide_eq_true_eq] at e
    rw [List.getElem?_eq_getElem e.2]
    exact (h.small _ (List.getElem_mem _)).2
  · rw [if_neg e]
    show 0 ≤ maxLen
    omega
abbrev natL (t : List Nat) : List Int := t.map Int.ofNat
theorem natL_get {t : List Nat} {k : Nat} {z : Int} (h : (natL t)[k]? = some z) : ∃ i : Nat, t[k]? = some i ∧ z = i := by
  unfold natL at h
  rw [List.getElem?_map] at h
  cases hi : t[k]? with
  | none => rw [hi] at h; cases h
  | some i => rw [hi] at h; exact ⟨i, rfl, (Option.some.inj h).symm⟩
theorem IntRow.stay {W V : World} {a : Option Addr} {len cap : Nat} {l : List Int} (h : IntRow W a len cap l) {r : Option Nat} (hg : W.grownBy V r) (hne : ∀ b o, a = some ⟨b, o, none⟩ → some b ≠ r) : IntRow V a len cap l := by
  refine ⟨⟨h.row.hlen, h.row.hcap, h.row.hmax, h.row.henc, ?_⟩, h.inb, h.hnil⟩
  rcases h.row.cells with h0 | ⟨b, off, ha, hlt, hc⟩
  · exact .inl h0
  · refine .inr ⟨b, off, ha, Nat.lt_of_lt_of_le hlt hg.size, fun i x j v hx hv => ?_⟩
    rw [World.cell?_of_block (w := W) (hg.block b hlt (hne b off ha))]
    exact hc i x j v hx hv
theorem idK : (⟨#[105, 100]⟩ : ByteArray).toList = idT := toList_ofL [105, 100]
theorem formK : (⟨#[102, 111, 114, 109]⟩ : ByteArray).toList = formT := toList_ofL [102, 111, 114, 109]
theorem nil_or (V : ByteArray) : (V = ⟨#[]⟩ ∧ V.toList = []) ∨ (V.toList.isEmpty = false ∧ V.toList ≠ []) := by
  by_cases e : V = ⟨#[]⟩
  · exact .inl ⟨e, by rw [e]; exact toList_ofL []⟩
  · have h : V.toList ≠ [] := fun h => e (toList_inj (h.trans (toList_ofL []).symm))
    exact .inr ⟨by rw [Bool.eq_false_iff]; exact fun h2 => h (List.isEmpty_iff.1 h2), h⟩
set_option maxHeartbeats 8000000 in
set_option maxRecDepth 100000 in
theorem formOf_any (a : Option Addr) (len cap : Nat) (L : List NodeD) (g n : Nat) (D : DataW Unit) (t : List Nat) (v : ByteArray) (w : World) (h : NodeRow w a len cap L) (hm : ownsPl w g n D) (hd : ById (coreL L) t t.length D) (ht : ∀ i ∈ t, i < len) (hv : v.size ≤ maxLen) :
    Calls Tryz.prog 64 #[.slice a len cap, .map (some g), .string v] w fun e w' => e = .returned (.int .i64 (pickF (coreL L) t v.toList)) ∧ Below w.heap.size w w' := by
  have hlen := h.len64
  have HM := Lib.hid hm
  have HV : Hid (v.data.toList = v.toList) := Lib.hid (tl _).symm
  have hkey := Lib.hid (keyS hv)
  have hhas := hd.has v.toList
  rw [List.take_length] at hhas
  by_cases hno : v.toList = []
  · have HH : Hid (Maps.has D (.string v.data.toList) = false) := Lib.hid (by rw [HV.out, hhas, decide_eq_false (fun e => e hno)]; rfl)
    have HR : Hid (pickF (coreL L) t v.toList = -1) := Lib.hid (by unfold pickF; rw [if_pos hno])
    clear h hm hd ht hv hhas hno
    go_enter Tryz.func64, Tryz.ntmps64
    go_wp2_with (at_lookup; refine wpList_lookup_own_ok_int _ rfl _ _ 89 rfl 9 3 .i64 lawS Tryz.underlying89 Tryz.underlying3 (zeroI _) g n D rfl HM.out _ _ rfl hkey.out ?_; intro c hat hwc; simp only [HH.out]; clear hat hwc)
    go_ret
    exact ⟨ret_int HR.out.symm, Below.refl _ _⟩
  rw [decide_eq_true hno, Bool.true_and] at hhas
  cases hf : t.find? (fun i => idF (coreL L) i == v.toList) with
  | none =>
    rw [hf] at hhas
    have HH : Hid (Maps.has D (.string v.data.toList) = false) := Lib.hid (by rw [HV.out, hhas]; rfl)
    have HR : Hid (pickF (coreL L) t v.toList = -1) := Lib.hid (by unfold pickF; rw [if_neg hno, hf])
    clear h hm hd ht hv hhas hno hf
    go_enter Tryz.func64, Tryz.ntmps64
    go_wp2_with (at_lookup; refine wpList_lookup_own_ok_int _ rfl _ _ 89 rfl 9 3 .i64 lawS Tryz.underlying89 Tryz.underlying3 (zeroI _) g n D rfl HM.out _ _ rfl hkey.out ?_; intro c hat hwc; simp only [HH.out]; clear hat hwc)
    go_ret
    exact ⟨ret_int HR.out.symm, Below.refl _ _⟩
  | some i =>
    rw [hf] at hhas
    have HH : Hid (Maps.has D (.string v.data.toList) = true) := Lib.hid (by rw [HV.out, hhas]; rfl)
    have HA : Hid (∀ z, D.atKey (.string v.data.toList) z = .lit (.int .i64 i)) := Lib.hid (fun z => by
      rw [HV.out]
      exact hd.at_ _ i hno (by rw [List.take_length]; exact hf) z)
    have hil := ht i (List.mem_of_find?_eq_some hf)
    obtain ⟨b, off, x, rfl, hb, hx, hat, hok⟩ := h.get hil
    have hxc := coreL_get hx
    obtain ⟨c0, c1, c2, c3, c4, c5, c6, c7, c8, c9⟩ := hat
    cases hq : formC x.core with
    | true =>
      have FM : Hid (∀ W, Calls Tryz.prog 98 #[nodVal x] W fun e w' => e = .returned (.bool true) ∧ Below W.heap.size W w') := Lib.hid (fun W => by
        have := isForm_any x W
        rwa [hq] at this)
      have HR : Hid (pickF (coreL L) t v.toList = i) := Lib.hid (by
        unfold pickF
        rw [if_neg hno, hf]
        dsimp only
        rw [formB_at hxc, hq, if_pos rfl])
      clear h hm hd ht hv hhas hno hf hx hxc hok hq
      go_enter Tryz.func64, Tryz.ntmps64
      go_wp2_with (first
        | (at_lookup; refine wpList_lookup_own_ok_int _ rfl _ _ 89 rfl 9 3 .i64 lawS Tryz.underlying89 Tryz.underlying3 (zeroI _) g n D rfl HM.out _ _ rfl hkey.out ?_; intro c hat hwc; rw [HA.out] at hat; cases hat; simp only [HH.out]; clear hwc)
        | (go_at_call 98; refine (FM.out _).mono ?_; rintro e w2 ⟨rfl, hb2⟩; have HB2 := Lib.hid hb2; clear hb2 c0 c1 c2 c3 c4 c5 c6 c7 c8 c9))
      go_ret
      exact ⟨ret_int HR.out.symm, HB2.out⟩
    | false =>
      have FM : Hid (∀ W, Calls Tryz.prog 98 #[nodVal x] W fun e w' => e = .returned (.bool false) ∧ Below W.heap.size W w') := Lib.hid (fun W => by
        have := isForm_any x W
        rwa [hq] at this)
      have HR : Hid (pickF (coreL L) t v.toList = -1) := Lib.hid (by
        unfold pickF
        rw [if_neg hno, hf]
        dsimp only
        rw [formB_at hxc, hq, if_neg Bool.false_ne_true])
      clear h hm hd ht hv hhas hno hf hx hxc hok hq
      go_enter Tryz.func64, Tryz.ntmps64
      go_wp2_with (first
        | (at_lookup; refine wpList_lookup_own_ok_int _ rfl _ _ 89 rfl 9 3 .i64 lawS Tryz.underlying89 Tryz.underlying3 (zeroI _) g n D rfl HM.out _ _ rfl hkey.out ?_; intro c hat hwc; rw [HA.out] at hat; cases hat; simp only [HH.out]; clear hwc)
        | (go_at_call 98; refine (FM.out _).mono ?_; rintro e w2 ⟨rfl, hb2⟩; have HB2 := Lib.hid hb2; clear hb2 c0 c1 c2 c3 c4 c5 c6 c7 c8 c9))
      go_ret
      exact ⟨ret_int HR.out.symm, HB2.out⟩
set_option maxHeartbeats 8000000 in
set_option maxRecDepth 100000 in
theorem firsts_any (a : Option Addr) (len cap : Nat) (L : List NodeD) (b : Option Addr) (ln cn : Nat) (t : List Nat) (w : World) (h : NodeRow w a len cap L) (hi : IntRow w b ln cn (natL t)) (ht : ∀ i ∈ t, i < len) :
    Calls Tryz.prog 63 #[.slice a len cap, .slice b ln cn] w fun e w' => ∃ g n D, e = .returned (.map (some g)) ∧ w.heap.size ≤ g ∧ ownsPl w' g n D ∧ ById (coreL L) t t.length D ∧ Below w.heap.size w w' := by
  have hmm := makeMap_none
  have hlen := h.len64
  have hln := hi.len64
  have HH := Lib.hid h
  have HI := Lib.hid hi
  have HT := Lib.hid ht
  have HTL : Hid (t.length = ln) := Lib.hid (by rw [← hi.hlen]; simp)
  clear h hi ht
  go_enter Tryz.func63, Tryz.ntmps63
  go_wp2
  go_loopw [15] (fun i wr => ∃ (k n : Nat) (D : DataW Unit), k ≤ ln ∧ n ≤ k ∧ i = .int .i64 k ∧ Hid (Below w.heap.size w wr) ∧ Hid (ownsPl wr w.heap.size n D) ∧ Hid (ById (coreL L) t k D)) (fun i _ => ln - (intOf i).toNat)
  case atStart => exact ⟨0, 0, .map [], Nat.zero_le _, Nat.zero_le _, rfl, Lib.hid ((Below.refl _ _).alloc (Nat.le_refl _) _), Lib.hid (World.ownsMap_made _ _ _ _), Lib.hid (ById.start _ _)⟩
  case round =>
    obtain ⟨k, n, D, hk, hn, rfl, HB, HM, HD⟩ := hrel
    by_cases hlt : k < ln
    · obtain ⟨b2, off2, z, rfl, hb2, hz, hcz, hin⟩ := (HI.out.below HB.out).get hlt
      obtain ⟨i, hti, rfl⟩ := natL_get hz
      have hil := HT.out i (List.mem_of_getElem? hti)
      obtain ⟨b3, off3, x, rfl, hb3, hx, hat, hok⟩ := (HH.out.below HB.out).get hil
      have c4 := hat.c4
      obtain ⟨V, hV⟩ : ∃ V, valA x.core.attrs idT = V := ⟨_, rfl⟩
      obtain ⟨hb, hhb⟩ : ∃ hb, hasA x.core.attrs idT = hb := ⟨_, rfl⟩
      have CG : Hid (Calls Tryz.prog 20 #[.slice x.aA x.aN x.aC, .string ⟨#[105, 100]⟩] wr fun e w' => e = .returned (.tuple #[.string V, .bool hb]) ∧ Below wr.heap.size wr w') := Lib.hid (by
        have := attrget_any x.aA x.aN x.aC x.core.attrs ⟨#[105, 100]⟩ wr hok.attrs (by decide)
        rwa [idK, hV, hhb] at this)
      have hVs : V.size ≤ maxLen := by rw [← hV]; exact val_le hok.attrs _
      have HID : Hid (idF (coreL L) i = V.toList) := Lib.hid (by rw [idF_at (coreL_get hx)]; unfold idC; rw [hV])
      have HVD : Hid (V.data.toList = V.toList) := Lib.hid (tl _).symm
      have hkey := Lib.hid (keyS hVs)
      have HTI := Lib.hid hti
      have HSZ := Lib.hid HB.out.size
      clear hz hx hat hok hV hhb hti hVs hb3 hb2 hin
      rcases nil_or V with ⟨rfl, hV0⟩ | ⟨hV1, hV2⟩
      · have HD2 := Lib.hid (HD.out.skip HTI.out (.inl (by rw [HID.out]; exact hV0)))
        have HHt : Hid (Maps.has D (.string (⟨#[]⟩ : ByteArray).data.toList) = false) := Lib.hid (by
          rw [HVD.out, HD.out.has, hV0, decide_eq_false (fun e => e rfl)]
          rfl)
        clear hV0
        go_wp2_with (first
          | (go_at_call 20; refine CG.out.mono ?_; rintro e w1 ⟨rfl, hb1⟩; have HM1 := Lib.hid (own_belowM HM.out hb1); have HB1 := Lib.hid (HB.out.trans (hb1.mono HSZ.out)); clear hb1 c4 hcz)
          | (at_lookup; refine wpList_lookup_own_ok_int _ rfl _ _ 89 rfl 9 3 .i64 lawS Tryz.underlying89 Tryz.underlying3 (zeroI _) w.heap.size n D rfl HM1.out _ _ rfl hkey.out ?_; intro c hat hwc; simp only [HHt.out]; clear hat hwc))
        go_roundw
        case rel => exact ⟨k + 1, n, D, by omega, by omega, by go_num, HB1, HM1, HD2⟩
        case measure => simp [intOf]; omega
      · cases hh : Maps.has D (.string V.data.toList) with
        | true =>
          have HD2 := Lib.hid (HD.out.skip HTI.out (.inr (by rw [HID.out, ← HVD.out]; exact hh)))
          have HHt := Lib.hid hh
          clear hV2 hh
          go_wp2_with (first
            | (go_at_call 20; refine CG.out.mono ?_; rintro e w1 ⟨rfl, hb1⟩; have HM1 := Lib.hid (own_belowM HM.out hb1); have HB1 := Lib.hid (HB.out.trans (hb1.mono HSZ.out)); clear hb1 c4 hcz)
            | (at_lookup; refine wpList_lookup_own_ok_int _ rfl _ _ 89 rfl 9 3 .i64 lawS Tryz.underlying89 Tryz.underlying3 (zeroI _) w.heap.size n D rfl HM1.out _ _ rfl hkey.out ?_; intro c hat hwc; simp only [HHt.out]; clear hat hwc))
          go_roundw
          case rel => exact ⟨k + 1, n, D, by omega, by omega, by go_num, HB1, HM1, HD2⟩
          case measure => simp [intOf]; omega
        | false =>
          have HD2 : Hid (ById (coreL L) t (k + 1) (D.put (.string V.data.toList) (.lit (.int .i64 i)))) := Lib.hid (by
            have := HD.out.put HTI.out (by rw [HID.out]; exact hV2) (by rw [HID.out, ← HVD.out]; exact hh)
            rwa [HID.out, ← HVD.out] at this)
          have HHt := Lib.hid hh
          clear hV2 hh
          go_wp2_with (first
            | (go_at_call 20; refine CG.out.mono ?_; rintro e w1 ⟨rfl, hb1⟩; have HM1 := Lib.hid (own_belowM HM.out hb1); have HB1 := Lib.hid (HB.out.trans (hb1.mono HSZ.out)); clear hb1 c4 hcz)
            | (at_lookup; refine wpList_lookup_own_ok_int _ rfl _ _ 89 rfl 9 3 .i64 lawS Tryz.underlying89 Tryz.underlying3 (zeroI _) w.heap.size n D rfl HM1.out _ _ rfl hkey.out ?_; intro c hat hwc; simp only [HHt.out]; clear hat hwc)
            | (at_mapUpdate; refine wpList_mapUpdate_own _ rfl _ _ _ 89 rfl 9 3 lawS Tryz.underlying89 _ w.heap.size n _ rfl HM1.out (by unfold maxLen; omega) _ _ _ rfl rfl hkey.out _ [] (plainElem_int Tryz.underlying3 (WalkArith.wf_i64 (by omega))) ?_; intro w2 hown2 hgrow2; have HM2 := Lib.hid hown2; have HG2 := Lib.hid hgrow2; clear hown2 hgrow2))
          go_roundw
          case rel => exact ⟨k + 1, n + 1, _, by omega, by omega, by go_num, Lib.hid (HB1.out.grown HG2.out HB1.out.size (fun j hj => by injection hj with hj; omega)), HM2, HD2⟩
          case measure => simp [intOf]; omega
    · have HD2 : Hid (ById (coreL L) t t.length D) := Lib.hid (by rw [HTL.out, show ln = k by omega]; exact HD.out)
      go_wp2
      go_ret
      exact ⟨_, n, D, rfl, Nat.le_refl _, HM.out, HD2.out, HB.out⟩
end Go.Proofs.YtkgbgnmmgmnnlaaGreatDoor
