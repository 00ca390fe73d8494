/- Texts joined in build order: OwnerFn. -/
import Derived.Test.YtkgbgnmmgmnnlaaGreatDoorE39
import Derived.Test.YtkgbgnmmgmnnlaaGreatDoorE20
import Derived.Test.YtkgbgnmmgmnnlaaGreatDoorE21
import Derived.Deep.RegionHeld3
import Derived.Deep.DeepCutAuto
namespace Go.Proofs.YtkgbgnmmgmnnlaaGreatDoor
open Go.RowKit Go.Maps Go.WideMaps
theorem top13 {m : Int} {L : List NodeD} (h : rightF m (coreL L) = true) {n : Nat} (hn : n < L.length) : ∃ (t : Nat) (x : NodeD), topF (coreL L) n = t ∧ L[t]? = some x ∧ linkF (coreL L) n = (x.core.kind == 0) := by
  have ht := topF_lt h (show n < (coreL L).length by rw [coreL_len]; exact hn)
  rw [coreL_len] at ht
  refine ⟨_, L[topF (coreL L) n], rfl, List.getElem?_eq_getElem ht, ?_⟩
  unfold linkF kindK
  rw [getC_nat, coreL_get (List.getElem?_eq_getElem ht)]
theorem grown_set13 {w W : World} {g : Nat} (h : w.grownBy W (some g)) (o : Nat) (u : Value) : w.grownBy (W.setCell ⟨g, o, none⟩ u) (some g) :=
  ⟨h.os, h.tape, h.output, by simpa [World.setCell] using h.size, fun k hk hne => (Below.heap_setCell _ _ _ k (fun e => hne (by rw [e]))).trans (h.block k hk hne)⟩
structure OwnAt (F : List Core) (w0 w3 W : World) (g len : Nat) (V0 : List Int) (t : List Nat) (k : Nat) (V : List Int) : Prop where
  below : Below w0.heap.size w0 W
  grown : w3.grownBy W (some g)
  row : ORow encI W g V
  hl : V.length = len
  at_ : ∀ i : Nat, V[i]? = if i ∈ t.take k then some (ownF F i) else V0[i]?
section
variable {F : List Core} {w0 w3 W X : World} {g len k : Nat} {V0 V : List Int} {t : List Nat}
theorem OwnAt.keep (h : OwnAt F w0 w3 W g len V0 t k V) (hb : Below W.heap.size W X) : OwnAt F w0 w3 X g len V0 t k V :=
  ⟨h.below.trans (hb.mono h.below.size), grown_then h.grown hb, h.row.keep hb, h.hl, h.at_⟩
theorem OwnAt.step (h : OwnAt F w0 w3 W g len V0 t k V) (hg : w0.heap.size ≤ g) {i : Nat} (hi : t[k]? = some i) (hil : i < len) {z : Int} (hz : ownF F i = z) : OwnAt F w0 w3 (W.setCell ⟨g, i, none⟩ (.int .i64 z)) g len V0 t (k + 1) (V.set i z) := by
  refine ⟨h.below.setCell (p := ⟨g, i, none⟩) hg _, grown_set13 h.grown _ _, h.row.set (by rw [h.hl]; exact hil) z, by rw [List.length_set]; exact h.hl, fun j => ?_⟩
  have hm : ∀ x, x ∈ t.take (k + 1) ↔ x ∈ t.take k ∨ x = i := fun x => by
    rw [List.take_add_one, hi]
    simp
  by_cases e : i = j
  · subst e
    rw [List.getElem?_set_self (by rw [h.hl]; exact hil), if_pos ((hm i).2 (.inr rfl)), hz]
  · rw [List.getElem?_set_ne e, h.at_ j]
    by_cases hj : j ∈ t.take k
    · rw [if_pos hj, if_pos ((hm j).2 (.inl hj))]
    · rw [if_neg hj, if_neg (fun h2 => by rcases (hm j).1 h2 with h2 | h2; exact hj h2; exact e h2.symm)]
end
def OwnedBy (F : List Core) (w0 w : World) (g len : Nat) (V0 : List Int) (t : List Nat) (e : Ending) (w' : World) : Prop :=
  e = .returned (.tuple #[]) ∧ ∃ V, OwnAt F w0 w w' g len V0 t t.length V
theorem ordI_nat (F : List Core) (r : Nat) : ordI F (r : Int) = natL (ordF F r) := by unfold ordI natL; rw [Int.toNat_natCast]
set_option maxHeartbeats 8000000 in
set_option maxRecDepth 100000 in
theorem own_any (a : Option Addr) (len cap : Nat) (m : Int) (L : List NodeD) (r g : Nat) (V0 : List Int) (w0 w : World) (h : NodeRow w0 a len cap L) (hs : smallF L) (hr : rightF m (coreL L) = true) (hrl : r < len) (hp : parF (coreL L) r = none)
    (hb : Below w0.heap.size w0 w) (hg : w0.heap.size ≤ g) (hv : ORow encI w g V0) (hvl : V0.length = len) :
    Calls Tryz.prog 32 #[.slice a len cap, .int .i64 r, .slice (some ⟨g, 0, none⟩) len len] w (OwnedBy (coreL L) w0 w g len V0 (ordF (coreL L) r)) := by
  have hlen := h.len64
  have HCL : Hid ((coreL L).length = len) := Lib.hid (by rw [coreL_len, h.hlen])
  have HB := Lib.hid hb
  have HG := Lib.hid hg
  have NR : Hid (∀ W, Below w0.heap.size w0 W → NodeRow W a len cap L) := Lib.hid (fun W hb => h.below hb)
  have hrc : r < (coreL L).length := by rw [HCL.out]; exact hrl
  obtain ⟨T, x, hT, hx, hcn⟩ := top13 hr (show r < L.length by rw [h.hlen]; exact hrl)
  have hTl : T < len := by rw [← h.hlen]; exact (List.getElem?_eq_some_iff.1 hx).1
  obtain ⟨b, off, x', rfl, hbl, hx', hat, -⟩ := (h.below hb).get hTl
  obtain rfl : x = x' := Option.some.inj (hx.symm.trans hx')
  have c0 := hat.c0
  have SV : w.cell? ⟨b, off + T * 10, none⟩ = some (.int .i64 x.core.kind) ∧ Below w.heap.size w w := ⟨c0, Below.refl _ _⟩
  have CT : Hid (∀ W, Below w.heap.size w W → Calls Tryz.prog 34 #[.slice (some ⟨b, off, none⟩) len cap, .int .i64 r] W (OrdNew W (natL (ordF (coreL L) r)))) := Lib.hid (fun W hb2 => by
    rw [← ordI_nat]
    exact wtree_any _ len cap m L r W (h.below (hb.trans (hb2.mono hb.size))) hs hr hrl)
  have CP : Hid (∀ W, Below w.heap.size w W → Calls Tryz.prog 62 #[.slice (some ⟨b, off, none⟩) len cap, .int .i64 r] W fun e w' => e = .returned (.int .i64 T) ∧ Below W.heap.size W w') := Lib.hid (fun W hb2 => by
    have := wtop_any _ len cap m L r W (h.below (hb.trans (hb2.mono hb.size))) hr hrl
    rwa [hT] at this)
  have LT : Hid (b < w.heap.size) := Lib.hid hbl
  have HT : Hid (∀ i ∈ ordF (coreL L) r, i < len ∧ linkF (coreL L) i = (x.core.kind == 0) ∧ rootF (coreL L) i = r) := Lib.hid (fun i hi => by
    have h1 := root_self hr hrc hp hi
    exact ⟨by rw [← HCL.out]; exact h1.1, by rw [link_root hr hrc hi, hcn], h1.2⟩)
  have HRT := Lib.hid hr
  have HV := Lib.hid hv
  have HVL := Lib.hid hvl
  obtain ⟨t, ht⟩ : ∃ t, ordF (coreL L) r = t := ⟨_, rfl⟩
  have HTE := Lib.hid ht
  rw [ht] at HT CT ⊢
  clear h hs hr hb hv hvl hrc hT hx hcn hx' hat hbl hp c0 ht
  go_enter Tryz.func32, Tryz.ntmps32
  go_upto_region 0 with fail
  go_cut [6, 7] (fun tr cn wx => True ∧ ∃ ta tl tc, tr = .slice ta tl tc ∧ cn = .bool (x.core.kind == 0) ∧ Hid (IntRow wx ta tl tc (natL t)) ∧ Hid (Below w.heap.size w wx) ∧ Hid (∀ b o, ta = some ⟨b, o, none⟩ → w.heap.size ≤ b))
  case first =>
    go_region_held3 (fun w' => w'.cell? ⟨b, off + T * 10, none⟩ = some (.int .i64 x.core.kind) ∧ Below w.heap.size w w')
      (with_reducible first | (refine keep1 LT.out SV ?_; first | exact HWX.out | exact HWX.out.drew | exact (Below.refl _ _).drew) | assumption)
      (first | (first
                   | (go_at_call 34; ((with_reducible refine (CT.out _ (kept1 ‹_ ∧ Below _ _ _›)).mono ?_); rintro e w1 ⟨ta, tl, tc, rfl, hti, hb, hnew⟩; have HW1 := Lib.hid ((kept1 ‹_ ∧ Below _ _ _›).trans (hb.mono (kept1 ‹_ ∧ Below _ _ _›).size)); have HWX := HW1; have IR := Lib.hid hti; have HNEW := Lib.hid (fun b o h => Nat.le_trans (kept1 ‹_ ∧ Below _ _ _›).size (hnew b o h)); clear hti hb hnew))
                   | (go_at_call 62; ((with_reducible refine (CP.out _ (kept1 ‹_ ∧ Below _ _ _›)).mono ?_); rintro e w2 ⟨rfl, hb⟩; have HW2 := Lib.hid ((kept1 ‹_ ∧ Below _ _ _›).trans (hb.mono (kept1 ‹_ ∧ Below _ _ _›).size)); have HWX := HW2; (first | (have IR := Lib.hid (IR.out.below hb)) | (have IR := Lib.hid ((IR.out.drewN 1).below hb)) | skip); clear hb))))
    all_goals
      go_wp2_with fail
      go_meet
      first
        | exact ⟨trivial, _, _, _, rfl, rfl, IR, HWX, HNEW⟩
        | exact ⟨trivial, _, _, _, rfl, rfl, Lib.hid (IR.out.drewN 1), Lib.hid HWX.out.drew, HNEW⟩
  case rest =>
    obtain ⟨-, ta, tl, tc, rfl, rfl, IR, HWX, HNEW⟩ := hcut
    clear SV CT CP
    have HB1 := Lib.hid (HB.out.trans (HWX.out.mono HB.out.size))
    have HTL : Hid (t.length = tl) := Lib.hid (by have := IR.out.hlen; unfold natL at this; rwa [List.length_map] at this)
    have htl64 := IR.out.len64
    have CF : Hid (∀ W, Below w0.heap.size w0 W → IntRow W ta tl tc (natL t) → Calls Tryz.prog 63 #[.slice (some ⟨b, off, none⟩) len cap, .slice ta tl tc] W fun e w' => ∃ g n D, e = .returned (.map (some g)) ∧ W.heap.size ≤ g ∧ ownsPl w' g n D ∧ ById (coreL L) t t.length D ∧ Below W.heap.size W w') := Lib.hid (fun W hb hi => firsts_any _ len cap L ta tl tc t W (NR.out W hb) hi (fun i hi => (HT.out i hi).1))
    go_upto_region 2 with (go_at_call 63; (with_reducible refine (CF.out _ HB1.out IR.out).mono ?_); rintro e w3 ⟨mg, mn, D, rfl, hmg, hmo, hmd, hb3⟩; have HMG := Lib.hid hmg; have HMO := Lib.hid hmo; have HMD := Lib.hid hmd; have HB3 := Lib.hid hb3; clear hmg hmo hmd hb3)
    have IR3 := Lib.hid (IR.out.below HB3.out)
    have HGL := HV.out.lt
    have HNE : Hid (∀ b o, ta = some ⟨b, o, none⟩ → some b ≠ some g) := Lib.hid (fun b o h e => by have := HNEW.out b o h; injection e with e; omega)
    have HMNE : Hid (some mg ≠ some g) := Lib.hid (fun e => by have := HMG.out; have := HWX.out.size; injection e with e; omega)
    have OW0 : Hid (OwnAt (coreL L) w0 w w3 g len V0 t 0 V0) := Lib.hid (by
      have hb := HWX.out.trans (HB3.out.mono HWX.out.size)
      exact ⟨HB.out.trans (hb.mono HB.out.size), grown_by hb _, HV.out.keep hb, HVL.out, fun i => by rw [List.take_zero, if_neg (by simp)]⟩)
    have HMX : Hid (∀ W, w3.grownBy W (some g) → IntRow W ta tl tc (natL t) ∧ ownsPl W mg mn D) := Lib.hid (fun W h => ⟨IR3.out.stay h HNE.out, HMO.out.kept h HMNE.out⟩)
    have G3 : Hid (w3.grownBy w3 (some g)) := Lib.hid (grown_refl _ _)
    clear CF IR3 IR HMO HNE HMNE HV HWX HB1 HB3 HNEW
    go_wp2
    go_loopw [29] (fun i wr => ∃ (k : Nat) (V : List Int), k ≤ tl ∧ i = .int .i64 k ∧ Hid (OwnAt (coreL L) w0 w wr g len V0 t k V) ∧ Hid (w3.grownBy wr (some g))) (fun i _ => tl - (intOf i).toNat)
    case atStart => exact ⟨0, _, Nat.zero_le _, rfl, OW0, G3⟩
    case round =>
      clear OW0 G3
      obtain ⟨k, V, hk, rfl, OW, GW⟩ := hrel
      by_cases hlt : k < tl
      · obtain ⟨b2, off2, z, rfl, hb2, hz, hcz, hin⟩ := (HMX.out wr GW.out).1.get hlt
        obtain ⟨i, hti, rfl⟩ := natL_get hz
        have hil := (HT.out i (List.mem_of_getElem? hti)).1
        have HLK := Lib.hid (HT.out i (List.mem_of_getElem? hti)).2
        obtain ⟨b3, off3, y, hab, hb3, hy, hat, hok⟩ := (NR.out wr OW.out.below).get hil
        injection hab with hab
        injection hab with hab1 hab2
        subst hab1
        subst hab2
        have c4 := hat.c4
        have c0 := hat.c0
        have HYC := Lib.hid (coreL_get hy)
        have HTI := Lib.hid hti
        obtain ⟨v0, hv0⟩ : ∃ v0, V[i]? = some v0 := ⟨_, List.getElem?_eq_getElem (by rw [OW.out.hl]; exact hil)⟩
        obtain ⟨VV, hVV⟩ : ∃ VV, valA y.core.attrs formT = VV := ⟨_, rfl⟩
        obtain ⟨hh, hhh⟩ : ∃ hh, hasA y.core.attrs formT = hh := ⟨_, rfl⟩
        have HVV := Lib.hid hVV
        have HHH := Lib.hid hhh
        have hVs : VV.size ≤ maxLen := by rw [← hVV]; exact val_le hok.attrs _
        have HC0 := Lib.hid hv0
        have CG : Hid (Calls Tryz.prog 20 #[.slice y.aA y.aN y.aC, .string ⟨#[102, 111, 114, 109]⟩] wr fun e w' => e = .returned (.tuple #[.string VV, .bool hh]) ∧ Below wr.heap.size wr w') := Lib.hid (by
          have := attrget_any y.aA y.aN y.aC y.core.attrs ⟨#[102, 111, 114, 109]⟩ wr hok.attrs (by decide)
          rwa [formK, hVV, hhh] at this)
        have HBL := Lib.hid hb3
        have HVS := Lib.hid hVs
        clear hz hat hy hok hVV hhh hti hVs hb3 hb2 hin hv0
        by_cases hkd : y.core.kind = 1
        · rw [hkd] at c0
          cases hcn : (x.core.kind == 0) with
          | true =>
            cases hh with
            | true =>
              have HZ : Hid (ownF (coreL L) i = pickF (coreL L) t VV.toList) := Lib.hid (by
                rw [ownF_at HYC.out]
                unfold ownC asksC wantC
                rw [if_pos hkd, HHH.out, HLK.out.1, hcn, HLK.out.2, HTE.out, HVV.out]
                rfl)
              have CO : Hid (∀ W, Below wr.heap.size wr W → Calls Tryz.prog 64 #[.slice (some ⟨b, off, none⟩) len cap, .map (some mg), .string VV] W fun e w' => e = .returned (.int .i64 (ownF (coreL L) i)) ∧ Below W.heap.size W w') := Lib.hid (fun W hb => by
                rw [HZ.out]
                exact formOf_any _ len cap L mg mn D t VV W (NR.out W (OW.out.below.trans (hb.mono OW.out.below.size))) (HMX.out W (grown_then GW.out hb)).2 HMD.out (fun i hi => (HT.out i hi).1) HVS.out)
              obtain ⟨Z, hZ⟩ : ∃ Z, ownF (coreL L) i = Z := ⟨_, rfl⟩
              have HZE := Lib.hid hZ
              rw [hZ] at CO
              clear HZ hZ hkd hcn HC0
              go_wp2_with (first
                | (go_at_call 20; (refine CG.out.mono ?_); rintro e w4 ⟨rfl, hb⟩; have OW4 := Lib.hid (OW.out.keep hb); have GW4 := Lib.hid (grown_then GW.out hb); have HB4 := Lib.hid hb; clear c4 hcz; have c0 := (hb.cell (p := ⟨b, off + i * 10, none⟩) HBL.out).trans c0; clear hb)
                | (go_at_call 64; (with_reducible refine (CO.out _ HB4.out).mono ?_); rintro e w5 ⟨rfl, hb⟩; have OW5 := Lib.hid (OW4.out.keep hb); have GW5 := Lib.hid (grown_then GW4.out hb); clear hb c0; obtain ⟨v0, hv0⟩ : ∃ v0, V[i]? = some v0 := ⟨_, List.getElem?_eq_getElem (by rw [OW5.out.hl]; exact hil)⟩; have hTc := OW5.out.row.cell i _ hv0; have hTf := OW5.out.row.free i; unfold encI at hTc; clear hv0))
              go_roundw
              case rel => exact ⟨k + 1, V.set i Z, by omega, by go_num, Lib.hid (OW5.out.step HG.out HTI.out hil HZE.out), Lib.hid (grown_set13 GW5.out _ _)⟩
              case measure => simp [intOf]; omega
            | false =>
              have HZ : Hid (ownF (coreL L) i = nearF (coreL L) i) := Lib.hid (by
                rw [ownF_at HYC.out]
                unfold ownC asksC
                rw [if_pos hkd, HHH.out]
                rfl)
              have CO : Hid (∀ W, Below wr.heap.size wr W → Calls Tryz.prog 65 #[.slice (some ⟨b, off, none⟩) len cap, .int .i64 i] W fun e w' => e = .returned (.int .i64 (ownF (coreL L) i)) ∧ Below W.heap.size W w') := Lib.hid (fun W hb => by
                rw [HZ.out]
                exact nearest_any _ len cap m L i W (NR.out W (OW.out.below.trans (hb.mono OW.out.below.size))) HRT.out hil)
              obtain ⟨Z, hZ⟩ : ∃ Z, ownF (coreL L) i = Z := ⟨_, rfl⟩
              have HZE := Lib.hid hZ
              rw [hZ] at CO
              clear HZ hZ hkd hcn HC0
              go_wp2_with (first
                | (go_at_call 20; (refine CG.out.mono ?_); rintro e w4 ⟨rfl, hb⟩; have OW4 := Lib.hid (OW.out.keep hb); have GW4 := Lib.hid (grown_then GW.out hb); have HB4 := Lib.hid hb; clear c4 hcz; have c0 := (hb.cell (p := ⟨b, off + i * 10, none⟩) HBL.out).trans c0; clear hb)
                | (go_at_call 65; (with_reducible refine (CO.out _ HB4.out).mono ?_); rintro e w5 ⟨rfl, hb⟩; have OW5 := Lib.hid (OW4.out.keep hb); have GW5 := Lib.hid (grown_then GW4.out hb); clear hb c0; obtain ⟨v0, hv0⟩ : ∃ v0, V[i]? = some v0 := ⟨_, List.getElem?_eq_getElem (by rw [OW5.out.hl]; exact hil)⟩; have hTc := OW5.out.row.cell i _ hv0; have hTf := OW5.out.row.free i; unfold encI at hTc; clear hv0))
              go_roundw
              case rel => exact ⟨k + 1, V.set i Z, by omega, by go_num, Lib.hid (OW5.out.step HG.out HTI.out hil HZE.out), Lib.hid (grown_set13 GW5.out _ _)⟩
              case measure => simp [intOf]; omega
          | false =>
            have HZ : Hid (ownF (coreL L) i = nearF (coreL L) i) := Lib.hid (by
              rw [ownF_at HYC.out]
              unfold ownC
              rw [if_pos hkd, HLK.out.1, hcn, Bool.and_false]
              rfl)
            have CO : Hid (∀ W, Below wr.heap.size wr W → Calls Tryz.prog 65 #[.slice (some ⟨b, off, none⟩) len cap, .int .i64 i] W fun e w' => e = .returned (.int .i64 (ownF (coreL L) i)) ∧ Below W.heap.size W w') := Lib.hid (fun W hb => by
              rw [HZ.out]
              exact nearest_any _ len cap m L i W (NR.out W (OW.out.below.trans (hb.mono OW.out.below.size))) HRT.out hil)
            obtain ⟨Z, hZ⟩ : ∃ Z, ownF (coreL L) i = Z := ⟨_, rfl⟩
            have HZE := Lib.hid hZ
            rw [hZ] at CO
            clear HZ hZ hkd hcn HC0
            cases hh
            all_goals
              go_wp2_with (first
                | (go_at_call 20; (refine CG.out.mono ?_); rintro e w4 ⟨rfl, hb⟩; have OW4 := Lib.hid (OW.out.keep hb); have GW4 := Lib.hid (grown_then GW.out hb); have HB4 := Lib.hid hb; clear c4 hcz; have c0 := (hb.cell (p := ⟨b, off + i * 10, none⟩) HBL.out).trans c0; clear hb)
                | (go_at_call 65; (with_reducible refine (CO.out _ HB4.out).mono ?_); rintro e w5 ⟨rfl, hb⟩; have OW5 := Lib.hid (OW4.out.keep hb); have GW5 := Lib.hid (grown_then GW4.out hb); clear hb c0; obtain ⟨v0, hv0⟩ : ∃ v0, V[i]? = some v0 := ⟨_, List.getElem?_eq_getElem (by rw [OW5.out.hl]; exact hil)⟩; have hTc := OW5.out.row.cell i _ hv0; have hTf := OW5.out.row.free i; unfold encI at hTc; clear hv0))
              go_roundw
              case rel => exact ⟨k + 1, V.set i Z, by omega, by go_num, Lib.hid (OW5.out.step HG.out HTI.out hil HZE.out), Lib.hid (grown_set13 GW5.out _ _)⟩
              case measure => simp [intOf]; omega
        · have hk1 : (y.core.kind != 1) = true := bne_iff_ne.2 hkd
          have HZ : Hid (ownF (coreL L) i = -1) := Lib.hid (by
            rw [ownF_at HYC.out]
            unfold ownC
            rw [if_neg hkd])
          clear hkd HC0
          go_wp2_with (first
            | (go_at_call 20; (refine CG.out.mono ?_); rintro e w4 ⟨rfl, hb⟩; have OW4 := Lib.hid (OW.out.keep hb); have GW4 := Lib.hid (grown_then GW.out hb); clear c4 hcz; have c0 := (hb.cell (p := ⟨b, off + i * 10, none⟩) HBL.out).trans c0; clear hb; obtain ⟨v0, hv0⟩ : ∃ v0, V[i]? = some v0 := ⟨_, List.getElem?_eq_getElem (by rw [OW4.out.hl]; exact hil)⟩; have hTc := OW4.out.row.cell i _ hv0; have hTf := OW4.out.row.free i; unfold encI at hTc; clear hv0))
          go_roundw
          case rel => exact ⟨k + 1, V.set i (-1), by omega, by go_num, Lib.hid (OW4.out.step HG.out HTI.out hil HZ.out), Lib.hid (grown_set13 GW4.out _ _)⟩
          case measure => simp [intOf]; omega
      · have HE : Hid (OwnAt (coreL L) w0 w wr g len V0 t t.length V) := Lib.hid (by rw [HTL.out, show tl = k by omega]; exact OW.out)
        go_wp2
        go_end0
        exact ⟨rfl, V, HE.out⟩
end Go.Proofs.YtkgbgnmmgmnnlaaGreatDoor
