/- Texts joined in build order: AbleShut. -/
import Derived.Test.YtnjoimedilonnaaGreatC41
import Derived.Test.YtnjoimedilonnaaGreatC27
namespace Go.Proofs.YtnjoimedilonnaaGreat
open Go.RowKit
theorem grown_next {w V W : World} {r : Option Nat} (hb : Below w.heap.size w V) (h : V.grownBy W r) : w.grownBy W r :=
  ⟨h.os.trans hb.os, h.tape.trans hb.tape, h.output.trans hb.output, Nat.le_trans hb.size h.size, fun k hk hne => (h.block k (Nat.lt_of_lt_of_le hk hb.size) hne).trans (hb.block k hk)⟩
theorem ShutAt.from {F : List Core} {w0 w w1 W : World} {g len : Nat} {S0 S : List Bool} {D : Nat → Bool} (h : ShutAt F w0 w1 W g len S0 D S) (hb : Below w.heap.size w w1) : ShutAt F w0 w W g len S0 D S :=
  ⟨h.below, grown_next hb h.grown, h.row, h.hl, h.at_⟩
def kidD (F : List Core) (t : List Nat) (k : Nat) (K : List Int) (j : Nat) (i : Nat) : Bool := parIn F (t.take k) i || decide ((i : Int) ∈ K.take j)
theorem kidD_zero (F : List Core) (t : List Nat) (k : Nat) (K : List Int) (i : Nat) : kidD F t k K 0 i = parIn F (t.take k) i := by
  unfold kidD
  simp
theorem kidD_step {F : List Core} {t : List Nat} {k : Nat} {K : List Int} {j : Nat} {i : Nat} (h : K[j]? = some (i : Int)) (x : Nat) : kidD F t k K (j + 1) x = (kidD F t k K j x || decide (x = i)) := by
  unfold kidD
  rw [List.take_add_one, h, Bool.or_assoc]
  congr 1
  rw [Bool.eq_iff_iff, Bool.or_eq_true, decide_eq_true_eq, decide_eq_true_eq, decide_eq_true_eq, List.mem_append]
  simp only [Option.toList, List.mem_singleton]
  constructor
  · rintro (h | h)
    · exact .inl h
    · exact .inr (by omega)
  · rintro (h | h)
    · exact .inl h
    · exact .inr (by omega)
theorem kidD_all {m : Int} {F : List Core} (hr : rightF m F = true) {t : List Nat} {k n : Nat} {x : Core} (hx : F[n]? = some x) (hk : t[k]? = some n) {i : Nat} (hi : i < F.length) : kidD F t k x.kids x.kids.length i = parIn F (t.take (k + 1)) i := by
  unfold kidD
  rw [parIn_step hk, List.take_length]
  congr 1
  rw [Bool.eq_iff_iff, decide_eq_true_eq, decide_eq_true_eq]
  exact kid_in hr hx hi
set_option maxHeartbeats 8000000 in
set_option maxRecDepth 100000 in
theorem shutIn_any (a : Option Addr) (len cap : Nat) (m : Int) (L : List NodeD) (r g : Nat) (S0 : List Bool) (w0 w : World) (h : NodeRow w0 a len cap L) (hs : smallF L) (hr : rightF m (coreL L) = true) (hrl : r < len) (hp : parF (coreL L) r = none)
    (hb : Below w0.heap.size w0 w) (hg : w0.heap.size ≤ g) (hv : ORow encT w g S0) (hvl : S0.length = len) (h0 : S0[r]? = some false) :
    Calls Tryz.prog 15 #[.slice a len cap, .int .i64 r, .slice (some ⟨g, 0, none⟩) len len] w (ShutBy (coreL L) w0 w g len S0 (ordF (coreL L) r)) := by
  have hlen := h.len64
  have HCL : Hid ((coreL L).length = len) := Lib.hid (by rw [coreL_len, h.hlen])
  have HB := Lib.hid hb
  have HG := Lib.hid hg
  have NR : Hid (∀ W, Below w0.heap.size w0 W → NodeRow W a len cap L) := Lib.hid (fun W hb => h.below hb)
  have hrc : r < (coreL L).length := by rw [HCL.out]; exact hrl
  have CT : Hid (Calls Tryz.prog 28 #[.slice a len cap, .int .i64 r] w (OrdNew w (natL (ordF (coreL L) r)))) := Lib.hid (by
    rw [← ordI_nat]
    exact wtree_any _ len cap m L r w (h.below hb) hs hr hrl)
  have HT : Hid (∀ i ∈ ordF (coreL L) r, i < len) := Lib.hid (fun i hi => by rw [← HCL.out]; exact ordF_lt hr hrc i hi)
  have HTA : Hid (∀ (k n : Nat), (ordF (coreL L) r)[k]? = some n → parIn (coreL L) ((ordF (coreL L) r).take k) n = true ∨ S0[n]? = some (shutB (coreL L) n)) := Lib.hid (fun k n hk => by
    rcases tree_ahead hr hrc hk with e | e
    · subst e
      exact .inr (by rw [shut_top hr hrc hp]; exact h0)
    · exact .inl e)
  have HRT := Lib.hid hr
  have HV := Lib.hid hv
  have HVL := Lib.hid hvl
  obtain ⟨t, ht⟩ : ∃ t, ordF (coreL L) r = t := ⟨_, rfl⟩
  rw [ht] at HT CT HTA ⊢
  clear h hs hr hb hv hvl hrc hp ht h0
  go_enter Tryz.func15, Tryz.ntmps15
  go_wp2_with (go_at_call 28; ((with_reducible refine CT.out.mono ?_); rintro e w1 ⟨ta, tl, tc, rfl, hti, hb, hnew⟩; have HW1 := Lib.hid hb; have IR := Lib.hid hti; have HNEW := Lib.hid hnew; have htl64 := hti.len64; clear hti hb hnew))
  have HTL : Hid (t.length = tl) := Lib.hid (by have := IR.out.hlen; unfold natL at this; rwa [List.length_map] at this)
  have HGL := HV.out.lt
  have HNE : Hid (∀ b o, ta = some ⟨b, o, none⟩ → some b ≠ some g) := Lib.hid (fun b o h e => by have := HNEW.out b o h; injection e with e; omega)
  have HIR : Hid (∀ W, w1.grownBy W (some g) → IntRow W ta tl tc (natL t)) := Lib.hid (fun W h => IR.out.stay h HNE.out)
  have OW0 : Hid (ShutAt (coreL L) w0 w1 w1 g len S0 (parIn (coreL L) (t.take 0)) S0) := Lib.hid
    ⟨HB.out.trans (HW1.out.mono HB.out.size), grown_refl _ _, HV.out.keep HW1.out, HVL.out, fun i _ => by rw [List.take_zero, parIn_nil, if_neg Bool.false_ne_true]⟩
  have G0 : Hid (w1.grownBy w1 (some g)) := Lib.hid (grown_refl _ _)
  clear CT IR HNE HNEW HV
  go_loopw [16] (fun i wr => ∃ (k : Nat) (S : List Bool), k ≤ tl ∧ i = .int .i64 k ∧ Hid (ShutAt (coreL L) w0 w1 wr g len S0 (parIn (coreL L) (t.take k)) S) ∧ Hid (w1.grownBy wr (some g))) (fun i _ => tl - (intOf i).toNat)
  case atStart => exact ⟨0, _, Nat.zero_le _, rfl, OW0, G0⟩
  case round =>
    clear OW0 G0
    obtain ⟨k, S, hk, rfl, OW, GW⟩ := hrel
    by_cases hlt : k < tl
    · obtain ⟨b2, off2, z, rfl, hb2, hz, hcz, -⟩ := (HIR.out wr GW.out).get hlt
      obtain ⟨n, htn, rfl⟩ := natL_get hz
      have hnl := HT.out n (List.mem_of_getElem? htn)
      have VAL := Lib.hid (HTA.out k n htn)
      obtain ⟨b, off, y, hab, hbl, hy, hat, hok⟩ := (NR.out wr OW.out.below).get hnl
      subst hab
      have HBL := Lib.hid hbl
      have HYC := Lib.hid (coreL_get hy)
      have HTI := Lib.hid htn
      have HKL := Lib.hid hok.kids.hlen
      have hkn := hok.kids.len64
      have HKR : Hid (∀ W, Below w0.heap.size w0 W → IntRow W y.kA y.kN y.kC y.core.kids) := Lib.hid (fun W hb => by
        obtain ⟨b', off', y', -, -, hy', -, hok'⟩ := (NR.out W hb).get hnl
        obtain rfl : y = y' := Option.some.inj (hy.symm.trans hy')
        exact hok'.kids)
      have HAT := Lib.hid hat
      obtain ⟨c0, c1, c2, c3, c4, c5, c6, c7, c8, c9⟩ := hat
      obtain ⟨lg, hlg⟩ : ∃ lg, legF (coreL L) n = lg := ⟨_, rfl⟩
      obtain ⟨bs, hbs⟩ : ∃ bs, (fsetB (coreL L) n && disB (coreL L) n) = bs := ⟨_, rfl⟩
      have CE : Hid (∀ W, Below wr.heap.size wr W → Calls Tryz.prog 19 #[.slice (some ⟨b, off, none⟩) len cap, .int .i64 n] W fun e w' => e = .returned (.int .i64 lg) ∧ Below W.heap.size W w') := Lib.hid (fun W hb => by
        rw [← hlg]
        exact legendOf_any _ len cap m L n W (NR.out W (OW.out.below.trans (hb.mono OW.out.below.size))) HRT.out hnl)
      have CD : Hid (∀ W, Below wr.heap.size wr W → Calls Tryz.prog 16 #[nodVal y] W fun e w' => e = .returned (.bool (disB (coreL L) n)) ∧ Below W.heap.size W w') := Lib.hid (fun W hb => by
        rw [disB_at HYC.out]
        exact disabled_any y W (hok.below hb))
      have KID : Hid (∀ z ∈ y.core.kids, ∃ i : Nat, z = i ∧ i < len ∧ shutB (coreL L) i = (shutB (coreL L) n || (bs && decide ((i : Int) ≠ lg)))) := Lib.hid (fun z hz => by
        obtain ⟨u, h1, _⟩ := (right_node HRT.out HYC.out).kids z hz
        obtain ⟨g1, g2, _⟩ := getC_some h1
        refine ⟨z.toNat, by omega, by rw [← HCL.out]; exact g2, ?_⟩
        have hpi := (kid_in HRT.out HYC.out g2).1 (by rw [show ((z.toNat : Nat) : Int) = z by omega]; exact hz)
        rw [shut_step HRT.out g2 hpi, hbs, hlg])
      have FS : Hid (fsetB (coreL L) n = (y.core.name.toList == [102, 105, 101, 108, 100, 115, 101, 116])) := Lib.hid (by unfold fsetB; rw [nameK_nat HYC.out]; rfl)
      have HBS := Lib.hid hbs
      clear hz htn hy hok hlg hbs hb2
      go_upto_region 3 with fail
      clear hcz
      go_cut [8, 9] (fun tb tg wx => True ∧ tb = .bool bs ∧ tg = .int .i64 lg ∧ Hid (Below wr.heap.size wr wx))
      case first =>
        cases fs : (y.core.name.toList == [102, 105, 101, 108, 100, 115, 101, 116]) with
        | true =>
          have HQ : Hid (disB (coreL L) n = bs) := Lib.hid (by rw [← HBS.out, FS.out, fs, Bool.true_and])
          rw [HQ.out] at CD
          go_wp2_with (first
                          | (go_at_call 16; (with_reducible refine (CD.out _ (Below.refl _ _)).mono ?_); rintro e w2 ⟨rfl, hb⟩; have HB2 := Lib.hid hb; clear hb)
                          | (go_at_call 19; (with_reducible refine (CE.out _ HB2.out).mono ?_); rintro e w3 ⟨rfl, hb⟩; have HB3 := Lib.hid (HB2.out.trans (hb.mono HB2.out.size)); clear hb))
          go_meet
          exact ⟨trivial, rfl, rfl, HB3⟩
        | false =>
          have HQ : bs = false := by rw [← HBS.out, FS.out, fs, Bool.false_and]
          subst HQ
          have HB2 : Hid (Below wr.heap.size wr wr) := Lib.hid (Below.refl _ _)
          go_wp2_with (first
                          | (go_at_call 16; (with_reducible refine (CD.out _ (Below.refl _ _)).mono ?_); rintro e w2 ⟨rfl, hb⟩; have HB2 := Lib.hid hb; clear hb)
                          | (go_at_call 19; (with_reducible refine (CE.out _ HB2.out).mono ?_); rintro e w3 ⟨rfl, hb⟩; have HB3 := Lib.hid (HB2.out.trans (hb.mono HB2.out.size)); clear hb))
          go_meet
          exact ⟨trivial, rfl, rfl, HB3⟩
      case rest =>
        obtain ⟨-, rfl, rfl, HB3⟩ := hcut
        have OW1 := Lib.hid (OW.out.keep HB3.out)
        have GW1 := Lib.hid (grown_then GW.out HB3.out)
        have c6a := (HAT.out.below HBL.out HB3.out).c6
        clear c0 c1 c2 c3 c4 c5 c6 c7 c8 c9 OW GW HB3 CD CE FS HBS HAT
        go_wp2
        clear c6a
        have OI0 : Hid (ShutAt (coreL L) w0 w1 wc g len S0 (kidD (coreL L) t k y.core.kids 0) S) := Lib.hid (OW1.out.same (fun i _ => (kidD_zero _ _ _ _ i).symm))
        clear OW1
        go_loopw [42] (fun v wr => ∃ (j : Nat) (S' : List Bool), j ≤ y.kN ∧ v = .int .i64 j ∧ Hid (ShutAt (coreL L) w0 w1 wr g len S0 (kidD (coreL L) t k y.core.kids j) S') ∧ Hid (w1.grownBy wr (some g))) (fun v _ => y.kN - (intOf v).toNat)
        case atStart => exact ⟨0, _, Nat.zero_le _, rfl, OI0, GW1⟩
        case round =>
          clear OI0 GW1
          obtain ⟨j, S', hj, rfl, OI, GI⟩ := hrel
          by_cases hjt : j < y.kN
          · obtain ⟨bk, ok, z, hkA, hbk, hz, hcz, -⟩ := (HKR.out _ OI.out.below).get hjt
            obtain ⟨i, rfl, hil, hsi⟩ := KID.out z (List.mem_of_getElem? hz)
            have HSI := Lib.hid hsi
            obtain ⟨s0, hs0⟩ : ∃ s0, S'[i]? = some s0 := ⟨_, List.getElem?_eq_getElem (by rw [OI.out.hl]; exact hil)⟩
            have hTc := OI.out.row.cell i _ hs0
            have hTf := OI.out.row.free i
            have hTn := OI.out.row.cell n _ (OI.out.val hnl (by rw [kidD, Bool.or_eq_true]; exact VAL.out.imp .inl id))
            have HKZ := Lib.hid hz
            rw [hkA]
            clear hs0 hz hsi hbk
            unfold encT at hTc hTn
            obtain ⟨q, hq⟩ : ∃ q, ((i : Int) != lg) = q := ⟨_, rfl⟩
            obtain ⟨v, hv⟩ : ∃ v, (shutB (coreL L) n || (bs && q)) = v := ⟨_, rfl⟩
            have HVI : Hid (shutB (coreL L) i = v) := Lib.hid (by
              rw [HSI.out, ← hv, ← hq]
              congr 2
              rw [Bool.eq_iff_iff, decide_eq_true_eq, bne_iff_ne])
            obtain ⟨sn, hsn⟩ : ∃ sn, shutB (coreL L) n = sn := ⟨_, rfl⟩
            rw [hsn] at hv hTn
            have NX : Hid (∀ W, W = wr.setCell ⟨g, i, none⟩ (.bool v) → ShutAt (coreL L) w0 w1 W g len S0 (kidD (coreL L) t k y.core.kids (j + 1)) (S'.set i v) ∧ w1.grownBy W (some g)) := Lib.hid (fun W e => by
              subst e
              exact ⟨OI.out.put HG.out hil HVI.out (fun x _ => kidD_step HKZ.out x), grown_set13 GI.out _ _⟩)
            have hjn := hj
            clear hsn HVI HSI OI GI HKZ
            cases sn with
            | true =>
              obtain rfl : true = v := hv
              clear hq
              go_wp2
              go_roundw
              case rel => exact ⟨j + 1, _, by omega, by go_num, Lib.hid (NX.out _ rfl).1, Lib.hid (NX.out _ rfl).2⟩
              case measure => simp [intOf]; omega
            | false =>
              cases bs with
              | false =>
                obtain rfl : false = v := hv
                clear hq
                go_wp2
                go_roundw
                case rel => exact ⟨j + 1, _, by omega, by go_num, Lib.hid (NX.out _ rfl).1, Lib.hid (NX.out _ rfl).2⟩
                case measure => simp [intOf]; omega
              | true =>
                obtain rfl : q = v := hv
                go_wp2
                go_roundw
                case rel => exact ⟨j + 1, _, by omega, by go_num, Lib.hid (NX.out _ rfl).1, Lib.hid (NX.out _ rfl).2⟩
                case measure => simp [intOf]; omega
          · obtain rfl : j = y.kN := by omega
            go_wp2
            go_roundw
            case rel => exact ⟨k + 1, S', by omega, by go_num, Lib.hid (OI.out.same (fun i hi => by rw [← HKL.out]; exact kidD_all HRT.out HYC.out HTI.out (by rw [HCL.out]; exact hi))), GI⟩
            case measure => simp [intOf]; omega
    · obtain rfl : k = tl := by omega
      go_wp2
      go_end0
      refine ⟨rfl, S, ?_⟩
      have h1 := OW.out.from HW1.out
      rwa [← HTL.out, List.take_length] at h1
end Go.Proofs.YtnjoimedilonnaaGreat
