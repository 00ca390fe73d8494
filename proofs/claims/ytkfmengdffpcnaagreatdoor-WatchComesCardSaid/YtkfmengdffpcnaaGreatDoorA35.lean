/- Texts joined in build order: WatchHook WatchFreshM. -/
import Derived.Test.YtkfmengdffpcnaaGreatDoorA34
import Derived.Test.YtkfmengdffpcnaaGreatDoorA04
import Derived.Deep.RegionHeld3
namespace Go.Proofs.YtkfmengdffpcnaaGreatDoor
open Go.RowKit
theorem hears_hit {L : List HookD} {x : ClassD} (hx : x.hooks = L) {k : Nat} {y : HookD} {kind : Int} (hk : L[k]? = some y) (he : y.kind = kind) (hn : ∀ (j : Nat) z, j < k → L[j]? = some z → z.kind ≠ kind) : hearsC x.core kind = true ∧ progC x.core kind = y.ops := by
  subst hx
  have hf : (coreH x.hooks).find? (fun h => h.1 == kind) = some (y.kind, y.ops) := by
    rw [List.find?_eq_some_iff_getElem]
    obtain ⟨hl, hg⟩ := List.getElem?_eq_some_iff.1 hk
    refine ⟨by simp [he], k, by unfold coreH; simpa using hl, by unfold coreH; simp [hg], fun j hj => ?_⟩
    have hjl : j < x.hooks.length := by omega
    have := hn j _ hj (List.getElem?_eq_getElem hjl)
    unfold coreH
    simpa using this
  refine ⟨?_, by unfold progC; show Option.getD (Option.map _ (List.find? _ (coreH x.hooks))) _ = _; rw [hf]; rfl⟩
  unfold hearsC
  show List.any (coreH x.hooks) _ = true
  rw [List.any_eq_true]
  exact ⟨_, List.mem_of_find?_eq_some hf, by simp [he]⟩
theorem hears_none {L : List HookD} {x : ClassD} (hx : x.hooks = L) {kind : Int} (hn : ∀ (j : Nat) z, L[j]? = some z → z.kind ≠ kind) : hearsC x.core kind = false ∧ progC x.core kind = [] := by
  subst hx
  have hf : (coreH x.hooks).find? (fun h => h.1 == kind) = none := by
    rw [List.find?_eq_none]
    intro z hz
    unfold coreH at hz
    obtain ⟨y, hy, rfl⟩ := List.mem_map.1 hz
    obtain ⟨j, hj⟩ := List.getElem?_of_mem hy
    simpa using hn j y hj
  refine ⟨?_, by unfold progC; show Option.getD (Option.map _ (List.find? _ (coreH x.hooks))) _ = _; rw [hf]; rfl⟩
  unfold hearsC
  show List.any (coreH x.hooks) _ = false
  rw [List.any_eq_false]
  intro z hz
  have := List.find?_eq_none.1 hf z hz
  exact this
def HookPost (w : World) (x : ClassC) (kind : Int) (e : Ending) (w' : World) : Prop := ∃ hk a n c, e = .returned (.tuple #[.agg #[.int .i64 hk, .slice a n c], .bool (hearsC x kind)]) ∧ OpRow w' a n c (progC x kind) ∧ Below w.heap.size w w'
set_option maxHeartbeats 2000000 in
set_option maxRecDepth 100000 in
theorem hook_any (x : ClassD) (kind : Int) (w : World) (h : ClassAt w x) : Calls Tryz.prog 36 #[x.val, .int .i64 kind] w (HookPost w x.core kind) := by
  obtain ⟨c0, hc0⟩ : ∃ c, x.core = c := ⟨_, rfl⟩
  have HX := Lib.hid (show ∃ y : ClassD, y.hooks = x.hooks ∧ y.core = c0 from ⟨x, rfl, hc0⟩)
  rw [hc0]
  obtain ⟨form, wa, wn, wk, watch, pa, pn, pk, peek, ma, mn, mc, make, ha, hn, hk, hooks⟩ := x
  have HH := Lib.hid h.h
  dsimp only at HH HX
  have h64 := h.h.len64
  have hcap := h.h.row.hcap
  have hmax := h.h.row.hmax
  dsimp only at h64 hcap hmax
  have hcap64 : hk ≤ 9223372036854775807 := by unfold maxLen at hmax; omega
  obtain ⟨W0, hW0, B0, B1, HS, HB⟩ := boxes2 w #[.bool form, .slice wa wn wk, .slice pa pn pk, .slice ma mn mc, .slice ha hn hk] #[.int .i64 0, .slice none 0 0] 51 68
  have HW0 := Lib.hid hW0
  have B0 := Lib.hid B0
  have B1 := Lib.hid B1
  have HS := Lib.hid HS
  have HB := Lib.hid HB
  have z4 := B0.out.c 4 _ rfl
  clear h hmax hW0 hc0
  go_enter Tryz.func36, Tryz.ntmps36
  go_upto_region 1 with fail
  rw [HW0.out]
  go_wp2_with fail
  go_loopw [11] (fun i wr => ∃ k : Nat, k ≤ hn ∧ i = .int .i64 k ∧ Hid (∀ (j : Nat) z, j < k → hooks[j]? = some z → z.kind ≠ kind) ∧ Hid (Below W0.heap.size W0 wr)) (fun i _ => hn - (intOf i).toNat)
  case atStart => exact ⟨0, Nat.zero_le _, rfl, Lib.hid (fun j x hj => absurd hj (by omega)), Lib.hid (Below.refl _ _)⟩
  case round =>
    obtain ⟨k, hkl, rfl, HA, HR⟩ := hrel
    clear z4
    by_cases hlt : k < hn
    · obtain ⟨b, off, y, rfl, hb, hy, y0, y1, hyk, hyo⟩ := (HH.out.below (HB.out.trans (HR.out.mono HB.out.size))).get hlt
      have HY := Lib.hid hy
      have HBN := Lib.hid (HB.out.trans (HR.out.mono HB.out.size))
      obtain ⟨yk, ya, yn, yc, yo⟩ := y
      dsimp only at y0 y1 hyk hyo
      have HYO := Lib.hid hyo
      clear hy hyo
      go_upto_region 4 with fail
      obtain ⟨V, hV, C0, HSV, HBV⟩ := boxes1 wr #[.int .i64 yk, .slice ya yn yc] 68
      rw [hV]
      clear hV y0 y1
      have C0 := Lib.hid C0
      have HBV := Lib.hid HBV
      have c0 := C0.out.c 0 _ rfl
      have c1 := C0.out.c 1 _ rfl
      have HSV := Lib.hid HSV
      by_cases he : yk = kind
      · have e1 : (yk == kind) = true := beq_iff_eq.2 he
        have R := Lib.hid ((B1.out.keep HR.out).keep HBV.out)
        have r0 := R.out.c 0 _ rfl
        have r1 := R.out.c 1 _ rfl
        have f0 := R.out.f 0
        have f1 := R.out.f 1
        have HK := Lib.hid he
        clear he
        go_wp2_with fail
        have R2 := (R.out.put 0 (.int .i64 yk) (by simp)).put 1 (.slice ya yn yc) (by simp)
        have q0 := R2.c 0 _ rfl
        have q1 := R2.c 1 _ rfl
        have hbw : Below w.heap.size w ((V.setCell ⟨w.heap.size + 1, 0, none⟩ (.int .i64 yk)).setCell ⟨w.heap.size + 1, 1, none⟩ (.slice ya yn yc)) :=
          ((HBN.out.trans (HBV.out.mono HBN.out.size)).setCell (p := ⟨w.heap.size + 1, 0, none⟩) (by show w.heap.size ≤ w.heap.size + 1; omega) _).setCell (p := ⟨w.heap.size + 1, 1, none⟩) (by show w.heap.size ≤ w.heap.size + 1; omega) _
        obtain ⟨x, hx, hxc⟩ := HX.out
        have hh := hears_hit hx HY.out HK.out HA.out
        rw [hxc] at hh
        have hrow : OpRow w ya yn yc yo := (HH.out.each _ (List.mem_of_getElem? HY.out)).2
        refine bodyPost_ret (v := .tuple #[.agg #[.int .i64 yk, .slice ya yn yc], .bool true]) ?_ rfl ⟨yk, ya, yn, yc, by rw [hh.1], by rw [hh.2]; exact hrow.below hbw, hbw⟩
        simp [results, Tryz.results36, go_sem, q0, q1]
      · have e1 : (yk == kind) = false := beq_eq_false_iff_ne.2 he
        have HK := Lib.hid he
        clear he
        go_wp2_with fail
        go_roundw
        case rel => exact ⟨k + 1, by omega, by go_num, Lib.hid (fun j z hj hz => by
          rcases Nat.lt_or_ge j k with h1 | h1
          · exact HA.out j z h1 hz
          · obtain rfl : j = k := by omega
            rw [HY.out] at hz
            injection hz with hz
            subst hz
            exact HK.out), Lib.hid (HR.out.trans (HBV.out.mono HR.out.size))⟩
        case measure => simp [intOf]; omega
    · have hkn : k = hn := by omega
      subst hkn
      have R := Lib.hid (B1.out.keep HR.out)
      have r0 := R.out.c 0 _ rfl
      have r1 := R.out.c 1 _ rfl
      have f0 := R.out.f 0
      have f1 := R.out.f 1
      go_wp2_with fail
      have R2 := (R.out.put 0 (.int .i64 0) (by simp)).put 1 (.slice none 0 0) (by simp)
      have q0 := R2.c 0 _ rfl
      have q1 := R2.c 1 _ rfl
      have HBN := Lib.hid (HB.out.trans (HR.out.mono HB.out.size))
      have hbw : Below w.heap.size w ((wr.setCell ⟨w.heap.size + 1, 0, none⟩ (.int .i64 0)).setCell ⟨w.heap.size + 1, 1, none⟩ (.slice none 0 0)) :=
          (HBN.out.setCell (p := ⟨w.heap.size + 1, 0, none⟩) (by show w.heap.size ≤ w.heap.size + 1; omega) _).setCell (p := ⟨w.heap.size + 1, 1, none⟩) (by show w.heap.size ≤ w.heap.size + 1; omega) _
      obtain ⟨x, hx, hxc⟩ := HX.out
      have hh := hears_none (kind := kind) hx (fun j z hz => HA.out j z (by have := (List.getElem?_eq_some_iff.1 hz).1; rw [HH.out.hlen] at this; exact this) hz)
      rw [hxc] at hh
      refine bodyPost_ret (v := .tuple #[.agg #[.int .i64 0, .slice none 0 0], .bool false]) ?_ rfl ⟨0, none, 0, 0, by rw [hh.1], by rw [hh.2]; exact LRow.nil, hbw⟩
      simp [results, Tryz.results36, go_sem, q0, q1]
set_option maxHeartbeats 1000000 in
set_option maxRecDepth 100000 in
theorem hears_any (x : ClassD) (kind : Int) (w : World) (h : ClassAt w x) : Calls Tryz.prog 12 #[x.val, .int .i64 kind] w fun e w' => e = .returned (.bool (hearsC x.core kind)) ∧ Below w.heap.size w w' := by
  have CH : Hid (∀ V, ClassAt V x → Calls Tryz.prog 36 #[x.val, .int .i64 kind] V (HookPost V x.core kind)) := Lib.hid (fun V h => hook_any x kind V h)
  obtain ⟨q, hq⟩ : ∃ q, hearsC x.core kind = q := ⟨_, rfl⟩
  obtain ⟨o, ho⟩ : ∃ q, progC x.core kind = q := ⟨_, rfl⟩
  unfold HookPost at CH
  rw [hq, ho] at CH
  rw [hq]
  have HX := Lib.hid h
  obtain ⟨form, wa, wn, wk, watch, pa, pn, pk, peek, ma, mn, mc, make, ha, hn, hk, hooks⟩ := x
  dsimp only [ClassD.val] at CH ⊢
  obtain ⟨W0, hW0, B0, HS, HB⟩ := boxes1 w #[.bool form, .slice wa wn wk, .slice pa pn pk, .slice ma mn mc, .slice ha hn hk] 51
  have HW0 := Lib.hid hW0
  have B0 := Lib.hid B0
  have HB := Lib.hid HB
  have z0 := B0.out.c 0 _ rfl
  have z1 := B0.out.c 1 _ rfl
  have z2 := B0.out.c 2 _ rfl
  have z3 := B0.out.c 3 _ rfl
  have z4 := B0.out.c 4 _ rfl
  clear h hW0 hq ho
  go_enter Tryz.func12, Tryz.ntmps12
  go_upto_region 1 with fail
  rw [HW0.out]
  go_wp2_with (go_at_call 36; (with_reducible refine (CH.out _ (HX.out.below HB.out)).mono ?_); rintro e w1 ⟨yk, ya, yn, yc, rfl, hr, hb⟩; have HB1 := Lib.hid (HB.out.trans (hb.mono HB.out.size)); clear hr hb)
  go_ret
  exact ⟨rfl, HB1.out.trans ((box_below _ _).mono HB1.out.size)⟩
set_option maxHeartbeats 1000000 in
set_option maxRecDepth 100000 in
theorem program_any (x : ClassD) (kind : Int) (w : World) (h : ClassAt w x) (hs : SmallCl x.core) : Calls Tryz.prog 15 #[x.val, .int .i64 kind] w fun e w' => ∃ a n c, e = .returned (.slice a n c) ∧ OpRow w' a n c (progC x.core kind) ∧ Below w.heap.size w w' := by
  have CH : Hid (∀ V, ClassAt V x → Calls Tryz.prog 36 #[x.val, .int .i64 kind] V (HookPost V x.core kind)) := Lib.hid (fun V h => hook_any x kind V h)
  obtain ⟨q, hq⟩ : ∃ q, hearsC x.core kind = q := ⟨_, rfl⟩
  have hsz : (progC x.core kind).length ≤ 1000 := by
    unfold progC
    cases hf : List.find? (fun h => h.1 == kind) x.core.hooks with
    | none => simp
    | some y => exact hs.d y (List.mem_of_find?_eq_some hf)
  obtain ⟨o, ho⟩ : ∃ q, progC x.core kind = q := ⟨_, rfl⟩
  rw [ho] at hsz
  unfold HookPost at CH
  rw [hq, ho] at CH
  rw [ho]
  have HX := Lib.hid h
  have HSZ := Lib.hid hsz
  have CC : Hid (∀ V a n c, OpRow V a n c o → Calls Tryz.prog 39 #[.slice a n c] V (OwnP (α := OpD) encOpD 7 66 V o)) := Lib.hid (fun V a n c h => cloneOp_any a n c o V h (by have := h.hlen; have := HSZ.out; omega))
  obtain ⟨form, wa, wn, wk, watch, pa, pn, pk, peek, ma, mn, mc, make, ha, hn, hk, hooks⟩ := x
  dsimp only [ClassD.val] at CH ⊢
  obtain ⟨W0, hW0, B0, HS, HB⟩ := boxes1 w #[.bool form, .slice wa wn wk, .slice pa pn pk, .slice ma mn mc, .slice ha hn hk] 51
  have HW0 := Lib.hid hW0
  have B0 := Lib.hid B0
  have HB := Lib.hid HB
  have z0 := B0.out.c 0 _ rfl
  have z1 := B0.out.c 1 _ rfl
  have z2 := B0.out.c 2 _ rfl
  have z3 := B0.out.c 3 _ rfl
  have z4 := B0.out.c 4 _ rfl
  clear h hW0 hq ho hs hsz
  go_enter Tryz.func15, Tryz.ntmps15
  go_upto_region 1 with fail
  rw [HW0.out]
  go_upto_region 2 with (go_at_call 36; (with_reducible refine (CH.out _ (HX.out.below HB.out)).mono ?_); rintro e w1 ⟨yk, ya, yn, yc, rfl, hr, hb⟩; have HR := Lib.hid hr; have HOK := Lib.hid hr.ok; have HB1 := Lib.hid (HB.out.trans (hb.mono HB.out.size)); clear hr hb)
  obtain ⟨V, hV, C0, HSV, HBV⟩ := boxes1 w1 #[.int .i64 yk, .slice ya yn yc] 68
  rw [hV]
  clear hV z0 z1 z2 z3 z4
  have HR2 := Lib.hid (HR.out.below HBV)
  have HBV := Lib.hid (HB1.out.trans (HBV.mono HB1.out.size))
  have c1 := C0.c 1 _ rfl
  have l1 := HR2.out.len64
  go_wp2_with (go_at_call 39; (with_reducible refine (CC.out _ _ _ _ HR2.out).mono ?_); rintro e w2 ⟨ra, rc, rfl, hown, hb⟩; have HO := Lib.hid hown; have HB2 := Lib.hid (HBV.out.trans (hb.mono HBV.out.size)); clear hown hb)
  go_ret
  exact ⟨ra, _, rc, rfl, (LRow.of_own (fun x => encOpD_len x) (by decide) HO.out HOK.out).1, HB2.out⟩
end Go.Proofs.YtkfmengdffpcnaaGreatDoor
namespace Go.Proofs.YtkfmengdffpcnaaGreatDoor
open Go.RowKit
def HooksOff (g : Nat) (R : List HookD) : Prop := ∀ x ∈ R, ∀ b off, x.a = some ⟨b, off, none⟩ → 0 < x.n → b ≠ g
theorem lrow_off {α : Type} {enc : α → List Value} {size : Nat} {ok : α → Prop} {W V : World} {a : Option Addr} {n c : Nat} {L : List α} (h : LRow enc size ok W a n c L) {g : Nat} (hs : W.heap.size ≤ V.heap.size) (hk : ∀ b, b ≠ g → ∀ o, V.cell? ⟨b, o, none⟩ = W.cell? ⟨b, o, none⟩) (ho : ∀ b off, a = some ⟨b, off, none⟩ → 0 < n → b ≠ g) : LRow enc size ok V a n c L :=
  ⟨h.row.keep hs (fun b off ha h0 o => hk b (ho b off ha h0) o), h.ok, h.hnil⟩
theorem HookRow.setDo {W : World} {g n c k : Nat} {R : List HookD} (h : HookRow W (some ⟨g, 0, none⟩) n c R) (ho : HooksOff g R) {y : HookD} (hk : R[k]? = some y) {a2 : Option Addr} {n2 c2 : Nat} (hr : OpRow W a2 n2 c2 y.ops) (h2 : ∀ b off, a2 = some ⟨b, off, none⟩ → 0 < n2 → b ≠ g) :
    HookRow (W.setCell ⟨g, k * 2 + 1, none⟩ (.slice a2 n2 c2)) (some ⟨g, 0, none⟩) n c (R.set k ⟨y.kind, a2, n2, c2, y.ops⟩) ∧ HooksOff g (R.set k ⟨y.kind, a2, n2, c2, y.ops⟩) ∧ coreH (R.set k ⟨y.kind, a2, n2, c2, y.ops⟩) = coreH R := by
  have hkl : k < R.length := (List.getElem?_eq_some_iff.1 hk).1
  have hkn : k < n := by rw [← h.hlen]; exact hkl
  obtain ⟨b, off, y', e, hb, hy, hc0, hc1, hin, -⟩ := h.get hkn
  injection e with e
  injection e with e1 e2
  subst e1; subst e2
  rw [Nat.zero_add] at hc0 hc1
  have oth : ∀ q, q ≠ g → ∀ o, (W.setCell ⟨g, k * 2 + 1, none⟩ (.slice a2 n2 c2)).cell? ⟨q, o, none⟩ = W.cell? ⟨q, o, none⟩ := fun q hq o => World.cell?_setCell_other _ _ _ _ (fun e => by injection e with e _; exact hq e.symm)
  have same : ∀ o, o ≠ k * 2 + 1 → (W.setCell ⟨g, k * 2 + 1, none⟩ (.slice a2 n2 c2)).cell? ⟨g, o, none⟩ = W.cell? ⟨g, o, none⟩ := fun o ho => World.cell?_setCell_other _ _ _ _ (fun e => by injection e with _ e; exact ho e.symm)
  have hs : W.heap.size ≤ (W.setCell ⟨g, k * 2 + 1, none⟩ (.slice a2 n2 c2)).heap.size := by simp [World.setCell]
  have get : ∀ (j : Nat) z, (R.set k ⟨y.kind, a2, n2, c2, y.ops⟩)[j]? = some z → (j = k ∧ z = ⟨y.kind, a2, n2, c2, y.ops⟩) ∨ (j ≠ k ∧ R[j]? = some z) := fun j z hz => by
    by_cases e : j = k
    · subst e
      rw [List.getElem?_set_self hkl] at hz
      exact .inl ⟨rfl, (Option.some.inj hz).symm⟩
    · rw [List.getElem?_set_ne (fun e2 => e e2.symm)] at hz
      exact .inr ⟨e, hz⟩
  refine ⟨⟨⟨by rw [List.length_set]; exact h.hlen, h.row.hcap, h.row.hmax, fun x _ => encHkD_len x, .inr ⟨g, 0, rfl, Nat.lt_of_lt_of_le hb hs, fun i x j v hx hv => ?_⟩⟩, fun x hx => ?_, h.hnil⟩, fun x hx => ?_, ?_⟩
  · have hj : j < 2 := (List.getElem?_eq_some_iff.1 hv).1
    rw [Nat.zero_add]
    rcases get i x hx with ⟨rfl, rfl⟩ | ⟨hne, hx⟩
    · match j, hj, hv with
      | 0, _, hv =>
        simp [encHkD] at hv
        subst hv
        rw [same _ (by omega)]
        rw [hk] at hy
        injection hy with hy
        subst hy
        exact hc0
      | 1, _, hv =>
        simp [encHkD] at hv
        subst hv
        exact World.cell?_setCell_same _ _ _ hc1
    · rw [same _ (by omega)]
      rcases h.row.cells with h0 | ⟨b, off, e, _, hc⟩
      · omega
      · injection e with e
        injection e with e1 e2
        subst e1; subst e2
        have := hc i x j v hx hv
        rw [Nat.zero_add] at this
        exact this
  · rcases List.mem_or_eq_of_mem_set hx with hx | rfl
    · exact ⟨(h.each x hx).1, lrow_off (h.each x hx).2 hs oth (ho x hx)⟩
    · exact ⟨(h.each y (List.mem_of_getElem? hk)).1, lrow_off hr hs oth h2⟩
  · rcases List.mem_or_eq_of_mem_set hx with hx | rfl
    · exact ho x hx
    · exact h2
  · unfold coreH
    rw [List.map_set]
    apply List.ext_getElem?
    intro j
    by_cases e : k = j
    · subst e
      rw [List.getElem?_set_self (by rw [List.length_map]; exact hkl), List.getElem?_map, hk]
      rfl
    · rw [List.getElem?_set_ne e]
theorem HookRow.off {W : World} {a : Option Addr} {n c g : Nat} {R : List HookD} (h : HookRow W a n c R) (ho : HooksOff g R) (ha : ∀ b off, a = some ⟨b, off, none⟩ → 0 < n → b ≠ g) (o : Nat) (u : Value) : HookRow (W.setCell ⟨g, o, none⟩ u) a n c R := by
  have hs : W.heap.size ≤ (W.setCell ⟨g, o, none⟩ u).heap.size := by simp [World.setCell]
  have oth : ∀ q, q ≠ g → ∀ o', (W.setCell ⟨g, o, none⟩ u).cell? ⟨q, o', none⟩ = W.cell? ⟨q, o', none⟩ := fun q hq o' => World.cell?_setCell_other _ _ _ _ (fun e => by injection e with e _; exact hq e.symm)
  exact ⟨h.row.keep hs (fun b off e h0 o' => oth b (ha b off e h0) o'), fun x hx => ⟨(h.each x hx).1, lrow_off (h.each x hx).2 hs oth (ho x hx)⟩, h.hnil⟩
structure HMid (base : Nat) (W : World) (a : Option Addr) (n c : Nat) (H R : List HookD) : Prop where
  row : HookRow W a n c R
  core : coreH R = coreH H
  gap : ∀ q, q < base → HooksOff q H → HooksOff q R
  own : ∀ g off, a = some ⟨g, off, none⟩ → off = 0 ∧ base ≤ g ∧ g < W.heap.size ∧ (∀ j, W.frozen? ⟨g, j, none⟩ = false) ∧ HooksOff g R
theorem HMid.keep {base : Nat} {W V : World} {a : Option Addr} {n c : Nat} {H R : List HookD} (h : HMid base W a n c H R) (hb : Below W.heap.size W V) : HMid base V a n c H R :=
  ⟨h.row.below hb, h.core, h.gap, fun g off e => by
    obtain ⟨h1, h2, h3, h4, h5⟩ := h.own g off e
    exact ⟨h1, h2, Nat.lt_of_lt_of_le h3 hb.size, fun j => (hb.frozen (p := ⟨g, j, none⟩) h3).trans (h4 j), h5⟩⟩
theorem HMid.start {w0 w W : World} {a0 : Option Addr} {n c0 : Nat} {H : List HookD} (h : HookRow w0 a0 n c0 H) (hb0 : Below w0.heap.size w0 w) (hb : Below w.heap.size w W) {a : Option Addr} {c : Nat} (ho : W.ownsRow w.heap.size 68 2 (.slice a n c) n (H.flatMap encHkD)) : HMid w.heap.size W a n c H H := by
  have h1 := LRow.of_own (ok := fun _ : HookD => True) (fun x => encHkD_len x) (by decide) ho (fun _ _ => trivial)
  have low : ∀ x ∈ H, ∀ b off, x.a = some ⟨b, off, none⟩ → 0 < x.n → b < w0.heap.size := fun x hx b off hxa h0 => by
    rcases (h.each x hx).2.row.cells with h2 | ⟨b', off', e3, hl, _⟩
    · omega
    · rw [hxa] at e3
      injection e3 with e3
      injection e3 with e3
      subst e3
      exact hl
  refine ⟨⟨h1.1.row, fun x hx => ⟨(h.each x hx).1, ((h.each x hx).2.below hb0).below hb⟩, h1.1.hnil⟩, rfl, fun q _ h => h, fun g off e => ?_⟩
  obtain ⟨e1, e2⟩ := h1.2 g off e
  subst e; subst e2
  have hlt := ho.lt g rfl
  have hz := hb0.size
  refine ⟨rfl, e1, hlt.2, fun j => ?_, fun x hx b off hxa h0 => by have := low x hx b off hxa h0; omega⟩
  rcases ho.2 with ⟨hv, _⟩ | ⟨g', cap', cur, hv, _, hg, _⟩
  · cases hv
  · injection hv with hv
    injection hv with hv
    injection hv with hv
    subst hv
    simp [World.frozen?, hg]
theorem HMid.next {base : Nat} {W V : World} {g n c k : Nat} {H R : List HookD} (h : HMid base W (some ⟨g, 0, none⟩) n c H R) (hb : Below W.heap.size W V) {y : HookD} (hk : R[k]? = some y) {a2 : Option Addr} {n2 c2 : Nat} (hr : OpRow V a2 n2 c2 y.ops) (h2 : ∀ b off, a2 = some ⟨b, off, none⟩ → W.heap.size ≤ b) :
    HMid base (V.setCell ⟨g, k * 2 + 1, none⟩ (.slice a2 n2 c2)) (some ⟨g, 0, none⟩) n c H (R.set k ⟨y.kind, a2, n2, c2, y.ops⟩) := by
  have hV := h.keep hb
  obtain ⟨-, o1, o2, o3, o4⟩ := hV.own g 0 rfl
  have og := (h.own g 0 rfl).2.2.1
  obtain ⟨s1, s2, s3⟩ := hV.row.setDo o4 hk hr (fun b off e _ e2 => by have := h2 b off e; omega)
  refine ⟨s1, s3.trans h.core, fun q hq1 hq2 x hx => ?_, fun g' off e => ?_⟩
  · rcases List.mem_or_eq_of_mem_set hx with hx | rfl
    · exact h.gap q hq1 hq2 x hx
    · intro b off e _ e2
      have := h2 b off e
      omega
  · injection e with e
    injection e with e1 e2
    subst e1; subst e2
    exact ⟨rfl, o1, by simpa [World.setCell] using o2, fun j => by rw [World.frozen?_setCell]; exact o3 j, s2⟩
def celOf (w : World) (p : Addr) : Value := (w.cell? p).getD undef
theorem celOf_is {w : World} {p : Addr} (h : (w.cell? p).isSome = true) : w.cell? p = some (celOf w p) := by
  obtain ⟨v, hv⟩ := Option.isSome_iff_exists.1 h
  unfold celOf
  rw [hv]
  rfl
structure CL (V W : World) (g h : Nat) (x : ClassD) (a : Option Addr) (n c : Nat) (R : List HookD) : Prop where
  b : Below V.heap.size V W
  bx : CBox W g (encClD x)
  ne : h ≠ g
  h0 : V.heap.size ≤ h
  hl : h < W.heap.size
  hr : HookRow W a n c R
  ho : HooksOff h R
  ha : ∀ b off, a = some ⟨b, off, none⟩ → 0 < n → b ≠ h
  r : ∀ j, j < 5 → (W.cell? ⟨h, j, none⟩).isSome = true
  f : ∀ j, W.frozen? ⟨h, j, none⟩ = false
abbrev CF (V W : World) (g h : Nat) (x : ClassD) (a : Option Addr) (n c : Nat) (R : List HookD) : Prop := W.cell? ⟨g, 0, none⟩ = some (.bool x.form) ∧ W.cell? ⟨g, 1, none⟩ = some (.slice x.wa x.wn x.wk) ∧ W.cell? ⟨g, 2, none⟩ = some (.slice x.pa x.pn x.pk) ∧ W.cell? ⟨g, 3, none⟩ = some (.slice x.ma x.mn x.mc) ∧ W.cell? ⟨h, 0, none⟩ = some (celOf W ⟨h, 0, none⟩) ∧ W.cell? ⟨h, 1, none⟩ = some (celOf W ⟨h, 1, none⟩) ∧ W.cell? ⟨h, 2, none⟩ = some (celOf W ⟨h, 2, none⟩) ∧ W.cell? ⟨h, 3, none⟩ = some (celOf W ⟨h, 3, none⟩) ∧ W.cell? ⟨h, 4, none⟩ = some (celOf W ⟨h, 4, none⟩) ∧ W.frozen? ⟨h, 0, none⟩ = false ∧ W.frozen? ⟨h, 1, none⟩ = false ∧ W.frozen? ⟨h, 2, none⟩ = false ∧ W.frozen? ⟨h, 3, none⟩ = false ∧ W.frozen? ⟨h, 4, none⟩ = false ∧ CL V W g h x a n c R
theorem CL.facts {V W : World} {g h : Nat} {x : ClassD} {a : Option Addr} {n c : Nat} {R : List HookD} (H : CL V W g h x a n c R) : CF V W g h x a n c R :=
  ⟨H.bx.c 0 _ rfl, H.bx.c 1 _ rfl, H.bx.c 2 _ rfl, H.bx.c 3 _ rfl, celOf_is (H.r 0 (by omega)), celOf_is (H.r 1 (by omega)), celOf_is (H.r 2 (by omega)), celOf_is (H.r 3 (by omega)), celOf_is (H.r 4 (by omega)), H.f 0, H.f 1, H.f 2, H.f 3, H.f 4, H⟩
theorem cl_of {a0 a1 a2 a3 a4 a5 a6 a7 a8 a9 a10 a11 a12 a13 : Prop} {V W : World} {g h : Nat} {x : ClassD} {a : Option Addr} {n c : Nat} {R : List HookD} (H : a0 ∧ a1 ∧ a2 ∧ a3 ∧ a4 ∧ a5 ∧ a6 ∧ a7 ∧ a8 ∧ a9 ∧ a10 ∧ a11 ∧ a12 ∧ a13 ∧ CL V W g h x a n c R) : CL V W g h x a n c R := H.2.2.2.2.2.2.2.2.2.2.2.2.2.2
theorem CL.keep {V W X : World} {g h : Nat} {x : ClassD} {a : Option Addr} {n c : Nat} {R : List HookD} (H : CL V W g h x a n c R) (hb : Below W.heap.size W X) : CL V X g h x a n c R := by
  refine ⟨H.b.trans (hb.mono H.b.size), H.bx.keep hb, H.ne, H.h0, Nat.lt_of_lt_of_le H.hl hb.size, H.hr.below hb, H.ho, H.ha, fun j hj => ?_, fun j => ?_⟩
  · rw [hb.cell (p := ⟨h, j, none⟩) H.hl]
    exact H.r j hj
  · rw [hb.frozen (p := ⟨h, j, none⟩) H.hl]
    exact H.f j
theorem CL.put {V W : World} {g h : Nat} {x : ClassD} {a : Option Addr} {n c : Nat} {R : List HookD} (H : CL V W g h x a n c R) (o : Nat) (u : Value) : CL V (W.setCell ⟨h, o, none⟩ u) g h x a n c R := by
  refine ⟨H.b.setCell H.h0 _, H.bx.off H.ne o u, H.ne, H.h0, by have := H.hl; simpa [World.setCell] using this, H.hr.off H.ho H.ha o u, H.ho, H.ha, fun j hj => ?_, fun j => by rw [World.frozen?_setCell]; exact H.f j⟩
  exact World.isSome_setCells h [u] o W _ (H.r j hj)
theorem cl_keep {a0 a1 a2 a3 a4 a5 a6 a7 a8 a9 a10 a11 a12 a13 : Prop} {V W X : World} {g h : Nat} {x : ClassD} {a : Option Addr} {n c : Nat} {R : List HookD} (H : a0 ∧ a1 ∧ a2 ∧ a3 ∧ a4 ∧ a5 ∧ a6 ∧ a7 ∧ a8 ∧ a9 ∧ a10 ∧ a11 ∧ a12 ∧ a13 ∧ CL V W g h x a n c R) (hb : Below W.heap.size W X) : CF V X g h x a n c R := ((cl_of H).keep hb).facts
theorem cl_put5 {a0 a1 a2 a3 a4 a5 a6 a7 a8 a9 a10 a11 a12 a13 : Prop} {V W : World} {g h : Nat} {x : ClassD} {a : Option Addr} {n c : Nat} {R : List HookD} (H : a0 ∧ a1 ∧ a2 ∧ a3 ∧ a4 ∧ a5 ∧ a6 ∧ a7 ∧ a8 ∧ a9 ∧ a10 ∧ a11 ∧ a12 ∧ a13 ∧ CL V W g h x a n c R) (x0 x1 x2 x3 x4 : Value) : CF V (((((W.setCell ⟨h, 0, none⟩ x0).setCell ⟨h, 1, none⟩ x1).setCell ⟨h, 2, none⟩ x2).setCell ⟨h, 3, none⟩ x3).setCell ⟨h, 4, none⟩ x4) g h x a n c R := ((((((cl_of H).put 0 x0).put 1 x1).put 2 x2).put 3 x3).put 4 x4).facts
theorem put5_cell {V W : World} {g h : Nat} {x : ClassD} {a : Option Addr} {n c : Nat} {R : List HookD} (H : CL V W g h x a n c R) (x0 x1 x2 x3 x4 : Value) :
    CBox (((((W.setCell ⟨h, 0, none⟩ x0).setCell ⟨h, 1, none⟩ x1).setCell ⟨h, 2, none⟩ x2).setCell ⟨h, 3, none⟩ x3).setCell ⟨h, 4, none⟩ x4) h [x0, x1, x2, x3, x4] := by
  have ne : ∀ i j : Nat, i ≠ j → (⟨h, i, none⟩ : Addr) ≠ ⟨h, j, none⟩ := fun i j hij e => hij (by injection e)
  have H1 := H.put 0 x0
  have H2 := H1.put 1 x1
  have H3 := H2.put 2 x2
  have H4 := H3.put 3 x3
  have H5 := H4.put 4 x4
  have r0 := (show (((((W.setCell ⟨h, 0, none⟩ x0).setCell ⟨h, 1, none⟩ x1).setCell ⟨h, 2, none⟩ x2).setCell ⟨h, 3, none⟩ x3).setCell ⟨h, 4, none⟩ x4).cell? ⟨h, 0, none⟩ = some x0 by rw [World.cell?_setCell_other _ _ _ _ (ne _ _ (by decide)), World.cell?_setCell_other _ _ _ _ (ne _ _ (by decide)), World.cell?_setCell_other _ _ _ _ (ne _ _ (by decide)), World.cell?_setCell_other _ _ _ _ (ne _ _ (by decide))]; exact World.cell?_setCell_same _ _ _ (celOf_is (H.r 0 (by omega))))
  have r1 := (show (((((W.setCell ⟨h, 0, none⟩ x0).setCell ⟨h, 1, none⟩ x1).setCell ⟨h, 2, none⟩ x2).setCell ⟨h, 3, none⟩ x3).setCell ⟨h, 4, none⟩ x4).cell? ⟨h, 1, none⟩ = some x1 by rw [World.cell?_setCell_other _ _ _ _ (ne _ _ (by decide)), World.cell?_setCell_other _ _ _ _ (ne _ _ (by decide)), World.cell?_setCell_other _ _ _ _ (ne _ _ (by decide))]; exact World.cell?_setCell_same _ _ _ (celOf_is (H1.r 1 (by omega))))
  have r2 := (show (((((W.setCell ⟨h, 0, none⟩ x0).setCell ⟨h, 1, none⟩ x1).setCell ⟨h, 2, none⟩ x2).setCell ⟨h, 3, none⟩ x3).setCell ⟨h, 4, none⟩ x4).cell? ⟨h, 2, none⟩ = some x2 by rw [World.cell?_setCell_other _ _ _ _ (ne _ _ (by decide)), World.cell?_setCell_other _ _ _ _ (ne _ _ (by decide))]; exact World.cell?_setCell_same _ _ _ (celOf_is (H2.r 2 (by omega))))
  have r3 := (show (((((W.setCell ⟨h, 0, none⟩ x0).setCell ⟨h, 1, none⟩ x1).setCell ⟨h, 2, none⟩ x2).setCell ⟨h, 3, none⟩ x3).setCell ⟨h, 4, none⟩ x4).cell? ⟨h, 3, none⟩ = some x3 by rw [World.cell?_setCell_other _ _ _ _ (ne _ _ (by decide))]; exact World.cell?_setCell_same _ _ _ (celOf_is (H3.r 3 (by omega))))
  have r4 := (show (((((W.setCell ⟨h, 0, none⟩ x0).setCell ⟨h, 1, none⟩ x1).setCell ⟨h, 2, none⟩ x2).setCell ⟨h, 3, none⟩ x3).setCell ⟨h, 4, none⟩ x4).cell? ⟨h, 4, none⟩ = some x4 from World.cell?_setCell_same _ _ _ (celOf_is (H4.r 4 (by omega))))
  have hl := H5.hl
  have fr := H5.f
  generalize (((((W.setCell ⟨h, 0, none⟩ x0).setCell ⟨h, 1, none⟩ x1).setCell ⟨h, 2, none⟩ x2).setCell ⟨h, 3, none⟩ x3).setCell ⟨h, 4, none⟩ x4) = X at r0 r1 r2 r3 r4 hl fr ⊢
  refine ⟨hl, fun j v hv => ?_, fun j => ?_⟩
  · rcases j with _ | _ | _ | _ | _ | j
    · simp at hv; subst hv; exact r0
    · simp at hv; subst hv; exact r1
    · simp at hv; subst hv; exact r2
    · simp at hv; subst hv; exact r3
    · simp at hv; subst hv; exact r4
    · simp at hv
  · exact fr j
theorem lrow_put5 {α : Type} {enc : α → List Value} {size : Nat} {ok : α → Prop} {W : World} {a : Option Addr} {n c : Nat} {L : List α} (h : LRow enc size ok W a n c L) {q : Nat} (ho : ∀ b off, a = some ⟨b, off, none⟩ → 0 < n → b ≠ q) (x0 x1 x2 x3 x4 : Value) :
    LRow enc size ok (((((W.setCell ⟨q, 0, none⟩ x0).setCell ⟨q, 1, none⟩ x1).setCell ⟨q, 2, none⟩ x2).setCell ⟨q, 3, none⟩ x3).setCell ⟨q, 4, none⟩ x4) a n c L := by
  have one : ∀ {V : World} (_ : LRow enc size ok V a n c L) (o : Nat) (u : Value), LRow enc size ok (V.setCell ⟨q, o, none⟩ u) a n c L := fun h o u => lrow_off h (by simp [World.setCell]) (fun b hb o' => World.cell?_setCell_other _ _ _ _ (fun e => by injection e with e _; exact hb e.symm)) ho
  exact one (one (one (one (one h 0 x0) 1 x1) 2 x2) 3 x3) 4 x4
theorem ClassAt.hoff {w : World} {x : ClassD} (h : ClassAt w x) : ∀ q, w.heap.size ≤ q → HooksOff q x.hooks := fun q hq y hy b off e h0 e2 => by
  rcases (h.h.each y hy).2.row.cells with h1 | ⟨b', off', e3, hl, _⟩
  · omega
  · rw [e] at e3
    injection e3 with e3
    injection e3 with e3
    subst e3
    omega
structure ClassOff (q : Nat) (y : ClassD) : Prop where
  t : ∀ b off, y.wa = some ⟨b, off, none⟩ → 0 < y.wn → b ≠ q
  p : ∀ b off, y.pa = some ⟨b, off, none⟩ → 0 < y.pn → b ≠ q
  m : ∀ b off, y.ma = some ⟨b, off, none⟩ → 0 < y.mn → b ≠ q
  h : ∀ b off, y.ha = some ⟨b, off, none⟩ → 0 < y.hn → b ≠ q
  o : HooksOff q y.hooks
theorem srow_off {α : Type} {enc : α → List Value} {size : Nat} {w : World} {a : Option Addr} {n c : Nat} {L : List α} (h : SRow enc size w a n c L) {q : Nat} (hq : w.heap.size ≤ q) : ∀ b off, a = some ⟨b, off, none⟩ → 0 < n → b ≠ q := fun b off e h0 e2 => by
  rcases h.cells with h1 | ⟨b', off', e3, hl, _⟩
  · omega
  · rw [e] at e3
    injection e3 with e3
    injection e3 with e3
    subst e3
    omega
theorem ClassAt.off {w : World} {x : ClassD} (h : ClassAt w x) : ∀ q, w.heap.size ≤ q → ClassOff q x := fun q hq =>
  ⟨srow_off h.t.row hq, srow_off h.p.row hq, srow_off h.m.row hq, srow_off h.h.row hq, h.hoff q hq⟩
theorem ClassAt.put5 {W : World} {y : ClassD} (h : ClassAt W y) {q : Nat} (ho : ClassOff q y) (x0 x1 x2 x3 x4 : Value) :
    ClassAt (((((W.setCell ⟨q, 0, none⟩ x0).setCell ⟨q, 1, none⟩ x1).setCell ⟨q, 2, none⟩ x2).setCell ⟨q, 3, none⟩ x3).setCell ⟨q, 4, none⟩ x4) y :=
  ⟨lrow_put5 h.t ho.t _ _ _ _ _, lrow_put5 h.p ho.p _ _ _ _ _, lrow_put5 h.m ho.m _ _ _ _ _, ((((h.h.off ho.o ho.h 0 x0).off ho.o ho.h 1 x1).off ho.o ho.h 2 x2).off ho.o ho.h 3 x3).off ho.o ho.h 4 x4⟩
def FreshC (w : World) (x : ClassD) (e : Ending) (w' : World) : Prop := ∃ y : ClassD, e = .returned y.val ∧ y.core = x.core ∧ ClassAt w' y ∧ Below w.heap.size w w' ∧ ∀ q, q < w.heap.size → HooksOff q x.hooks → ClassOff q y
end Go.Proofs.YtkfmengdffpcnaaGreatDoor
