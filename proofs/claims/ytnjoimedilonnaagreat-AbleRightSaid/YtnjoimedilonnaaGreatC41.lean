/- Texts joined in build order: AbleSmall AbleShutAt MoveBox ForestOpen. -/
import Derived.Test.YtnjoimedilonnaaGreatC40
import Derived.Test.YtnjoimedilonnaaGreatC27
import Derived.Test.YtnjoimedilonnaaGreatC18
import Derived.Test.YtnjoimedilonnaaGreatC28
import Derived.Test.YtnjoimedilonnaaGreatC19
import Derived.Test.YtnjoimedilonnaaGreatC13
import Derived.Test.YtnjoimedilonnaaGreatC06
import Derived.Test.YtnjoimedilonnaaGreatC29
import Derived.OpenShut
namespace Go.Proofs.YtnjoimedilonnaaGreat
open Go.RowKit
theorem disK : (⟨#[100, 105, 115, 97, 98, 108, 101, 100]⟩ : ByteArray).toList = disT := toList_ofL [100, 105, 115, 97, 98, 108, 101, 100]
set_option maxHeartbeats 2000000 in
theorem disabled_any (x : NodeD) (w : World) (h : NodeOk w x) : Calls Tryz.prog 16 #[nodVal x] w fun e w' => e = .returned (.bool (hasA x.core.attrs disT)) ∧ Below w.heap.size w w' := by
  have C : Hid (∀ W, Below w.heap.size w W → Calls Tryz.prog 29 #[.slice x.aA x.aN x.aC, .string ⟨#[100, 105, 115, 97, 98, 108, 101, 100]⟩] W fun e w' => e = .returned (.tuple #[.string (valA x.core.attrs disT), .bool (hasA x.core.attrs disT)]) ∧ Below W.heap.size W w') := Lib.hid (fun W hb => by
    have := attrget_any x.aA x.aN x.aC x.core.attrs ⟨#[100, 105, 115, 97, 98, 108, 101, 100]⟩ W (h.attrs.below hb) (by decide)
    rwa [disK] at this)
  obtain ⟨V, hV⟩ : ∃ V, valA x.core.attrs disT = V := ⟨_, rfl⟩
  obtain ⟨q, hq⟩ : ∃ q, hasA x.core.attrs disT = q := ⟨_, rfl⟩
  rw [hV, hq] at C
  rw [hq]
  obtain ⟨⟨kind, name, is, data, attrs, parent, kids, host, under, doc⟩, aA, aN, aC, kA, kN, kC⟩ := x
  clear h hV hq
  dsimp only at C
  go_enter Tryz.func16, Tryz.ntmps16
  go_wp2_with (go_at_call 29; (with_reducible refine (C.out _ (below_box _ _)).mono ?_); rintro e w1 ⟨rfl, hb⟩; have HB := Lib.hid ((below_box w _).trans (hb.mono (below_box w _).size)); clear hb)
  go_ret
  exact ⟨rfl, HB.out⟩
theorem legF_at {F : List Core} {n : Nat} {x : Core} (h : F[n]? = some x) : legF F n = (x.kids.find? (fun k => nameK F k == legT)).getD (-1) := by
  have e : kidsZ F n = x.kids := by unfold kidsZ; rw [h]
  unfold legF
  rw [e]
  cases x.kids.find? (fun k => nameK F k == legT) <;> rfl
theorem legF_found {F : List Core} {n : Nat} {x : Core} (h : F[n]? = some x) {k : Nat} (hn : ∀ (j : Nat) z, j < k → x.kids[j]? = some z → (nameK F z == legT) = false) {z : Int} (hz : x.kids[k]? = some z) (hl : (nameK F z == legT) = true) : legF F n = z := by
  rw [legF_at h]
  have : x.kids.find? (fun k => nameK F k == legT) = some z := by
    rw [List.find?_eq_some_iff_getElem]
    obtain ⟨hk, e⟩ := List.getElem?_eq_some_iff.1 hz
    exact ⟨hl, k, hk, e, fun j hj => by rw [hn j _ hj (List.getElem?_eq_getElem (by omega))]; rfl⟩
  rw [this]
  rfl
theorem legF_not {F : List Core} {n : Nat} {x : Core} (h : F[n]? = some x) (hn : ∀ (j : Nat) z, j < x.kids.length → x.kids[j]? = some z → (nameK F z == legT) = false) : legF F n = -1 := by
  rw [legF_at h]
  have : x.kids.find? (fun k => nameK F k == legT) = none := by
    rw [List.find?_eq_none]
    intro z hz
    obtain ⟨j, hj, e⟩ := List.getElem_of_mem hz
    rw [hn j z hj (by rw [← e]; exact List.getElem?_eq_getElem hj)]
    exact Bool.false_ne_true
  rw [this]
  rfl
theorem nameK_nat {F : List Core} {k : Nat} {x : Core} (h : F[k]? = some x) : nameK F (k : Int) = x.name.toList := by
  unfold nameK
  rw [getC_nat, h]
set_option maxHeartbeats 8000000 in
set_option maxRecDepth 100000 in
theorem legendOf_any (a : Option Addr) (len cap : Nat) (m : Int) (L : List NodeD) (n : Nat) (w : World) (h : NodeRow w a len cap L) (hr : rightF m (coreL L) = true) (hn : n < len) :
    Calls Tryz.prog 19 #[.slice a len cap, .int .i64 n] w fun e w' => e = .returned (.int .i64 (legF (coreL L) n)) ∧ Below w.heap.size w w' := by
  have HCL : Hid ((coreL L).length = len) := Lib.hid (by rw [coreL_len, h.hlen])
  have hlen := h.len64
  have NR := Lib.hid h
  obtain ⟨b, off, x, rfl, hb, hx, hat, hok⟩ := h.get hn
  have c6 := hat.c6
  have HXC := Lib.hid (coreL_get hx)
  have HK := Lib.hid hok.kids
  have hkn := hok.kids.len64
  have HKL := Lib.hid hok.kids.hlen
  have NUM : Hid (∀ z ∈ x.core.kids, ∃ i : Nat, z = i ∧ i < len) := Lib.hid (fun z hz => by
    obtain ⟨u, h1, _⟩ := (right_node hr (coreL_get hx)).kids z hz
    obtain ⟨g1, g2, _⟩ := getC_some h1
    exact ⟨z.toNat, by omega, by rw [← HCL.out]; exact g2⟩)
  clear h hx hat hok hb hr
  go_enter Tryz.func19, Tryz.ntmps19
  go_wp2
  clear c6
  go_loopw [13] (fun i wr => ∃ k : Nat, k ≤ x.kN ∧ i = .int .i64 k ∧ Hid (∀ (j : Nat) z, j < k → x.core.kids[j]? = some z → (nameK (coreL L) z == legT) = false) ∧ Hid (Below w.heap.size w wr)) (fun i _ => x.kN - (intOf i).toNat)
  case atStart => exact ⟨0, Nat.zero_le _, rfl, Lib.hid (fun j z hj => absurd hj (by omega)), Lib.hid (Below.refl _ _)⟩
  case round =>
    obtain ⟨k, hk, rfl, HA, HB⟩ := hrel
    by_cases hlt : k < x.kN
    · obtain ⟨b2, off2, z, hkA, hb2, hz, hcz, -⟩ := (HK.out.below HB.out).get hlt
      obtain ⟨i, rfl, hi⟩ := NUM.out z (List.mem_of_getElem? hz)
      obtain ⟨b3, off3, y, hab, hb3, hy, haty, -⟩ := (NR.out.below HB.out).get hi
      injection hab with hab
      injection hab with hab1 hab2
      subst hab1
      subst hab2
      have c1 := haty.c1
      have HZ := Lib.hid hz
      have HYN := Lib.hid (nameK_nat (coreL_get hy))
      rw [hkA]
      clear hy haty hz hb2 hb3
      obtain ⟨q, hq⟩ : ∃ q, (y.core.name.toList == [108, 101, 103, 101, 110, 100]) = q := ⟨_, rfl⟩
      have HQ : Hid ((nameK (coreL L) (i : Int) == legT) = q) := Lib.hid (by rw [HYN.out]; exact hq)
      cases q with
      | true =>
        have HR := Lib.hid (legF_found HXC.out HA.out HZ.out HQ.out)
        go_wp2
        go_ret
        exact ⟨ret_int HR.out.symm, HB.out⟩
      | false =>
        go_wp2
        go_roundw
        case rel => exact ⟨k + 1, by omega, by go_num, Lib.hid (fun j z hj hz => by
          rcases Nat.lt_or_ge j k with h1 | h1
          · exact HA.out j z h1 hz
          · obtain rfl : j = k := by omega
            rw [HZ.out] at hz
            injection hz with hz
            subst hz
            exact HQ.out), HB⟩
        case measure => simp [intOf]; omega
    · obtain rfl : k = x.kN := by omega
      have HR := Lib.hid (legF_not HXC.out (by rw [HKL.out]; exact HA.out))
      go_wp2
      go_ret
      exact ⟨ret_int HR.out.symm, HB.out⟩
set_option maxHeartbeats 1000000 in
set_option maxRecDepth 100000 in
theorem indexI_any (a : Option Addr) (len cap : Nat) (L : List Int) (s : Int) (w : World) (h : IntRow w a len cap L) :
    Calls Tryz.prog 35 #[.slice a len cap, .int .i64 s] w fun e w' => ∃ z : Int, e = .returned (.int .i64 z) ∧ decide (0 ≤ z) = decide (s ∈ L) ∧ Below w.heap.size w w' := by
  have H := Lib.hid h
  have HL := Lib.hid h.hlen
  have h64 := h.len64
  have hcap := h.row.hcap
  have hmax := h.row.hmax
  have hcap64 : cap ≤ 9223372036854775807 := by unfold maxLen at hmax; omega
  clear h hmax
  go_enter Tryz.func35, Tryz.ntmps35
  go_wp2
  go_loopw [5, 8] (fun j i wr => ∃ k : Nat, k ≤ len ∧ i = .int .i64 k ∧ Hid (∀ (j : Nat) z, j < k → L[j]? = some z → z ≠ s) ∧ Hid (Below w.heap.size w wr)) (fun _ i _ => len - (intOf i).toNat)
  case atStart => exact ⟨0, Nat.zero_le _, rfl, Lib.hid (fun j x hj => absurd hj (by omega)), Lib.hid (Below.refl _ _)⟩
  case round =>
    obtain ⟨k, hkl, rfl, HA, HR⟩ := hrel
    by_cases hlt : k < len
    · obtain ⟨b, off, y, rfl, hb, hy, y0, -⟩ := (H.out.below HR.out).get hlt
      have HY := Lib.hid hy
      clear hy
      by_cases hq : y = s
      · have hq1 : (s == y) = true := beq_iff_eq.2 hq.symm
        have HM : Hid (s ∈ L) := Lib.hid (by rw [← hq]; exact List.mem_of_getElem? HY.out)
        go_wp2
        go_ret
        refine ⟨k, rfl, ?_, HR.out⟩
        rw [decide_eq_true (by omega : (0 : Int) ≤ k), decide_eq_true HM.out]
      · have hq1 : (s == y) = false := beq_eq_false_iff_ne.2 (fun e => hq e.symm)
        have HQ := Lib.hid hq
        clear hq
        go_wp2
        go_roundw
        case rel => exact ⟨k + 1, by omega, by go_num, Lib.hid (fun j z hj hz => by
          rcases Nat.lt_or_ge j k with h1 | h1
          · exact HA.out j z h1 hz
          · obtain rfl : j = k := by omega
            rw [HY.out] at hz
            injection hz with hz
            subst hz
            exact HQ.out), HR⟩
        case measure => simp [intOf]; omega
    · have hkn : k = len := by omega
      subst hkn
      go_wp2
      go_ret
      refine ⟨-1, rfl, ?_, HR.out⟩
      rw [decide_eq_false (by omega)]
      refine (decide_eq_false fun hm => ?_).symm
      obtain ⟨j, hj⟩ := List.getElem?_of_mem hm
      exact HA.out j s (by have := (List.getElem?_eq_some_iff.1 hj).1; rw [HL.out] at this; exact this) hj rfl
set_option maxHeartbeats 1000000 in
set_option maxRecDepth 100000 in
theorem containsI_any (a : Option Addr) (len cap : Nat) (L : List Int) (s : Int) (w : World) (h : IntRow w a len cap L) :
    Calls Tryz.prog 18 #[.slice a len cap, .int .i64 s] w fun e w' => e = .returned (.bool (decide (s ∈ L))) ∧ Below w.heap.size w w' := by
  have C := Lib.hid (indexI_any a len cap L s w h)
  have h64 := h.len64
  clear h
  go_enter Tryz.func18, Tryz.ntmps18
  go_wp2_with (go_at_call 35; (with_reducible refine C.out.mono ?_); rintro e w1 ⟨z, rfl, hz, hb⟩; have HZ := Lib.hid hz; have HB := Lib.hid hb; clear hz hb)
  go_ret
  exact ⟨by rw [HZ.out]; rfl, HB.out⟩
end Go.Proofs.YtnjoimedilonnaaGreat
namespace Go.Proofs.YtnjoimedilonnaaGreat
open Go.RowKit
structure ShutAt (F : List Core) (w0 w3 W : World) (g len : Nat) (S0 : List Bool) (D : Nat → Bool) (S : List Bool) : Prop where
  below : Below w0.heap.size w0 W
  grown : w3.grownBy W (some g)
  row : ORow encT W g S
  hl : S.length = len
  at_ : ∀ i : Nat, i < len → S[i]? = if D i then some (shutB F i) else S0[i]?
section
variable {F : List Core} {w0 w3 W X : World} {g len : Nat} {S0 S : List Bool} {D E : Nat → Bool}
theorem ShutAt.keep (h : ShutAt F w0 w3 W g len S0 D S) (hb : Below W.heap.size W X) : ShutAt F w0 w3 X g len S0 D S :=
  ⟨h.below.trans (hb.mono h.below.size), grown_then h.grown hb, h.row.keep hb, h.hl, h.at_⟩
theorem ShutAt.same (h : ShutAt F w0 w3 W g len S0 D S) (he : ∀ i, i < len → D i = E i) : ShutAt F w0 w3 W g len S0 E S :=
  ⟨h.below, h.grown, h.row, h.hl, fun i hi => by rw [← he i hi]; exact h.at_ i hi⟩
theorem ShutAt.put (h : ShutAt F w0 w3 W g len S0 D S) (hg : w0.heap.size ≤ g) {i : Nat} (hil : i < len) {z : Bool} (hz : shutB F i = z) (he : ∀ j, j < len → E j = (D j || decide (j = i))) : ShutAt F w0 w3 (W.setCell ⟨g, i, none⟩ (.bool z)) g len S0 E (S.set i z) := by
  refine ⟨h.below.setCell (p := ⟨g, i, none⟩) hg _, grown_set13 h.grown _ _, h.row.set (by rw [h.hl]; exact hil) z, by rw [List.length_set]; exact h.hl, fun j hj => ?_⟩
  rw [he j hj]
  by_cases e : i = j
  · subst e
    rw [List.getElem?_set_self (by rw [h.hl]; exact hil), decide_eq_true rfl, Bool.or_true, if_pos rfl, hz]
  · rw [List.getElem?_set_ne e, h.at_ j hj, decide_eq_false (fun h2 => e h2.symm), Bool.or_false]
theorem ShutAt.val (h : ShutAt F w0 w3 W g len S0 D S) {n : Nat} (hn : n < len) (h0 : D n = true ∨ S0[n]? = some (shutB F n)) : S[n]? = some (shutB F n) := by
  rw [h.at_ n hn]
  by_cases hd : D n = true
  · rw [if_pos hd]
  · rw [if_neg hd]
    exact h0.resolve_left hd
end
def ShutBy (F : List Core) (w0 w : World) (g len : Nat) (S0 : List Bool) (t : List Nat) (e : Ending) (w' : World) : Prop :=
  e = .returned (.tuple #[]) ∧ ∃ S, ShutAt F w0 w w' g len S0 (parIn F t) S
end Go.Proofs.YtnjoimedilonnaaGreat
namespace Go.Proofs.YtnjoimedilonnaaGreat
open Go.RowKit
structure MBox (w W : World) (g : Nat) (a : Option Addr) (len cap : Nat) (m : Int) (L : List NodeD) (F : List Core) : Prop where
  box : Box w W g a len cap m L F
  free : ∀ o, W.frozen? ⟨g, o, none⟩ = false
  nt : ∀ j s, W.cell? ⟨g, j, none⟩ ≠ some (.string s)
theorem MBox.new {w W : World} {a : Option Addr} {len cap : Nat} {m : Int} {L : List NodeD} {F : List Core} (hb : Below w.heap.size w W) (h : NodeRow W a len cap L) (hc : coreL L = F) : MBox w (W.alloc (forB a len cap m)) W.heap.size a len cap m L F := by
  refine ⟨⟨h.below (below_box _ _), hc, hb.size, by simp, cell_of_row (W.alloc (forB a len cap m)) W.heap.size 0 _ 24 (0, 0) (heap_alloc_new W _), cell_of_row (W.alloc (forB a len cap m)) W.heap.size 1 _ 24 (0, 0) (heap_alloc_new W _), hb.alloc hb.size _⟩, fun o => row_free (heap_alloc_new W _) o, fun j s => ?_⟩
  exact box_notext (Below.refl _ _)
theorem MBox.keep {w W W2 : World} {g : Nat} {a : Option Addr} {len cap : Nat} {m : Int} {L : List NodeD} {F : List Core} (h : MBox w W g a len cap m L F) (hb : Below W.heap.size W W2) : MBox w W2 g a len cap m L F :=
  ⟨h.box.keep hb, fun o => (hb.frozen (p := ⟨g, o, none⟩) h.box.lt).trans (h.free o), fun j s => by rw [hb.cell (p := ⟨g, j, none⟩) h.box.lt]; exact h.nt j s⟩
theorem MBox.put {w W : World} {g : Nat} {a a2 : Option Addr} {len cap len2 cap2 : Nat} {m m2 : Int} {L L2 : List NodeD} {F F2 : List Core} (h : MBox w W g a len cap m L F) (hr : NodeRow ((W.setCell ⟨g, 0, none⟩ (.slice a2 len2 cap2)).setCell ⟨g, 1, none⟩ (.int .i64 m2)) a2 len2 cap2 L2) (hc : coreL L2 = F2) :
    MBox w ((W.setCell ⟨g, 0, none⟩ (.slice a2 len2 cap2)).setCell ⟨g, 1, none⟩ (.int .i64 m2)) g a2 len2 cap2 m2 L2 F2 := by
  have n1 := notext_set (o := 0) (u := .slice a2 len2 cap2) h.nt h.box.c0 (fun s e => by cases e)
  have c1 : (W.setCell ⟨g, 0, none⟩ (.slice a2 len2 cap2)).cell? ⟨g, 1, none⟩ = some (.int .i64 m) := (World.cell?_setCell_other _ _ _ _ (fun e => by injection e with _ e; omega)).trans h.box.c1
  refine ⟨⟨hr, hc, h.box.low, by simpa [World.setCell] using h.box.lt, ?_, World.cell?_setCell_same _ _ _ c1, (h.box.below.setCell (p := ⟨g, 0, none⟩) h.box.low _).setCell (p := ⟨g, 1, none⟩) h.box.low _⟩, fun o => by rw [World.frozen?_setCell, World.frozen?_setCell]; exact h.free o, notext_set n1 c1 (fun s e => by cases e)⟩
  exact (World.cell?_setCell_other _ _ _ _ (fun e => by injection e with _ e; omega)).trans (World.cell?_setCell_same _ _ _ h.box.c0)
theorem MBox.set {w W : World} {g : Nat} {a a2 : Option Addr} {len cap len2 cap2 : Nat} {m m2 : Int} {L L2 : List NodeD} {F F2 : List Core} (h : MBox w W g a len cap m L F) (h2 : NodeRow W a2 len2 cap2 L2) (hc : coreL L2 = F2) (hk : ∀ x ∈ L2, x.core.kids = [] ∧ x.core.attrs = []) :
    MBox w ((W.setCell ⟨g, 0, none⟩ (.slice a2 len2 cap2)).setCell ⟨g, 1, none⟩ (.int .i64 m2)) g a2 len2 cap2 m2 L2 F2 :=
  h.put ((h2.setBox h.nt hk _).setBox (notext_set (o := 0) (u := .slice a2 len2 cap2) h.nt h.box.c0 (fun s e => by cases e)) hk _) hc
theorem MBox.mv {w W W2 : World} {g : Nat} {a a2 va : Option Addr} {len cap len2 cap2 : Nat} {m m2 : Int} {L L2 : List NodeD} {F F2 : List Core} (h : MBox w W g a len cap m L F) (hb : Below W.heap.size W W2) (h2 : NodeRow W2 a2 len2 cap2 L2) (hc : coreL L2 = F2) (hn : MvNew W.heap.size a2 va L2) :
    MBox w ((W2.setCell ⟨g, 0, none⟩ (.slice a2 len2 cap2)).setCell ⟨g, 1, none⟩ (.int .i64 m2)) g a2 len2 cap2 m2 L2 F2 :=
  (h.keep hb).put ((h2.far (hn g h.box.lt).1 (hn g h.box.lt).2.1 0 _).far (hn g h.box.lt).1 (hn g h.box.lt).2.1 1 _) hc
theorem NoteRow.far {W : World} {a : Option Addr} {len cap q : Nat} {N : List NoteD} (h : NoteRow W a len cap N) (ha : ∀ b off, a = some ⟨b, off, none⟩ → b ≠ q) (o : Nat) (u : Value) : NoteRow (W.setCell ⟨q, o, none⟩ u) a len cap N :=
  ⟨h.row.keep (by simp [World.setCell]) (fun b off he _ o' => World.cell?_setCell_other _ _ _ _ (fun e => by injection e with e _; exact ha b off he e.symm)), h.ok, h.hnil⟩
theorem NoteRow.one {W : World} {a : Option Addr} {len cap : Nat} {x : NoteD} (h : NoteRow W a len cap [x]) : len = 1 ∧ ∃ b off, a = some ⟨b, off, none⟩ ∧ b < W.heap.size ∧ ∀ j v, (encO x)[j]? = some v → W.cell? ⟨b, off + j, none⟩ = some v := by
  have hl : 1 = len := h.row.hlen
  subst hl
  obtain ⟨b, off, y, h1, h2, h3, _, h5⟩ := h.row.get (k := 0) (by decide)
  obtain rfl : x = y := Option.some.inj h3
  exact ⟨rfl, b, off, h1, h2, fun j v hv => by have := h5 j v hv; rwa [Nat.zero_mul, Nat.add_zero] at this⟩
theorem mvSmall {L : List NodeD} {F : List Core} (h : coreL L = F) (hd : decide (F.length ≤ 1000 ∧ ∀ c ∈ F, c.kids.length ≤ 1000 ∧ c.attrs.length ≤ 1000 ∧ c.name.size ≤ 1000) = true) : smallF L := by
  have hd := of_decide_eq_true hd
  refine ⟨by rw [← coreL_len, h]; exact hd.1, fun x hx => ?_⟩
  have hm : x.core ∈ F := by rw [← h]; exact List.mem_map.2 ⟨x, hx, rfl⟩
  exact hd.2 _ hm
end Go.Proofs.YtnjoimedilonnaaGreat
namespace Go.Proofs.YtnjoimedilonnaaGreat
open Go.RowKit Go.Deep Go.ChangeShapes Go.WideShapes
theorem in64_of {z : Int} (h : (Lit.int .i64 z).wf = true) : In64 z := by
  exact bounds_i64 h
theorem open_introw {H : Type} {enc : TypeId × Value → H} {W : World} {a : Option Addr} {len cap : Nat} {d : DataW H} {p : List MemPlace}
    (h : DataW.Trod enc Tryz.prog W 0 (fun _ => true) true 27 (.slice a len cap) d p) : ∃ L, IntRow W a len cap L := by
  obtain ⟨fuel, hf⟩ := h
  rcases open_slice Tryz.underlying27 hf with ⟨hcs, _⟩ | ⟨ad, l, c, m, n, D, Pl, hcs, _, hl, hm, hmm, _, hi⟩
  · simp [Value.cells] at hcs
    obtain ⟨rfl, rfl, rfl⟩ := hcs
    exact ⟨[], SRow.nil, by simp, fun _ => rfl⟩
  · simp [Value.cells] at hcs
    obtain ⟨rfl, rfl, rfl⟩ := hcs
    have hml : len ≤ m := by rw [hmm]; simpa using hl
    have ce : Tryz.prog.cellsOf 3 = 1 := by kernel_rfl
    have each : ∀ i, i < len → ∃ x : Int, W.cell? (ad.add i) = some (.int .i64 x) ∧ In64 x := by
      intro i hil
      obtain ⟨cs', h1, h2⟩ := hi i (by omega)
      rw [ce] at h1
      obtain ⟨_, hlen, hcell⟩ := World.cells?_some h1
      match cs', hlen with
      | [v0], _ =>
        have e0 := hcell 0 (by omega)
        rw [add_add] at e0
        obtain ⟨n0, hn0, _, hw0⟩ := DataW.trod_int Tryz.underlying3 h2
        simp at hn0
        subst hn0
        exact ⟨n0, by simpa using e0, in64_of hw0⟩
    obtain ⟨q, hq⟩ : ∃ q : Nat → Int, ∀ i, i < len → W.cell? (ad.add i) = some (.int .i64 (q i)) ∧ In64 (q i) := by
      refine ⟨fun i => if h : i < len then (each i h).choose else 0, fun i hil => ?_⟩
      simp only [dif_pos hil]
      exact (each i hil).choose_spec
    refine ⟨(List.range len).map q, ⟨by simp, hl, hm, fun x _ => rfl, ?_⟩, ?_, fun h => by cases h⟩
    · rcases Nat.eq_zero_or_pos len with h0 | h0
      · exact .inl h0
      · obtain ⟨b, off, spot⟩ := ad
        have hc := (hq 0 h0).1
        have hspot : spot = none := by simpa [Addr.add] using World.cell?_spot hc
        subst hspot
        refine .inr ⟨b, off, rfl, ?_, ?_⟩
        · have := block_lt hc
          rwa [add_plain] at this
        · intro i x j v hx hv
          obtain ⟨hil, hgx⟩ := List.getElem?_eq_some_iff.1 hx
          have hil' : i < len := by simpa using hil
          simp at hgx
          obtain ⟨h1, _⟩ := hq i hil'
          rw [add_plain] at h1
          rw [hgx] at h1
          obtain ⟨hjl, hgv⟩ := List.getElem?_eq_some_iff.1 hv
          match j, hjl with
          | 0, _ => simp [encZ] at hgv; subst hgv; simpa using h1
    · intro x hx
      obtain ⟨i, hi1, rfl⟩ := List.mem_map.1 hx
      exact (hq i (List.mem_range.1 hi1)).2
theorem slice_cells {H : Type} {enc : TypeId × Value → H} {W : World} {t e : TypeId} {fuel : Nat} {v : Value} {x : DataW H × List MemPlace} (ht : Tryz.prog.underlying t = some (.slice e))
    (h : DataW.trod enc Tryz.prog W 0 (fun _ => true) true fuel t [v] = some x) : ∃ a n c, v = .slice a n c := by
  rcases open_slice ht h with ⟨hcs, _⟩ | ⟨ad, l, c, m, n, D, Pl, hcs, _⟩
  · exact ⟨none, 0, 0, by simpa using hcs⟩
  · exact ⟨some ad, l, c, by simpa using hcs⟩
set_option maxRecDepth 100000 in
theorem open_nodecells {H : Type} {enc : TypeId × Value → H} {W : World} {cs : List Value} {d : DataW H} {p : List MemPlace} {fuel : Nat} (hc : cs.length = 10)
    (h : DataW.trod enc Tryz.prog W 0 (fun _ => true) true fuel 37 cs = some (d, p)) : ∃ x : NodeD, cs = encN x ∧ NodeOk W x := by
  obtain ⟨xs, k, _, _, _, hxl, hff⟩ := DataW.trod_struct Tryz.underlying37 h
  have c3 : Tryz.prog.cellsOf 3 = 1 := by kernel_rfl
  have c9 : Tryz.prog.cellsOf 9 = 1 := by kernel_rfl
  have ca : Tryz.prog.cellsOf 35 = 1 := by kernel_rfl
  have ci : Tryz.prog.cellsOf 27 = 1 := by kernel_rfl
  match cs, hc with
  | [v0, v1, v2, v3, v4, v5, v6, v7, v8, v9], _ =>
    match xs, hxl with
    | [y0, y1, y2, y3, y4, y5, y6, y7, y8, y9], _ =>
      have g0 := hff 0 _ rfl
      have g1 := hff 1 _ rfl
      have g2 := hff 2 _ rfl
      have g3 := hff 3 _ rfl
      have g4 := hff 4 _ rfl
      have g5 := hff 5 _ rfl
      have g6 := hff 6 _ rfl
      have g7 := hff 7 _ rfl
      have g8 := hff 8 _ rfl
      have g9 := hff 9 _ rfl
      simp [c3, c9, ca, ci] at g0 g1 g2 g3 g4 g5 g6 g7 g8 g9
      obtain ⟨n0, hn0, _, hw0⟩ := DataW.trod_int Tryz.underlying3 g0
      obtain ⟨s1, hs1, _, hl1⟩ := DataW.trod_string Tryz.underlying9 g1
      obtain ⟨s2, hs2, _, hl2⟩ := DataW.trod_string Tryz.underlying9 g2
      obtain ⟨s3, hs3, _, hl3⟩ := DataW.trod_string Tryz.underlying9 g3
      obtain ⟨n5, hn5, _, hw5⟩ := DataW.trod_int Tryz.underlying3 g5
      obtain ⟨n7, hn7, _, hw7⟩ := DataW.trod_int Tryz.underlying3 g7
      obtain ⟨n8, hn8, _, hw8⟩ := DataW.trod_int Tryz.underlying3 g8
      obtain ⟨n9, hn9, _, hw9⟩ := DataW.trod_int Tryz.underlying3 g9
      simp at hn0 hs1 hs2 hs3 hn5 hn7 hn8 hn9
      subst hn0 hs1 hs2 hs3 hn5 hn7 hn8 hn9
      obtain ⟨a4, l4, c4, rfl⟩ := slice_cells Tryz.underlying35 g4
      obtain ⟨a6, l6, c6, rfl⟩ := slice_cells Tryz.underlying27 g6
      obtain ⟨A, hA⟩ := open_attrs (enc := enc) (W := W) (a := a4) (len := l4) (cap := c4) (d := y4.1) (p := y4.2) ⟨k, by simpa [Value.cells] using g4⟩
      obtain ⟨K, hK⟩ := open_introw (enc := enc) (W := W) (a := a6) (len := l6) (cap := c6) (d := y6.1) (p := y6.2) ⟨k, by simpa [Value.cells] using g6⟩
      exact ⟨⟨⟨n0, s1, s2, s3, A, n5, K, n7, n8, n9⟩, a4, l4, c4, a6, l6, c6⟩, rfl, hA, hK, hl1, hl2, hl3, in64_of hw0, in64_of hw5, in64_of hw7, in64_of hw8, in64_of hw9⟩
theorem open_noderow {H : Type} {enc : TypeId × Value → H} {W : World} {a : Option Addr} {len cap : Nat} {d : DataW H} {p : List MemPlace}
    (h : DataW.Trod enc Tryz.prog W 0 (fun _ => true) true 22 (.slice a len cap) d p) : ∃ L, NodeRow W a len cap L := by
  obtain ⟨fuel, hf⟩ := h
  rcases open_slice Tryz.underlying22 hf with ⟨hcs, _⟩ | ⟨ad, l, c, m, n, D, Pl, hcs, _, hl, hm, hmm, _, hi⟩
  · simp [Value.cells] at hcs
    obtain ⟨rfl, rfl, rfl⟩ := hcs
    exact ⟨[], SRow.nil, by simp, fun _ => rfl⟩
  · simp [Value.cells] at hcs
    obtain ⟨rfl, rfl, rfl⟩ := hcs
    have hml : len ≤ m := by rw [hmm]; simpa using hl
    have ce : Tryz.prog.cellsOf 37 = 10 := by kernel_rfl
    have each : ∀ i, i < len → ∃ x : NodeD, NodeOk W x ∧ ∀ j v, (encN x)[j]? = some v → W.cell? (ad.add (i * 10 + j)) = some v := by
      intro i hil
      obtain ⟨cs', h1, h2⟩ := hi i (by omega)
      rw [ce] at h1
      obtain ⟨_, hlen, hcell⟩ := World.cells?_some h1
      obtain ⟨x, hx, hok⟩ := open_nodecells hlen h2
      refine ⟨x, hok, fun j v hv => ?_⟩
      have hj : j < 10 := (List.getElem?_eq_some_iff.1 hv).1
      have e0 := hcell j hj
      rw [add_add, hx, hv] at e0
      exact e0
    obtain ⟨q, hq⟩ : ∃ q : Nat → NodeD, ∀ i, i < len → NodeOk W (q i) ∧ ∀ j v, (encN (q i))[j]? = some v → W.cell? (ad.add (i * 10 + j)) = some v := by
      rcases Nat.eq_zero_or_pos len with h0 | h0
      · exact ⟨fun _ => ⟨⟨0, ByteArray.empty, ByteArray.empty, ByteArray.empty, [], 0, [], 0, 0, 0⟩, none, 0, 0, none, 0, 0⟩, fun i hi => by omega⟩
      · refine ⟨fun i => if h : i < len then (each i h).choose else (each 0 h0).choose, fun i hil => ?_⟩
        simp only [dif_pos hil]
        exact (each i hil).choose_spec
    refine ⟨(List.range len).map q, ⟨by simp, hl, hm, fun x _ => rfl, ?_⟩, ?_, fun h => by cases h⟩
    · rcases Nat.eq_zero_or_pos len with h0 | h0
      · exact .inl h0
      · obtain ⟨b, off, spot⟩ := ad
        have hc := (hq 0 h0).2 0 _ rfl
        have hspot : spot = none := by simpa [Addr.add] using World.cell?_spot hc
        subst hspot
        refine .inr ⟨b, off, rfl, ?_, ?_⟩
        · have := block_lt hc
          rwa [add_plain] at this
        · intro i x j v hx hv
          obtain ⟨hil, hgx⟩ := List.getElem?_eq_some_iff.1 hx
          have hil' : i < len := by simpa using hil
          simp at hgx
          have h1 := (hq i hil').2 j v (by rw [hgx]; exact hv)
          rw [add_plain] at h1
          simpa [Nat.add_assoc] using h1
    · intro x hx
      obtain ⟨i, hi1, rfl⟩ := List.mem_map.1 hx
      exact (hq i (List.mem_range.1 hi1)).1
set_option maxRecDepth 100000 in
theorem open_forest {H : Type} {enc : TypeId × Value → H} {W : World} {r : Reach} {b0 : Nat} {v : Value} {d : DataW H} {p : List MemPlace} (hv : Value.okWide Tryz.prog W r b0 24 v)
    (h : DataW.Trod enc Tryz.prog W 0 (fun _ => true) true 24 v d p) : ∃ a len cap m L, v = .agg #[.slice a len cap, .int .i64 m] ∧ NodeRow W a len cap L ∧ In64 m := by
  obtain ⟨cs, rfl, hsz⟩ := okWide_struct Tryz.underlying24 hv
  have hC : Tryz.prog.cellsOf 24 = 2 := by kernel_rfl
  have c3 : Tryz.prog.cellsOf 3 = 1 := by kernel_rfl
  have cn : Tryz.prog.cellsOf 22 = 1 := by kernel_rfl
  obtain ⟨l⟩ := cs
  match l, hsz.trans hC with
  | [v0, v1], _ =>
    obtain ⟨fuel, hf⟩ := h
    obtain ⟨xs, k, _, _, _, hxl, hff⟩ := DataW.trod_struct Tryz.underlying24 hf
    match xs, hxl with
    | [y0, y1], _ =>
      have g0 := hff 0 _ rfl
      have g1 := hff 1 _ rfl
      simp [c3, cn, Value.cells] at g0 g1
      obtain ⟨n1, hn1, _, hw1⟩ := DataW.trod_int Tryz.underlying3 g1
      simp at hn1
      subst hn1
      obtain ⟨a4, l4, c4, rfl⟩ := slice_cells Tryz.underlying22 g0
      obtain ⟨L, hL⟩ := open_noderow (enc := enc) (W := W) (a := a4) (len := l4) (cap := c4) (d := y0.1) (p := y0.2) ⟨k, by simpa [Value.cells] using g0⟩
      exact ⟨a4, l4, c4, n1, L, rfl, hL, in64_of hw1⟩
end Go.Proofs.YtnjoimedilonnaaGreat
