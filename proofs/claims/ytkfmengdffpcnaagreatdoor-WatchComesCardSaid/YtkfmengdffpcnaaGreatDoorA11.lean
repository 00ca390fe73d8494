/- Texts joined in build order: ForestAsk ForestAsk2. -/
import Derived.Test.YtkfmengdffpcnaaGreatDoorA10
namespace Go.Proofs.YtkfmengdffpcnaaGreatDoor
open Go.RowKit
theorem lit_one (w : World) (e : TypeId) (n : Int) (h : In64 n) : IntRow (w.alloc (.cells #[.int .i64 n] e)) (some ⟨w.heap.size, 0, none⟩) 1 1 [n] :=
  ⟨own_one w e n #[.int .i64 n] rfl rfl, fun z hz => by simp at hz; rw [hz]; exact h, fun h => by cases h⟩
theorem lit_two (w : World) (e : TypeId) (n m : Int) (h1 : In64 n) (h2 : In64 m) : IntRow (w.alloc (.cells #[.int .i64 n, .int .i64 m] e)) (some ⟨w.heap.size, 0, none⟩) 2 2 [n, m] := by
  refine ⟨⟨rfl, Nat.le_refl _, by unfold maxLen; omega, fun y hy => rfl, .inr ⟨_, _, rfl, by simp, fun i y j v hy hv => ?_⟩⟩, fun z hz => by simp at hz; rcases hz with rfl | rfl <;> assumption, fun h => by cases h⟩
  obtain ⟨hj, hv2⟩ := List.getElem?_eq_some_iff.1 hv
  have hj0 : j = 0 := by simpa [encZ] using hj
  subst hj0
  simp [encZ] at hv2
  subst hv2
  rw [cell_of_row (w.alloc (.cells #[.int .i64 n, .int .i64 m] e)) w.heap.size (0 + i * 1 + 0) _ e (0, 0) (heap_alloc_new w _)]
  match i, hy with
  | 0, hy => simp at hy; subst hy; rfl
  | 1, hy => simp at hy; subst hy; rfl
  | i + 2, hy => simp at hy
def inB (len : Nat) (z : Int) : Bool := decide (0 ≤ z) && decide (z < (len : Int))
def knowsB (m : Int) (F : List Core) (l : List Int) : Bool := l.all (inB F.length) && rightF m F
set_option maxHeartbeats 4000000 in
set_option maxRecDepth 100000 in
theorem knows_any (a : Option Addr) (len cap : Nat) (m : Int) (L : List NodeD) (b : Option Addr) (ln cn : Nat) (l : List Int) (w : World) (h : NodeRow w a len cap L) (hm : In64 m) (hs : smallF L) (hn : IntRow w b ln cn l) :
    Calls Tryz.prog 91 #[forV a len cap m, .slice b ln cn] w fun e w' => e = .returned (.bool (knowsB m (coreL L) l)) ∧ Below w.heap.size w w' := by
  have HL := Lib.hid h.hlen
  have hlen := h.len64
  have HNL := Lib.hid hn.hlen
  have hln := hn.len64
  have BX := Lib.hid (Box.start (m := m) h)
  have NR := Lib.hid (hn.below (below_box w (forB a len cap m)))
  have z0 := BX.out.c0
  have z1 := BX.out.c1
  have CR : Hid (∀ W, NodeRow W a len cap L → Calls Tryz.prog 20 #[forV a len cap m] W fun e w' => e = .returned (.bool (rightF m (coreL L))) ∧ Below W.heap.size W w') := Lib.hid (fun W h => rightF_any a len cap m L W h hm hs)
  clear h hm hs hn
  go_enter Tryz.func91, Tryz.ntmps91
  go_wp2
  go_loop [9] (fun i => ∃ k : Nat, k ≤ ln ∧ i = .int .i64 k ∧ Hid (∀ (j : Nat) z, j < k → l[j]? = some z → inB (coreL L).length z = true)) (fun i => ln - (intOf i).toNat)
  case atStart => exact ⟨0, Nat.zero_le _, rfl, Lib.hid (fun j z hj => absurd hj (by omega))⟩
  case round =>
    obtain ⟨k, hk, rfl, HA⟩ := hrel
    by_cases hlt : k < ln
    · obtain ⟨b2, off2, z, rfl, hb2, hz, hcz, hin⟩ := NR.out.get hlt
      have STOP : Hid (inB (coreL L).length z = false → knowsB m (coreL L) l = false) := Lib.hid (fun hq => by
        unfold knowsB
        have : l.all (inB (coreL L).length) = false := by rw [List.all_eq_false]; exact ⟨z, List.mem_of_getElem? hz, by simp [hq]⟩
        rw [this]
        rfl)
      by_cases q1 : z < 0
      · have HR : Hid (knowsB m (coreL L) l = false) := Lib.hid (STOP.out (by unfold inB; rw [decide_eq_false (by omega)]; rfl))
        clear hz
        go_wp2
        go_ret
        exact ⟨ret_bool HR.out.symm, BX.out.below⟩
      by_cases q2 : (len : Int) ≤ z
      · have HR : Hid (knowsB m (coreL L) l = false) := Lib.hid (STOP.out (by unfold inB; rw [decide_eq_false (show ¬ z < ((coreL L).length : Int) by rw [coreL_len, HL.out]; omega), Bool.and_false]))
        clear hz
        go_wp2
        go_ret
        exact ⟨ret_bool HR.out.symm, BX.out.below⟩
      have HA2 : Hid (∀ (j : Nat) z, j < k + 1 → l[j]? = some z → inB (coreL L).length z = true) := Lib.hid (fun j y hj hy => by
        by_cases e : j = k
        · subst e
          rw [hz] at hy
          rw [← Option.some.inj hy]
          unfold inB
          rw [decide_eq_true (by omega), decide_eq_true (by rw [coreL_len, HL.out]; omega)]
          rfl
        · exact HA.out j y (by omega) hy)
      clear hz
      go_wp2
      go_round
      case rel => exact ⟨k + 1, by omega, by go_num, HA2⟩
      case measure => simp [intOf]; omega
    · have HR : Hid (knowsB m (coreL L) l = rightF m (coreL L)) := Lib.hid (by
        unfold knowsB
        have : l.all (inB (coreL L).length) = true := by
          rw [List.all_eq_true]
          intro z hz
          obtain ⟨j, hj, he⟩ := List.mem_iff_getElem.1 hz
          exact HA.out j z (by rw [HNL.out] at hj; omega) (by rw [List.getElem?_eq_getElem hj, he])
        rw [this]
        rfl)
      clear HA
      go_wp2_with (go_at_call 20; (refine (CR.out _ BX.out.row).mono ?_); rintro e w1 ⟨rfl, hb⟩; have BX := Lib.hid (BX.out.keep hb); clear hb)
      go_ret
      exact ⟨ret_bool HR.out.symm, BX.out.below⟩
theorem right_par {m : Int} {F : List Core} (h : rightF m F = true) {c : Nat} {x : Core} (hx : F[c]? = some x) (hp : x.parent ≠ -1) : ∃ p : Nat, x.parent = p ∧ p < F.length ∧ parF F c = some p := by
  have h1 := (nodeOk_iff.1 (((rightF_iff m F).1 h).2.1 c x hx)).2.1
  unfold parOk at h1
  rw [beq_eq_false_iff_ne.2 hp, Bool.false_or, Bool.and_eq_true] at h1
  cases hg : getC F x.parent with
  | none => rw [hg] at h1; simp at h1
  | some d =>
    obtain ⟨e1, e2, _⟩ := getC_some hg
    refine ⟨x.parent.toNat, by omega, e2, ?_⟩
    unfold parF
    rw [hx]
    dsimp only
    rw [if_neg hp]
theorem right_top {F : List Core} {c : Nat} {x : Core} (hx : F[c]? = some x) (hp : x.parent = -1) : parF F c = none := by
  unfold parF
  rw [hx]
  dsimp only
  rw [if_pos hp]
set_option maxHeartbeats 4000000 in
set_option maxRecDepth 100000 in
theorem rootUp_any (a : Option Addr) (len cap : Nat) (m : Int) (L : List NodeD) (n : Nat) (w : World) (h : NodeRow w a len cap L) (hr : rightF m (coreL L) = true) (hn : n < len) :
    Calls Tryz.prog 92 #[.slice a len cap, .int .i64 n] w fun e w' => e = .returned (.int .i64 (rootF (coreL L) n : Nat)) ∧ w = w' := by
  have HCL : Hid ((coreL L).length = len) := Lib.hid (by rw [coreL_len, h.hlen])
  have hlen := h.len64
  have TR := Lib.hid (tree_of_right hr)
  have HH := Lib.hid h
  have HRT := Lib.hid hr
  clear h hr
  go_enter Tryz.func92, Tryz.ntmps92
  go_wp2
  go_loop [1] (fun i => ∃ c : Nat, c < len ∧ i = .int .i64 c ∧ Hid (rootF (coreL L) c = rootF (coreL L) n)) (fun i => rankF (coreL L) (intOf i).toNat)
  case atStart => exact ⟨n, hn, rfl, Lib.hid rfl⟩
  case round =>
    obtain ⟨c, hc, rfl, HE⟩ := hrel
    obtain ⟨b, off, x, rfl, hb, hx, hat, hok⟩ := HH.out.get hc
    have c5 := hat.c5
    have hxc := coreL_get hx
    by_cases hp : x.core.parent = -1
    · have HR : Hid (rootF (coreL L) n = c) := Lib.hid (by
        rw [← HE.out]
        exact rootN_none (right_top hxc hp))
      rw [hp] at c5
      clear hxc hx hat hok hp
      go_wp2
      go_ret
      exact ⟨ret_int (by rw [HR.out]), rfl⟩
    · obtain ⟨p, hpp, hpl, hpar⟩ := right_par HRT.out hxc hp
      have hcl : c < (coreL L).length := by rw [HCL.out]; exact hc
      have hrk := TR.out.rank_up _ c hcl hpar
      have HE2 : Hid (rootF (coreL L) p = rootF (coreL L) n) := Lib.hid (by
        rw [← HE.out]
        exact TR.out.root_held hcl (by omega) (holds_par hpar))
      rw [hpp] at c5
      rw [HCL.out] at hpl
      have hne : ((p : Int) != -1) = true := bne_iff_ne.2 (by omega)
      have HRK := Lib.hid hrk
      clear hpar hxc hx hat hok hp hpp hrk
      go_wp2
      go_round
      case rel => exact ⟨p, hpl, rfl, HE2⟩
      case measure => simp [intOf]; rw [HRK.out]; omega
theorem knowsB_one {m : Int} {F : List Core} {n : Int} : knowsB m F [n] = thereF m F n := by
  unfold knowsB thereF inB
  rw [Bool.eq_iff_iff]
  simp
  constructor
  · rintro ⟨⟨h1, h2⟩, h3⟩
    exact ⟨⟨h3, h1⟩, h2⟩
  · rintro ⟨⟨h3, h1⟩, h2⟩
    exact ⟨⟨h1, h2⟩, h3⟩
theorem knowsB_two {m : Int} {F : List Core} {x y : Int} : knowsB m F [x, y] = (thereF m F x && thereF m F y) := by
  unfold knowsB thereF inB
  rw [Bool.eq_iff_iff]
  simp
  constructor
  · rintro ⟨⟨⟨h1, h2⟩, h3, h4⟩, h5⟩
    exact ⟨⟨⟨h5, h1⟩, h2⟩, ⟨h5, h3⟩, h4⟩
  · rintro ⟨⟨⟨h5, h1⟩, h2⟩, ⟨_, h3⟩, h4⟩
    exact ⟨⟨⟨h1, h2⟩, h3, h4⟩, h5⟩
theorem there_nat {m : Int} {F : List Core} {n : Int} (h : thereF m F n = true) : rightF m F = true ∧ ∃ k : Nat, n = k ∧ k < F.length := by
  unfold thereF at h
  simp only [Bool.and_eq_true, decide_eq_true_eq] at h
  exact ⟨h.1.1, n.toNat, by omega, by omega⟩
set_option maxHeartbeats 4000000 in
set_option maxRecDepth 100000 in
theorem rootFn_any (a : Option Addr) (len cap : Nat) (m : Int) (L : List NodeD) (n : Int) (w : World) (h : NodeRow w a len cap L) (hm : In64 m) (hn : In64 n) (hs : smallF L) :
    Calls Tryz.prog 62 #[forV a len cap m, .int .i64 n] w fun e w' => e = .returned (.int .i64 (rootZ m (coreL L) n)) ∧ Below w.heap.size w w' := by
  have HCL : Hid ((coreL L).length = len) := Lib.hid (by rw [coreL_len, h.hlen])
  have BX := Lib.hid ((Box.start (m := m) h).keep (below_box _ (.cells #[.int .i64 n] 3)))
  have NB := Lib.hid (lit_one (w.alloc (forB a len cap m)) 3 n hn)
  have CK : Hid (∀ W b, NodeRow W a len cap L → IntRow W b 1 1 [n] → Calls Tryz.prog 91 #[forV a len cap m, .slice b 1 1] W fun e w' => e = .returned (.bool (thereF m (coreL L) n)) ∧ Below W.heap.size W w') := Lib.hid (fun W b h1 h2 => by
    rw [← knowsB_one]
    exact knows_any a len cap m L b 1 1 [n] W h1 hm hs h2)
  simp only [World.size_alloc] at NB
  have z0 := BX.out.c0
  have z1 := BX.out.c1
  clear h hm hs hn
  cases q : thereF m (coreL L) n with
  | false =>
    rw [q] at CK
    have HR : Hid (rootZ m (coreL L) n = -1) := Lib.hid (by unfold rootZ; rw [q]; rfl)
    clear q
    go_enter Tryz.func62, Tryz.ntmps62
    go_wp2_with (first
                    | (go_at_call 91; ((with_reducible refine (CK.out _ _ BX.out.row NB.out).mono ?_); rintro e w1 ⟨rfl, hb⟩; have BX := Lib.hid (BX.out.keep hb); have z0 := BX.out.c0; have z1 := BX.out.c1; clear hb))
                    | (go_at_call 92; ((with_reducible refine (CU.out _ BX.out.row).mono ?_); rintro e w1 ⟨rfl, rfl⟩)))
    go_ret
    exact ⟨ret_int HR.out.symm, BX.out.below⟩
  | true =>
    rw [q] at CK
    obtain ⟨hr, k, rfl, hk⟩ := there_nat q
    have HR : Hid (rootZ m (coreL L) k = (rootF (coreL L) k : Nat)) := Lib.hid (rootZ_eq hr hk)
    have CU : Hid (∀ W, NodeRow W a len cap L → Calls Tryz.prog 92 #[.slice a len cap, .int .i64 k] W fun e w' => e = .returned (.int .i64 (rootF (coreL L) k : Nat)) ∧ W = w') := Lib.hid (fun W h => rootUp_any a len cap m L k W h hr (by rw [← HCL.out]; exact hk))
    clear q hr hk
    go_enter Tryz.func62, Tryz.ntmps62
    go_wp2_with (first
                    | (go_at_call 91; ((with_reducible refine (CK.out _ _ BX.out.row NB.out).mono ?_); rintro e w1 ⟨rfl, hb⟩; have BX := Lib.hid (BX.out.keep hb); have z0 := BX.out.c0; have z1 := BX.out.c1; clear hb))
                    | (go_at_call 92; ((with_reducible refine (CU.out _ BX.out.row).mono ?_); rintro e w1 ⟨rfl, rfl⟩)))
    go_ret
    exact ⟨ret_int HR.out.symm, BX.out.below⟩
end Go.Proofs.YtkfmengdffpcnaaGreatDoor
namespace Go.Proofs.YtkfmengdffpcnaaGreatDoor
open Go.RowKit
set_option maxHeartbeats 4000000 in
theorem index_any (a : Option Addr) (len cap : Nat) (L : List Int) (n : Int) (w : World) (h : IntRow w a len cap L) :
    Calls Tryz.prog 85 #[.slice a len cap, .int .i64 n] w fun e w' => e = .returned (.int .i64 (findZ L n)) ∧ w = w' := by
  have hl := h.len64
  have HH := Lib.hid h
  clear h
  go_enter Tryz.func85, Tryz.ntmps85
  go_wp2
  go_loop [8] (fun i => ∃ k : Nat, k ≤ len ∧ i = .int .i64 k ∧ Hid (k ≤ findN L n)) (fun i => len - (intOf i).toNat)
  case atStart => exact ⟨0, Nat.zero_le _, rfl, Lib.hid (Nat.zero_le _)⟩
  case round =>
    obtain ⟨k, hk, rfl, HA⟩ := hrel
    by_cases hlt : k < len
    · obtain ⟨b, off, z, rfl, hb, hx, hc, _⟩ := HH.out.get hlt
      have HX := Lib.hid hx
      clear hx
      by_cases he : n = z
      · have HR : Hid (findZ L n = (k : Int)) := Lib.hid (by
          have := findN_here HA.out HX.out (beq_iff_eq.2 he.symm)
          unfold findZ
          rw [this, if_pos (by rw [HH.out.hlen]; exact hlt)])
        subst he
        go_wp2
        go_ret
        exact ⟨ret_int HR.out.symm, rfl⟩
      · have e1 : (n == z) = false := beq_eq_false_iff_ne.2 he
        have HR := Lib.hid (findN_step HA.out HX.out (beq_eq_false_iff_ne.2 (fun e => he e.symm)))
        clear he
        go_wp2
        go_round
        case rel => exact ⟨k + 1, by omega, by go_num, HR⟩
        case measure => simp [intOf]; omega
    · have HR : Hid (findZ L n = -1) := Lib.hid (by unfold findZ; rw [if_neg (by rw [HH.out.hlen]; have := HA.out; omega)])
      go_wp2
      go_ret
      exact ⟨ret_int HR.out.symm, rfl⟩
set_option maxHeartbeats 4000000 in
set_option maxRecDepth 100000 in
theorem placeFn_any (a : Option Addr) (len cap : Nat) (m : Int) (L : List NodeD) (n : Int) (w : World) (h : NodeRow w a len cap L) (hm : In64 m) (hn : In64 n) (hs : smallF L) :
    Calls Tryz.prog 82 #[forV a len cap m, .int .i64 n] w fun e w' => e = .returned (.int .i64 (placeZ m (coreL L) n)) ∧ Below w.heap.size w w' := by
  have HCL : Hid ((coreL L).length = len) := Lib.hid (by rw [coreL_len, h.hlen])
  have hlen := h.len64
  have BX := Lib.hid ((Box.start (m := m) h).keep (below_box _ (.cells #[.int .i64 n] 3)))
  have NB := Lib.hid (lit_one (w.alloc (forB a len cap m)) 3 n hn)
  have CK : Hid (∀ W b, NodeRow W a len cap L → IntRow W b 1 1 [n] → Calls Tryz.prog 91 #[forV a len cap m, .slice b 1 1] W fun e w' => e = .returned (.bool (thereF m (coreL L) n)) ∧ Below W.heap.size W w') := Lib.hid (fun W b h1 h2 => by
    rw [← knowsB_one]
    exact knows_any a len cap m L b 1 1 [n] W h1 hm hs h2)
  simp only [World.size_alloc] at NB
  have z0 := BX.out.c0
  have z1 := BX.out.c1
  have HH := Lib.hid h
  clear h hm hs hn
  cases q : thereF m (coreL L) n with
  | false =>
    rw [q] at CK
    have HR : Hid (placeZ m (coreL L) n = -1) := Lib.hid (by unfold placeZ; rw [q]; rfl)
    clear q
    go_enter Tryz.func82, Tryz.ntmps82
    go_wp2_with (first
                    | (go_at_call 91; ((with_reducible refine (CK.out _ _ BX.out.row NB.out).mono ?_); rintro e w1 ⟨rfl, hb⟩; have BX := Lib.hid (BX.out.keep hb); have z0 := BX.out.c0; have z1 := BX.out.c1; clear hb))
                    | (go_at_call 92; ((with_reducible refine (CU.out _ BX.out.row).mono ?_); rintro e w1 ⟨rfl, rfl⟩)))
    go_ret
    exact ⟨ret_int HR.out.symm, BX.out.below⟩
  | true =>
    rw [q] at CK
    obtain ⟨hr, k, rfl, hk⟩ := there_nat q
    have HP : Hid (placeZ m (coreL L) k = placeF (coreL L) k) := Lib.hid (by unfold placeZ; rw [q]; rfl)
    have HRT := Lib.hid hr
    rw [HCL.out] at hk
    clear q hr
    obtain ⟨b, off, x, rfl, hb, hx, hat, hok⟩ := HH.out.get hk
    have hxc := coreL_get hx
    by_cases hp : x.core.parent = -1
    · have c5 := hat.c5
      rw [hp] at c5
      have C5 := Lib.hid (stays c5 hb)
      have HR : Hid (placeZ m (coreL L) k = -1) := Lib.hid (by rw [HP.out]; unfold placeF; rw [right_top hxc hp])
      clear hat hok hx hxc hp hb c5
      go_enter Tryz.func82, Tryz.ntmps82
      go_wp2_with (go_at_call 91; ((with_reducible refine (CK.out _ _ BX.out.row NB.out).mono ?_); rintro e w1 ⟨rfl, hb⟩; have BX := Lib.hid (BX.out.keep hb); have z0 := BX.out.c0; have z1 := BX.out.c1; have c5 := C5.out _ BX.out.below; clear hb))
      go_ret
      exact ⟨ret_int HR.out.symm, BX.out.below⟩
    · obtain ⟨p, hpp, hpl, hpar⟩ := right_par HRT.out hxc hp
      rw [HCL.out] at hpl
      have c5 := hat.c5
      rw [hpp] at c5
      have C5 := Lib.hid (stays c5 hb)
      obtain ⟨b2, off2, y, hab, hb2, hy, hat2, hok2⟩ := HH.out.get hpl
      injection hab with hab
      injection hab with e1 e2
      subst e1 e2
      have C6 := Lib.hid (stays hat2.c6 hb2)
      have HR : Hid (placeZ m (coreL L) k = findZ y.core.kids k) := Lib.hid (by rw [HP.out]; unfold placeF; rw [hpar]; dsimp only; rw [coreL_get hy])
      have CX : Hid (∀ W, Below w.heap.size w W → Calls Tryz.prog 85 #[.slice y.kA y.kN y.kC, .int .i64 k] W fun e w' => e = .returned (.int .i64 (findZ y.core.kids k)) ∧ W = w') := Lib.hid (fun W hb => index_any _ _ _ _ _ W (hok2.kids.below hb))
      have hne : ((p : Int) == -1) = false := beq_eq_false_iff_ne.2 (by omega)
      clear hat hok hx hxc hp hb c5 hy hat2 hok2 hb2 hpar hpp
      go_enter Tryz.func82, Tryz.ntmps82
      go_wp2_with (go_at_call 91; ((with_reducible refine (CK.out _ _ BX.out.row NB.out).mono ?_); rintro e w1 ⟨rfl, hb⟩; have BX := Lib.hid (BX.out.keep hb); have z0 := BX.out.c0; have z1 := BX.out.c1; have c5 := C5.out _ BX.out.below; clear hb))
      have E0 := Ext.cell z0 BX.out.lt
      have E5 := Ext.stays C5.out BX.out.below
      have E6 := Ext.stays C6.out BX.out.below
      have EX := Lib.hid (fun (x : Ext w1) => CX.out x.v (BX.out.below.trans (x.below.mono BX.out.below.size)))
      refine wp_region_ext (by kernel_rfl) (by kernel_rfl) ?_
      repeat (go_big_quiet_step (first | (go_at_call 85; exact Ext.call_same (EX.out _))))
      refine wpQuiet_nil ?_
      intro w3 hw'
      obtain ⟨⟨w4, hb4⟩, hw''⟩ := hw'
      dsimp only at hw''
      subst hw''
      have BX := Lib.hid (BX.out.keep hb4)
      clear E0 E5 E6 EX hb4
      go_wp2
      go_ret
      exact ⟨ret_int HR.out.symm, BX.out.below⟩
end Go.Proofs.YtkfmengdffpcnaaGreatDoor
