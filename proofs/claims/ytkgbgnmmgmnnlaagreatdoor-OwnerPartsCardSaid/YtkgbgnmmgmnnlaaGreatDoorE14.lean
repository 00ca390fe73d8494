/- Texts joined in build order: ForestAsk ShadeTree ShadeFns ForestAsk2 AttrSet2 ValidFns StepWp. -/
import Derived.Test.YtkgbgnmmgmnnlaaGreatDoorE13
import Derived.Test.YtkgbgnmmgmnnlaaGreatDoorE11
import Derived.Test.YtkgbgnmmgmnnlaaGreatDoorE05
import Derived.BigRegion
import Derived.Deep.RegionLaw
namespace Go.Proofs.YtkgbgnmmgmnnlaaGreatDoor
open Go.RowKit
theorem lit_one (w : World) (e : TypeId) (n : Int) (h : In64 n) : IntRow (w.alloc (.cells #[.int .i64 n] e)) (some ⟨w.heap.size, 0, none⟩) 1 1 [n] :=
  ⟨own_one w e n #[.int .i64 n] rfl rfl, fun z hz => by simp at hz; rw [hz]; exact h, fun h => by cases h⟩
theorem lit_two (w : World) (e : TypeId) (n m : Int) (h1 : In64 n) (h2 : In64 m) : IntRow (w.alloc (.cells #[.int .i64 n, .int .i64 m] e)) (some ⟨w.heap.size, 0, none⟩) 2 2 [n, m] := by
  refine ⟨⟨rfl, Nat.le_refl _, by unfold maxLen; omega, fun y hy => rfl, .inr ⟨_, _, rfl, by simp, fun i y j v hy hv => ?_⟩⟩, fun z hz => by simp at hz; rcases hz with rfl | rfl <;> assumption, fun h => by cases h⟩
  obtain ⟨hj, hv2⟩ := List.getElem?_eq_some_iff.1 hv
  have hj0 : j = 0 := by simpa [encZ] using hj
  subst hj0
  simp [encZ] at hv2
  subst hv2
  rw [cell_of_row (w.alloc (.cells #[.int .i64 n, .int .i64 m] e)) w.heap.size (0 + i * 1 + 0) _ e (0, 0) (heap_alloc_new w _)]
  match i, hy with
  | 0, hy => simp at hy; subst hy; rfl
  | 1, hy => simp at hy; subst hy; rfl
  | i + 2, hy => simp at hy
def inB (len : Nat) (z : Int) : Bool := decide (0 ≤ z) && decide (z < (len : Int))
def knowsB (m : Int) (F : List Core) (l : List Int) : Bool := l.all (inB F.length) && rightF m F
set_option maxHeartbeats 4000000 in
set_option maxRecDepth 100000 in
theorem knows_any (a : Option Addr) (len cap : Nat) (m : Int) (L : List NodeD) (b : Option Addr) (ln cn : Nat) (l : List Int) (w : World) (h : NodeRow w a len cap L) (hm : In64 m) (hs : smallF L) (hn : IntRow w b ln cn l) :
    Calls Tryz.prog 46 #[forV a len cap m, .slice b ln cn] w fun e w' => e = .returned (.bool (knowsB m (coreL L) l)) ∧ Below w.heap.size w w' := by
  have HL := Lib.hid h.hlen
  have hlen := h.len64
  have HNL := Lib.hid hn.hlen
  have hln := hn.len64
  have BX := Lib.hid (Box.start (m := m) h)
  have NR := Lib.hid (hn.below (below_box w (forB a len cap m)))
  have z0 := BX.out.c0
  have z1 := BX.out.c1
  have CR : Hid (∀ W, NodeRow W a len cap L → Calls Tryz.prog 19 #[forV a len cap m] W fun e w' => e = .returned (.bool (rightF m (coreL L))) ∧ Below W.heap.size W w') := Lib.hid (fun W h => rightF_any a len cap m L W h hm hs)
  clear h hm hs hn
  go_enter Tryz.func46, Tryz.ntmps46
  go_wp2
  go_loop [9] (fun i => ∃ k : Nat, k ≤ ln ∧ i = .int .i64 k ∧ Hid (∀ (j : Nat) z, j < k → l[j]? = some z → inB (coreL L).length z = true)) (fun i => ln - (intOf i).toNat)
  case atStart => exact ⟨0, Nat.zero_le _, rfl, Lib.hid (fun j z hj => absurd hj (by omega))⟩
  case round =>
    obtain ⟨k, hk, rfl, HA⟩ := hrel
    by_cases hlt : k < ln
    · obtain ⟨b2, off2, z, rfl, hb2, hz, hcz, hin⟩ := NR.out.get hlt
      have STOP : Hid (inB (coreL L).length z = false → knowsB m (coreL L) l = false) := Lib.hid (fun hq => by
        unfold knowsB
        have : l.all (inB (coreL L).length) = false := by rw [List.all_eq_false]; exact ⟨z, List.mem_of_getElem? hz, by simp [hq]⟩
        rw [this]
        rfl)
      by_cases q1 : z < 0
      · have HR : Hid (knowsB m (coreL L) l = false) := Lib.hid (STOP.out (by unfold inB; rw [decide_eq_false (by omega)]; rfl))
        clear hz
        go_wp2
        go_ret
        exact ⟨ret_bool HR.out.symm, BX.out.below⟩
      by_cases q2 : (len : Int) ≤ z
      · have HR : Hid (knowsB m (coreL L) l = false) := Lib.hid (STOP.out (by unfold inB; rw [decide_eq_false (show ¬ z < ((coreL L).length : Int) by rw [coreL_len, HL.out]; omega), Bool.and_false]))
        clear hz
        go_wp2
        go_ret
        exact ⟨ret_bool HR.out.symm, BX.out.below⟩
      have HA2 : Hid (∀ (j : Nat) z, j < k + 1 → l[j]? = some z → inB (coreL L).length z = true) := Lib.hid (fun j y hj hy => by
        by_cases e : j = k
        · subst e
          rw [hz] at hy
          rw [← Option.some.inj hy]
          unfold inB
          rw [decide_eq_true (by omega), decide_eq_true (by rw [coreL_len, HL.out]; omega)]
          rfl
        · exact HA.out j y (by omega) hy)
      clear hz
      go_wp2
      go_round
      case rel => exact ⟨k + 1, by omega, by go_num, HA2⟩
      case measure => simp [intOf]; omega
    · have HR : Hid (knowsB m (coreL L) l = rightF m (coreL L)) := Lib.hid (by
        unfold knowsB
        have : l.all (inB (coreL L).length) = true := by
          rw [List.all_eq_true]
          intro z hz
          obtain ⟨j, hj, he⟩ := List.mem_iff_getElem.1 hz
          exact HA.out j z (by rw [HNL.out] at hj; omega) (by rw [List.getElem?_eq_getElem hj, he])
        rw [this]
        rfl)
      clear HA
      go_wp2_with (go_at_call 19; (refine (CR.out _ BX.out.row).mono ?_); rintro e w1 ⟨rfl, hb⟩; have BX := Lib.hid (BX.out.keep hb); clear hb)
      go_ret
      exact ⟨ret_bool HR.out.symm, BX.out.below⟩
theorem right_par {m : Int} {F : List Core} (h : rightF m F = true) {c : Nat} {x : Core} (hx : F[c]? = some x) (hp : x.parent ≠ -1) : ∃ p : Nat, x.parent = p ∧ p < F.length ∧ parF F c = some p := by
  have h1 := (nodeOk_iff.1 (((rightF_iff m F).1 h).2.1 c x hx)).2.1
  unfold parOk at h1
  rw [beq_eq_false_iff_ne.2 hp, Bool.false_or, Bool.and_eq_true] at h1
  cases hg : getC F x.parent with
  | none => rw [hg] at h1; simp at h1
  | some d =>
    obtain ⟨e1, e2, _⟩ := getC_some hg
    refine ⟨x.parent.toNat, by omega, e2, ?_⟩
    unfold parF
    rw [hx]
    dsimp only
    rw [if_neg hp]
theorem right_top {F : List Core} {c : Nat} {x : Core} (hx : F[c]? = some x) (hp : x.parent = -1) : parF F c = none := by
  unfold parF
  rw [hx]
  dsimp only
  rw [if_pos hp]
set_option maxHeartbeats 4000000 in
set_option maxRecDepth 100000 in
theorem rootUp_any (a : Option Addr) (len cap : Nat) (m : Int) (L : List NodeD) (n : Nat) (w : World) (h : NodeRow w a len cap L) (hr : rightF m (coreL L) = true) (hn : n < len) :
    Calls Tryz.prog 35 #[.slice a len cap, .int .i64 n] w fun e w' => e = .returned (.int .i64 (rootF (coreL L) n : Nat)) ∧ w = w' := by
  have HCL : Hid ((coreL L).length = len) := Lib.hid (by rw [coreL_len, h.hlen])
  have hlen := h.len64
  have TR := Lib.hid (tree_of_right hr)
  have HH := Lib.hid h
  have HRT := Lib.hid hr
  clear h hr
  go_enter Tryz.func35, Tryz.ntmps35
  go_wp2
  go_loop [1] (fun i => ∃ c : Nat, c < len ∧ i = .int .i64 c ∧ Hid (rootF (coreL L) c = rootF (coreL L) n)) (fun i => rankF (coreL L) (intOf i).toNat)
  case atStart => exact ⟨n, hn, rfl, Lib.hid rfl⟩
  case round =>
    obtain ⟨c, hc, rfl, HE⟩ := hrel
    obtain ⟨b, off, x, rfl, hb, hx, hat, hok⟩ := HH.out.get hc
    have c5 := hat.c5
    have hxc := coreL_get hx
    by_cases hp : x.core.parent = -1
    · have HR : Hid (rootF (coreL L) n = c) := Lib.hid (by
        rw [← HE.out]
        exact rootN_none (right_top hxc hp))
      rw [hp] at c5
      clear hxc hx hat hok hp
      go_wp2
      go_ret
      exact ⟨ret_int (by rw [HR.out]), rfl⟩
    · obtain ⟨p, hpp, hpl, hpar⟩ := right_par HRT.out hxc hp
      have hcl : c < (coreL L).length := by rw [HCL.out]; exact hc
      have hrk := TR.out.rank_up _ c hcl hpar
      have HE2 : Hid (rootF (coreL L) p = rootF (coreL L) n) := Lib.hid (by
        rw [← HE.out]
        exact TR.out.root_held hcl (by omega) (holds_par hpar))
      rw [hpp] at c5
      rw [HCL.out] at hpl
      have hne : ((p : Int) != -1) = true := bne_iff_ne.2 (by omega)
      have HRK := Lib.hid hrk
      clear hpar hxc hx hat hok hp hpp hrk
      go_wp2
      go_round
      case rel => exact ⟨p, hpl, rfl, HE2⟩
      case measure => simp [intOf]; rw [HRK.out]; omega
theorem knowsB_one {m : Int} {F : List Core} {n : Int} : knowsB m F [n] = thereF m F n := by
  unfold knowsB thereF inB
  rw [Bool.eq_iff_iff]
  simp
  constructor
  · rintro ⟨⟨h1, h2⟩, h3⟩
    exact ⟨⟨h3, h1⟩, h2⟩
  · rintro ⟨⟨h3, h1⟩, h2⟩
    exact ⟨⟨h1, h2⟩, h3⟩
theorem knowsB_two {m : Int} {F : List Core} {x y : Int} : knowsB m F [x, y] = (thereF m F x && thereF m F y) := by
  unfold knowsB thereF inB
  rw [Bool.eq_iff_iff]
  simp
  constructor
  · rintro ⟨⟨⟨h1, h2⟩, h3, h4⟩, h5⟩
    exact ⟨⟨⟨h5, h1⟩, h2⟩, ⟨h5, h3⟩, h4⟩
  · rintro ⟨⟨⟨h5, h1⟩, h2⟩, ⟨_, h3⟩, h4⟩
    exact ⟨⟨⟨h1, h2⟩, h3, h4⟩, h5⟩
theorem there_nat {m : Int} {F : List Core} {n : Int} (h : thereF m F n = true) : rightF m F = true ∧ ∃ k : Nat, n = k ∧ k < F.length := by
  unfold thereF at h
  simp only [Bool.and_eq_true, decide_eq_true_eq] at h
  exact ⟨h.1.1, n.toNat, by omega, by omega⟩
set_option maxHeartbeats 4000000 in
set_option maxRecDepth 100000 in
theorem rootFn_any (a : Option Addr) (len cap : Nat) (m : Int) (L : List NodeD) (n : Int) (w : World) (h : NodeRow w a len cap L) (hm : In64 m) (hn : In64 n) (hs : smallF L) :
    Calls Tryz.prog 23 #[forV a len cap m, .int .i64 n] w fun e w' => e = .returned (.int .i64 (rootZ m (coreL L) n)) ∧ Below w.heap.size w w' := by
  have HCL : Hid ((coreL L).length = len) := Lib.hid (by rw [coreL_len, h.hlen])
  have BX := Lib.hid ((Box.start (m := m) h).keep (below_box _ (.cells #[.int .i64 n] 3)))
  have NB := Lib.hid (lit_one (w.alloc (forB a len cap m)) 3 n hn)
  have CK : Hid (∀ W b, NodeRow W a len cap L → IntRow W b 1 1 [n] → Calls Tryz.prog 46 #[forV a len cap m, .slice b 1 1] W fun e w' => e = .returned (.bool (thereF m (coreL L) n)) ∧ Below W.heap.size W w') := Lib.hid (fun W b h1 h2 => by
    rw [← knowsB_one]
    exact knows_any a len cap m L b 1 1 [n] W h1 hm hs h2)
  simp only [World.size_alloc] at NB
  have z0 := BX.out.c0
  have z1 := BX.out.c1
  clear h hm hs hn
  cases q : thereF m (coreL L) n with
  | false =>
    rw [q] at CK
    have HR : Hid (rootZ m (coreL L) n = -1) := Lib.hid (by unfold rootZ; rw [q]; rfl)
    clear q
    go_enter Tryz.func23, Tryz.ntmps23
    go_wp2_with (first
                    | (go_at_call 46; ((with_reducible refine (CK.out _ _ BX.out.row NB.out).mono ?_); rintro e w1 ⟨rfl, hb⟩; have BX := Lib.hid (BX.out.keep hb); have z0 := BX.out.c0; have z1 := BX.out.c1; clear hb))
                    | (go_at_call 35; ((with_reducible refine (CU.out _ BX.out.row).mono ?_); rintro e w1 ⟨rfl, rfl⟩)))
    go_ret
    exact ⟨ret_int HR.out.symm, BX.out.below⟩
  | true =>
    rw [q] at CK
    obtain ⟨hr, k, rfl, hk⟩ := there_nat q
    have HR : Hid (rootZ m (coreL L) k = (rootF (coreL L) k : Nat)) := Lib.hid (rootZ_eq hr hk)
    have CU : Hid (∀ W, NodeRow W a len cap L → Calls Tryz.prog 35 #[.slice a len cap, .int .i64 k] W fun e w' => e = .returned (.int .i64 (rootF (coreL L) k : Nat)) ∧ W = w') := Lib.hid (fun W h => rootUp_any a len cap m L k W h hr (by rw [← HCL.out]; exact hk))
    clear q hr hk
    go_enter Tryz.func23, Tryz.ntmps23
    go_wp2_with (first
                    | (go_at_call 46; ((with_reducible refine (CK.out _ _ BX.out.row NB.out).mono ?_); rintro e w1 ⟨rfl, hb⟩; have BX := Lib.hid (BX.out.keep hb); have z0 := BX.out.c0; have z1 := BX.out.c1; clear hb))
                    | (go_at_call 35; ((with_reducible refine (CU.out _ BX.out.row).mono ?_); rintro e w1 ⟨rfl, rfl⟩)))
    go_ret
    exact ⟨ret_int HR.out.symm, BX.out.below⟩
end Go.Proofs.YtkgbgnmmgmnnlaaGreatDoor
namespace Go.Proofs.YtkgbgnmmgmnnlaaGreatDoor
open Go.RowKit
section
variable {n : Nat} {par : Nat → Option Nat} {kids : Nat → List Nat} {rank : Nat → Nat}
theorem Tree.ord_open (T : Tree n par kids rank) {i : Nat} (hi : i < n) : ordN kids (n + 1) i = i :: (kids i).flatMap (ordN kids (n + 1)) := by
  rw [← T.ord_more (n + 1) i hi (by omega)]
  rfl
end
theorem findN_cons {y z : Int} {l : List Int} : findN (y :: l) z = if y = z then 0 else findN l z + 1 := by
  unfold findN
  rw [List.findIdx_cons]
  by_cases e : y = z
  · subst e; simp
  · rw [if_neg e, beq_eq_false_iff_ne.2 e]; rfl
theorem findN_mem {l : List Int} {z : Int} (h : z ∈ l) : findN l z < l.length := List.findIdx_lt_length_of_exists ⟨z, h, by simp⟩
theorem findZ_mem {l : List Int} {z : Int} (h : z ∈ l) : findZ l z = (findN l z : Int) := by unfold findZ; rw [if_pos (findN_mem h)]
theorem sub_find {o l : List Int} (hs : o.Sublist l) : l.Nodup → ∀ (i : Nat) (a b : Int), o[i]? = some a → o[i + 1]? = some b → findN l a < findN l b := by
  induction hs with
  | slnil => intro _ i a b ha; simp at ha
  | @cons o' l' y h ih =>
    intro hn i a b ha hb
    rw [List.nodup_cons] at hn
    have h1 : y ≠ a := fun e => hn.1 (e ▸ h.subset (List.mem_of_getElem? ha))
    have h2 : y ≠ b := fun e => hn.1 (e ▸ h.subset (List.mem_of_getElem? hb))
    rw [findN_cons, findN_cons, if_neg h1, if_neg h2]
    have := ih hn.2 i a b ha hb
    omega
  | @cons_cons o' l' y h ih =>
    intro hn i a b ha hb
    rw [List.nodup_cons] at hn
    rw [List.getElem?_cons_succ] at hb
    have h2 : y ≠ b := fun e => hn.1 (e ▸ h.subset (List.mem_of_getElem? hb))
    rw [findN_cons, findN_cons, if_neg h2]
    match i, ha, hb with
    | 0, ha, hb =>
      have : y = a := by simpa using ha
      rw [if_pos this]
      omega
    | i + 1, ha, hb =>
      rw [List.getElem?_cons_succ] at ha
      have h1 : y ≠ a := fun e => hn.1 (e ▸ h.subset (List.mem_of_getElem? ha))
      rw [if_neg h1]
      have := ih hn.2 i a b ha hb
      omega
theorem right_up {m : Int} {F : List Core} (h : rightF m F = true) : upIn F F.length := by
  have := nodes_eq.1 ((rightF_iff m F).1 h).2.1
  exact fit_up this.1 this.2
theorem next_par {F : List Core} {i : Nat} {x : Core} (hx : F[i]? = some x) (hp : x.parent ≠ -1) : nextUp F (i : Int) = x.parent := by
  rw [nextUp_at hx]
  unfold upC
  rw [if_neg hp]
theorem next_host {F : List Core} {i : Nat} {x : Core} (hx : F[i]? = some x) (hp : x.parent = -1) : nextUp F (i : Int) = x.host := by
  rw [nextUp_at hx]
  unfold upC
  rw [if_pos hp]
theorem right_held {m : Int} {F : List Core} (h : rightF m F = true) {i : Nat} {x : Core} (hx : F[i]? = some x) (hp : x.parent ≠ -1) : x.kind = 1 ∨ x.kind = 2 := by
  have h1 := (nodeOk_iff.1 (((rightF_iff m F).1 h).2.1 i x hx)).2.1
  unfold parOk at h1
  rw [beq_eq_false_iff_ne.2 hp, Bool.false_or, Bool.and_eq_true] at h1
  simpa using h1.1
theorem right_under {m : Int} {F : List Core} (h : rightF m F = true) {i : Nat} {x : Core} (hx : F[i]? = some x) (hu : x.under ≠ -1) : ∃ (s : Nat) (u : Core), x.under = s ∧ F[s]? = some u ∧ u.kind = 4 ∧ u.host = i ∧ u.parent = -1 ∧ x.kind = 1 := by
  have h1 := (nodeOk_iff.1 (((rightF_iff m F).1 h).2.1 i x hx)).2.2.2.2.1
  rw [Bool.and_eq_true] at h1
  have h2 := h1.2
  unfold underOk at h2
  rw [beq_eq_false_iff_ne.2 hu, Bool.false_or, Bool.and_eq_true] at h2
  cases hg : getC F x.under with
  | none => rw [hg] at h2; simp at h2
  | some u =>
    rw [hg] at h2
    simp only [Bool.and_eq_true, beq_iff_eq] at h2
    obtain ⟨e1, e2, e3⟩ := getC_some hg
    refine ⟨x.under.toNat, u, by omega, e3, h2.2.1, h2.2.2, ?_, h2.1⟩
    by_cases hp : u.parent = -1
    · exact hp
    · rcases right_held h e3 hp with k | k
      · rw [k] at h2; exact absurd h2.2.1 (by decide)
      · rw [k] at h2; exact absurd h2.2.1 (by decide)
theorem right_host {m : Int} {F : List Core} (h : rightF m F = true) {k : Nat} {u : Core} (hu : F[k]? = some u) (hh : u.host ≠ -1) : u.kind = 4 ∧ ∃ (i : Nat) (x : Core), u.host = i ∧ F[i]? = some x ∧ x.kind = 1 ∧ x.under = k ∧ x.doc = u.doc := by
  have h1 := (nodeOk_iff.1 (((rightF_iff m F).1 h).2.1 k u hu)).2.2.2.2.1
  rw [Bool.and_eq_true] at h1
  have h2 := h1.1
  unfold hostOk at h2
  by_cases k4 : u.kind = 4
  · rw [if_pos k4] at h2
    cases hg : getC F u.host with
    | none => rw [hg] at h2; simp at h2
    | some x =>
      rw [hg] at h2
      simp only [Bool.and_eq_true, beq_iff_eq] at h2
      obtain ⟨e1, e2, e3⟩ := getC_some hg
      exact ⟨k4, u.host.toNat, x, by omega, e3, h2.1.1, h2.1.2, h2.2⟩
  · rw [if_neg k4] at h2
    exact absurd (beq_iff_eq.1 h2) hh
def parS (F : List Core) (i : Nat) : Option Nat := if nextUp F (i : Int) = -1 then none else some (nextUp F (i : Int)).toNat
def undS (F : List Core) (i : Nat) : List Nat := match F[i]? with | some c => if c.under = -1 then [] else [c.under.toNat] | none => []
def kidsS (F : List Core) (i : Nat) : List Nat := undS F i ++ kidsF F i
theorem parS_some {F : List Core} {k i : Nat} (h : nextUp F (k : Int) = i) : parS F k = some i := by
  unfold parS
  rw [h, if_neg (by omega), Int.toNat_natCast]
theorem parS_none {F : List Core} {k : Nat} (h : nextUp F (k : Int) = -1) : parS F k = none := by
  unfold parS
  rw [if_pos h]
theorem parS_next {m : Int} {F : List Core} (hr : rightF m F = true) {k i : Nat} (hk : k < F.length) (h : parS F k = some i) : nextUp F (k : Int) = i ∧ i < F.length := by
  unfold parS at h
  by_cases he : nextUp F (k : Int) = -1
  · rw [if_pos he] at h; cases h
  · rw [if_neg he] at h
    injection h with h
    rcases right_up hr k (by omega) (by omega) with e | ⟨e1, e2⟩
    · exact absurd e he
    · exact ⟨by omega, by omega⟩
theorem undS_mem {m : Int} {F : List Core} (hr : rightF m F = true) {i k : Nat} (h : k ∈ undS F i) : ∃ x u, F[i]? = some x ∧ x.under = (k : Int) ∧ F[k]? = some u ∧ u.kind = 4 ∧ u.host = i ∧ u.parent = -1 := by
  unfold undS at h
  cases hx : F[i]? with
  | none => rw [hx] at h; simp at h
  | some x =>
    rw [hx] at h
    dsimp only at h
    by_cases hu : x.under = -1
    · rw [if_pos hu] at h; simp at h
    · rw [if_neg hu] at h
      obtain ⟨s, u, e1, e2, e3, e4, e5, _⟩ := right_under hr hx hu
      have : k = s := by
        have := List.mem_singleton.1 h
        omega
      subst this
      exact ⟨x, u, rfl, e1, e2, e3, e4, e5⟩
theorem treeS {m : Int} {F : List Core} (hr : rightF m F = true) : Tree F.length (parS F) (kidsS F) (rankF F) := by
  have T := tree_of_right hr
  have E := ((rightF_iff m F).1 hr).2.2
  have kid : ∀ i k, k ∈ kidsF F i → k < F.length ∧ nextUp F (k : Int) = i := fun i k hk => by
    have hl := T.kid_lt i k hk
    have hp := T.kid_par i k hk
    have hx : F[k]? = some F[k] := List.getElem?_eq_getElem hl
    by_cases he : F[k].parent = -1
    · rw [right_top hx he] at hp; cases hp
    · obtain ⟨p, h1, _, h3⟩ := right_par hr hx he
      rw [h3] at hp
      injection hp with hp
      subst hp
      exact ⟨hl, (next_par hx he).trans h1⟩
  have all : ∀ i k, k ∈ kidsS F i → k < F.length ∧ nextUp F (k : Int) = i := fun i k hk => by
    rcases List.mem_append.1 hk with hk | hk
    · obtain ⟨x, u, hx, _, hu, _, hh, hp⟩ := undS_mem hr hk
      exact ⟨(List.getElem?_eq_some_iff.1 hu).1, (next_host hu hp).trans hh⟩
    · exact kid i k hk
  refine ⟨fun i k hk => (all i k hk).1, fun i k hk => parS_some (all i k hk).2, fun i k hk hp => ?_, fun i => ?_, fun i k hk hp => ?_, fun i hi => rankZ_le (n := F.length) (E i hi)⟩
  · obtain ⟨h1, h2⟩ := parS_next hr hk hp
    refine ⟨h2, List.mem_append.2 ?_⟩
    have hx : F[k]? = some F[k] := List.getElem?_eq_getElem hk
    by_cases he : F[k].parent = -1
    · rw [next_host hx he] at h1
      obtain ⟨_, j, y, e1, e2, _, e4, _⟩ := right_host hr hx (by omega)
      have : j = i := by omega
      subst this
      left
      unfold undS
      rw [e2]
      dsimp only
      rw [if_neg (by omega), e4, Int.toNat_natCast]
      simp
    · rw [next_par hx he] at h1
      obtain ⟨p, e1, _, e3⟩ := right_par hr hx he
      have : p = i := by omega
      subst this
      exact .inr (T.par_kid p k hk e3).2
  · unfold kidsS
    rw [List.nodup_append]
    refine ⟨?_, T.nodup i, fun a ha b hb e => ?_⟩
    · unfold undS
      cases F[i]? with
      | none => simp
      | some c => dsimp only; split <;> simp
    · subst e
      obtain ⟨x, u, hx, _, hu, _, hh, hp⟩ := undS_mem hr ha
      have := T.kid_par i a hb
      rw [right_top hu hp] at this
      cases this
  · obtain ⟨h1, h2⟩ := parS_next hr hk hp
    unfold rankF
    rw [rankZ_up (nxt := nextUp F) (n := F.length) (i := (k : Int)) (by omega) (E k hk) (by rw [h1]; exact E i h2), h1]
def topF (F : List Core) (a : Nat) : Nat := rootN (parS F) (F.length + 1) a
def allF (F : List Core) (a : Nat) : List Nat := ordN (kidsS F) (F.length + 1) a
def overF (F : List Core) (a b : Nat) : Bool := decide (b ∈ allF F a)
def allI (F : List Core) (z : Int) : List Int := (allF F z.toNat).map Int.ofNat
def overZ (m : Int) (F : List Core) (a b : Int) : Bool := thereF m F a && thereF m F b && overF F a.toNat b.toNat
theorem overZ_iff {m : Int} {F : List Core} (h : rightF m F = true) {a b : Nat} (ha : a < F.length) (hb : b < F.length) : overZ m F (a : Int) (b : Int) = true ↔ holdsT (parS F) a b := by
  unfold overZ
  rw [thereF_of h ha, thereF_of h hb, Bool.true_and, Bool.true_and]
  unfold overF allF
  rw [decide_eq_true_iff]
  exact (treeS h).mem_ord _ _ ha (by omega) _ hb
theorem topF_lt {m : Int} {F : List Core} (h : rightF m F = true) {a : Nat} (ha : a < F.length) : topF F a < F.length := (treeS h).root_lt ha
theorem allI_open {m : Int} {F : List Core} (h : rightF m F = true) {a : Nat} {x : Core} (hx : F[a]? = some x) : allI F (a : Int) = (a : Int) :: ((if x.under = -1 then [] else allI F x.under) ++ x.kids.flatMap (allI F)) := by
  have T := treeS h
  have ha := (List.getElem?_eq_some_iff.1 hx).1
  unfold allI allF
  rw [Int.toNat_natCast, T.ord_open ha, List.map_cons]
  congr 1
  have hk : kidsF F a = x.kids.map Int.toNat := by unfold kidsF; rw [hx]
  rw [show kidsS F a = undS F a ++ kidsF F a from rfl, List.flatMap_append, List.map_append, hk]
  congr 1
  · unfold undS
    rw [hx]
    dsimp only
    by_cases hu : x.under = -1
    · rw [if_pos hu, if_pos hu]; rfl
    · rw [if_neg hu, if_neg hu]; simp
  · rw [List.flatMap_map, List.map_flatMap]
end Go.Proofs.YtkgbgnmmgmnnlaaGreatDoor
namespace Go.Proofs.YtkgbgnmmgmnnlaaGreatDoor
open Go.RowKit
def withU (x : Core) (u : Int) : Core := ⟨x.kind, x.name, x.is, x.data, x.attrs, x.parent, x.kids, x.host, u, x.doc⟩
end Go.Proofs.YtkgbgnmmgmnnlaaGreatDoor
namespace Go.Proofs.YtkgbgnmmgmnnlaaGreatDoor
open Go.RowKit
set_option maxHeartbeats 4000000 in
theorem index_any (a : Option Addr) (len cap : Nat) (L : List Int) (n : Int) (w : World) (h : IntRow w a len cap L) :
    Calls Tryz.prog 47 #[.slice a len cap, .int .i64 n] w fun e w' => e = .returned (.int .i64 (findZ L n)) ∧ w = w' := by
  have hl := h.len64
  have HH := Lib.hid h
  clear h
  go_enter Tryz.func47, Tryz.ntmps47
  go_wp2
  go_loop [8] (fun i => ∃ k : Nat, k ≤ len ∧ i = .int .i64 k ∧ Hid (k ≤ findN L n)) (fun i => len - (intOf i).toNat)
  case atStart => exact ⟨0, Nat.zero_le _, rfl, Lib.hid (Nat.zero_le _)⟩
  case round =>
    obtain ⟨k, hk, rfl, HA⟩ := hrel
    by_cases hlt : k < len
    · obtain ⟨b, off, z, rfl, hb, hx, hc, _⟩ := HH.out.get hlt
      have HX := Lib.hid hx
      clear hx
      by_cases he : n = z
      · have HR : Hid (findZ L n = (k : Int)) := Lib.hid (by
          have := findN_here HA.out HX.out (beq_iff_eq.2 he.symm)
          unfold findZ
          rw [this, if_pos (by rw [HH.out.hlen]; exact hlt)])
        subst he
        go_wp2
        go_ret
        exact ⟨ret_int HR.out.symm, rfl⟩
      · have e1 : (n == z) = false := beq_eq_false_iff_ne.2 he
        have HR := Lib.hid (findN_step HA.out HX.out (beq_eq_false_iff_ne.2 (fun e => he e.symm)))
        clear he
        go_wp2
        go_round
        case rel => exact ⟨k + 1, by omega, by go_num, HR⟩
        case measure => simp [intOf]; omega
    · have HR : Hid (findZ L n = -1) := Lib.hid (by unfold findZ; rw [if_neg (by rw [HH.out.hlen]; have := HA.out; omega)])
      go_wp2
      go_ret
      exact ⟨ret_int HR.out.symm, rfl⟩
set_option maxHeartbeats 4000000 in
set_option maxRecDepth 100000 in
theorem placeFn_any (a : Option Addr) (len cap : Nat) (m : Int) (L : List NodeD) (n : Int) (w : World) (h : NodeRow w a len cap L) (hm : In64 m) (hn : In64 n) (hs : smallF L) :
    Calls Tryz.prog 118 #[forV a len cap m, .int .i64 n] w fun e w' => e = .returned (.int .i64 (placeZ m (coreL L) n)) ∧ Below w.heap.size w w' := by
  have HCL : Hid ((coreL L).length = len) := Lib.hid (by rw [coreL_len, h.hlen])
  have hlen := h.len64
  have BX := Lib.hid ((Box.start (m := m) h).keep (below_box _ (.cells #[.int .i64 n] 3)))
  have NB := Lib.hid (lit_one (w.alloc (forB a len cap m)) 3 n hn)
  have CK : Hid (∀ W b, NodeRow W a len cap L → IntRow W b 1 1 [n] → Calls Tryz.prog 46 #[forV a len cap m, .slice b 1 1] W fun e w' => e = .returned (.bool (thereF m (coreL L) n)) ∧ Below W.heap.size W w') := Lib.hid (fun W b h1 h2 => by
    rw [← knowsB_one]
    exact knows_any a len cap m L b 1 1 [n] W h1 hm hs h2)
  simp only [World.size_alloc] at NB
  have z0 := BX.out.c0
  have z1 := BX.out.c1
  have HH := Lib.hid h
  clear h hm hs hn
  cases q : thereF m (coreL L) n with
  | false =>
    rw [q] at CK
    have HR : Hid (placeZ m (coreL L) n = -1) := Lib.hid (by unfold placeZ; rw [q]; rfl)
    clear q
    go_enter Tryz.func118, Tryz.ntmps118
    go_wp2_with (first
                    | (go_at_call 46; ((with_reducible refine (CK.out _ _ BX.out.row NB.out).mono ?_); rintro e w1 ⟨rfl, hb⟩; have BX := Lib.hid (BX.out.keep hb); have z0 := BX.out.c0; have z1 := BX.out.c1; clear hb))
                    | (go_at_call 35; ((with_reducible refine (CU.out _ BX.out.row).mono ?_); rintro e w1 ⟨rfl, rfl⟩)))
    go_ret
    exact ⟨ret_int HR.out.symm, BX.out.below⟩
  | true =>
    rw [q] at CK
    obtain ⟨hr, k, rfl, hk⟩ := there_nat q
    have HP : Hid (placeZ m (coreL L) k = placeF (coreL L) k) := Lib.hid (by unfold placeZ; rw [q]; rfl)
    have HRT := Lib.hid hr
    rw [HCL.out] at hk
    clear q hr
    obtain ⟨b, off, x, rfl, hb, hx, hat, hok⟩ := HH.out.get hk
    have hxc := coreL_get hx
    by_cases hp : x.core.parent = -1
    · have c5 := hat.c5
      rw [hp] at c5
      have C5 := Lib.hid (stays c5 hb)
      have HR : Hid (placeZ m (coreL L) k = -1) := Lib.hid (by rw [HP.out]; unfold placeF; rw [right_top hxc hp])
      clear hat hok hx hxc hp hb c5
      go_enter Tryz.func118, Tryz.ntmps118
      go_wp2_with (go_at_call 46; ((with_reducible refine (CK.out _ _ BX.out.row NB.out).mono ?_); rintro e w1 ⟨rfl, hb⟩; have BX := Lib.hid (BX.out.keep hb); have z0 := BX.out.c0; have z1 := BX.out.c1; have c5 := C5.out _ BX.out.below; clear hb))
      go_ret
      exact ⟨ret_int HR.out.symm, BX.out.below⟩
    · obtain ⟨p, hpp, hpl, hpar⟩ := right_par HRT.out hxc hp
      rw [HCL.out] at hpl
      have c5 := hat.c5
      rw [hpp] at c5
      have C5 := Lib.hid (stays c5 hb)
      obtain ⟨b2, off2, y, hab, hb2, hy, hat2, hok2⟩ := HH.out.get hpl
      injection hab with hab
      injection hab with e1 e2
      subst e1 e2
      have C6 := Lib.hid (stays hat2.c6 hb2)
      have HR : Hid (placeZ m (coreL L) k = findZ y.core.kids k) := Lib.hid (by rw [HP.out]; unfold placeF; rw [hpar]; dsimp only; rw [coreL_get hy])
      have CX : Hid (∀ W, Below w.heap.size w W → Calls Tryz.prog 47 #[.slice y.kA y.kN y.kC, .int .i64 k] W fun e w' => e = .returned (.int .i64 (findZ y.core.kids k)) ∧ W = w') := Lib.hid (fun W hb => index_any _ _ _ _ _ W (hok2.kids.below hb))
      have hne : ((p : Int) == -1) = false := beq_eq_false_iff_ne.2 (by omega)
      clear hat hok hx hxc hp hb c5 hy hat2 hok2 hb2 hpar hpp
      go_enter Tryz.func118, Tryz.ntmps118
      go_wp2_with (go_at_call 46; ((with_reducible refine (CK.out _ _ BX.out.row NB.out).mono ?_); rintro e w1 ⟨rfl, hb⟩; have BX := Lib.hid (BX.out.keep hb); have z0 := BX.out.c0; have z1 := BX.out.c1; have c5 := C5.out _ BX.out.below; clear hb))
      have E0 := Ext.cell z0 BX.out.lt
      have E5 := Ext.stays C5.out BX.out.below
      have E6 := Ext.stays C6.out BX.out.below
      have EX := Lib.hid (fun (x : Ext w1) => CX.out x.v (BX.out.below.trans (x.below.mono BX.out.below.size)))
      refine wp_region_ext (by kernel_rfl) (by kernel_rfl) ?_
      repeat (go_big_quiet_step (first | (go_at_call 47; exact Ext.call_same (EX.out _))))
      refine wpQuiet_nil ?_
      intro w3 hw'
      obtain ⟨⟨w4, hb4⟩, hw''⟩ := hw'
      dsimp only at hw''
      subst hw''
      have BX := Lib.hid (BX.out.keep hb4)
      clear E0 E5 E6 EX hb4
      go_wp2
      go_ret
      exact ⟨ret_int HR.out.symm, BX.out.below⟩
end Go.Proofs.YtkgbgnmmgmnnlaaGreatDoor
namespace Go.Proofs.YtkgbgnmmgmnnlaaGreatDoor
open Go.RowKit
def SetNew (w : World) (M : AL) (z : Int) (e : Ending) (w' : World) : Prop := ∃ a len cap, e = .returned (.tuple #[.slice a len cap, .int .i64 z]) ∧ AttrRow w' a len cap M ∧ Below w.heap.size w w' ∧ ∀ b off, a = some ⟨b, off, none⟩ → w.heap.size ≤ b
theorem SetNew.post {w w' : World} {M : AL} {z : Int} {e : Ending} (h : SetNew w M z e w') : SetPost w M z e w' := by
  obtain ⟨a, len, cap, h1, h2, h3, _⟩ := h
  exact ⟨a, len, cap, h1, h2, h3⟩
theorem AttrRow.of_own_new {w : World} {base : Nat} {v : Value} {n : Nat} {M : AL} (hl : M.length = n) (h : w.ownsRow base 65 2 v n (M.flatMap encA)) (hs : ∀ x ∈ M, x.1.size ≤ maxLen ∧ x.2.size ≤ maxLen) :
    ∃ a cap, v = .slice a n cap ∧ AttrRow w a n cap M ∧ ∀ b off, a = some ⟨b, off, none⟩ → base ≤ b := by
  rcases h.2 with ⟨rfl, h0⟩ | ⟨g, cap, cur, rfl, _⟩
  · subst h0
    have hL : M = [] := List.eq_nil_of_length_eq_zero hl
    subst hL
    exact ⟨none, 0, rfl, ⟨SRow.nil, hs, fun _ => rfl⟩, fun b off h => by cases h⟩
  · obtain ⟨a, cap', he, hr, hb⟩ := SRow.of_own (fun x _ => encA_len x) hl h
    injection he with h1 h2 h3
    subst h1; subst h3
    exact ⟨_, _, rfl, ⟨hr, hs, fun h => by cases h⟩, hb⟩
theorem SetNew.mk {w w' : World} {M : AL} {z : Int} {e : Ending} {v : Value} {n : Nat} (he : e = .returned (.tuple #[v, .int .i64 z])) (hl : M.length = n) (h : w'.ownsRow w.heap.size 65 2 v n (M.flatMap encA)) (hs : ∀ x ∈ M, x.1.size ≤ maxLen ∧ x.2.size ≤ maxLen) (hb : Below w.heap.size w w') : SetNew w M z e w' := by
  obtain ⟨a, cap, rfl, h1, h2⟩ := AttrRow.of_own_new hl h hs
  exact ⟨a, n, cap, he, h1, hb, h2⟩
end Go.Proofs.YtkgbgnmmgmnnlaaGreatDoor
namespace Go.Proofs.YtkgbgnmmgmnnlaaGreatDoor
open Go.RowKit
def kidsK (F : List Core) (p : Int) : List Int := match getC F p with | some x => x.kids | none => []
def parentK (F : List Core) (c : Int) : Int := match getC F c with | some x => x.parent | none => -1
def partsZ (F : List Core) (n : Int) : List Int := match getC F n with | some x => if x.kind = 3 then x.kids else [n] | none => []
def countNe (l : List Int) (g : Int) : Nat := l.countP (fun z => z != g)
def docTakesB (F : List Core) (n p gone : Int) : Bool := !(partsZ F n).any (fun k => kindK F k == 2) && decide (countNe (kidsK F p) gone + (partsZ F n).length ≤ 1)
def inF (F : List Core) (n : Int) : Bool := decide (0 ≤ n) && decide (n < (F.length : Int))
def vknowsB (m : Int) (F : List Core) (n p c : Int) : Bool := inF F n && inF F p && (c == -1 || inF F c) && rightF m F
def refuseE (m : Int) (F : List Core) (n p : Int) (placed : Bool) (gone : Int) : Int :=
  if kindK F p = 2 ∨ overZ m F n p = true then 5
  else if placed = false then 6
  else if kindK F n = 0 ∨ kindK F n = 4 then 5
  else if kindK F p = 0 ∧ docTakesB F n p gone = false then 5
  else 0
def mayZ (m : Int) (F : List Core) (n p c : Int) : Int := if vknowsB m F n p c then refuseE m F n p (c == -1 || parentK F c == p) (-1) else 1
def beforeZ (m : Int) (F : List Core) (n p c : Int) : Int :=
  if mayZ m F n p c = 0 then (if c = n then (match (kidsK F p)[(placeZ m F n + 1).toNat]? with | some z => z | none => -1) else c) else -1
end Go.Proofs.YtkgbgnmmgmnnlaaGreatDoor
namespace Go.Proofs.YtkgbgnmmgmnnlaaGreatDoor
theorem step_wpS {P : Program} {ops : Array Oper} {o : Oper} {a : Act} {w : World} {K : Act → World → Prop} {Q : Exit → Act → World → Prop} {E : Prop} (hg : o.guard = none) (h : Oper.wp P o a w K Q) : if Region.wanted o (yielded ops a.tmps) = true then Oper.wp P o a w K Q else E := by
  have hw : Region.wanted o (yielded ops a.tmps) = true := by simp [Region.wanted, hg]
  rw [if_pos hw]
  exact h
end Go.Proofs.YtkgbgnmmgmnnlaaGreatDoor
