/- Texts joined in build order: ForestAsk ShadeTree ShadeFns ShadeFacts ForestProp ForestEdit ForestAsk2 AttrRef1 RefRight RefSmall AttrRight AttrOps AttrRef2. -/
import Derived.Test.YtiffhlncnpppoaaGreatDoorM03
import Derived.Test.YtiffhlncnpppoaaGreatDoorChecked
import Derived.Test.YtiffhlncnpppoaaGreatDoorM01
import Derived.WalkLawsBesides
import Derived.WalkSmall
import Derived.Lib.Hide
import Derived.Deep.QuietTactic
import Derived.BigQuiet
import Derived.Below
import Derived.WideShapes
import Derived.Laws.IdiomStrings
import Derived.Lib.IndexBytes
import Derived.OwnWalk
namespace Go.Proofs.YtiffhlncnpppoaaGreatDoor
open Go.RowKit
theorem lit_one (w : World) (e : TypeId) (n : Int) (h : In64 n) : IntRow (w.alloc (.cells #[.int .i64 n] e)) (some ⟨w.heap.size, 0, none⟩) 1 1 [n] :=
  ⟨own_one w e n #[.int .i64 n] rfl rfl, fun z hz => by simp at hz; rw [hz]; exact h, fun h => by cases h⟩
theorem lit_two (w : World) (e : TypeId) (n m : Int) (h1 : In64 n) (h2 : In64 m) : IntRow (w.alloc (.cells #[.int .i64 n, .int .i64 m] e)) (some ⟨w.heap.size, 0, none⟩) 2 2 [n, m] := by
  refine ⟨⟨rfl, Nat.le_refl _, by unfold maxLen; omega, fun y hy => rfl, .inr ⟨_, _, rfl, by simp, fun i y j v hy hv => ?_⟩⟩, fun z hz => by simp at hz; rcases hz with rfl | rfl <;> assumption, fun h => by cases h⟩
  obtain ⟨hj, hv2⟩ := List.getElem?_eq_some_iff.1 hv
  have hj0 : j = 0 := by simpa [encZ] using hj
  subst hj0
  simp [encZ] at hv2
  subst hv2
  rw [cell_of_row (w.alloc (.cells #[.int .i64 n, .int .i64 m] e)) w.heap.size (0 + i * 1 + 0) _ e (0, 0) (heap_alloc_new w _)]
  match i, hy with
  | 0, hy => simp at hy; subst hy; rfl
  | 1, hy => simp at hy; subst hy; rfl
  | i + 2, hy => simp at hy
def inB (len : Nat) (z : Int) : Bool := decide (0 ≤ z) && decide (z < (len : Int))
def knowsB (m : Int) (F : List Core) (l : List Int) : Bool := l.all (inB F.length) && rightF m F
set_option maxHeartbeats 4000000 in
set_option maxRecDepth 100000 in
theorem knows_any (a : Option Addr) (len cap : Nat) (m : Int) (L : List NodeD) (b : Option Addr) (ln cn : Nat) (l : List Int) (w : World) (h : NodeRow w a len cap L) (hm : In64 m) (hs : smallF L) (hn : IntRow w b ln cn l) :
    Calls Tryz.prog 109 #[forV a len cap m, .slice b ln cn] w fun e w' => e = .returned (.bool (knowsB m (coreL L) l)) ∧ Below w.heap.size w w' := by
  have HL := Lib.hid h.hlen
  have hlen := h.len64
  have HNL := Lib.hid hn.hlen
  have hln := hn.len64
  have BX := Lib.hid (Box.start (m := m) h)
  have NR := Lib.hid (hn.below (below_box w (forB a len cap m)))
  have z0 := BX.out.c0
  have z1 := BX.out.c1
  have CR : Hid (∀ W, NodeRow W a len cap L → Calls Tryz.prog 30 #[forV a len cap m] W fun e w' => e = .returned (.bool (rightF m (coreL L))) ∧ Below W.heap.size W w') := Lib.hid (fun W h => rightF_any a len cap m L W h hm hs)
  clear h hm hs hn
  go_enter Tryz.func109, Tryz.ntmps109
  go_wp2
  go_loop [9] (fun i => ∃ k : Nat, k ≤ ln ∧ i = .int .i64 k ∧ Hid (∀ (j : Nat) z, j < k → l[j]? = some z → inB (coreL L).length z = true)) (fun i => ln - (intOf i).toNat)
  case atStart => exact ⟨0, Nat.zero_le _, rfl, Lib.hid (fun j z hj => absurd hj (by omega))⟩
  case round =>
    obtain ⟨k, hk, rfl, HA⟩ := hrel
    by_cases hlt : k < ln
    · obtain ⟨b2, off2, z, rfl, hb2, hz, hcz, hin⟩ := NR.out.get hlt
      have STOP : Hid (inB (coreL L).length z = false → knowsB m (coreL L) l = false) := Lib.hid (fun hq => by
        unfold knowsB
        have : l.all (inB (coreL L).length) = false := by rw [List.all_eq_false]; exact ⟨z, List.mem_of_getElem? hz, by simp [hq]⟩
        rw [this]
        rfl)
      by_cases q1 : z < 0
      · have HR : Hid (knowsB m (coreL L) l = false) := Lib.hid (STOP.out (by unfold inB; rw [decide_eq_false (by omega)]; rfl))
        clear hz
        go_wp2
        go_ret
        exact ⟨ret_bool HR.out.symm, BX.out.below⟩
      by_cases q2 : (len : Int) ≤ z
      · have HR : Hid (knowsB m (coreL L) l = false) := Lib.hid (STOP.out (by unfold inB; rw [decide_eq_false (show ¬ z < ((coreL L).length : Int) by rw [coreL_len, HL.out]; omega), Bool.and_false]))
        clear hz
        go_wp2
        go_ret
        exact ⟨ret_bool HR.out.symm, BX.out.below⟩
      have HA2 : Hid (∀ (j : Nat) z, j < k + 1 → l[j]? = some z → inB (coreL L).length z = true) := Lib.hid (fun j y hj hy => by
        by_cases e : j = k
        · subst e
          rw [hz] at hy
          rw [← Option.some.inj hy]
          unfold inB
          rw [decide_eq_true (by omega), decide_eq_true (by rw [coreL_len, HL.out]; omega)]
          rfl
        · exact HA.out j y (by omega) hy)
      clear hz
      go_wp2
      go_round
      case rel => exact ⟨k + 1, by omega, by go_num, HA2⟩
      case measure => simp [intOf]; omega
    · have HR : Hid (knowsB m (coreL L) l = rightF m (coreL L)) := Lib.hid (by
        unfold knowsB
        have : l.all (inB (coreL L).length) = true := by
          rw [List.all_eq_true]
          intro z hz
          obtain ⟨j, hj, he⟩ := List.mem_iff_getElem.1 hz
          exact HA.out j z (by rw [HNL.out] at hj; omega) (by rw [List.getElem?_eq_getElem hj, he])
        rw [this]
        rfl)
      clear HA
      go_wp2_with (go_at_call 30; (refine (CR.out _ BX.out.row).mono ?_); rintro e w1 ⟨rfl, hb⟩; have BX := Lib.hid (BX.out.keep hb); clear hb)
      go_ret
      exact ⟨ret_bool HR.out.symm, BX.out.below⟩
theorem right_par {m : Int} {F : List Core} (h : rightF m F = true) {c : Nat} {x : Core} (hx : F[c]? = some x) (hp : x.parent ≠ -1) : ∃ p : Nat, x.parent = p ∧ p < F.length ∧ parF F c = some p := by
  have h1 := (nodeOk_iff.1 (((rightF_iff m F).1 h).2.1 c x hx)).2.1
  unfold parOk at h1
  rw [beq_eq_false_iff_ne.2 hp, Bool.false_or, Bool.and_eq_true] at h1
  cases hg : getC F x.parent with
  | none => rw [hg] at h1; simp at h1
  | some d =>
    obtain ⟨e1, e2, _⟩ := getC_some hg
    refine ⟨x.parent.toNat, by omega, e2, ?_⟩
    unfold parF
    rw [hx]
    dsimp only
    rw [if_neg hp]
theorem right_top {F : List Core} {c : Nat} {x : Core} (hx : F[c]? = some x) (hp : x.parent = -1) : parF F c = none := by
  unfold parF
  rw [hx]
  dsimp only
  rw [if_pos hp]
set_option maxHeartbeats 4000000 in
set_option maxRecDepth 100000 in
theorem rootUp_any (a : Option Addr) (len cap : Nat) (m : Int) (L : List NodeD) (n : Nat) (w : World) (h : NodeRow w a len cap L) (hr : rightF m (coreL L) = true) (hn : n < len) :
    Calls Tryz.prog 154 #[.slice a len cap, .int .i64 n] w fun e w' => e = .returned (.int .i64 (rootF (coreL L) n : Nat)) ∧ w = w' := by
  have HCL : Hid ((coreL L).length = len) := Lib.hid (by rw [coreL_len, h.hlen])
  have hlen := h.len64
  have TR := Lib.hid (tree_of_right hr)
  have HH := Lib.hid h
  have HRT := Lib.hid hr
  clear h hr
  go_enter Tryz.func154, Tryz.ntmps154
  go_wp2
  go_loop [1] (fun i => ∃ c : Nat, c < len ∧ i = .int .i64 c ∧ Hid (rootF (coreL L) c = rootF (coreL L) n)) (fun i => rankF (coreL L) (intOf i).toNat)
  case atStart => exact ⟨n, hn, rfl, Lib.hid rfl⟩
  case round =>
    obtain ⟨c, hc, rfl, HE⟩ := hrel
    obtain ⟨b, off, x, rfl, hb, hx, hat, hok⟩ := HH.out.get hc
    have c5 := hat.c5
    have hxc := coreL_get hx
    by_cases hp : x.core.parent = -1
    · have HR : Hid (rootF (coreL L) n = c) := Lib.hid (by
        rw [← HE.out]
        exact rootN_none (right_top hxc hp))
      rw [hp] at c5
      clear hxc hx hat hok hp
      go_wp2
      go_ret
      exact ⟨ret_int (by rw [HR.out]), rfl⟩
    · obtain ⟨p, hpp, hpl, hpar⟩ := right_par HRT.out hxc hp
      have hcl : c < (coreL L).length := by rw [HCL.out]; exact hc
      have hrk := TR.out.rank_up _ c hcl hpar
      have HE2 : Hid (rootF (coreL L) p = rootF (coreL L) n) := Lib.hid (by
        rw [← HE.out]
        exact TR.out.root_held hcl (by omega) (holds_par hpar))
      rw [hpp] at c5
      rw [HCL.out] at hpl
      have hne : ((p : Int) != -1) = true := bne_iff_ne.2 (by omega)
      have HRK := Lib.hid hrk
      clear hpar hxc hx hat hok hp hpp hrk
      go_wp2
      go_round
      case rel => exact ⟨p, hpl, rfl, HE2⟩
      case measure => simp [intOf]; rw [HRK.out]; omega
theorem knowsB_one {m : Int} {F : List Core} {n : Int} : knowsB m F [n] = thereF m F n := by
  unfold knowsB thereF inB
  rw [Bool.eq_iff_iff]
  simp
  constructor
  · rintro ⟨⟨h1, h2⟩, h3⟩
    exact ⟨⟨h3, h1⟩, h2⟩
  · rintro ⟨⟨h3, h1⟩, h2⟩
    exact ⟨⟨h1, h2⟩, h3⟩
theorem knowsB_two {m : Int} {F : List Core} {x y : Int} : knowsB m F [x, y] = (thereF m F x && thereF m F y) := by
  unfold knowsB thereF inB
  rw [Bool.eq_iff_iff]
  simp
  constructor
  · rintro ⟨⟨⟨h1, h2⟩, h3, h4⟩, h5⟩
    exact ⟨⟨⟨h5, h1⟩, h2⟩, ⟨h5, h3⟩, h4⟩
  · rintro ⟨⟨⟨h5, h1⟩, h2⟩, ⟨_, h3⟩, h4⟩
    exact ⟨⟨⟨h1, h2⟩, h3, h4⟩, h5⟩
theorem there_nat {m : Int} {F : List Core} {n : Int} (h : thereF m F n = true) : rightF m F = true ∧ ∃ k : Nat, n = k ∧ k < F.length := by
  unfold thereF at h
  simp only [Bool.and_eq_true, decide_eq_true_eq] at h
  exact ⟨h.1.1, n.toNat, by omega, by omega⟩
set_option maxHeartbeats 4000000 in
set_option maxRecDepth 100000 in
theorem rootFn_any (a : Option Addr) (len cap : Nat) (m : Int) (L : List NodeD) (n : Int) (w : World) (h : NodeRow w a len cap L) (hm : In64 m) (hn : In64 n) (hs : smallF L) :
    Calls Tryz.prog 117 #[forV a len cap m, .int .i64 n] w fun e w' => e = .returned (.int .i64 (rootZ m (coreL L) n)) ∧ Below w.heap.size w w' := by
  have HCL : Hid ((coreL L).length = len) := Lib.hid (by rw [coreL_len, h.hlen])
  have BX := Lib.hid ((Box.start (m := m) h).keep (below_box _ (.cells #[.int .i64 n] 3)))
  have NB := Lib.hid (lit_one (w.alloc (forB a len cap m)) 3 n hn)
  have CK : Hid (∀ W b, NodeRow W a len cap L → IntRow W b 1 1 [n] → Calls Tryz.prog 109 #[forV a len cap m, .slice b 1 1] W fun e w' => e = .returned (.bool (thereF m (coreL L) n)) ∧ Below W.heap.size W w') := Lib.hid (fun W b h1 h2 => by
    rw [← knowsB_one]
    exact knows_any a len cap m L b 1 1 [n] W h1 hm hs h2)
  simp only [World.size_alloc] at NB
  have z0 := BX.out.c0
  have z1 := BX.out.c1
  clear h hm hs hn
  cases q : thereF m (coreL L) n with
  | false =>
    rw [q] at CK
    have HR : Hid (rootZ m (coreL L) n = -1) := Lib.hid (by unfold rootZ; rw [q]; rfl)
    clear q
    go_enter Tryz.func117, Tryz.ntmps117
    go_wp2_with (first
                    | (go_at_call 109; ((with_reducible refine (CK.out _ _ BX.out.row NB.out).mono ?_); rintro e w1 ⟨rfl, hb⟩; have BX := Lib.hid (BX.out.keep hb); have z0 := BX.out.c0; have z1 := BX.out.c1; clear hb))
                    | (go_at_call 154; ((with_reducible refine (CU.out _ BX.out.row).mono ?_); rintro e w1 ⟨rfl, rfl⟩)))
    go_ret
    exact ⟨ret_int HR.out.symm, BX.out.below⟩
  | true =>
    rw [q] at CK
    obtain ⟨hr, k, rfl, hk⟩ := there_nat q
    have HR : Hid (rootZ m (coreL L) k = (rootF (coreL L) k : Nat)) := Lib.hid (rootZ_eq hr hk)
    have CU : Hid (∀ W, NodeRow W a len cap L → Calls Tryz.prog 154 #[.slice a len cap, .int .i64 k] W fun e w' => e = .returned (.int .i64 (rootF (coreL L) k : Nat)) ∧ W = w') := Lib.hid (fun W h => rootUp_any a len cap m L k W h hr (by rw [← HCL.out]; exact hk))
    clear q hr hk
    go_enter Tryz.func117, Tryz.ntmps117
    go_wp2_with (first
                    | (go_at_call 109; ((with_reducible refine (CK.out _ _ BX.out.row NB.out).mono ?_); rintro e w1 ⟨rfl, hb⟩; have BX := Lib.hid (BX.out.keep hb); have z0 := BX.out.c0; have z1 := BX.out.c1; clear hb))
                    | (go_at_call 154; ((with_reducible refine (CU.out _ BX.out.row).mono ?_); rintro e w1 ⟨rfl, rfl⟩)))
    go_ret
    exact ⟨ret_int HR.out.symm, BX.out.below⟩
end Go.Proofs.YtiffhlncnpppoaaGreatDoor
namespace Go.Proofs.YtiffhlncnpppoaaGreatDoor
open Go.RowKit
section
variable {n : Nat} {par : Nat → Option Nat} {kids : Nat → List Nat} {rank : Nat → Nat}
theorem Tree.ord_open (T : Tree n par kids rank) {i : Nat} (hi : i < n) : ordN kids (n + 1) i = i :: (kids i).flatMap (ordN kids (n + 1)) := by
  rw [← T.ord_more (n + 1) i hi (by omega)]
  rfl
end
theorem findN_mem {l : List Int} {z : Int} (h : z ∈ l) : findN l z < l.length := List.findIdx_lt_length_of_exists ⟨z, h, by simp⟩
theorem findZ_mem {l : List Int} {z : Int} (h : z ∈ l) : findZ l z = (findN l z : Int) := by unfold findZ; rw [if_pos (findN_mem h)]
theorem right_up {m : Int} {F : List Core} (h : rightF m F = true) : upIn F F.length := by
  have := nodes_eq.1 ((rightF_iff m F).1 h).2.1
  exact fit_up this.1 this.2
theorem next_par {F : List Core} {i : Nat} {x : Core} (hx : F[i]? = some x) (hp : x.parent ≠ -1) : nextUp F (i : Int) = x.parent := by
  rw [nextUp_at hx]
  unfold upC
  rw [if_neg hp]
theorem next_host {F : List Core} {i : Nat} {x : Core} (hx : F[i]? = some x) (hp : x.parent = -1) : nextUp F (i : Int) = x.host := by
  rw [nextUp_at hx]
  unfold upC
  rw [if_pos hp]
theorem right_held {m : Int} {F : List Core} (h : rightF m F = true) {i : Nat} {x : Core} (hx : F[i]? = some x) (hp : x.parent ≠ -1) : x.kind = 1 ∨ x.kind = 2 := by
  have h1 := (nodeOk_iff.1 (((rightF_iff m F).1 h).2.1 i x hx)).2.1
  unfold parOk at h1
  rw [beq_eq_false_iff_ne.2 hp, Bool.false_or, Bool.and_eq_true] at h1
  simpa using h1.1
theorem right_under {m : Int} {F : List Core} (h : rightF m F = true) {i : Nat} {x : Core} (hx : F[i]? = some x) (hu : x.under ≠ -1) : ∃ (s : Nat) (u : Core), x.under = s ∧ F[s]? = some u ∧ u.kind = 4 ∧ u.host = i ∧ u.parent = -1 ∧ x.kind = 1 := by
  have h1 := (nodeOk_iff.1 (((rightF_iff m F).1 h).2.1 i x hx)).2.2.2.2.1
  rw [Bool.and_eq_true] at h1
  have h2 := h1.2
  unfold underOk at h2
  rw [beq_eq_false_iff_ne.2 hu, Bool.false_or, Bool.and_eq_true] at h2
  cases hg : getC F x.under with
  | none => rw [hg] at h2; simp at h2
  | some u =>
    rw [hg] at h2
    simp only [Bool.and_eq_true, beq_iff_eq] at h2
    obtain ⟨e1, e2, e3⟩ := getC_some hg
    refine ⟨x.under.toNat, u, by omega, e3, h2.2.1, h2.2.2, ?_, h2.1⟩
    by_cases hp : u.parent = -1
    · exact hp
    · rcases right_held h e3 hp with k | k
      · rw [k] at h2; exact absurd h2.2.1 (by decide)
      · rw [k] at h2; exact absurd h2.2.1 (by decide)
theorem right_host {m : Int} {F : List Core} (h : rightF m F = true) {k : Nat} {u : Core} (hu : F[k]? = some u) (hh : u.host ≠ -1) : u.kind = 4 ∧ ∃ (i : Nat) (x : Core), u.host = i ∧ F[i]? = some x ∧ x.kind = 1 ∧ x.under = k ∧ x.doc = u.doc := by
  have h1 := (nodeOk_iff.1 (((rightF_iff m F).1 h).2.1 k u hu)).2.2.2.2.1
  rw [Bool.and_eq_true] at h1
  have h2 := h1.1
  unfold hostOk at h2
  by_cases k4 : u.kind = 4
  · rw [if_pos k4] at h2
    cases hg : getC F u.host with
    | none => rw [hg] at h2; simp at h2
    | some x =>
      rw [hg] at h2
      simp only [Bool.and_eq_true, beq_iff_eq] at h2
      obtain ⟨e1, e2, e3⟩ := getC_some hg
      exact ⟨k4, u.host.toNat, x, by omega, e3, h2.1.1, h2.1.2, h2.2⟩
  · rw [if_neg k4] at h2
    exact absurd (beq_iff_eq.1 h2) hh
def parS (F : List Core) (i : Nat) : Option Nat := if nextUp F (i : Int) = -1 then none else some (nextUp F (i : Int)).toNat
def undS (F : List Core) (i : Nat) : List Nat := match F[i]? with | some c => if c.under = -1 then [] else [c.under.toNat] | none => []
def kidsS (F : List Core) (i : Nat) : List Nat := undS F i ++ kidsF F i
theorem parS_some {F : List Core} {k i : Nat} (h : nextUp F (k : Int) = i) : parS F k = some i := by
  unfold parS
  rw [h, if_neg (by omega), Int.toNat_natCast]
theorem parS_none {F : List Core} {k : Nat} (h : nextUp F (k : Int) = -1) : parS F k = none := by
  unfold parS
  rw [if_pos h]
theorem parS_next {m : Int} {F : List Core} (hr : rightF m F = true) {k i : Nat} (hk : k < F.length) (h : parS F k = some i) : nextUp F (k : Int) = i ∧ i < F.length := by
  unfold parS at h
  by_cases he : nextUp F (k : Int) = -1
  · rw [if_pos he] at h; cases h
  · rw [if_neg he] at h
    injection h with h
    rcases right_up hr k (by omega) (by omega) with e | ⟨e1, e2⟩
    · exact absurd e he
    · exact ⟨by omega, by omega⟩
theorem undS_mem {m : Int} {F : List Core} (hr : rightF m F = true) {i k : Nat} (h : k ∈ undS F i) : ∃ x u, F[i]? = some x ∧ x.under = (k : Int) ∧ F[k]? = some u ∧ u.kind = 4 ∧ u.host = i ∧ u.parent = -1 := by
  unfold undS at h
  cases hx : F[i]? with
  | none => rw [hx] at h; simp at h
  | some x =>
    rw [hx] at h
    dsimp only at h
    by_cases hu : x.under = -1
    · rw [if_pos hu] at h; simp at h
    · rw [if_neg hu] at h
      obtain ⟨s, u, e1, e2, e3, e4, e5, _⟩ := right_under hr hx hu
      have : k = s := by
        have := List.mem_singleton.1 h
        omega
      subst this
      exact ⟨x, u, rfl, e1, e2, e3, e4, e5⟩
theorem treeS {m : Int} {F : List Core} (hr : rightF m F = true) : Tree F.length (parS F) (kidsS F) (rankF F) := by
  have T := tree_of_right hr
  have E := ((rightF_iff m F).1 hr).2.2
  have kid : ∀ i k, k ∈ kidsF F i → k < F.length ∧ nextUp F (k : Int) = i := fun i k hk => by
    have hl := T.kid_lt i k hk
    have hp := T.kid_par i k hk
    have hx : F[k]? = some F[k] := List.getElem?_eq_getElem hl
    by_cases he : F[k].parent = -1
    · rw [right_top hx he] at hp; cases hp
    · obtain ⟨p, h1, _, h3⟩ := right_par hr hx he
      rw [h3] at hp
      injection hp with hp
      subst hp
      exact ⟨hl, (next_par hx he).trans h1⟩
  have all : ∀ i k, k ∈ kidsS F i → k < F.length ∧ nextUp F (k : Int) = i := fun i k hk => by
    rcases List.mem_append.1 hk with hk | hk
    · obtain ⟨x, u, hx, _, hu, _, hh, hp⟩ := undS_mem hr hk
      exact ⟨(List.getElem?_eq_some_iff.1 hu).1, (next_host hu hp).trans hh⟩
    · exact kid i k hk
  refine ⟨fun i k hk => (all i k hk).1, fun i k hk => parS_some (all i k hk).2, fun i k hk hp => ?_, fun i => ?_, fun i k hk hp => ?_, fun i hi => rankZ_le (n := F.length) (E i hi)⟩
  · obtain ⟨h1, h2⟩ := parS_next hr hk hp
    refine ⟨h2, List.mem_append.2 ?_⟩
    have hx : F[k]? = some F[k] := List.getElem?_eq_getElem hk
    by_cases he : F[k].parent = -1
    · rw [next_host hx he] at h1
      obtain ⟨_, j, y, e1, e2, _, e4, _⟩ := right_host hr hx (by omega)
      have : j = i := by omega
      subst this
      left
      unfold undS
      rw [e2]
      dsimp only
      rw [if_neg (by omega), e4, Int.toNat_natCast]
      simp
    · rw [next_par hx he] at h1
      obtain ⟨p, e1, _, e3⟩ := right_par hr hx he
      have : p = i := by omega
      subst this
      exact .inr (T.par_kid p k hk e3).2
  · unfold kidsS
    rw [List.nodup_append]
    refine ⟨?_, T.nodup i, fun a ha b hb e => ?_⟩
    · unfold undS
      cases F[i]? with
      | none => simp
      | some c => dsimp only; split <;> simp
    · subst e
      obtain ⟨x, u, hx, _, hu, _, hh, hp⟩ := undS_mem hr ha
      have := T.kid_par i a hb
      rw [right_top hu hp] at this
      cases this
  · obtain ⟨h1, h2⟩ := parS_next hr hk hp
    unfold rankF
    rw [rankZ_up (nxt := nextUp F) (n := F.length) (i := (k : Int)) (by omega) (E k hk) (by rw [h1]; exact E i h2), h1]
def topF (F : List Core) (a : Nat) : Nat := rootN (parS F) (F.length + 1) a
def allF (F : List Core) (a : Nat) : List Nat := ordN (kidsS F) (F.length + 1) a
def overF (F : List Core) (a b : Nat) : Bool := decide (b ∈ allF F a)
def allI (F : List Core) (z : Int) : List Int := (allF F z.toNat).map Int.ofNat
def overZ (m : Int) (F : List Core) (a b : Int) : Bool := thereF m F a && thereF m F b && overF F a.toNat b.toNat
theorem overZ_iff {m : Int} {F : List Core} (h : rightF m F = true) {a b : Nat} (ha : a < F.length) (hb : b < F.length) : overZ m F (a : Int) (b : Int) = true ↔ holdsT (parS F) a b := by
  unfold overZ
  rw [thereF_of h ha, thereF_of h hb, Bool.true_and, Bool.true_and]
  unfold overF allF
  rw [decide_eq_true_iff]
  exact (treeS h).mem_ord _ _ ha (by omega) _ hb
theorem topF_lt {m : Int} {F : List Core} (h : rightF m F = true) {a : Nat} (ha : a < F.length) : topF F a < F.length := (treeS h).root_lt ha
theorem allI_open {m : Int} {F : List Core} (h : rightF m F = true) {a : Nat} {x : Core} (hx : F[a]? = some x) : allI F (a : Int) = (a : Int) :: ((if x.under = -1 then [] else allI F x.under) ++ x.kids.flatMap (allI F)) := by
  have T := treeS h
  have ha := (List.getElem?_eq_some_iff.1 hx).1
  unfold allI allF
  rw [Int.toNat_natCast, T.ord_open ha, List.map_cons]
  congr 1
  have hk : kidsF F a = x.kids.map Int.toNat := by unfold kidsF; rw [hx]
  rw [show kidsS F a = undS F a ++ kidsF F a from rfl, List.flatMap_append, List.map_append, hk]
  congr 1
  · unfold undS
    rw [hx]
    dsimp only
    by_cases hu : x.under = -1
    · rw [if_pos hu, if_pos hu]; rfl
    · rw [if_neg hu, if_neg hu]; simp
  · rw [List.flatMap_map, List.map_flatMap]
end Go.Proofs.YtiffhlncnpppoaaGreatDoor
namespace Go.Proofs.YtiffhlncnpppoaaGreatDoor
open Go.RowKit
def withU (x : Core) (u : Int) : Core := ⟨x.kind, x.name, x.is, x.data, x.attrs, x.parent, x.kids, x.host, u, x.doc⟩
end Go.Proofs.YtiffhlncnpppoaaGreatDoor
namespace Go.Proofs.YtiffhlncnpppoaaGreatDoor
open Go.RowKit
theorem mem_allI {F : List Core} {z : Int} {n : Nat} : (n : Int) ∈ allI F z ↔ n ∈ allF F z.toNat := by
  unfold allI
  constructor
  · intro hm
    obtain ⟨k, hk, e⟩ := List.mem_map.1 hm
    rwa [Int.ofNat.inj e] at hk
  · intro hm
    exact List.mem_map.2 ⟨n, hm, rfl⟩
theorem allI_nodup {m : Int} {F : List Core} (h : rightF m F = true) {x : Nat} (hx : x < F.length) : (allI F x).Nodup := by
  have hN : (allF F x).Nodup := (treeS h).ord_nodup _ _ hx (by omega)
  unfold allI
  rw [Int.toNat_natCast]
  exact List.Pairwise.map Int.ofNat (fun a b hab e => hab (Int.ofNat.inj e)) hN
theorem allI_len {m : Int} {F : List Core} (h : rightF m F = true) {x : Nat} (hx : x < F.length) : (allI F x).length ≤ F.length := by
  unfold allI
  rw [Int.toNat_natCast, List.length_map]
  exact nodup_sub _ _ ((treeS h).ord_nodup _ _ hx (by omega)) ((treeS h).ord_lt _ _ hx)
theorem hasZ_all {m : Int} {F : List Core} (h : rightF m F = true) {x n : Nat} (hx : x < F.length) (hn : n < F.length) : hasZ (allI F x) (n : Int) = if overZ m F x n then 1 else 0 := by
  rw [hasZ_nodup (allI_nodup h hx)]
  have e2 : overZ m F x n = decide (n ∈ allF F x) := by
    unfold overZ
    rw [thereF_of h hx, thereF_of h hn]
    rfl
  have e1 : ((n : Int) ∈ allI F x) ↔ n ∈ allF F x := by rw [mem_allI, Int.toNat_natCast]
  rw [e2]
  by_cases hm : n ∈ allF F x
  · rw [if_pos (e1.2 hm), decide_eq_true hm, if_pos rfl]
  · rw [if_neg (fun g => hm (e1.1 g)), decide_eq_false hm, if_neg (by decide)]
end Go.Proofs.YtiffhlncnpppoaaGreatDoor
namespace Go.Proofs.YtiffhlncnpppoaaGreatDoor
open Go.RowKit
structure NodeP (F : List Core) (i : Nat) (x : Core) : Prop where
  kind : 0 ≤ x.kind ∧ x.kind ≤ 4
  doc : ∃ d, getC F x.doc = some d ∧ d.kind = 0
  own : x.kind = 0 → x.doc = (i : Int)
  par : x.parent = -1 ∨ ((x.kind = 1 ∨ x.kind = 2) ∧ ∃ p, getC F x.parent = some p ∧ p.kind ≠ 2 ∧ (i : Int) ∈ p.kids)
  once : x.kids.Nodup
  kids : ∀ k ∈ x.kids, ∃ c, getC F k = some c ∧ (c.kind = 1 ∨ c.kind = 2) ∧ c.parent = (i : Int) ∧ c.doc = x.doc
  leaf : x.kind = 2 → x.kids = []
  root : x.kind = 0 → x.kids.length ≤ 1 ∧ ∀ k ∈ x.kids, kindK F k = 1
  host : x.kind = 4 → ∃ h, getC F x.host = some h ∧ h.kind = 1 ∧ h.under = (i : Int) ∧ h.doc = x.doc
  free : x.kind ≠ 4 → x.host = -1
  under : x.under = -1 ∨ (x.kind = 1 ∧ ∃ u, getC F x.under = some u ∧ u.kind = 4 ∧ u.host = (i : Int))
  text : textOk x = true
theorem shapeOk_iff {F : List Core} {x : Core} : shapeOk F x = true ↔ (x.kind = 2 → x.kids = []) ∧ (x.kind = 0 → elemsK F x ≤ 1 ∧ x.kids.length ≤ elemsK F x) := by
  unfold shapeOk
  simp only [Bool.and_eq_true, Bool.not_eq_true', Bool.and_eq_false_iff, beq_eq_false_iff_ne, decide_eq_false_iff_not, Bool.or_eq_false_iff]
  constructor
  · rintro ⟨h1, h2⟩
    refine ⟨fun e => ?_, fun e => ?_⟩
    · rcases h1 with h | h
      · exact absurd e h
      · exact List.eq_nil_of_length_eq_zero (by omega)
    · rcases h2 with h | h
      · exact absurd e h
      · omega
  · rintro ⟨h1, h2⟩
    refine ⟨?_, ?_⟩
    · by_cases e : x.kind = 2
      · right; rw [h1 e]; simp
      · exact .inl e
    · by_cases e : x.kind = 0
      · right; have := h2 e; omega
      · exact .inl e
theorem nodesP {F : List Core} : (∀ (i : Nat) x, F[i]? = some x → nodeOk F i x = true) ↔ ∀ (i : Nat) x, F[i]? = some x → NodeP F i x := by
  constructor
  · intro H i x hx
    obtain ⟨p1, p2, p3, p4, p5, p6⟩ := nodeOk_iff.1 (H i x hx)
    rw [Bool.and_eq_true] at p5
    unfold docOk at p1
    simp only [Bool.and_eq_true, Bool.or_eq_true, decide_eq_true_eq, bne_iff_ne, beq_iff_eq] at p1
    have hkid : ∀ k ∈ x.kids, ∃ c, getC F k = some c ∧ (c.kind = 1 ∨ c.kind = 2) ∧ c.parent = (i : Int) ∧ c.doc = x.doc := fun k hk => kidB_iff.1 (kidOk_iff.1 (p3 k hk)).2
    obtain ⟨s1, s2⟩ := shapeOk_iff.1 p4
    refine ⟨p1.1.1, ?_, fun e => p1.2.resolve_left (fun h => h e), ?_, nodup_of_has (fun z hz => (kidOk_iff.1 (p3 z hz)).1), hkid, s1, fun e => ?_, fun e => ?_, fun e => ?_, ?_, p6⟩
    · have h := p1.1.2
      cases hg : getC F x.doc with
      | none => rw [hg] at h; cases h
      | some d => rw [hg] at h; exact ⟨d, rfl, beq_iff_eq.1 h⟩
    · unfold parOk at p2
      rw [Bool.or_eq_true, beq_iff_eq] at p2
      rcases p2 with h | h
      · exact .inl h
      · right
        rw [Bool.and_eq_true, Bool.or_eq_true, beq_iff_eq, beq_iff_eq] at h
        refine ⟨h.1, ?_⟩
        cases hg : getC F x.parent with
        | none => rw [hg] at h; exact absurd h.2 (by simp)
        | some d =>
          rw [hg] at h
          have h2 := h.2
          dsimp only at h2
          rw [Bool.and_eq_true, bne_iff_ne, beq_iff_eq] at h2
          exact ⟨d, rfl, h2.1, hasZ_mem h2.2⟩
    · obtain ⟨h1, h2⟩ := s2 e
      refine ⟨by omega, fun k hk => ?_⟩
      unfold elemsK at h2
      have hc : x.kids.countP (fun k => kindK F k == 1) = x.kids.length := Nat.le_antisymm List.countP_le_length h2
      exact beq_iff_eq.1 (List.countP_eq_length.1 hc k hk)
    · have h := p5.1
      unfold hostOk at h
      rw [if_pos e] at h
      cases hg : getC F x.host with
      | none => rw [hg] at h; cases h
      | some d =>
        rw [hg] at h
        simp only [Bool.and_eq_true, beq_iff_eq] at h
        exact ⟨d, rfl, h.1.1, h.1.2, h.2⟩
    · have h := p5.1
      unfold hostOk at h
      rw [if_neg e] at h
      exact beq_iff_eq.1 h
    · have h := p5.2
      unfold underOk at h
      rw [Bool.or_eq_true, beq_iff_eq, Bool.and_eq_true, beq_iff_eq] at h
      rcases h with h | h
      · exact .inl h
      · right
        refine ⟨h.1, ?_⟩
        have h2 := h.2
        cases hg : getC F x.under with
        | none => rw [hg] at h2; cases h2
        | some d =>
          rw [hg] at h2
          simp only [Bool.and_eq_true, beq_iff_eq] at h2
          exact ⟨d, rfl, h2.1, h2.2⟩
  · intro H i x hx
    have h := H i x hx
    have hone : ∀ (l : List Int) (z : Int), l.Nodup → z ∈ l → hasZ l z = 1 := fun l z hn hz => by rw [hasZ_nodup hn, if_pos hz]
    refine nodeOk_iff.2 ⟨?_, ?_, fun k hk => kidOk_iff.2 ⟨hone _ _ h.once hk, kidB_iff.2 (h.kids k hk)⟩, shapeOk_iff.2 ⟨h.leaf, fun e => ?_⟩, ?_, h.text⟩
    · unfold docOk
      obtain ⟨d, h1, h2⟩ := h.doc
      rw [h1]
      simp only [Bool.and_eq_true, Bool.or_eq_true, decide_eq_true_eq, bne_iff_ne, beq_iff_eq]
      exact ⟨⟨h.kind, h2⟩, by by_cases e : x.kind = 0; exact .inr (h.own e); exact .inl e⟩
    · unfold parOk
      rw [Bool.or_eq_true, beq_iff_eq]
      rcases h.par with e | ⟨e, p, h1, h2, h3⟩
      · exact .inl e
      · right
        rw [h1, Bool.and_eq_true, Bool.or_eq_true, beq_iff_eq, beq_iff_eq]
        refine ⟨e, ?_⟩
        obtain ⟨g1, g2, g3⟩ := getC_some h1
        have := hone p.kids i (H _ p g3).once h3
        show (p.kind != 2 && hasZ p.kids i == 1) = true
        rw [this, bne_iff_ne.2 h2]
        rfl
    · obtain ⟨h1, h2⟩ := h.root e
      have : elemsK F x = x.kids.length := by
        unfold elemsK
        exact List.countP_eq_length.2 (fun k hk => beq_iff_eq.2 (h2 k hk))
      omega
    · rw [Bool.and_eq_true]
      constructor
      · unfold hostOk
        by_cases e : x.kind = 4
        · rw [if_pos e]
          obtain ⟨d, h1, h2, h3, h4⟩ := h.host e
          rw [h1]
          simp only [Bool.and_eq_true, beq_iff_eq]
          exact ⟨⟨h2, h3⟩, h4⟩
        · rw [if_neg e]
          exact beq_iff_eq.2 (h.free e)
      · unfold underOk
        rw [Bool.or_eq_true, beq_iff_eq]
        rcases h.under with e | ⟨e, u, h1, h2, h3⟩
        · exact .inl e
        · right
          rw [h1, Bool.and_eq_true]
          simp only [Bool.and_eq_true, beq_iff_eq]
          exact ⟨e, h2, h3⟩
theorem right_node {m : Int} {F : List Core} (h : rightF m F = true) {i : Nat} {x : Core} (hx : F[i]? = some x) : NodeP F i x := nodesP.1 ((rightF_iff m F).1 h).2.1 i x hx
theorem ends_rank {nxt : Int → Int} {n : Nat} (r : Nat → Nat) (h : ∀ i : Nat, i < n → nxt i = -1 ∨ ∃ p : Nat, nxt i = p ∧ p < n ∧ r p < r i) : ∀ (k i : Nat), i < n → r i ≤ k → ∃ s, endsZ nxt s (i : Int) = true
  | 0, i, hi, hk => by
    rcases h i hi with e | ⟨p, _, _, e⟩
    · exact ⟨1, by rw [endsZ_step (by omega), e]; rfl⟩
    · omega
  | k + 1, i, hi, hk => by
    rcases h i hi with e | ⟨p, e1, e2, e3⟩
    · exact ⟨1, by rw [endsZ_step (by omega), e]; rfl⟩
    · obtain ⟨s, hs⟩ := ends_rank r h k p e2 (by omega)
      exact ⟨s + 1, by rw [endsZ_step (by omega), e1]; exact hs⟩
theorem right_of {m : Int} {F : List Core} (h1 : 1 ≤ m) (h2 : m ≤ 400) (h3 : (F.length : Int) ≤ m) (h4 : headDoc F = true) (h5 : ∀ (i : Nat) x, F[i]? = some x → NodeP F i x) (r : Nat → Nat) (h6 : ∀ i : Nat, i < F.length → nextUp F i = -1 ∨ ∃ p : Nat, nextUp F i = p ∧ p < F.length ∧ r p < r i) : rightF m F = true := by
  refine (rightF_iff m F).2 ⟨⟨h1, h2, h3, h4⟩, nodesP.2 h5, fun i hi => ?_⟩
  obtain ⟨s, hs⟩ := ends_rank r h6 (r i) i hi (Nat.le_refl _)
  exact endsZ_le (Nat.le_succ _) (ends_small (n := F.length) (fun z h0 h1 => by
    obtain ⟨j, rfl⟩ : ∃ j : Nat, z = j := ⟨z.toNat, by omega⟩
    rcases h6 j (by omega) with e | ⟨p, e1, e2, _⟩
    · exact .inl e
    · exact .inr ⟨by omega, by omega⟩) (.inr ⟨by omega, by omega⟩) hs)
theorem rank_next {m : Int} {F : List Core} (h : rightF m F = true) {i : Nat} (hi : i < F.length) : nextUp F i = -1 ∨ ∃ p : Nat, nextUp F i = p ∧ p < F.length ∧ rankF F p < rankF F i := by
  by_cases e : nextUp F (i : Int) = -1
  · exact .inl e
  · right
    rcases right_up h i (by omega) (by omega) with e2 | ⟨e2, e3⟩
    · exact absurd e2 e
    · have hp : nextUp F (i : Int) = ((nextUp F (i : Int)).toNat : Int) := by omega
      refine ⟨_, hp, by omega, ?_⟩
      have := (treeS h).rank_up _ i hi (parS_some hp)
      omega
end Go.Proofs.YtiffhlncnpppoaaGreatDoor
namespace Go.Proofs.YtiffhlncnpppoaaGreatDoor
open Go.RowKit
def edC (c : Core) (p : Int) (ks : List Int) (d : Int) : Core := ⟨c.kind, c.name, c.is, c.data, c.attrs, p, ks, c.host, c.under, d⟩
structure Edit (F G : List Core) (P : Nat → Core → Int) (K : Nat → Core → List Int) (D : Nat → Core → Int) : Prop where
  len : G.length = F.length
  at_ : ∀ (j : Nat) c, F[j]? = some c → G[j]? = some (edC c (P j c) (K j c) (D j c))
section
variable {F G : List Core} {P : Nat → Core → Int} {K : Nat → Core → List Int} {D : Nat → Core → Int}
theorem Edit.back (h : Edit F G P K D) {j : Nat} {y : Core} (hy : G[j]? = some y) : ∃ c, F[j]? = some c ∧ y = edC c (P j c) (K j c) (D j c) := by
  have hl := (List.getElem?_eq_some_iff.1 hy).1
  rw [h.len] at hl
  have hc : F[j]? = some F[j] := List.getElem?_eq_getElem hl
  have := h.at_ j _ hc
  rw [hy] at this
  exact ⟨_, hc, Option.some.inj this⟩
theorem Edit.getC (h : Edit F G P K D) {z : Int} {c : Core} (hc : Go.Proofs.YtiffhlncnpppoaaGreatDoor.getC F z = some c) : Go.Proofs.YtiffhlncnpppoaaGreatDoor.getC G z = some (edC c (P z.toNat c) (K z.toNat c) (D z.toNat c)) := by
  obtain ⟨h0, _, h2⟩ := getC_some hc
  unfold Go.Proofs.YtiffhlncnpppoaaGreatDoor.getC
  rw [if_pos h0]
  exact h.at_ _ _ h2
theorem Edit.kindK (h : Edit F G P K D) (z : Int) : Go.Proofs.YtiffhlncnpppoaaGreatDoor.kindK G z = Go.Proofs.YtiffhlncnpppoaaGreatDoor.kindK F z := by
  unfold Go.Proofs.YtiffhlncnpppoaaGreatDoor.kindK
  cases hc : Go.Proofs.YtiffhlncnpppoaaGreatDoor.getC F z with
  | some c => rw [h.getC hc]; rfl
  | none =>
    have : Go.Proofs.YtiffhlncnpppoaaGreatDoor.getC G z = none := by
      unfold Go.Proofs.YtiffhlncnpppoaaGreatDoor.getC at hc ⊢
      by_cases h0 : 0 ≤ z
      · rw [if_pos h0] at hc ⊢
        rw [List.getElem?_eq_none_iff] at hc ⊢
        rw [h.len]
        exact hc
      · rw [if_neg h0]
    rw [this]
theorem Edit.head (h : Edit F G P K D) (hd : headDoc F = true) : headDoc G = true := by
  rw [head_eq, isKd_iff] at hd ⊢
  obtain ⟨c, h1, h2⟩ := hd
  exact ⟨_, h.getC h1, h2⟩
theorem Edit.next (h : Edit F G P K D) {j : Nat} {c : Core} (hc : F[j]? = some c) : nextUp G (j : Int) = if P j c = -1 then c.host else P j c := by
  unfold nextUp
  rw [getC_nat, h.at_ j c hc]
  rfl
end
structure Out (m : Int) (F G : List Core) (n p : Nat) (x : Core) : Prop where
  right : rightF m F = true
  hx : F[n]? = some x
  hp : x.parent = (p : Int)
  ed : Edit F G (fun j c => if j = n then -1 else c.parent) (fun j c => if j = p then c.kids.filter (fun z => z != (n : Int)) else c.kids) (fun _ c => c.doc)
section
variable {m : Int} {F G : List Core} {n p : Nat} {x : Core}
theorem Out.kind (h : Out m F G n p x) : x.kind = 1 ∨ x.kind = 2 := right_held h.right h.hx (by rw [h.hp]; omega)
theorem Out.bare (h : Out m F G n p x) : x.host = -1 := (right_node h.right h.hx).free (by rcases h.kind with e | e <;> omega)
theorem Out.next (h : Out m F G n p x) {j : Nat} (hj : j < F.length) : nextUp G (j : Int) = if j = n then -1 else nextUp F j := by
  have hc : F[j]? = some F[j] := List.getElem?_eq_getElem hj
  rw [h.ed.next hc]
  by_cases e : j = n
  · subst e
    rw [if_pos rfl, if_pos rfl, if_pos rfl, ← h.bare]
    rw [h.hx] at hc
    rw [Option.some.inj hc]
  · rw [if_neg e, if_neg e, nextUp_at hc]
    rfl
theorem Out.node (h : Out m F G n p x) {j : Nat} {y : Core} (hy : G[j]? = some y) : NodeP G j y := by
  obtain ⟨c, hc, rfl⟩ := h.ed.back hy
  have N := right_node h.right hc
  refine ⟨N.kind, ?_, N.own, ?_, ?_, fun k hk => ?_, fun e => ?_, fun e => ?_, fun e => ?_, N.free, ?_, N.text⟩
  · obtain ⟨d, h1, h2⟩ := N.doc
    exact ⟨_, h.ed.getC h1, h2⟩
  · by_cases e : j = n
    · exact .inl (if_pos e)
    · rcases N.par with h1 | ⟨h1, q, h2, h3, h4⟩
      · exact .inl ((if_neg e).trans h1)
      · have g := h.ed.getC h2
        refine .inr ⟨h1, edC q (if c.parent.toNat = n then -1 else q.parent) (if c.parent.toNat = p then q.kids.filter (fun z => z != (n : Int)) else q.kids) q.doc, ?_, h3, ?_⟩
        · show getC G (if j = n then -1 else c.parent) = _
          rw [if_neg e]
          exact g
        show (j : Int) ∈ (if c.parent.toNat = p then q.kids.filter (fun z => z != (n : Int)) else q.kids)
        split
        · rw [List.mem_filter]
          exact ⟨h4, bne_iff_ne.2 (by omega)⟩
        · exact h4
  · show (if j = p then c.kids.filter (fun z => z != (n : Int)) else c.kids).Nodup
    split
    · exact N.once.filter _
    · exact N.once
  · have hk2 : k ∈ c.kids ∧ k ≠ (n : Int) := by
      have hk : k ∈ (if j = p then c.kids.filter (fun z => z != (n : Int)) else c.kids) := hk
      split at hk
      · rw [List.mem_filter] at hk
        exact ⟨hk.1, bne_iff_ne.1 hk.2⟩
      · rename_i hne
        refine ⟨hk, fun e => ?_⟩
        subst e
        obtain ⟨d, h1, _, h3, _⟩ := N.kids _ hk
        rw [getC_nat, h.hx] at h1
        rw [← Option.some.inj h1, h.hp] at h3
        exact hne (by omega)
    obtain ⟨d, h1, h2, h3, h4⟩ := N.kids k hk2.1
    obtain ⟨g1, _, _⟩ := getC_some h1
    refine ⟨_, h.ed.getC h1, h2, ?_, h4⟩
    show (if k.toNat = n then -1 else d.parent) = (j : Int)
    rw [if_neg (by have := hk2.2; omega)]
    exact h3
  · show (if j = p then c.kids.filter (fun z => z != (n : Int)) else c.kids) = []
    rw [N.leaf e]
    split <;> rfl
  · obtain ⟨h1, h2⟩ := N.root e
    have hsub : ∀ k ∈ (if j = p then c.kids.filter (fun z => z != (n : Int)) else c.kids), k ∈ c.kids := fun k hk => by
      split at hk
      · exact (List.mem_filter.1 hk).1
      · exact hk
    refine ⟨?_, fun k hk => by rw [h.ed.kindK]; exact h2 k (hsub k hk)⟩
    show (if j = p then c.kids.filter (fun z => z != (n : Int)) else c.kids).length ≤ 1
    split
    · exact Nat.le_trans (List.length_filter_le _ _) h1
    · exact h1
  · obtain ⟨d, h1, h2, h3, h4⟩ := N.host e
    exact ⟨_, h.ed.getC h1, h2, h3, h4⟩
  · rcases N.under with h1 | ⟨h1, u, h2, h3, h4⟩
    · exact .inl h1
    · exact .inr ⟨h1, _, h.ed.getC h2, h3, h4⟩
theorem Out.rightG (h : Out m F G n p x) : rightF m G = true := by
  obtain ⟨⟨h1, h2, h3, h4⟩, _, _⟩ := (rightF_iff m F).1 h.right
  refine right_of h1 h2 (by rw [h.ed.len]; exact h3) (h.ed.head h4) (fun i y hy => h.node hy) (rankF F) (fun i hi => ?_)
  rw [h.ed.len] at hi ⊢
  rw [h.next hi]
  by_cases e : i = n
  · exact .inl (if_pos e)
  · rw [if_neg e]
    exact rank_next h.right hi
theorem Out.parS (h : Out m F G n p x) {j : Nat} (hj : j < F.length) : Go.Proofs.YtiffhlncnpppoaaGreatDoor.parS G j = if j = n then none else Go.Proofs.YtiffhlncnpppoaaGreatDoor.parS F j := by
  unfold Go.Proofs.YtiffhlncnpppoaaGreatDoor.parS
  rw [h.next hj]
  by_cases e : j = n
  · rw [if_pos e, if_pos rfl, if_pos e]
  · rw [if_neg e, if_neg e]
theorem Out.lt (h : Out m F G n p x) : n < F.length := (List.getElem?_eq_some_iff.1 h.hx).1
theorem Out.sub (h : Out m F G n p x) {a : Nat} : ∀ (k b : Nat), b < F.length → upN (Go.Proofs.YtiffhlncnpppoaaGreatDoor.parS G) k b = some a → upN (Go.Proofs.YtiffhlncnpppoaaGreatDoor.parS F) k b = some a
  | 0, b, _, hu => hu
  | k + 1, b, hb, hu => by
    unfold upN at hu ⊢
    rw [h.parS hb] at hu
    by_cases e : b = n
    · rw [if_pos e] at hu; cases hu
    · rw [if_neg e] at hu
      cases hq : Go.Proofs.YtiffhlncnpppoaaGreatDoor.parS F b with
      | none => rw [hq] at hu; cases hu
      | some q =>
        rw [hq] at hu
        exact h.sub k q (parS_next h.right hb hq).2 hu
theorem Out.over (h : Out m F G n p x) {a b : Nat} (ha : a < F.length) (hb : b < F.length) : holdsT (Go.Proofs.YtiffhlncnpppoaaGreatDoor.parS G) a b ↔ holdsT (Go.Proofs.YtiffhlncnpppoaaGreatDoor.parS F) a b ∧ (holdsT (Go.Proofs.YtiffhlncnpppoaaGreatDoor.parS F) n b → holdsT (Go.Proofs.YtiffhlncnpppoaaGreatDoor.parS F) n a) := by
  have T := treeS h.right
  constructor
  · rintro ⟨k, hk⟩
    refine ⟨⟨k, h.sub k b hb hk⟩, fun hn => ?_⟩
    rcases holds_line ⟨k, h.sub k b hb hk⟩ hn with h1 | h1
    · -- a is over n; the way from b to a in G passes n only if a is n
      have key : ∀ (k b : Nat), b < F.length → upN (Go.Proofs.YtiffhlncnpppoaaGreatDoor.parS G) k b = some a → holdsT (Go.Proofs.YtiffhlncnpppoaaGreatDoor.parS F) n b → a = n := by
        intro k
        induction k with
        | zero =>
          intro b hb hu hn
          obtain rfl : b = a := Option.some.inj hu
          exact T.holds_anti ha h.lt h1 hn
        | succ k ih =>
          intro b hb hu hn
          unfold upN at hu
          rw [h.parS hb] at hu
          by_cases e : b = n
          · rw [if_pos e] at hu; cases hu
          · rw [if_neg e] at hu
            cases hq : Go.Proofs.YtiffhlncnpppoaaGreatDoor.parS F b with
            | none => rw [hq] at hu; cases hu
            | some q =>
              rw [hq] at hu
              refine ih q (parS_next h.right hb hq).2 hu ?_
              rcases holds_up hn with e2 | ⟨q2, e2, e3⟩
              · exact absurd e2.symm e
              · rw [hq] at e2
                rw [Option.some.inj e2]
                exact e3
      rw [key k b hb hk hn]
      exact holds_refl n
    · exact h1
  · rintro ⟨⟨k, hk⟩, hn⟩
    have key : ∀ (k b : Nat), b < F.length → upN (Go.Proofs.YtiffhlncnpppoaaGreatDoor.parS F) k b = some a → (holdsT (Go.Proofs.YtiffhlncnpppoaaGreatDoor.parS F) n b → holdsT (Go.Proofs.YtiffhlncnpppoaaGreatDoor.parS F) n a) → holdsT (Go.Proofs.YtiffhlncnpppoaaGreatDoor.parS G) a b := by
      intro k
      induction k with
      | zero =>
        intro b hb hu _
        obtain rfl : b = a := Option.some.inj hu
        exact holds_refl b
      | succ k ih =>
        intro b hb hu hn
        unfold upN at hu
        cases hq : Go.Proofs.YtiffhlncnpppoaaGreatDoor.parS F b with
        | none => rw [hq] at hu; cases hu
        | some q =>
          rw [hq] at hu
          have hql := (parS_next h.right hb hq).2
          by_cases e : b = n
          · subst e
            have h1 := hn (holds_refl b)
            have h2 : a = b := T.holds_anti ha hb (holds_trans ⟨k, hu⟩ (holds_par hq)) h1
            subst h2
            exact holds_refl a
          · have h1 := ih q hql hu (fun h2 => hn (holds_trans h2 (holds_par hq)))
            exact holds_trans h1 (holds_par (by rw [h.parS hb, if_neg e]; exact hq))
    exact key k b hb hk hn
end
end Go.Proofs.YtiffhlncnpppoaaGreatDoor
namespace Go.Proofs.YtiffhlncnpppoaaGreatDoor
open Go.RowKit
set_option maxHeartbeats 4000000 in
theorem index_any (a : Option Addr) (len cap : Nat) (L : List Int) (n : Int) (w : World) (h : IntRow w a len cap L) :
    Calls Tryz.prog 119 #[.slice a len cap, .int .i64 n] w fun e w' => e = .returned (.int .i64 (findZ L n)) ∧ w = w' := by
  have hl := h.len64
  have HH := Lib.hid h
  clear h
  go_enter Tryz.func119, Tryz.ntmps119
  go_wp2
  go_loop [8] (fun i => ∃ k : Nat, k ≤ len ∧ i = .int .i64 k ∧ Hid (k ≤ findN L n)) (fun i => len - (intOf i).toNat)
  case atStart => exact ⟨0, Nat.zero_le _, rfl, Lib.hid (Nat.zero_le _)⟩
  case round =>
    obtain ⟨k, hk, rfl, HA⟩ := hrel
    by_cases hlt : k < len
    · obtain ⟨b, off, z, rfl, hb, hx, hc, _⟩ := HH.out.get hlt
      have HX := Lib.hid hx
      clear hx
      by_cases he : n = z
      · have HR : Hid (findZ L n = (k : Int)) := Lib.hid (by
          have := findN_here HA.out HX.out (beq_iff_eq.2 he.symm)
          unfold findZ
          rw [this, if_pos (by rw [HH.out.hlen]; exact hlt)])
        subst he
        go_wp2
        go_ret
        exact ⟨ret_int HR.out.symm, rfl⟩
      · have e1 : (n == z) = false := beq_eq_false_iff_ne.2 he
        have HR := Lib.hid (findN_step HA.out HX.out (beq_eq_false_iff_ne.2 (fun e => he e.symm)))
        clear he
        go_wp2
        go_round
        case rel => exact ⟨k + 1, by omega, by go_num, HR⟩
        case measure => simp [intOf]; omega
    · have HR : Hid (findZ L n = -1) := Lib.hid (by unfold findZ; rw [if_neg (by rw [HH.out.hlen]; have := HA.out; omega)])
      go_wp2
      go_ret
      exact ⟨ret_int HR.out.symm, rfl⟩
set_option maxHeartbeats 4000000 in
set_option maxRecDepth 100000 in
theorem placeFn_any (a : Option Addr) (len cap : Nat) (m : Int) (L : List NodeD) (n : Int) (w : World) (h : NodeRow w a len cap L) (hm : In64 m) (hn : In64 n) (hs : smallF L) :
    Calls Tryz.prog 93 #[forV a len cap m, .int .i64 n] w fun e w' => e = .returned (.int .i64 (placeZ m (coreL L) n)) ∧ Below w.heap.size w w' := by
  have HCL : Hid ((coreL L).length = len) := Lib.hid (by rw [coreL_len, h.hlen])
  have hlen := h.len64
  have BX := Lib.hid ((Box.start (m := m) h).keep (below_box _ (.cells #[.int .i64 n] 3)))
  have NB := Lib.hid (lit_one (w.alloc (forB a len cap m)) 3 n hn)
  have CK : Hid (∀ W b, NodeRow W a len cap L → IntRow W b 1 1 [n] → Calls Tryz.prog 109 #[forV a len cap m, .slice b 1 1] W fun e w' => e = .returned (.bool (thereF m (coreL L) n)) ∧ Below W.heap.size W w') := Lib.hid (fun W b h1 h2 => by
    rw [← knowsB_one]
    exact knows_any a len cap m L b 1 1 [n] W h1 hm hs h2)
  simp only [World.size_alloc] at NB
  have z0 := BX.out.c0
  have z1 := BX.out.c1
  have HH := Lib.hid h
  clear h hm hs hn
  cases q : thereF m (coreL L) n with
  | false =>
    rw [q] at CK
    have HR : Hid (placeZ m (coreL L) n = -1) := Lib.hid (by unfold placeZ; rw [q]; rfl)
    clear q
    go_enter Tryz.func93, Tryz.ntmps93
    go_wp2_with (first
                    | (go_at_call 109; ((with_reducible refine (CK.out _ _ BX.out.row NB.out).mono ?_); rintro e w1 ⟨rfl, hb⟩; have BX := Lib.hid (BX.out.keep hb); have z0 := BX.out.c0; have z1 := BX.out.c1; clear hb))
                    | (go_at_call 154; ((with_reducible refine (CU.out _ BX.out.row).mono ?_); rintro e w1 ⟨rfl, rfl⟩)))
    go_ret
    exact ⟨ret_int HR.out.symm, BX.out.below⟩
  | true =>
    rw [q] at CK
    obtain ⟨hr, k, rfl, hk⟩ := there_nat q
    have HP : Hid (placeZ m (coreL L) k = placeF (coreL L) k) := Lib.hid (by unfold placeZ; rw [q]; rfl)
    have HRT := Lib.hid hr
    rw [HCL.out] at hk
    clear q hr
    obtain ⟨b, off, x, rfl, hb, hx, hat, hok⟩ := HH.out.get hk
    have hxc := coreL_get hx
    by_cases hp : x.core.parent = -1
    · have c5 := hat.c5
      rw [hp] at c5
      have C5 := Lib.hid (stays c5 hb)
      have HR : Hid (placeZ m (coreL L) k = -1) := Lib.hid (by rw [HP.out]; unfold placeF; rw [right_top hxc hp])
      clear hat hok hx hxc hp hb c5
      go_enter Tryz.func93, Tryz.ntmps93
      go_wp2_with (go_at_call 109; ((with_reducible refine (CK.out _ _ BX.out.row NB.out).mono ?_); rintro e w1 ⟨rfl, hb⟩; have BX := Lib.hid (BX.out.keep hb); have z0 := BX.out.c0; have z1 := BX.out.c1; have c5 := C5.out _ BX.out.below; clear hb))
      go_ret
      exact ⟨ret_int HR.out.symm, BX.out.below⟩
    · obtain ⟨p, hpp, hpl, hpar⟩ := right_par HRT.out hxc hp
      rw [HCL.out] at hpl
      have c5 := hat.c5
      rw [hpp] at c5
      have C5 := Lib.hid (stays c5 hb)
      obtain ⟨b2, off2, y, hab, hb2, hy, hat2, hok2⟩ := HH.out.get hpl
      injection hab with hab
      injection hab with e1 e2
      subst e1 e2
      have C6 := Lib.hid (stays hat2.c6 hb2)
      have HR : Hid (placeZ m (coreL L) k = findZ y.core.kids k) := Lib.hid (by rw [HP.out]; unfold placeF; rw [hpar]; dsimp only; rw [coreL_get hy])
      have CX : Hid (∀ W, Below w.heap.size w W → Calls Tryz.prog 119 #[.slice y.kA y.kN y.kC, .int .i64 k] W fun e w' => e = .returned (.int .i64 (findZ y.core.kids k)) ∧ W = w') := Lib.hid (fun W hb => index_any _ _ _ _ _ W (hok2.kids.below hb))
      have hne : ((p : Int) == -1) = false := beq_eq_false_iff_ne.2 (by omega)
      clear hat hok hx hxc hp hb c5 hy hat2 hok2 hb2 hpar hpp
      go_enter Tryz.func93, Tryz.ntmps93
      go_wp2_with (go_at_call 109; ((with_reducible refine (CK.out _ _ BX.out.row NB.out).mono ?_); rintro e w1 ⟨rfl, hb⟩; have BX := Lib.hid (BX.out.keep hb); have z0 := BX.out.c0; have z1 := BX.out.c1; have c5 := C5.out _ BX.out.below; clear hb))
      have E0 := Ext.cell z0 BX.out.lt
      have E5 := Ext.stays C5.out BX.out.below
      have E6 := Ext.stays C6.out BX.out.below
      have EX := Lib.hid (fun (x : Ext w1) => CX.out x.v (BX.out.below.trans (x.below.mono BX.out.below.size)))
      refine wp_region_ext (by kernel_rfl) (by kernel_rfl) ?_
      repeat (go_big_quiet_step (first | (go_at_call 119; exact Ext.call_same (EX.out _))))
      refine wpQuiet_nil ?_
      intro w3 hw'
      obtain ⟨⟨w4, hb4⟩, hw''⟩ := hw'
      dsimp only at hw''
      subst hw''
      have BX := Lib.hid (BX.out.keep hb4)
      clear E0 E5 E6 EX hb4
      go_wp2
      go_ret
      exact ⟨ret_int HR.out.symm, BX.out.below⟩
end Go.Proofs.YtiffhlncnpppoaaGreatDoor
namespace Go.Proofs.YtiffhlncnpppoaaGreatDoor
open Go.RowKit
theorem refat_any (a : Option Addr) (len cap : Nat) (L : AL) (n : ByteArray) (w : World) (h : AttrRow w a len cap L) :
    Calls Tryz.prog 138 #[.slice a len cap, .string n] w fun e w' => e = .returned (.int .i64 (atL L n.toList)) ∧ w = w' := by
  have hl := h.len64
  go_enter Tryz.func138, Tryz.ntmps138
  go_wp2
  go_loop [5] (fun i => ∃ k : Nat, k ≤ len ∧ i = .int .i64 k ∧ k ≤ atN L n.toList) (fun i => len - (intOf i).toNat)
  case atStart => exact ⟨0, Nat.zero_le _, rfl, Nat.zero_le _⟩
  case round =>
    obtain ⟨k, hk, rfl, hat⟩ := hrel
    by_cases hlt : k < len
    · obtain ⟨b, off, xn, xv, rfl, hb, hx, hc1, hc2, _, _⟩ := h.get hlt
      have HX := Lib.hid hx
      clear hx
      by_cases he : xn.toList = n.toList
      · have e1 : (xn.toList == n.toList) = true := beq_iff_eq.2 he
        have HR := Lib.hid (atL_here hat HX.out (show keyIs n.toList (xn, xv) = true from e1))
        clear he
        go_wp2
        go_ret
        exact ⟨ret_int HR.out.symm, rfl⟩
      · have e1 : (xn.toList == n.toList) = false := beq_eq_false_iff_ne.2 he
        have HR := atN_step hat HX.out (show keyIs n.toList (xn, xv) = false from e1)
        clear he
        go_wp2
        go_round
        case rel => exact ⟨k + 1, by omega, by go_num, HR⟩
        case measure => simp [intOf]; omega
    · have HR := Lib.hid (atL_none hat (by have := h.hlen; omega))
      go_wp2
      go_ret
      exact ⟨ret_int HR.out.symm, rfl⟩
end Go.Proofs.YtiffhlncnpppoaaGreatDoor
namespace Go.Proofs.YtiffhlncnpppoaaGreatDoor
open Go.RowKit
def RightAt (l : List UInt8) (k : Nat) : Prop := (l.take k).all signB = true ∧ (0 < k → headB (l.headD 0) = true)
theorem RightAt.start (l : List UInt8) : RightAt l 0 := ⟨rfl, fun h => absurd h (by omega)⟩
theorem RightAt.next {l : List UInt8} {k : Nat} {c : UInt8} (h : RightAt l k) (hc : l[k]? = some c) (hk : k = 0 ∧ headB c = true ∨ 0 < k ∧ signB c = true) : RightAt l (k + 1) := by
  rcases hk with ⟨rfl, hk⟩ | ⟨hk, hs⟩
  · refine ⟨(all_take_succ l 0 c hc rfl).trans (sign_of_head c hk), fun _ => ?_⟩
    cases l with
    | nil => simp at hc
    | cons b r => simp at hc; subst hc; exact hk
  · exact ⟨(all_take_succ l k c hc h.1).trans hs, fun _ => h.2 hk⟩
theorem RightAt.stop {l : List UInt8} {k : Nat} {c : UInt8} (hc : l[k]? = some c) (hk : k = 0 ∧ headB c = false ∨ 0 < k ∧ signB c = false) : rightL l = false := by
  rcases hk with ⟨rfl, hk⟩ | ⟨_, hs⟩
  · exact rightL_head l c hc hk
  · exact rightL_stop l k c hc hs
theorem RightAt.full {l : List UInt8} {k : Nat} (h : RightAt l k) (hk : k = l.length) (h1 : 1 ≤ l.length) (h2 : l.length ≤ 40) : rightL l = true := by
  have ha := h.1
  rw [hk, List.take_length] at ha
  unfold rightL
  rw [ha, h.2 (by omega), decide_eq_true ⟨h1, h2⟩]
  rfl
theorem le_max {n : Nat} (h : n ≤ 1000000) : n ≤ maxLen := by unfold maxLen; omega
set_option maxHeartbeats 16000000 in
set_option maxRecDepth 100000 in
theorem refright_any (s : ByteArray) (w : World) (hs : s.size ≤ maxLen) :
    Calls Tryz.prog 81 #[.string s] w fun e w' => e = .returned (.bool (rightL s.toList)) ∧ w = w' := by
  unfold maxLen at hs
  have hlen := tl_len s
  by_cases h0 : s.size < 1
  · have H := Lib.hid (rightL_ends s.toList (by omega))
    have hz : ((s.size : Int) == 0) = true := beq_iff_eq.2 (by omega)
    clear hlen
    go_enter Tryz.func81, Tryz.ntmps81
    go_wp2
    go_ret
    exact ⟨ret_bool H.out.symm, rfl⟩
  have hz : ((s.size : Int) == 0) = false := beq_eq_false_iff_ne.2 (by omega)
  by_cases h1 : 40 < s.size
  · have H := Lib.hid (rightL_ends s.toList (by omega))
    clear hlen
    go_enter Tryz.func81, Tryz.ntmps81
    go_wp2
    go_ret
    exact ⟨ret_bool H.out.symm, rfl⟩
  have HL := Lib.hid hlen
  clear hlen
  go_enter Tryz.func81, Tryz.ntmps81
  go_wp2
  go_loop [3] (fun i => ∃ k : Nat, k ≤ s.size ∧ i = .int .i64 k ∧ Hid (RightAt s.toList k)) (fun i => s.size - (intOf i).toNat)
  case atStart => exact ⟨0, by omega, rfl, Lib.hid (RightAt.start _)⟩
  case round =>
    obtain ⟨k, hk, rfl, HA⟩ := hrel
    by_cases hlt : k < s.size
    · have HG := Lib.hid (tl_get s k hlt)
      obtain ⟨n, hn⟩ : ∃ n : Nat, (s[k]'hlt).toNat = n := ⟨_, rfl⟩
      have hn1 : n ≤ 255 := by have := (s[k]'hlt).toNat_lt; omega
      have HC := Lib.hid (show signB (s[k]'hlt) = signI (n : Int) ∧ headB (s[k]'hlt) = headI (n : Int) from by unfold signB headB; rw [hn]; exact ⟨rfl, rfl⟩)
      have hcases : (97 ≤ n ∧ n ≤ 122) ∨ (48 ≤ n ∧ n ≤ 57) ∨ (45 ≤ n ∧ n ≤ 45) ∨ (95 ≤ n ∧ n ≤ 95) ∨ (46 ≤ n ∧ n ≤ 46) ∨ (65 ≤ n ∧ n ≤ 90) ∨ (0 ≤ n ∧ n ≤ 44) ∨ (47 ≤ n ∧ n ≤ 47) ∨ (58 ≤ n ∧ n ≤ 64) ∨ (91 ≤ n ∧ n ≤ 94) ∨ (96 ≤ n ∧ n ≤ 96) ∨ (123 ≤ n ∧ n ≤ 255) := by omega
      have hk0 : k = 0 ∨ 0 < k := by omega
      rcases hcases with hr | hr | hr | hr | hr | hr | hr | hr | hr | hr | hr | hr
      all_goals
        obtain ⟨hr1, hr2⟩ := hr
        first | (have e1 : decide ((97 : Int) ≤ (n : Int)) = true := decide_eq_true (by omega)) | (have e1 : decide ((97 : Int) ≤ (n : Int)) = false := decide_eq_false (by omega))
        first | (have e2 : decide ((n : Int) ≤ 122) = true := decide_eq_true (by omega)) | (have e2 : decide ((n : Int) ≤ 122) = false := decide_eq_false (by omega))
        first | (have e3 : decide ((65 : Int) ≤ (n : Int)) = true := decide_eq_true (by omega)) | (have e3 : decide ((65 : Int) ≤ (n : Int)) = false := decide_eq_false (by omega))
        first | (have e4 : decide ((n : Int) ≤ 90) = true := decide_eq_true (by omega)) | (have e4 : decide ((n : Int) ≤ 90) = false := decide_eq_false (by omega))
        first | (have e5 : decide ((48 : Int) ≤ (n : Int)) = true := decide_eq_true (by omega)) | (have e5 : decide ((48 : Int) ≤ (n : Int)) = false := decide_eq_false (by omega))
        first | (have e6 : decide ((n : Int) ≤ 57) = true := decide_eq_true (by omega)) | (have e6 : decide ((n : Int) ≤ 57) = false := decide_eq_false (by omega))
        first | (have e7 : ((n : Int) == 45) = true := beq_iff_eq.2 (by omega)) | (have e7 : ((n : Int) == 45) = false := beq_eq_false_iff_ne.2 (by omega))
        first | (have e8 : ((n : Int) == 46) = true := beq_iff_eq.2 (by omega)) | (have e8 : ((n : Int) == 46) = false := beq_eq_false_iff_ne.2 (by omega))
        first | (have e9 : ((n : Int) == 95) = true := beq_iff_eq.2 (by omega)) | (have e9 : ((n : Int) == 95) = false := beq_eq_false_iff_ne.2 (by omega))
        first | (have e10 : ((n : Int) != 95) = false := by unfold bne; rw [e9]; rfl; done) | (have e10 : ((n : Int) != 95) = true := by unfold bne; rw [e9]; rfl)
        first | (have HS : Hid (signI (n : Int) = true) := Lib.hid (by unfold signI alphI lowI capI digI; simp; omega)) | (have HS : Hid (signI (n : Int) = false) := Lib.hid (by unfold signI alphI lowI capI digI; simp; omega))
        first | (have HH : Hid (headI (n : Int) = true) := Lib.hid (by unfold headI alphI lowI capI; simp; omega)) | (have HH : Hid (headI (n : Int) = false) := Lib.hid (by unfold headI alphI lowI capI; simp; omega))
        clear hr1 hr2
        rcases hk0 with hk0 | hk0
        · have e11 : ((k : Int) == 0) = true := beq_iff_eq.2 (by omega)
          have HK := Lib.hid hk0
          clear hk0
          go_wp2
          first
            | (go_ret
               exact ⟨ret_bool (RightAt.stop HG.out (.inl ⟨HK.out, HC.out.2.trans HH.out⟩)).symm, rfl⟩)
            | (go_round
               case rel => exact ⟨k + 1, by omega, by go_num, Lib.hid (HA.out.next HG.out (.inl ⟨HK.out, HC.out.2.trans HH.out⟩))⟩
               case measure => simp [intOf]; omega)
        · have e11 : ((k : Int) == 0) = false := beq_eq_false_iff_ne.2 (by omega)
          go_wp2
          first
            | (go_ret
               exact ⟨ret_bool (RightAt.stop HG.out (.inr ⟨hk0, HC.out.1.trans HS.out⟩)).symm, rfl⟩)
            | (go_round
               case rel => exact ⟨k + 1, by omega, by go_num, Lib.hid (HA.out.next HG.out (.inr ⟨hk0, HC.out.1.trans HS.out⟩))⟩
               case measure => simp [intOf]; omega)
    · go_wp2
      go_ret
      exact ⟨ret_bool (HA.out.full (by rw [HL.out]; omega) (by rw [HL.out]; omega) (by rw [HL.out]; omega)).symm, rfl⟩
end Go.Proofs.YtiffhlncnpppoaaGreatDoor
namespace Go.Proofs.YtiffhlncnpppoaaGreatDoor
open Go.RowKit
def ofI (n : Int) : UInt8 := UInt8.ofNat n.toNat
theorem ofI_nat {n : Int} (h0 : 0 ≤ n) (h1 : n ≤ 255) : ((ofI n).toNat : Int) = n := by
  unfold ofI
  have : (UInt8.ofNat n.toNat).toNat = n.toNat % 256 := by simp
  rw [this]
  omega
theorem bytes_one (w : World) (a : Addr) (n : Int) (h0 : 0 ≤ n) (h1 : n ≤ 255) (hc : w.cell? a = some (.int .u8 n)) :
    (convert 54 9 (.slice (some a) 1 1)).run Tryz.prog w = .ok (.string (ofL [ofI n])) w := by
  have hs := World.cell?_spot hc
  have := run_convert_bytes_back (P := Tryz.prog) w 54 9 5 a 1 [ofI n] Tryz.underlying54 Tryz.underlying5 Tryz.underlying9 (fun j hj => by
    have : j = 0 := by simpa using hj
    subst this
    have ha : a.add 0 = a := by
      obtain ⟨b, o, sp⟩ := a
      simp at hs
      subst hs
      rw [Go.WideShapes.add_plain, Nat.add_zero]
    rw [ha, hc]
    simp [ofI_nat h0 h1])
  exact this
theorem cut_one (s : ByteArray) (k : Nat) (c : UInt8) (h : s.toList[k]? = some c) : s.extract k (k + 1) = ofL [c] := by
  obtain ⟨hl, hg⟩ := List.getElem?_eq_some_iff.1 h
  rw [← ofL_self (s.extract k (k + 1))]
  congr 1
  rw [tl, Lib.extract_data, ← tl, List.drop_eq_getElem_cons hl, hg]
  have : k + 1 - k = 1 := by omega
  first
    | (rw [this]; rfl)
    | simp
theorem small_take (l : List UInt8) (k : Nat) (c : UInt8) (h : l[k]? = some c) : smallL (l.take (k + 1)) = smallL (l.take k) ++ [smallB c] := by
  obtain ⟨hl, hg⟩ := List.getElem?_eq_some_iff.1 h
  rw [List.take_succ_eq_append_getElem hl, hg]
  simp [smallL]
set_option maxHeartbeats 4000000 in
set_option maxRecDepth 100000 in
theorem refsmall_any (s : ByteArray) (w : World) (hs : s.size ≤ 1000000) :
    Calls Tryz.prog 122 #[.string s] w fun e w' => e = .returned (.string (ofL (smallL s.toList))) ∧ Below w.heap.size w w' := by
  have HL := Lib.hid (tl_len s)
  go_enter Tryz.func122, Tryz.ntmps122
  go_wp2
  go_loopw [3, 4] (fun o i wr => ∃ k : Nat, k ≤ s.size ∧ i = .int .i64 k ∧ o = .string (ofL (smallL (s.toList.take k))) ∧ Below w.heap.size w wr) (fun _ i _ => s.size - (intOf i).toNat)
  case atStart => exact ⟨0, Nat.zero_le _, rfl, rfl, Below.refl _ _⟩
  case round =>
    obtain ⟨k, hk, rfl, rfl, HB⟩ := hrel
    by_cases hlt : k < s.size
    · have hg := tl_get s k hlt
      have HT := Lib.hid (small_take _ _ _ hg)
      have hsz : (ofL (smallL (s.toList.take k))).size + 1 ≤ 9223372036854775807 := by
        rw [size_ofL, smallL_length, List.length_take, HL.out]; omega
      have HX := Lib.hid (cut_one s k _ hg)
      have HG := Lib.hid (smallB_nat s[k])
      have hpos : 0 ≤ (s[k].toNat : Int) := by omega
      have hmax : (s[k].toNat : Int) ≤ 255 := by have := s[k].toNat_lt; omega
      clear hg
      by_cases hc : capI (s[k].toNat : Int) = true
      · have hb := of_decide_eq_true hc
        have b1 : (65 : Int) ≤ (s[k].toNat : Int) := hb.1
        have b2 : (s[k].toNat : Int) ≤ 90 := hb.2
        have d1 : decide ((65 : Int) ≤ (s[k].toNat : Int)) = true := decide_eq_true b1
        have d2 : decide ((s[k].toNat : Int) ≤ 90) = true := decide_eq_true b2
        have hcv : ∀ W : World, (convert 54 9 (.slice (some ⟨W.heap.size, 0, none⟩) 1 1)).run Tryz.prog (W.alloc (.cells #[.int .u8 ((s[k].toNat : Int) + 32)] 5)) = .ok (.string (ofL [ofI ((s[k].toNat : Int) + 32)])) (W.alloc (.cells #[.int .u8 ((s[k].toNat : Int) + 32)] 5)) :=
          fun W => bytes_one _ _ _ (by omega) (by omega) (by simp [go_sem])
        have hadd : ∀ W : World, (Op.stringOp .add (ofL (smallL (s.toList.take k))) (ofL [ofI ((s[k].toNat : Int) + 32)])).run Tryz.prog W = .ok (.string (ofL (smallL (s.toList.take (k + 1))))) W := fun W => by
          rw [run_string_add_sum W _ _ (by rw [size_ofL [_]]; exact hsz), add_ofL, toList_ofL, HT.out]
          have : ofI ((s[k].toNat : Int) + 32) = smallB s[k] := by
            apply UInt8.toNat_inj.1
            have h1 := ofI_nat (n := (s[k].toNat : Int) + 32) (by omega) (by omega)
            have h2 := HG.out
            rw [if_pos hc] at h2
            omega
          rw [this]
        clear hb hc hsz
        go_wp2
        go_roundw
        case rel => exact ⟨k + 1, by omega, by go_num, rfl, HB.alloc HB.size _⟩
        case measure => simp [intOf]; omega
      · have hadd : ∀ W : World, (Op.stringOp .add (ofL (smallL (s.toList.take k))) (s.extract k (k + 1))).run Tryz.prog W = .ok (.string (ofL (smallL (s.toList.take (k + 1))))) W := fun W => by
          rw [HX.out, run_string_add_sum W _ _ (by rw [size_ofL [_]]; exact hsz), add_ofL, toList_ofL, HT.out]
          unfold smallB
          rw [if_neg hc]
        have hsl : ∀ W : World, (Instr.slice 9 (.string s) (some (.int .i64 (k : Int))) (some (.int .i64 ((k : Int) + 1))) none).run Tryz.prog W = .ok (.string (s.extract k (k + 1))) W := fun W => by
          have h := run_slice_string (P := Tryz.prog) W 9 s .i64 .i64 (k : Int) ((k : Int) + 1) Tryz.underlying9 (by omega) (by omega) (by omega)
          have e1 : ((k : Int) + 1).toNat = k + 1 := by omega
          rw [e1, Int.toNat_natCast] at h
          exact h
        have hno : ¬ ((65 : Int) ≤ (s[k].toNat : Int) ∧ (s[k].toNat : Int) ≤ 90) := fun h => hc (decide_eq_true h)
        by_cases b1 : (65 : Int) ≤ (s[k].toNat : Int)
        · have d1 : decide ((65 : Int) ≤ (s[k].toNat : Int)) = true := decide_eq_true b1
          have d2 : decide ((s[k].toNat : Int) ≤ 90) = false := decide_eq_false (by omega)
          clear hno hc hsz
          go_wp2
          go_roundw
          case rel => exact ⟨k + 1, by omega, by go_num, rfl, HB⟩
          case measure => simp [intOf]; omega
        · have d1 : decide ((65 : Int) ≤ (s[k].toNat : Int)) = false := decide_eq_false b1
          clear hno hc hsz
          go_wp2
          go_roundw
          case rel => exact ⟨k + 1, by omega, by go_num, rfl, HB⟩
          case measure => simp [intOf]; omega
    · have HE := Lib.hid (show s.toList.take k = s.toList by rw [List.take_of_length_le (by rw [HL.out]; omega)])
      go_wp2
      go_ret
      exact ⟨ret_str (by rw [HE.out]), HB⟩
end Go.Proofs.YtiffhlncnpppoaaGreatDoor
namespace Go.Proofs.YtiffhlncnpppoaaGreatDoor
open Go.RowKit
set_option maxHeartbeats 16000000 in
set_option maxRecDepth 100000 in
theorem refrightA_any (a : Option Addr) (len cap : Nat) (L : AL) (w : World) (h : AttrRow w a len cap L) :
    Calls Tryz.prog 124 #[.slice a len cap] w fun e w' => e = .returned (.bool (rightA L)) ∧ Below w.heap.size w w' := by
  have hl := h.len64
  by_cases h40 : 40 < len
  · have HR := Lib.hid (rightA_long (L := L) (by rw [h.hlen]; exact h40))
    go_enter Tryz.func124, Tryz.ntmps124
    go_wp2
    go_ret
    exact ⟨ret_bool HR.out.symm, Below.refl _ _⟩
  go_enter Tryz.func124, Tryz.ntmps124
  go_wp2
  go_loopw [3] (fun i wr => ∃ k : Nat, k ≤ len ∧ i = .int .i64 k ∧ Below w.heap.size w wr ∧ Hid (∀ (j : Nat) x, j < k → L[j]? = some x → okAt L j x = true)) (fun i _ => len - (intOf i).toNat)
  case atStart => exact ⟨0, Nat.zero_le _, rfl, Below.refl _ _, Lib.hid (fun j x hj _ => absurd hj (by omega))⟩
  case round =>
    obtain ⟨k, hk, rfl, HB, HA⟩ := hrel
    by_cases hlt : k < len
    · have h2 := h.below HB
      obtain ⟨b, off, xn, xv, rfl, hblt, hx, hc1, hc2, hn1, hn2⟩ := h2.get hlt
      have hbw : b < w.heap.size := by
        obtain ⟨b', off', _, _, ha, hb', _⟩ := h.get hlt
        injection ha with ha; injection ha with ha; rw [ha]; exact hb'
      have HX := Lib.hid hx
      have HN1 := Lib.hid hn1
      have HN2 := Lib.hid hn2
      clear hx hn1 hn2
      have E1 := Ext.cell hc1 hblt
      have E2 := Ext.cell hc2 hblt
      obtain ⟨z, hz⟩ : ∃ z, atL L xn.toList = z := ⟨_, rfl⟩
      have HZ := Lib.hid hz
      have C3 : Hid (∀ x : Ext wr, Calls Tryz.prog 138 #[.slice (some ⟨b, off, none⟩) len cap, .string xn] x.v fun e w' => e = .returned (.int .i64 z) ∧ x.v = w') := Lib.hid (fun x => by
        have := refat_any (some ⟨b, off, none⟩) len cap L xn x.v (h2.below x.below)
        rwa [hz] at this)
      clear hz
      by_cases hr : rightL xn.toList = true
      rotate_left
      · have hr : rightL xn.toList = false := by simpa using hr
        have HR := Lib.hid (rightA_stop HX.out (show okAt L k (xn, xv) = false by unfold okAt; rw [hr]; rfl))
        have C1 : Hid (∀ W, Calls Tryz.prog 81 #[.string xn] W fun e w' => e = .returned (.bool false) ∧ W = w') := Lib.hid (fun W => by
          have := refright_any xn W HN1.out
          rwa [hr] at this)
        have C2 : Hid True := trivial
        clear hr
        go_wp2
        refine wp_region_ext (by kernel_rfl) (by kernel_rfl) ?_
        repeat (go_big_quiet_step (first
          | (go_at_call 81; exact Ext.call_same (C1.out _))
          | (go_at_call 138; exact Ext.call_same (C3.out _))))
        refine wpQuiet_nil ?_
        intro w' hw'
        obtain ⟨⟨w1, hb1⟩, hw''⟩ := hw'
        dsimp only at hw''
        subst hw''
        go_wp2
        go_ret
        exact ⟨ret_bool HR.out.symm, HB.trans (hb1.mono HB.size)⟩
      have C1 : Hid (∀ W, Calls Tryz.prog 81 #[.string xn] W fun e w' => e = .returned (.bool true) ∧ W = w') := Lib.hid (fun W => by
        have := refright_any xn W HN1.out
        rwa [hr] at this)
      have C2 : Hid (∀ W, Calls Tryz.prog 122 #[.string xn] W fun e w' => e = .returned (.string (ofL (smallL xn.toList))) ∧ Below W.heap.size W w') := Lib.hid (fun W => by
        have h40' : xn.toList.length ≤ 40 := rightL_len hr
        rw [tl_len] at h40'
        exact refsmall_any xn W (by omega))
      have HRT := Lib.hid hr
      clear hr
      by_cases hsm : smallL xn.toList = xn.toList
      rotate_left
      · have s1 : (smallL xn.toList == xn.toList) = false := beq_eq_false_iff_ne.2 hsm
        have HR := Lib.hid (rightA_stop HX.out (show okAt L k (xn, xv) = false by unfold okAt; rw [s1]; simp))
        clear hsm
        go_wp2
        refine wp_region_ext (by kernel_rfl) (by kernel_rfl) ?_
        repeat (go_big_quiet_step (first
          | (go_at_call 81; exact Ext.call_same (C1.out _))
          | (go_at_call 122; exact Ext.call_below (C2.out _))
          | (go_at_call 138; exact Ext.call_same (C3.out _))))
        refine wpQuiet_nil ?_
        intro w' hw'
        obtain ⟨⟨w1, hb1⟩, hw''⟩ := hw'
        dsimp only at hw''
        subst hw''
        go_wp2
        go_ret
        exact ⟨ret_bool HR.out.symm, HB.trans (hb1.mono HB.size)⟩
      have s1 : (smallL xn.toList == xn.toList) = true := beq_iff_eq.2 hsm
      clear hsm
      by_cases hv : (200 : Int) < (xv.size : Int)
      · have HR := Lib.hid (rightA_stop HX.out (show okAt L k (xn, xv) = false by
          unfold okAt
          rw [decide_eq_false (show ¬ xv.size ≤ 200 by omega)]
          simp))
        have v1 : decide ((200 : Int) < (xv.size : Int)) = true := decide_eq_true hv
        clear hv
        go_wp2
        refine wp_region_ext (by kernel_rfl) (by kernel_rfl) ?_
        repeat (go_big_quiet_step (first
          | (go_at_call 81; exact Ext.call_same (C1.out _))
          | (go_at_call 122; exact Ext.call_below (C2.out _))
          | (go_at_call 138; exact Ext.call_same (C3.out _))))
        refine wpQuiet_nil ?_
        intro w' hw'
        obtain ⟨⟨w1, hb1⟩, hw''⟩ := hw'
        dsimp only at hw''
        subst hw''
        go_wp2
        go_ret
        exact ⟨ret_bool HR.out.symm, HB.trans (hb1.mono HB.size)⟩
      have v1 : decide ((200 : Int) < (xv.size : Int)) = false := decide_eq_false hv
      have HV := Lib.hid (show xv.size ≤ 200 by omega)
      clear hv
      by_cases hzk : z = (k : Int)
      · have z1 : (z == (k : Int)) = true := beq_iff_eq.2 hzk
        have z2 : (z != (k : Int)) = false := by unfold bne; rw [z1]; rfl
        have HO : Hid (okAt L k (xn, xv) = true) := Lib.hid (by
          unfold okAt
          have hk2 : atN L xn.toList = k := atL_nat (HZ.out.trans hzk)
          rw [HRT.out, s1, decide_eq_true HV.out, decide_eq_true hk2]
          rfl)
        clear hzk
        go_wp2
        refine wp_region_ext (by kernel_rfl) (by kernel_rfl) ?_
        repeat (go_big_quiet_step (first
          | (go_at_call 81; exact Ext.call_same (C1.out _))
          | (go_at_call 122; exact Ext.call_below (C2.out _))
          | (go_at_call 138; exact Ext.call_same (C3.out _))))
        refine wpQuiet_nil ?_
        intro w' hw'
        obtain ⟨⟨w1, hb1⟩, hw''⟩ := hw'
        dsimp only at hw''
        subst hw''
        go_wp2
        go_roundw
        case rel =>
          refine ⟨k + 1, by omega, by go_num, HB.trans (hb1.mono HB.size), Lib.hid (fun j x hj hx => ?_)⟩
          by_cases e : j = k
          · subst e
            rw [HX.out] at hx
            rw [← Option.some.inj hx]
            exact HO.out
          · exact HA.out j x (by omega) hx
        case measure => simp [intOf]; omega
      · have z1 : (z == (k : Int)) = false := beq_eq_false_iff_ne.2 hzk
        have z2 : (z != (k : Int)) = true := by unfold bne; rw [z1]; rfl
        have HR := Lib.hid (rightA_stop HX.out (show okAt L k (xn, xv) = false by
          unfold okAt
          have hk2 : ¬ atN L xn.toList = k := fun e => hzk (HZ.out.symm.trans (atL_of_nat e (by rw [h2.hlen]; exact hlt)))
          rw [decide_eq_false hk2]
          simp))
        clear hzk
        go_wp2
        refine wp_region_ext (by kernel_rfl) (by kernel_rfl) ?_
        repeat (go_big_quiet_step (first
          | (go_at_call 81; exact Ext.call_same (C1.out _))
          | (go_at_call 122; exact Ext.call_below (C2.out _))
          | (go_at_call 138; exact Ext.call_same (C3.out _))))
        refine wpQuiet_nil ?_
        intro w' hw'
        obtain ⟨⟨w1, hb1⟩, hw''⟩ := hw'
        dsimp only at hw''
        subst hw''
        go_wp2
        go_ret
        exact ⟨ret_bool HR.out.symm, HB.trans (hb1.mono HB.size)⟩
    · have HR := Lib.hid ((rightA_iff L).2 ⟨by rw [h.hlen]; omega, fun j x hx => HA.out j x (by
        obtain ⟨hl1, _⟩ := List.getElem?_eq_some_iff.1 hx
        have := h.hlen
        omega) hx⟩)
      go_wp2
      go_ret
      exact ⟨ret_bool HR.out.symm, HB⟩
end Go.Proofs.YtiffhlncnpppoaaGreatDoor
namespace Go.Proofs.YtiffhlncnpppoaaGreatDoor
open Go.RowKit
def placeA (L : AL) (n : List UInt8) : Nat := atN L (smallL n)
def hasA (L : AL) (n : List UInt8) : Bool := rightA L && rightL n && decide (placeA L n < L.length)
def valA (L : AL) (n : List UInt8) : ByteArray := if hasA L n then (L[placeA L n]?.getD default).2 else ofL []
def longA (L : AL) (n : List UInt8) (v : ByteArray) : Bool := decide (200 < v.size) || (decide (L.length ≤ placeA L n) && decide (40 ≤ L.length))
def setL (L : AL) (n : List UInt8) (v : ByteArray) : AL := if placeA L n < L.length then L.set (placeA L n) (ofL (smallL n), v) else L ++ [(ofL (smallL n), v)]
def setE (L : AL) (n : List UInt8) (v : ByteArray) : Int := if rightA L then (if rightL n then (if longA L n v then 3 else 0) else 4) else 1
def setA (L : AL) (n : List UInt8) (v : ByteArray) : AL := if setE L n v = 0 then setL L n v else L
def remA (L : AL) (n : List UInt8) : AL := if hasA L n then L.filter (fun x => !keyIs (smallL n) x) else L
theorem place_key {L : AL} {n : List UInt8} (h : placeA L n < L.length) : ∃ x, L[placeA L n]? = some x ∧ x.1 = ofL (smallL n) := by
  have h2 : keyIs (smallL n) (L[placeA L n]'h) = true := List.findIdx_getElem (w := h)
  refine ⟨_, List.getElem?_eq_getElem h, toList_inj ?_⟩
  rw [toList_ofL]
  exact beq_iff_eq.1 h2
theorem atL_place {L : AL} {n : List UInt8} (h : placeA L n < L.length) : atL L (smallL n) = (placeA L n : Int) := by
  unfold placeA at *
  unfold atL
  rw [if_pos h]
theorem atL_noplace {L : AL} {n : List UInt8} (h : ¬ placeA L n < L.length) : atL L (smallL n) = -1 := by
  unfold placeA at h
  unfold atL
  rw [if_neg h]
end Go.Proofs.YtiffhlncnpppoaaGreatDoor
namespace Go.Proofs.YtiffhlncnpppoaaGreatDoor
open Go.RowKit
theorem small40 {n : ByteArray} (h : rightL n.toList = true) : n.size ≤ 1000000 := by
  have := rightL_len h
  rw [tl_len] at this
  omega
set_option maxHeartbeats 4000000 in
set_option maxRecDepth 100000 in
theorem refget_any (a : Option Addr) (len cap : Nat) (L : AL) (n : ByteArray) (w : World) (h : AttrRow w a len cap L) (hn : n.size ≤ maxLen) :
    Calls Tryz.prog 83 #[.slice a len cap, .string n] w fun e w' => e = .returned (.tuple #[.string (valA L n.toList), .bool (hasA L n.toList)]) ∧ Below w.heap.size w w' := by
  have HB : Below w.heap.size w w := Below.refl _ _
  have H := Lib.hid h
  have HN := Lib.hid hn
  clear h hn
  by_cases hr : rightA L = true
  rotate_left
  · have hr : rightA L = false := by simpa using hr
    have HR : Hid (hasA L n.toList = false) := Lib.hid (by unfold hasA; rw [hr]; rfl)
    have HV : Hid (valA L n.toList = ofL []) := Lib.hid (by unfold valA; rw [HR.out]; rfl)
    go_enter Tryz.func83, Tryz.ntmps83
    go_wp2_with (first
      | (go_at_call 124; refine (refrightA_any _ _ _ L _ H.out).mono ?_; rintro e w' ⟨rfl, hb⟩; have HB := HB.trans (hb.mono HB.size); clear hb))
    go_ret2
    exact ⟨by rw [HR.out, HV.out]; rfl, by assumption⟩
  by_cases hnr : rightL n.toList = true
  rotate_left
  · have hnr : rightL n.toList = false := by simpa using hnr
    have HR : Hid (hasA L n.toList = false) := Lib.hid (by unfold hasA; rw [hnr]; simp)
    have HV : Hid (valA L n.toList = ofL []) := Lib.hid (by unfold valA; rw [HR.out]; rfl)
    go_enter Tryz.func83, Tryz.ntmps83
    go_wp2_with (first
      | (go_at_call 124; refine (refrightA_any _ _ _ L _ H.out).mono ?_; rintro e w' ⟨rfl, hb⟩; have HB := HB.trans (hb.mono HB.size); clear hb)
      | (go_at_call 81; refine (refright_any _ _ HN.out).mono ?_; rintro e w' ⟨rfl, rfl⟩))
    go_ret2
    exact ⟨by rw [HR.out, HV.out]; rfl, by assumption⟩
  have HS := Lib.hid (small40 hnr)
  by_cases hp : placeA L n.toList < L.length
  · have hat := atL_place hp
    have hp' : placeA L n.toList < len := by rw [← H.out.hlen]; exact hp
    obtain ⟨b, off, xn, xv, rfl, hblt, hx, hc1, hc2, _, _⟩ := H.out.get hp'
    have HR : Hid (hasA L n.toList = true) := Lib.hid (by unfold hasA; rw [hr, hnr, decide_eq_true hp]; rfl)
    have HV : Hid (valA L n.toList = xv) := Lib.hid (by unfold valA; rw [HR.out, hx]; rfl)
    obtain ⟨p, hpp⟩ : ∃ p, placeA L n.toList = p := ⟨_, rfl⟩
    rw [hpp] at hat hp' hc1 hc2
    clear hpp hx hp
    go_enter Tryz.func83, Tryz.ntmps83
    go_wp2_with (first
      | (go_at_call 124; refine (refrightA_any _ _ _ L _ H.out).mono ?_; rintro e w' ⟨rfl, hb⟩; have HB := HB.trans (hb.mono HB.size); clear hb)
      | (go_at_call 81; refine (refright_any _ _ HN.out).mono ?_; rintro e w' ⟨rfl, rfl⟩)
      | (go_at_call 122; refine (refsmall_any _ _ HS.out).mono ?_; rintro e w' ⟨rfl, hb⟩; have HB := HB.trans (hb.mono HB.size); clear hb; have hd := (HB.cell (p := ⟨b, off + p * 2 + 1, none⟩) hblt).trans hc2)
      | (go_at_call 138; refine (refat_any _ _ _ L _ _ (H.out.below HB)).mono ?_; rintro e w' ⟨rfl, rfl⟩))
    go_ret2
    exact ⟨by rw [HR.out, HV.out]; rfl, by assumption⟩
  · have hat := atL_noplace hp
    have HR : Hid (hasA L n.toList = false) := Lib.hid (by unfold hasA; rw [decide_eq_false hp]; simp)
    have HV : Hid (valA L n.toList = ofL []) := Lib.hid (by unfold valA; rw [HR.out]; rfl)
    clear hp
    go_enter Tryz.func83, Tryz.ntmps83
    go_wp2_with (first
      | (go_at_call 124; refine (refrightA_any _ _ _ L _ H.out).mono ?_; rintro e w' ⟨rfl, hb⟩; have HB := HB.trans (hb.mono HB.size); clear hb)
      | (go_at_call 81; refine (refright_any _ _ HN.out).mono ?_; rintro e w' ⟨rfl, rfl⟩)
      | (go_at_call 122; refine (refsmall_any _ _ HS.out).mono ?_; rintro e w' ⟨rfl, hb⟩; have HB := HB.trans (hb.mono HB.size); clear hb)
      | (go_at_call 138; refine (refat_any _ _ _ L _ _ (H.out.below HB)).mono ?_; rintro e w' ⟨rfl, rfl⟩))
    go_ret2
    exact ⟨by rw [HR.out, HV.out]; rfl, by assumption⟩
end Go.Proofs.YtiffhlncnpppoaaGreatDoor
