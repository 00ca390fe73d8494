/- Texts joined in build order: ShadeTree ShadeFns ShadeAsk OwnRows XKeepOne ValidFns SmallFrame. -/
import Derived.Test.YtkgbgnmmgmnnlaaGreatDoorA12
import Derived.Test.YtkgbgnmmgmnnlaaGreatDoorA08
import Derived.Test.YtkgbgnmmgmnnlaaGreatDoorA01
import Derived.Deep.SlicePairs
import Derived.Laws.IdiomCopy
import Derived.Test.YtkgbgnmmgmnnlaaGreatDoorA04
import Derived.BigQuiet
import Derived.Deep.QuietTactic
import Derived.Below
import Derived.WalkSmall
namespace Go.Proofs.YtkgbgnmmgmnnlaaGreatDoor
open Go.RowKit
section
variable {n : Nat} {par : Nat → Option Nat} {kids : Nat → List Nat} {rank : Nat → Nat}
theorem Tree.ord_open (T : Tree n par kids rank) {i : Nat} (hi : i < n) : ordN kids (n + 1) i = i :: (kids i).flatMap (ordN kids (n + 1)) := by
  rw [← T.ord_more (n + 1) i hi (by omega)]
  rfl
end
theorem findN_mem {l : List Int} {z : Int} (h : z ∈ l) : findN l z < l.length := List.findIdx_lt_length_of_exists ⟨z, h, by simp⟩
theorem findZ_mem {l : List Int} {z : Int} (h : z ∈ l) : findZ l z = (findN l z : Int) := by unfold findZ; rw [if_pos (findN_mem h)]
theorem right_up {m : Int} {F : List Core} (h : rightF m F = true) : upIn F F.length := by
  have := nodes_eq.1 ((rightF_iff m F).1 h).2.1
  exact fit_up this.1 this.2
theorem next_par {F : List Core} {i : Nat} {x : Core} (hx : F[i]? = some x) (hp : x.parent ≠ -1) : nextUp F (i : Int) = x.parent := by
  rw [nextUp_at hx]
  unfold upC
  rw [if_neg hp]
theorem next_host {F : List Core} {i : Nat} {x : Core} (hx : F[i]? = some x) (hp : x.parent = -1) : nextUp F (i : Int) = x.host := by
  rw [nextUp_at hx]
  unfold upC
  rw [if_pos hp]
theorem right_held {m : Int} {F : List Core} (h : rightF m F = true) {i : Nat} {x : Core} (hx : F[i]? = some x) (hp : x.parent ≠ -1) : x.kind = 1 ∨ x.kind = 2 := by
  have h1 := (nodeOk_iff.1 (((rightF_iff m F).1 h).2.1 i x hx)).2.1
  unfold parOk at h1
  rw [beq_eq_false_iff_ne.2 hp, Bool.false_or, Bool.and_eq_true] at h1
  simpa using h1.1
theorem right_under {m : Int} {F : List Core} (h : rightF m F = true) {i : Nat} {x : Core} (hx : F[i]? = some x) (hu : x.under ≠ -1) : ∃ (s : Nat) (u : Core), x.under = s ∧ F[s]? = some u ∧ u.kind = 4 ∧ u.host = i ∧ u.parent = -1 ∧ x.kind = 1 := by
  have h1 := (nodeOk_iff.1 (((rightF_iff m F).1 h).2.1 i x hx)).2.2.2.2.1
  rw [Bool.and_eq_true] at h1
  have h2 := h1.2
  unfold underOk at h2
  rw [beq_eq_false_iff_ne.2 hu, Bool.false_or, Bool.and_eq_true] at h2
  cases hg : getC F x.under with
  | none => rw [hg] at h2; simp at h2
  | some u =>
    rw [hg] at h2
    simp only [Bool.and_eq_true, beq_iff_eq] at h2
    obtain ⟨e1, e2, e3⟩ := getC_some hg
    refine ⟨x.under.toNat, u, by omega, e3, h2.2.1, h2.2.2, ?_, h2.1⟩
    by_cases hp : u.parent = -1
    · exact hp
    · rcases right_held h e3 hp with k | k
      · rw [k] at h2; exact absurd h2.2.1 (by decide)
      · rw [k] at h2; exact absurd h2.2.1 (by decide)
theorem right_host {m : Int} {F : List Core} (h : rightF m F = true) {k : Nat} {u : Core} (hu : F[k]? = some u) (hh : u.host ≠ -1) : u.kind = 4 ∧ ∃ (i : Nat) (x : Core), u.host = i ∧ F[i]? = some x ∧ x.kind = 1 ∧ x.under = k ∧ x.doc = u.doc := by
  have h1 := (nodeOk_iff.1 (((rightF_iff m F).1 h).2.1 k u hu)).2.2.2.2.1
  rw [Bool.and_eq_true] at h1
  have h2 := h1.1
  unfold hostOk at h2
  by_cases k4 : u.kind = 4
  · rw [if_pos k4] at h2
    cases hg : getC F u.host with
    | none => rw [hg] at h2; simp at h2
    | some x =>
      rw [hg] at h2
      simp only [Bool.and_eq_true, beq_iff_eq] at h2
      obtain ⟨e1, e2, e3⟩ := getC_some hg
      exact ⟨k4, u.host.toNat, x, by omega, e3, h2.1.1, h2.1.2, h2.2⟩
  · rw [if_neg k4] at h2
    exact absurd (beq_iff_eq.1 h2) hh
def parS (F : List Core) (i : Nat) : Option Nat := if nextUp F (i : Int) = -1 then none else some (nextUp F (i : Int)).toNat
def undS (F : List Core) (i : Nat) : List Nat := match F[i]? with | some c => if c.under = -1 then [] else [c.under.toNat] | none => []
def kidsS (F : List Core) (i : Nat) : List Nat := undS F i ++ kidsF F i
theorem parS_some {F : List Core} {k i : Nat} (h : nextUp F (k : Int) = i) : parS F k = some i := by
  unfold parS
  rw [h, if_neg (by omega), Int.toNat_natCast]
theorem parS_none {F : List Core} {k : Nat} (h : nextUp F (k : Int) = -1) : parS F k = none := by
  unfold parS
  rw [if_pos h]
theorem parS_next {m : Int} {F : List Core} (hr : rightF m F = true) {k i : Nat} (hk : k < F.length) (h : parS F k = some i) : nextUp F (k : Int) = i ∧ i < F.length := by
  unfold parS at h
  by_cases he : nextUp F (k : Int) = -1
  · rw [if_pos he] at h; cases h
  · rw [if_neg he] at h
    injection h with h
    rcases right_up hr k (by omega) (by omega) with e | ⟨e1, e2⟩
    · exact absurd e he
    · exact ⟨by omega, by omega⟩
theorem undS_mem {m : Int} {F : List Core} (hr : rightF m F = true) {i k : Nat} (h : k ∈ undS F i) : ∃ x u, F[i]? = some x ∧ x.under = (k : Int) ∧ F[k]? = some u ∧ u.kind = 4 ∧ u.host = i ∧ u.parent = -1 := by
  unfold undS at h
  cases hx : F[i]? with
  | none => rw [hx] at h; simp at h
  | some x =>
    rw [hx] at h
    dsimp only at h
    by_cases hu : x.under = -1
    · rw [if_pos hu] at h; simp at h
    · rw [if_neg hu] at h
      obtain ⟨s, u, e1, e2, e3, e4, e5, _⟩ := right_under hr hx hu
      have : k = s := by
        have := List.mem_singleton.1 h
        omega
      subst this
      exact ⟨x, u, rfl, e1, e2, e3, e4, e5⟩
theorem treeS {m : Int} {F : List Core} (hr : rightF m F = true) : Tree F.length (parS F) (kidsS F) (rankF F) := by
  have T := tree_of_right hr
  have E := ((rightF_iff m F).1 hr).2.2
  have kid : ∀ i k, k ∈ kidsF F i → k < F.length ∧ nextUp F (k : Int) = i := fun i k hk => by
    have hl := T.kid_lt i k hk
    have hp := T.kid_par i k hk
    have hx : F[k]? = some F[k] := List.getElem?_eq_getElem hl
    by_cases he : F[k].parent = -1
    · rw [right_top hx he] at hp; cases hp
    · obtain ⟨p, h1, _, h3⟩ := right_par hr hx he
      rw [h3] at hp
      injection hp with hp
      subst hp
      exact ⟨hl, (next_par hx he).trans h1⟩
  have all : ∀ i k, k ∈ kidsS F i → k < F.length ∧ nextUp F (k : Int) = i := fun i k hk => by
    rcases List.mem_append.1 hk with hk | hk
    · obtain ⟨x, u, hx, _, hu, _, hh, hp⟩ := undS_mem hr hk
      exact ⟨(List.getElem?_eq_some_iff.1 hu).1, (next_host hu hp).trans hh⟩
    · exact kid i k hk
  refine ⟨fun i k hk => (all i k hk).1, fun i k hk => parS_some (all i k hk).2, fun i k hk hp => ?_, fun i => ?_, fun i k hk hp => ?_, fun i hi => rankZ_le (n := F.length) (E i hi)⟩
  · obtain ⟨h1, h2⟩ := parS_next hr hk hp
    refine ⟨h2, List.mem_append.2 ?_⟩
    have hx : F[k]? = some F[k] := List.getElem?_eq_getElem hk
    by_cases he : F[k].parent = -1
    · rw [next_host hx he] at h1
      obtain ⟨_, j, y, e1, e2, _, e4, _⟩ := right_host hr hx (by omega)
      have : j = i := by omega
      subst this
      left
      unfold undS
      rw [e2]
      dsimp only
      rw [if_neg (by omega), e4, Int.toNat_natCast]
      simp
    · rw [next_par hx he] at h1
      obtain ⟨p, e1, _, e3⟩ := right_par hr hx he
      have : p = i := by omega
      subst this
      exact .inr (T.par_kid p k hk e3).2
  · unfold kidsS
    rw [List.nodup_append]
    refine ⟨?_, T.nodup i, fun a ha b hb e => ?_⟩
    · unfold undS
      cases F[i]? with
      | none => simp
      | some c => dsimp only; split <;> simp
    · subst e
      obtain ⟨x, u, hx, _, hu, _, hh, hp⟩ := undS_mem hr ha
      have := T.kid_par i a hb
      rw [right_top hu hp] at this
      cases this
  · obtain ⟨h1, h2⟩ := parS_next hr hk hp
    unfold rankF
    rw [rankZ_up (nxt := nextUp F) (n := F.length) (i := (k : Int)) (by omega) (E k hk) (by rw [h1]; exact E i h2), h1]
def topF (F : List Core) (a : Nat) : Nat := rootN (parS F) (F.length + 1) a
def allF (F : List Core) (a : Nat) : List Nat := ordN (kidsS F) (F.length + 1) a
def overF (F : List Core) (a b : Nat) : Bool := decide (b ∈ allF F a)
def topZ (m : Int) (F : List Core) (n : Int) : Int := if thereF m F n then (topF F n.toNat : Int) else -1
def allI (F : List Core) (z : Int) : List Int := (allF F z.toNat).map Int.ofNat
def overZ (m : Int) (F : List Core) (a b : Int) : Bool := thereF m F a && thereF m F b && overF F a.toNat b.toNat
def connZ (m : Int) (F : List Core) (n : Int) : Bool := thereF m F n && kindK F (topZ m F n) == 0
theorem topZ_eq {m : Int} {F : List Core} (h : rightF m F = true) {a : Nat} (ha : a < F.length) : topZ m F (a : Int) = (topF F a : Nat) := by
  unfold topZ
  rw [thereF_of h ha]
  rfl
theorem overZ_iff {m : Int} {F : List Core} (h : rightF m F = true) {a b : Nat} (ha : a < F.length) (hb : b < F.length) : overZ m F (a : Int) (b : Int) = true ↔ holdsT (parS F) a b := by
  unfold overZ
  rw [thereF_of h ha, thereF_of h hb, Bool.true_and, Bool.true_and]
  unfold overF allF
  rw [decide_eq_true_iff]
  exact (treeS h).mem_ord _ _ ha (by omega) _ hb
theorem topF_lt {m : Int} {F : List Core} (h : rightF m F = true) {a : Nat} (ha : a < F.length) : topF F a < F.length := (treeS h).root_lt ha
theorem allI_open {m : Int} {F : List Core} (h : rightF m F = true) {a : Nat} {x : Core} (hx : F[a]? = some x) : allI F (a : Int) = (a : Int) :: ((if x.under = -1 then [] else allI F x.under) ++ x.kids.flatMap (allI F)) := by
  have T := treeS h
  have ha := (List.getElem?_eq_some_iff.1 hx).1
  unfold allI allF
  rw [Int.toNat_natCast, T.ord_open ha, List.map_cons]
  congr 1
  have hk : kidsF F a = x.kids.map Int.toNat := by unfold kidsF; rw [hx]
  rw [show kidsS F a = undS F a ++ kidsF F a from rfl, List.flatMap_append, List.map_append, hk]
  congr 1
  · unfold undS
    rw [hx]
    dsimp only
    by_cases hu : x.under = -1
    · rw [if_pos hu, if_pos hu]; rfl
    · rw [if_neg hu, if_neg hu]; simp
  · rw [List.flatMap_map, List.map_flatMap]
end Go.Proofs.YtkgbgnmmgmnnlaaGreatDoor
namespace Go.Proofs.YtkgbgnmmgmnnlaaGreatDoor
open Go.RowKit
def withU (x : Core) (u : Int) : Core := ⟨x.kind, x.name, x.is, x.data, x.attrs, x.parent, x.kids, x.host, u, x.doc⟩
end Go.Proofs.YtkgbgnmmgmnnlaaGreatDoor
namespace Go.Proofs.YtkgbgnmmgmnnlaaGreatDoor
open Go.RowKit
set_option maxHeartbeats 4000000 in
set_option maxRecDepth 100000 in
theorem shknows_any (a : Option Addr) (len cap : Nat) (m : Int) (L : List NodeD) (b : Option Addr) (ln cn : Nat) (l : List Int) (w : World) (h : NodeRow w a len cap L) (hm : In64 m) (hs : smallF L) (hn : IntRow w b ln cn l) :
    Calls Tryz.prog 79 #[forV a len cap m, .slice b ln cn] w fun e w' => e = .returned (.bool (knowsB m (coreL L) l)) ∧ Below w.heap.size w w' := by
  have HL := Lib.hid h.hlen
  have hlen := h.len64
  have HNL := Lib.hid hn.hlen
  have hln := hn.len64
  have BX := Lib.hid (Box.start (m := m) h)
  have NR := Lib.hid (hn.below (below_box w (forB a len cap m)))
  have z0 := BX.out.c0
  have z1 := BX.out.c1
  have CR : Hid (∀ W, NodeRow W a len cap L → Calls Tryz.prog 19 #[forV a len cap m] W fun e w' => e = .returned (.bool (rightF m (coreL L))) ∧ Below W.heap.size W w') := Lib.hid (fun W h => rightF_any a len cap m L W h hm hs)
  clear h hm hs hn
  go_enter Tryz.func79, Tryz.ntmps79
  go_wp2
  go_loop [9] (fun i => ∃ k : Nat, k ≤ ln ∧ i = .int .i64 k ∧ Hid (∀ (j : Nat) z, j < k → l[j]? = some z → inB (coreL L).length z = true)) (fun i => ln - (intOf i).toNat)
  case atStart => exact ⟨0, Nat.zero_le _, rfl, Lib.hid (fun j z hj => absurd hj (by omega))⟩
  case round =>
    obtain ⟨k, hk, rfl, HA⟩ := hrel
    by_cases hlt : k < ln
    · obtain ⟨b2, off2, z, rfl, hb2, hz, hcz, hin⟩ := NR.out.get hlt
      have STOP : Hid (inB (coreL L).length z = false → knowsB m (coreL L) l = false) := Lib.hid (fun hq => by
        unfold knowsB
        have : l.all (inB (coreL L).length) = false := by rw [List.all_eq_false]; exact ⟨z, List.mem_of_getElem? hz, by simp [hq]⟩
        rw [this]
        rfl)
      by_cases q1 : z < 0
      · have HR : Hid (knowsB m (coreL L) l = false) := Lib.hid (STOP.out (by unfold inB; rw [decide_eq_false (by omega)]; rfl))
        clear hz
        go_wp2
        go_ret
        exact ⟨ret_bool HR.out.symm, BX.out.below⟩
      by_cases q2 : (len : Int) ≤ z
      · have HR : Hid (knowsB m (coreL L) l = false) := Lib.hid (STOP.out (by unfold inB; rw [decide_eq_false (show ¬ z < ((coreL L).length : Int) by rw [coreL_len, HL.out]; omega), Bool.and_false]))
        clear hz
        go_wp2
        go_ret
        exact ⟨ret_bool HR.out.symm, BX.out.below⟩
      have HA2 : Hid (∀ (j : Nat) z, j < k + 1 → l[j]? = some z → inB (coreL L).length z = true) := Lib.hid (fun j y hj hy => by
        by_cases e : j = k
        · subst e
          rw [hz] at hy
          rw [← Option.some.inj hy]
          unfold inB
          rw [decide_eq_true (by omega), decide_eq_true (by rw [coreL_len, HL.out]; omega)]
          rfl
        · exact HA.out j y (by omega) hy)
      clear hz
      go_wp2
      go_round
      case rel => exact ⟨k + 1, by omega, by go_num, HA2⟩
      case measure => simp [intOf]; omega
    · have HR : Hid (knowsB m (coreL L) l = rightF m (coreL L)) := Lib.hid (by
        unfold knowsB
        have : l.all (inB (coreL L).length) = true := by
          rw [List.all_eq_true]
          intro z hz
          obtain ⟨j, hj, he⟩ := List.mem_iff_getElem.1 hz
          exact HA.out j z (by rw [HNL.out] at hj; omega) (by rw [List.getElem?_eq_getElem hj, he])
        rw [this]
        rfl)
      clear HA
      go_wp2_with (go_at_call 19; (refine (CR.out _ BX.out.row).mono ?_); rintro e w1 ⟨rfl, hb⟩; have BX := Lib.hid (BX.out.keep hb); clear hb)
      go_ret
      exact ⟨ret_bool HR.out.symm, BX.out.below⟩
theorem up_at {m : Int} {F : List Core} (hr : rightF m F = true) {c : Nat} {x : Core} (hx : F[c]? = some x) : (upC x = -1 ∧ parS F c = none) ∨ ∃ p : Nat, upC x = p ∧ p < F.length ∧ parS F c = some p := by
  have hc := (List.getElem?_eq_some_iff.1 hx).1
  by_cases he : nextUp F (c : Int) = -1
  · exact .inl ⟨by rw [← nextUp_at hx]; exact he, parS_none he⟩
  · rcases right_up hr c (by omega) (by omega) with h | ⟨h1, h2⟩
    · exact absurd h he
    · exact .inr ⟨(nextUp F (c : Int)).toNat, by rw [← nextUp_at hx]; omega, by omega, parS_some (by omega)⟩
theorem connZ_eq' {m : Int} {F : List Core} (h : rightF m F = true) {a : Nat} (ha : a < F.length) : connZ m F (a : Int) = (kindK F (topZ m F a) == 0) := by
  unfold connZ
  rw [thereF_of h ha, Bool.true_and]
set_option maxHeartbeats 8000000 in
set_option maxRecDepth 100000 in
theorem wtop_any (a : Option Addr) (len cap : Nat) (m : Int) (L : List NodeD) (k : Nat) (w : World) (h : NodeRow w a len cap L) (hr : rightF m (coreL L) = true) (hk : k < len) :
    Calls Tryz.prog 62 #[.slice a len cap, .int .i64 k] w fun e w' => e = .returned (.int .i64 (topF (coreL L) k : Nat)) ∧ Below w.heap.size w w' := by
  have HCL : Hid ((coreL L).length = len) := Lib.hid (by rw [coreL_len, h.hlen])
  have hlen := h.len64
  have NR := Lib.hid h
  have TR := Lib.hid (treeS hr)
  have HRT := Lib.hid hr
  clear h hr
  go_enter Tryz.func62, Tryz.ntmps62
  go_wp2
  go_loopw [1] (fun i wr => ∃ c : Nat, c < len ∧ i = .int .i64 c ∧ Hid (topF (coreL L) c = topF (coreL L) k) ∧ Hid (Below w.heap.size w wr)) (fun i _ => rankF (coreL L) (intOf i).toNat)
  case atStart => exact ⟨k, hk, rfl, Lib.hid rfl, Lib.hid (Below.refl _ _)⟩
  case round =>
    obtain ⟨c, hc, rfl, HE, HBW⟩ := hrel
    obtain ⟨b, off, x, hab, hb, hx, hat, hok⟩ := (NR.out.below HBW.out).get hc
    have HAT := Lib.hid hat
    have HBL := Lib.hid hb
    obtain ⟨c0, c1, c2, c3, c4, c5, c6, c7, c8, c9⟩ := hat
    have hxc := coreL_get hx
    subst hab
    have hcl : c < (coreL L).length := by rw [HCL.out]; exact hc
    rcases up_at HRT.out hxc with ⟨hu, hp⟩ | ⟨p, hu, hpl, hp⟩
    · have UP : Hid (∀ W, Calls Tryz.prog 77 #[nodVal x] W fun e w' => e = .returned (.int .i64 (-1)) ∧ Below W.heap.size W w') := Lib.hid (fun W => by
        have := up_any x W
        rwa [hu] at this)
      have HQ : Hid (topF (coreL L) k = c) := Lib.hid (by
        rw [← HE.out]
        exact rootN_none hp)
      clear hxc hx hok hp hu hb
      go_wp2_with (go_at_call 77; (refine (UP.out _).mono ?_); rintro e w2 ⟨rfl, hb⟩; have HBW := Lib.hid (HBW.out.trans (hb.mono HBW.out.size)); have HAT := Lib.hid (HAT.out.below HBL.out hb); have HBL := Lib.hid (Nat.lt_of_lt_of_le HBL.out hb.size); clear c0 c1 c2 c3 c4 c5 c6 c7 c8 c9; obtain ⟨c0, c1, c2, c3, c4, c5, c6, c7, c8, c9⟩ := HAT.out; clear hb)
      go_ret
      exact ⟨ret_int (by rw [HQ.out]), HBW.out⟩
    · have UP : Hid (∀ W, Calls Tryz.prog 77 #[nodVal x] W fun e w' => e = .returned (.int .i64 (p : Int)) ∧ Below W.heap.size W w') := Lib.hid (fun W => by
        have := up_any x W
        rwa [hu] at this)
      have HRK := Lib.hid (TR.out.rank_up _ c hcl hp)
      have HE2 : Hid (topF (coreL L) p = topF (coreL L) k) := Lib.hid (by
        rw [← HE.out]
        exact TR.out.root_held hcl (by omega) (holds_par hp))
      rw [HCL.out] at hpl
      have hne : ((p : Int) != -1) = true := bne_iff_ne.2 (by omega)
      clear hxc hx hok hp hu hb
      go_wp2_with (go_at_call 77; (refine (UP.out _).mono ?_); rintro e w2 ⟨rfl, hb⟩; have HBW := Lib.hid (HBW.out.trans (hb.mono HBW.out.size)); have HAT := Lib.hid (HAT.out.below HBL.out hb); have HBL := Lib.hid (Nat.lt_of_lt_of_le HBL.out hb.size); clear c0 c1 c2 c3 c4 c5 c6 c7 c8 c9; obtain ⟨c0, c1, c2, c3, c4, c5, c6, c7, c8, c9⟩ := HAT.out; clear hb)
      go_roundw
      case rel => exact ⟨p, hpl, rfl, HE2, HBW⟩
      case measure =>
        have := HRK.out
        unfold rankF at this ⊢
        simp [intOf]
        omega
set_option maxHeartbeats 8000000 in
set_option maxRecDepth 100000 in
theorem topFn_any (a : Option Addr) (len cap : Nat) (m : Int) (L : List NodeD) (n : Int) (w : World) (h : NodeRow w a len cap L) (hm : In64 m) (hn : In64 n) (hs : smallF L) :
    Calls Tryz.prog 45 #[forV a len cap m, .int .i64 n] w fun e w' => e = .returned (.int .i64 (topZ m (coreL L) n)) ∧ Below w.heap.size w w' := by
  have HCL : Hid ((coreL L).length = len) := Lib.hid (by rw [coreL_len, h.hlen])
  have hlen := h.len64
  have BX := Lib.hid ((Box.start (m := m) h).keep (below_box _ (.cells #[.int .i64 n] 3)))
  have NB := Lib.hid (lit_one (w.alloc (forB a len cap m)) 3 n hn)
  have CK : Hid (∀ W b, NodeRow W a len cap L → IntRow W b 1 1 [n] → Calls Tryz.prog 79 #[forV a len cap m, .slice b 1 1] W fun e w' => e = .returned (.bool (thereF m (coreL L) n)) ∧ Below W.heap.size W w') := Lib.hid (fun W b h1 h2 => by
    rw [← knowsB_one]
    exact shknows_any a len cap m L b 1 1 [n] W h1 hm hs h2)
  simp only [World.size_alloc] at NB
  have z0 := BX.out.c0
  have z1 := BX.out.c1
  clear h hm hs hn
  cases q : thereF m (coreL L) n with
  | false =>
    rw [q] at CK
    have HR : Hid (topZ m (coreL L) n = -1) := Lib.hid (by unfold topZ; rw [q]; rfl)
    clear q
    go_enter Tryz.func45, Tryz.ntmps45
    go_wp2_with (go_at_call 79; ((with_reducible refine (CK.out _ _ BX.out.row NB.out).mono ?_); rintro e w1 ⟨rfl, hb⟩; have BX := Lib.hid (BX.out.keep hb); have z0 := BX.out.c0; have z1 := BX.out.c1; clear hb))
    go_ret
    exact ⟨ret_int HR.out.symm, BX.out.below⟩
  | true =>
    rw [q] at CK
    obtain ⟨hr, k, rfl, hk⟩ := there_nat q
    have HR : Hid (topZ m (coreL L) k = (topF (coreL L) k : Nat)) := Lib.hid (topZ_eq hr hk)
    rw [HCL.out] at hk
    have CT : Hid (∀ W, NodeRow W a len cap L → Calls Tryz.prog 62 #[.slice a len cap, .int .i64 k] W fun e w' => e = .returned (.int .i64 (topF (coreL L) k : Nat)) ∧ Below W.heap.size W w') := Lib.hid (fun W h1 => wtop_any a len cap m L k W h1 hr hk)
    clear q hr
    go_enter Tryz.func45, Tryz.ntmps45
    go_wp2_with (first
      | (go_at_call 79; ((with_reducible refine (CK.out _ _ BX.out.row NB.out).mono ?_); rintro e w1 ⟨rfl, hb⟩; have BX := Lib.hid (BX.out.keep hb); have z0 := BX.out.c0; have z1 := BX.out.c1; clear hb))
      | (go_at_call 62; ((with_reducible refine (CT.out _ BX.out.row).mono ?_); rintro e w2 ⟨rfl, hb⟩; have BX := Lib.hid (BX.out.keep hb); clear hb)))
    go_ret
    exact ⟨ret_int HR.out.symm, BX.out.below⟩
set_option maxHeartbeats 8000000 in
set_option maxRecDepth 100000 in
theorem overFn_any (a : Option Addr) (len cap : Nat) (m : Int) (L : List NodeD) (x y : Int) (w : World) (h : NodeRow w a len cap L) (hm : In64 m) (hx : In64 x) (hy : In64 y) (hs : smallF L) :
    Calls Tryz.prog 116 #[forV a len cap m, .int .i64 x, .int .i64 y] w fun e w' => e = .returned (.bool (overZ m (coreL L) x y)) ∧ Below w.heap.size w w' := by
  have HCL : Hid ((coreL L).length = len) := Lib.hid (by rw [coreL_len, h.hlen])
  have hlen := h.len64
  have BX := Lib.hid ((Box.start (m := m) h).keep (below_box _ (.cells #[.int .i64 x, .int .i64 y] 3)))
  have NB := Lib.hid (lit_two (w.alloc (forB a len cap m)) 3 x y hx hy)
  have CK : Hid (∀ W b, NodeRow W a len cap L → IntRow W b 2 2 [x, y] → Calls Tryz.prog 79 #[forV a len cap m, .slice b 2 2] W fun e w' => e = .returned (.bool (thereF m (coreL L) x && thereF m (coreL L) y)) ∧ Below W.heap.size W w') := Lib.hid (fun W b h1 h2 => by
    rw [← knowsB_two]
    exact shknows_any a len cap m L b 2 2 [x, y] W h1 hm hs h2)
  simp only [World.size_alloc] at NB
  have z0 := BX.out.c0
  have z1 := BX.out.c1
  clear h hm hs hx hy
  cases q : (thereF m (coreL L) x && thereF m (coreL L) y) with
  | false =>
    rw [q] at CK
    have HR : Hid (overZ m (coreL L) x y = false) := Lib.hid (by unfold overZ; rw [q]; rfl)
    clear q
    go_enter Tryz.func116, Tryz.ntmps116
    go_wp2_with (go_at_call 79; ((with_reducible refine (CK.out _ _ BX.out.row NB.out).mono ?_); rintro e w1 ⟨rfl, hb⟩; have BX := Lib.hid (BX.out.keep hb); have z0 := BX.out.c0; have z1 := BX.out.c1; clear hb))
    go_ret
    exact ⟨ret_bool HR.out.symm, BX.out.below⟩
  | true =>
    rw [q] at CK
    rw [Bool.and_eq_true] at q
    obtain ⟨hr, X, rfl, hX⟩ := there_nat q.1
    obtain ⟨-, Y, rfl, hY⟩ := there_nat q.2
    have HI := Lib.hid (overZ_iff hr hX hY)
    have HRT := Lib.hid hr
    rw [HCL.out] at hX hY
    have TR := Lib.hid (treeS hr)
    clear q hr
    go_enter Tryz.func116, Tryz.ntmps116
    go_wp2_with (go_at_call 79; ((with_reducible refine (CK.out _ _ BX.out.row NB.out).mono ?_); rintro e w1 ⟨rfl, hb⟩; have BX := Lib.hid (BX.out.keep hb); have z0 := BX.out.c0; have z1 := BX.out.c1; clear hb))
    go_loopw [2] (fun i wr => ((i = .int .i64 (-1) ∧ Hid (¬ holdsT (parS (coreL L)) X Y)) ∨ ∃ c : Nat, c < len ∧ i = .int .i64 c ∧ Hid (holdsT (parS (coreL L)) X c ↔ holdsT (parS (coreL L)) X Y)) ∧ Hid (Box w wr w.heap.size a len cap m L (coreL L))) (fun i _ => if intOf i = -1 then 0 else rankF (coreL L) (intOf i).toNat + 1)
    case atStart => exact ⟨.inr ⟨Y, hY, rfl, Lib.hid Iff.rfl⟩, BX⟩
    case round =>
      clear BX z0 z1
      obtain ⟨hrel, BX⟩ := hrel
      have z0 := BX.out.c0
      have z1 := BX.out.c1
      rcases hrel with ⟨rfl, HN⟩ | ⟨c, hc, rfl, HE⟩
      · have HR : Hid (overZ m (coreL L) X Y = false) := Lib.hid (by
          cases hq : overZ m (coreL L) X Y with
          | false => rfl
          | true => exact absurd (HI.out.1 hq) HN.out)
        have hne : ((-1 : Int) != (X : Int)) = true := bne_iff_ne.2 (by omega)
        have hne2 : ((-1 : Int) == (X : Int)) = false := beq_eq_false_iff_ne.2 (by omega)
        go_wp2
        go_ret
        exact ⟨ret_bool HR.out.symm, BX.out.below⟩
      · by_cases he : c = X
        · have HR : Hid (overZ m (coreL L) X Y = true) := Lib.hid (HI.out.2 (HE.out.1 (by rw [he]; exact holds_refl X)))
          have e1 : ((c : Int) != (X : Int)) = false := by rw [he]; simp
          have e2 : ((c : Int) == (X : Int)) = true := by rw [he]; simp
          clear he
          go_wp2
          go_ret
          exact ⟨ret_bool HR.out.symm, BX.out.below⟩
        · have hne : ((c : Int) != (X : Int)) = true := bne_iff_ne.2 (by omega)
          have hne2 : ((c : Int) != -1) = true := bne_iff_ne.2 (by omega)
          obtain ⟨b, off, nx, hab, hb, hx, hat, hok⟩ := BX.out.row.get hc
          have HAT := Lib.hid hat
          have HBL := Lib.hid hb
          obtain ⟨c0, c1, c2, c3, c4, c5, c6, c7, c8, c9⟩ := hat
          have hxc := coreL_get hx
          subst hab
          have hcl : c < (coreL L).length := by rw [HCL.out]; exact hc
          rcases up_at HRT.out hxc with ⟨hu, hp⟩ | ⟨p, hu, hpl, hp⟩
          · have UP : Hid (∀ W, Calls Tryz.prog 77 #[nodVal nx] W fun e w' => e = .returned (.int .i64 (-1)) ∧ Below W.heap.size W w') := Lib.hid (fun W => by
              have := up_any nx W
              rwa [hu] at this)
            have HN : Hid (¬ holdsT (parS (coreL L)) X Y) := Lib.hid (fun ht => by
              rcases holds_up (HE.out.2 ht) with h | ⟨p, h1, _⟩
              · exact he h.symm
              · rw [hp] at h1
                cases h1)
            clear hxc hx hok hp hu hb he
            go_wp2_with (go_at_call 77; (refine (UP.out _).mono ?_); rintro e w2 ⟨rfl, hb⟩; have BX := Lib.hid (BX.out.keep hb); have HAT := Lib.hid (HAT.out.below HBL.out hb); have HBL := Lib.hid (Nat.lt_of_lt_of_le HBL.out hb.size); clear z0 z1 c0 c1 c2 c3 c4 c5 c6 c7 c8 c9; have z0 := BX.out.c0; have z1 := BX.out.c1; obtain ⟨c0, c1, c2, c3, c4, c5, c6, c7, c8, c9⟩ := HAT.out; clear hb)
            go_roundw
            case rel => exact ⟨.inl ⟨rfl, HN⟩, BX⟩
            case measure => simp [intOf]
          · have UP : Hid (∀ W, Calls Tryz.prog 77 #[nodVal nx] W fun e w' => e = .returned (.int .i64 (p : Int)) ∧ Below W.heap.size W w') := Lib.hid (fun W => by
              have := up_any nx W
              rwa [hu] at this)
            have HRK := Lib.hid (TR.out.rank_up _ c hcl hp)
            have HE2 : Hid (holdsT (parS (coreL L)) X p ↔ holdsT (parS (coreL L)) X Y) := Lib.hid (by
              rw [← HE.out]
              constructor
              · exact fun h => holds_trans h (holds_par hp)
              · intro h
                rcases holds_up h with h | ⟨q, h1, h2⟩
                · exact absurd h.symm he
                · rw [hp] at h1
                  injection h1 with h1
                  subst h1
                  exact h2)
            rw [HCL.out] at hpl
            clear hxc hx hok hp hu hb he
            go_wp2_with (go_at_call 77; (refine (UP.out _).mono ?_); rintro e w2 ⟨rfl, hb⟩; have BX := Lib.hid (BX.out.keep hb); have HAT := Lib.hid (HAT.out.below HBL.out hb); have HBL := Lib.hid (Nat.lt_of_lt_of_le HBL.out hb.size); clear z0 z1 c0 c1 c2 c3 c4 c5 c6 c7 c8 c9; have z0 := BX.out.c0; have z1 := BX.out.c1; obtain ⟨c0, c1, c2, c3, c4, c5, c6, c7, c8, c9⟩ := HAT.out; clear hb)
            go_roundw
            case rel => exact ⟨.inr ⟨p, hpl, rfl, HE2⟩, BX⟩
            case measure =>
              have := HRK.out
              unfold rankF at this ⊢
              simp [intOf]
              omega
set_option maxHeartbeats 8000000 in
set_option maxRecDepth 100000 in
theorem connFn_any (a : Option Addr) (len cap : Nat) (m : Int) (L : List NodeD) (n : Int) (w : World) (h : NodeRow w a len cap L) (hm : In64 m) (hn : In64 n) (hs : smallF L) :
    Calls Tryz.prog 21 #[forV a len cap m, .int .i64 n] w fun e w' => e = .returned (.bool (connZ m (coreL L) n)) ∧ Below w.heap.size w w' := by
  have HCL : Hid ((coreL L).length = len) := Lib.hid (by rw [coreL_len, h.hlen])
  have hlen := h.len64
  have BX := Lib.hid (Box.start (m := m) h)
  have z0 := BX.out.c0
  have z1 := BX.out.c1
  cases q : thereF m (coreL L) n with
  | false =>
    have CT : Hid (∀ W, NodeRow W a len cap L → Calls Tryz.prog 45 #[forV a len cap m, .int .i64 n] W fun e w' => e = .returned (.int .i64 (-1)) ∧ Below W.heap.size W w') := Lib.hid (fun W h => by
      have := topFn_any a len cap m L n W h hm hn hs
      rwa [show topZ m (coreL L) n = -1 by unfold topZ; rw [q]; rfl] at this)
    have HR : Hid (connZ m (coreL L) n = false) := Lib.hid (by unfold connZ; rw [q]; rfl)
    clear q h hm hn hs
    go_enter Tryz.func21, Tryz.ntmps21
    go_wp2_with (go_at_call 45; ((with_reducible refine (CT.out _ BX.out.row).mono ?_); rintro e w1 ⟨rfl, hb⟩; have BX := Lib.hid (BX.out.keep hb); have z0 := BX.out.c0; have z1 := BX.out.c1; clear hb))
    go_ret
    exact ⟨ret_bool HR.out.symm, BX.out.below⟩
  | true =>
    obtain ⟨hr, k, rfl, hk⟩ := there_nat q
    have ht := topF_lt hr hk
    have hte := topZ_eq hr hk
    obtain ⟨t, hT⟩ : ∃ t, topF (coreL L) k = t := ⟨_, rfl⟩
    rw [hT] at ht hte
    rw [HCL.out] at ht
    have CT : Hid (∀ W, NodeRow W a len cap L → Calls Tryz.prog 45 #[forV a len cap m, .int .i64 k] W fun e w' => e = .returned (.int .i64 (t : Int)) ∧ Below W.heap.size W w') := Lib.hid (fun W h => by
      have := topFn_any a len cap m L k W h hm hn hs
      rwa [hte] at this)
    obtain ⟨b, off, x, rfl, hb, hx, hat, -⟩ := h.get ht
    have C0 := Lib.hid (stays hat.c0 hb)
    have HR : Hid (connZ m (coreL L) k = (x.core.kind == 0)) := Lib.hid (by
      rw [connZ_eq' hr hk, hte]
      unfold kindK
      rw [getC_nat, coreL_get hx])
    have hne : ((t : Int) != -1) = true := bne_iff_ne.2 (by omega)
    clear q h hm hn hs hr hk hT hte hb hx hat
    go_enter Tryz.func21, Tryz.ntmps21
    go_wp2_with (go_at_call 45; ((with_reducible refine (CT.out _ BX.out.row).mono ?_); rintro e w1 ⟨rfl, hb⟩; have BX := Lib.hid (BX.out.keep hb); have z0 := BX.out.c0; have z1 := BX.out.c1; have c0 := C0.out _ BX.out.below; clear hb))
    go_ret
    exact ⟨ret_bool HR.out.symm, BX.out.below⟩
end Go.Proofs.YtkgbgnmmgmnnlaaGreatDoor
namespace Go.Proofs.YtkgbgnmmgmnnlaaGreatDoor
open Go.RowKit
theorem own_stay {w V : World} {base : Nat} {e : TypeId} {size n : Nat} {v : Value} {xs : List Value} {r : Option Nat} (h : w.ownsRow base e size v n xs) (hg : w.grownBy V r) (hr : ∀ k, v.ownBlock = some k → some k ≠ r) : V.ownsRow base e size v n xs := by
  refine ⟨h.1, ?_⟩
  rcases h.2 with h0 | ⟨g, cap, cur, hv, hb, hh, h1, h2, h3, h4⟩
  · exact .inl h0
  · have hlt : g < w.heap.size := by
      rcases Nat.lt_or_ge g w.heap.size with h | h
      · exact h
      · rw [Array.getElem?_eq_none h] at hh; cases hh
    exact .inr ⟨g, cap, cur, hv, hb, (hg.block g hlt (hr g (by rw [hv]; rfl))).trans hh, h1, h2, h3, h4⟩
theorem grown_refl (w : World) (r : Option Nat) : w.grownBy w r := ⟨rfl, rfl, rfl, Nat.le_refl _, fun _ _ _ => rfl⟩
theorem grown_by {w V : World} (hb : Below w.heap.size w V) (r : Option Nat) : w.grownBy V r := ⟨hb.os, hb.tape, hb.output, hb.size, fun k hk _ => hb.block k hk⟩
theorem grown_then {w W V : World} {r : Option Nat} (h : w.grownBy W r) (hb : Below W.heap.size W V) : w.grownBy V r :=
  ⟨hb.os.trans h.os, hb.tape.trans h.tape, hb.output.trans h.output, Nat.le_trans h.size hb.size, fun k hk hr => (hb.block k (Nat.lt_of_lt_of_le hk h.size)).trans (h.block k hk hr)⟩
theorem own_n {α : Type} {enc : α → List Value} {size : Nat} (henc : ∀ x, (enc x).length = size) (hpos : 0 < size) {w : World} {base : Nat} {e : TypeId} {v : Value} {n : Nat} {L : List α} (h : w.ownsRow base e size v n (L.flatMap enc)) : L.length = n := by
  have h1 := h.1
  rw [flat_len (fun x _ => henc x)] at h1
  exact Nat.eq_of_mul_eq_mul_right hpos h1
theorem LRow.of_own {α : Type} {enc : α → List Value} {size : Nat} {ok : α → Prop} (henc : ∀ x, (enc x).length = size) (hpos : 0 < size) {w : World} {base : Nat} {e : TypeId} {a : Option Addr} {n c : Nat} {L : List α} (h : w.ownsRow base e size (.slice a n c) n (L.flatMap enc)) (hok : ∀ x ∈ L, ok x) :
    LRow enc size ok w a n c L ∧ (∀ b o, a = some ⟨b, o, none⟩ → base ≤ b ∧ o = 0) := by
  obtain ⟨a', c', e', h2, h3⟩ := SRow.of_own (fun x _ => henc x) (own_n henc hpos h) h
  injection e' with e1 _ e3
  subst e1; subst e3
  rcases h.2 with ⟨hv, _⟩ | ⟨g, cap', cur, hv, _⟩
  · injection hv with e1 e2 e3
    subst e1; subst e2; subst e3
    exact ⟨⟨h2, hok, fun _ => rfl⟩, fun b o e => by cases e⟩
  · injection hv with e1 e2 e3
    subst e1
    exact ⟨⟨h2, hok, fun e => by cases e⟩, fun b o e => ⟨h3 b o e, by injection e with e; injection e with _ e; exact e.symm⟩⟩
def SHd.own {α : Type} (x : SHd α) : Option Nat := (Value.slice x.a x.n x.c).ownBlock
structure OwnRows {α : Type} (enc : α → List Value) (size : Nat) (ok : α → Prop) (base : Nat) (th te : TypeId) (W : World) (a : Option Addr) (n c : Nat) (T : List (SHd α)) : Prop where
  row : W.ownsRow base th 1 (.slice a n c) n (T.flatMap encH)
  each : ∀ x ∈ T, W.ownsRow base te size (.slice x.a x.n x.c) x.n (x.l.flatMap enc)
  ok : ∀ x ∈ T, ∀ y ∈ x.l, ok y
  apart : ∀ (i j : Nat) (x y : SHd α), i ≠ j → T[i]? = some x → T[j]? = some y → ∀ k, x.own = some k → some k ≠ y.own
section
variable {α : Type} {enc : α → List Value} {size : Nat} {ok : α → Prop} {base : Nat} {th te : TypeId} {W V : World} {a : Option Addr} {n c : Nat} {T : List (SHd α)}
theorem OwnRows.stay (h : OwnRows enc size ok base th te W a n c T) {r : Option Nat} (hg : W.grownBy V r) (h1 : ∀ k, (Value.slice a n c).ownBlock = some k → some k ≠ r) (h2 : ∀ x ∈ T, ∀ k, x.own = some k → some k ≠ r) : OwnRows enc size ok base th te V a n c T :=
  ⟨own_stay h.row hg h1, fun x hx => own_stay (h.each x hx) hg (h2 x hx), h.ok, h.apart⟩
theorem OwnRows.keep (h : OwnRows enc size ok base th te W a n c T) (hb : Below W.heap.size W V) : OwnRows enc size ok base th te V a n c T :=
  h.stay (grown_by hb none) (fun _ _ e => by cases e) (fun _ _ _ _ e => by cases e)
theorem OwnRows.hlen (h : OwnRows enc size ok base th te W a n c T) : T.length = n := own_n (fun x => encH_len x) (by decide) h.row
theorem OwnRows.hrow (h : OwnRows enc size ok base th te W a n c T) (henc : ∀ x, (enc x).length = size) (hpos : 0 < size) : HRow enc size ok W a n c T ∧ (∀ b o, a = some ⟨b, o, none⟩ → base ≤ b ∧ o = 0) ∧ ∀ x ∈ T, ∀ b o, x.a = some ⟨b, o, none⟩ → base ≤ b ∧ o = 0 := by
  have h1 := LRow.of_own (ok := fun _ : SHd α => True) (fun x => encH_len x) (by decide) h.row (fun _ _ => trivial)
  exact ⟨⟨h1.1.row, fun x hx => (LRow.of_own henc hpos (h.each x hx) (h.ok x hx)).1, h1.1.hnil⟩, h1.2, fun x hx => (LRow.of_own henc hpos (h.each x hx) (h.ok x hx)).2⟩
theorem OwnRows.lt (h : OwnRows enc size ok base th te W a n c T) {x : SHd α} (hx : x ∈ T) {k : Nat} (hk : x.own = some k) : base ≤ k ∧ k < W.heap.size := (h.each x hx).lt k hk
end
end Go.Proofs.YtkgbgnmmgmnnlaaGreatDoor
namespace Go.Proofs.YtkgbgnmmgmnnlaaGreatDoor
open Go.RowKit
theorem kept1 {a0 : Prop} {V W : World} (h : a0 ∧ Below V.heap.size V W) : Below V.heap.size V W := h.2
theorem keep1 {V W X : World} {p : Addr} {v : Option Value} (l : p.block < V.heap.size) (h : W.cell? p = v ∧ Below V.heap.size V W) (hb : Below W.heap.size W X) : X.cell? p = v ∧ Below V.heap.size V X :=
  ⟨(hb.cell (Nat.lt_of_lt_of_le l h.2.size)).trans h.1, h.2.trans (hb.mono h.2.size)⟩
theorem kept2 {a0 a1 : Prop} {V W : World} (h : a0 ∧ a1 ∧ Below V.heap.size V W) : Below V.heap.size V W := h.2.2
theorem keep2 {V W X : World} {p q : Addr} {v u : Option Value} (l : p.block < V.heap.size) (l2 : q.block < V.heap.size) (h : W.cell? p = v ∧ W.cell? q = u ∧ Below V.heap.size V W) (hb : Below W.heap.size W X) : X.cell? p = v ∧ X.cell? q = u ∧ Below V.heap.size V X :=
  ⟨(hb.cell (Nat.lt_of_lt_of_le l h.2.2.size)).trans h.1, (hb.cell (Nat.lt_of_lt_of_le l2 h.2.2.size)).trans h.2.1, h.2.2.trans (hb.mono h.2.2.size)⟩
theorem kept3 {a0 a1 a2 : Prop} {V W : World} (h : a0 ∧ a1 ∧ a2 ∧ Below V.heap.size V W) : Below V.heap.size V W := h.2.2.2
theorem keep3 {V W X : World} {p q r : Addr} {v u t : Option Value} (l : p.block < V.heap.size) (l2 : q.block < V.heap.size) (l3 : r.block < V.heap.size) (h : W.cell? p = v ∧ W.cell? q = u ∧ W.cell? r = t ∧ Below V.heap.size V W) (hb : Below W.heap.size W X) : X.cell? p = v ∧ X.cell? q = u ∧ X.cell? r = t ∧ Below V.heap.size V X :=
  ⟨(hb.cell (Nat.lt_of_lt_of_le l h.2.2.2.size)).trans h.1, keep2 l2 l3 h.2 hb⟩
theorem kept4 {a0 a1 a2 a3 : Prop} {V W : World} (h : a0 ∧ a1 ∧ a2 ∧ a3 ∧ Below V.heap.size V W) : Below V.heap.size V W := h.2.2.2.2
theorem keep4 {V W X : World} {p q r s : Addr} {v u t z : Option Value} (l : p.block < V.heap.size) (l2 : q.block < V.heap.size) (l3 : r.block < V.heap.size) (l4 : s.block < V.heap.size) (h : W.cell? p = v ∧ W.cell? q = u ∧ W.cell? r = t ∧ W.cell? s = z ∧ Below V.heap.size V W) (hb : Below W.heap.size W X) : X.cell? p = v ∧ X.cell? q = u ∧ X.cell? r = t ∧ X.cell? s = z ∧ Below V.heap.size V X :=
  ⟨(hb.cell (Nat.lt_of_lt_of_le l h.2.2.2.2.size)).trans h.1, keep3 l2 l3 l4 h.2 hb⟩
end Go.Proofs.YtkgbgnmmgmnnlaaGreatDoor
namespace Go.Proofs.YtkgbgnmmgmnnlaaGreatDoor
open Go.RowKit
def kidsK (F : List Core) (p : Int) : List Int := match getC F p with | some x => x.kids | none => []
def parentK (F : List Core) (c : Int) : Int := match getC F c with | some x => x.parent | none => -1
def partsZ (F : List Core) (n : Int) : List Int := match getC F n with | some x => if x.kind = 3 then x.kids else [n] | none => []
def countNe (l : List Int) (g : Int) : Nat := l.countP (fun z => z != g)
def docTakesB (F : List Core) (n p gone : Int) : Bool := !(partsZ F n).any (fun k => kindK F k == 2) && decide (countNe (kidsK F p) gone + (partsZ F n).length ≤ 1)
def inF (F : List Core) (n : Int) : Bool := decide (0 ≤ n) && decide (n < (F.length : Int))
def vknowsB (m : Int) (F : List Core) (n p c : Int) : Bool := inF F n && inF F p && (c == -1 || inF F c) && rightF m F
def refuseE (m : Int) (F : List Core) (n p : Int) (placed : Bool) (gone : Int) : Int :=
  if kindK F p = 2 ∨ overZ m F n p = true then 5
  else if placed = false then 6
  else if kindK F n = 0 ∨ kindK F n = 4 then 5
  else if kindK F p = 0 ∧ docTakesB F n p gone = false then 5
  else 0
def mayZ (m : Int) (F : List Core) (n p c : Int) : Int := if vknowsB m F n p c then refuseE m F n p (c == -1 || parentK F c == p) (-1) else 1
def beforeZ (m : Int) (F : List Core) (n p c : Int) : Int :=
  if mayZ m F n p c = 0 then (if c = n then (match (kidsK F p)[(placeZ m F n + 1).toNat]? with | some z => z | none => -1) else c) else -1
end Go.Proofs.YtkgbgnmmgmnnlaaGreatDoor
namespace Go.Proofs.YtkgbgnmmgmnnlaaGreatDoor
open Go.RowKit
def shT (lo k t : Nat) : Nat := if t < lo then t else t - k
def shX (lo k : Nat) : Operand → Operand
  | .tmp t => .tmp (shT lo k t)
  | .const v => .const v
  | .global g => .global g
  | .func f => .func f
def shE (lo k : Nat) : Callee → Callee
  | .value f => .value (shX lo k f)
  | .invoke r m => .invoke (shX lo k r) m
  | .builtin b => .builtin b
def shO (lo k : Nat) : Op → Op
  | .move x => .move (shX lo k x)
  | .assign x => .assign (shX lo k x)
  | .pick c a b => .pick (shX lo k c) (shX lo k a) (shX lo k b)
  | .load t x => .load t (shX lo k x)
  | .binOp op t x y t' => .binOp op t (shX lo k x) (shX lo k y) t'
  | .unOp op t x => .unOp op t (shX lo k x)
  | .fieldAddr t x f => .fieldAddr t (shX lo k x) f
  | .indexAddr t x y => .indexAddr t (shX lo k x) (shX lo k y)
  | .call c => .call { callee := shE lo k c.callee, args := c.args.map (shX lo k), argTypes := c.argTypes }
  | o => o
def sh (lo k : Nat) (o : Oper) : Oper := { o with dst := o.dst.map (shT lo k), op := shO lo k o.op }
def inT (lo k n t : Nat) : Bool := (Nat.blt t lo && Nat.blt t n) || (Nat.ble (lo + k) t && Nat.blt t (n + k))
def inX (lo k n : Nat) : Operand → Bool
  | .tmp t => inT lo k n t
  | _ => true
def inO (lo k n : Nat) : Op → Bool
  | .move x => inX lo k n x
  | .assign x => inX lo k n x
  | .pick c a b => inX lo k n c && inX lo k n a && inX lo k n b
  | .load _ x => inX lo k n x
  | .binOp _ _ x y _ => inX lo k n x && inX lo k n y
  | .unOp _ _ x => inX lo k n x
  | .fieldAddr _ x _ => inX lo k n x
  | .indexAddr _ x y => inX lo k n x && inX lo k n y
  | .call c => (match c.callee with | .value f => inX lo k n f | .invoke _ _ => false | .builtin _ => true) && c.args.all (inX lo k n)
  | _ => false
def inD (lo k n : Nat) : Option Nat → Bool
  | some d => inT lo k n d
  | none => true
def smallOK (lo k n : Nat) (l : List Oper) : Bool := l.all (fun o => inD lo k n o.dst && inO lo k n o.op)
def mergeL (lo k n : Nat) (s : Array Value) : Nat → List Value → List Value
  | _, [] => []
  | t, v :: r => (bif inT lo k n t then s.getD (shT lo k t) undef else v) :: mergeL lo k n s (t + 1) r
def merge (lo k n : Nat) (a s : Act) : Act := ⟨(mergeL lo k n s.tmps 0 a.tmps.toList).toArray, a.defers⟩
section
variable {lo k n : Nat}
theorem mergeL_len (s : Array Value) : ∀ (t : Nat) (l : List Value), (mergeL lo k n s t l).length = l.length
  | _, [] => rfl
  | t, v :: r => by unfold mergeL; rw [List.length_cons, List.length_cons, mergeL_len s (t + 1) r]
theorem mergeL_get (s : Array Value) : ∀ (t : Nat) (l : List Value) (i : Nat), (mergeL lo k n s t l)[i]? = (l[i]?).map (fun v => bif inT lo k n (t + i) then s.getD (shT lo k (t + i)) undef else v)
  | _, [], _ => by simp [mergeL]
  | t, v :: r, 0 => by simp [mergeL]
  | t, v :: r, i + 1 => by
    unfold mergeL
    rw [List.getElem?_cons_succ, List.getElem?_cons_succ, mergeL_get s (t + 1) r i, show t + 1 + i = t + (i + 1) by omega]
theorem merge_get (a s : Act) (i : Nat) : (merge lo k n a s).tmps[i]? = (a.tmps[i]?).map (fun v => bif inT lo k n i then s.tmps.getD (shT lo k i) undef else v) := by
  unfold merge
  rw [List.getElem?_toArray, mergeL_get, Nat.zero_add, Array.getElem?_toList]
theorem merge_getD (a s : Act) {i : Nat} (hi : i < a.tmps.size) (ht : inT lo k n i = true) : (merge lo k n a s).tmps.getD i undef = s.tmps.getD (shT lo k i) undef := by
  rw [Array.getD_eq_getD_getElem?, merge_get, Array.getElem?_eq_getElem hi, ht]
  rfl
theorem merge_size (a s : Act) : (merge lo k n a s).tmps.size = a.tmps.size := by
  unfold merge
  rw [List.size_toArray, mergeL_len, Array.length_toList]
theorem shT_lt {t : Nat} (h : inT lo k n t = true) : shT lo k t < n := by
  unfold inT at h
  unfold shT
  simp only [Bool.or_eq_true, Bool.and_eq_true, Nat.blt_eq, Nat.ble_eq] at h
  split <;> omega
theorem shT_inj {t u : Nat} (ht : inT lo k n t = true) (hu : inT lo k n u = true) (h : shT lo k t = shT lo k u) : t = u := by
  unfold inT at ht hu
  unfold shT at h
  simp only [Bool.or_eq_true, Bool.and_eq_true, Nat.blt_eq, Nat.ble_eq] at ht hu
  split at h <;> split at h <;> omega
theorem merge_put (a s : Act) {d : Nat} (hs : s.tmps.size = n) (ht : inT lo k n d = true) (v : Value) (hda : d < a.tmps.size) : (merge lo k n a s).put (some d) v = merge lo k n a (s.put (some (shT lo k d)) v) := by
  have e : ((merge lo k n a s).put (some d) v).tmps = (merge lo k n a (s.put (some (shT lo k d)) v)).tmps := by
    apply Array.ext_getElem?
    intro i
    rw [merge_get]
    show ((merge lo k n a s).tmps.setIfInBounds d v)[i]? = _
    rw [Array.getElem?_setIfInBounds, merge_get, merge_size]
    show _ = (a.tmps[i]?).map (fun w => bif inT lo k n i then (s.tmps.setIfInBounds (shT lo k d) v).getD (shT lo k i) undef else w)
    by_cases hdi : d = i
    · subst hdi
      rw [if_pos rfl, if_pos hda, Array.getElem?_eq_getElem hda, ht]
      have : shT lo k d < s.tmps.size := by rw [hs]; exact shT_lt ht
      simp [Array.getD_eq_getD_getElem?, this]
    · rw [if_neg hdi]
      cases hq : inT lo k n i with
      | false => rfl
      | true =>
        have hne : shT lo k d ≠ shT lo k i := fun h => hdi (shT_inj ht hq h)
        simp [Array.getD_eq_getD_getElem?, hne]
  show Act.mk _ _ = Act.mk _ _
  congr 1
theorem put_size (a : Act) (d : Option Nat) (v : Value) : (a.put d v).tmps.size = a.tmps.size := by
  cases d with
  | none => rfl
  | some d => simp [Act.put]
theorem sh_eval (a s : Act) (hs : ∀ t, inT lo k n t = true → t < a.tmps.size) {x : Operand} (hx : inX lo k n x = true) : s.eval (shX lo k x) = (merge lo k n a s).eval x := by
  cases x with
  | tmp t => exact (merge_getD a s (hs t hx) hx).symm
  | const v => rfl
  | global g => rfl
  | func f => rfl
theorem sh_exec {e e' : Operand → Value} {o : Oper} (ho : inO lo k n o.op = true) (h : ∀ x, inX lo k n x = true → e' (shX lo k x) = e x) : execOp e' (sh lo k o) = execOp e o := by
  obtain ⟨dst, op, type, pos, after, guard⟩ := o
  cases op <;> simp only [inO, Bool.and_eq_true, Bool.false_eq_true] at ho
  case move x => simp only [sh, shO, execOp, h x ho]
  case assign x => simp only [sh, shO, execOp, h x ho]
  case pick c a b => simp only [sh, shO, execOp, h c ho.1.1, h a ho.1.2, h b ho.2]
  case load t x => simp only [sh, shO, execOp, h x ho]
  case binOp op t x y t' =>
    simp only [sh, shO, execOp, h x ho.1, h y ho.2, eqGuard]
    cases x <;> cases y <;> rfl
  case unOp op t x => simp only [sh, shO, execOp, h x ho]
  case fieldAddr t x f => simp only [sh, shO, execOp, h x ho]
  case indexAddr t x y => simp only [sh, shO, execOp, h x ho.1, h y ho.2]
  case call c =>
    obtain ⟨callee, args, ats⟩ := c
    have ha : (args.map (shX lo k)).map e' = args.map e := by
      rw [Array.map_map]
      apply Array.map_congr_left
      intro x hx
      exact h x (Array.all_eq_true_iff_forall_mem.1 ho.2 x hx)
    have hk : ∀ f : Operand → Bool, (∀ x, f (shX lo k x) = f x) → (args.map (shX lo k)).map f = args.map f := fun f hf => by
      rw [Array.map_map]
      apply Array.map_congr_left
      intro x _
      exact hf x
    cases callee with
    | value f => simp only [sh, shO, shE, execOp, resolve, ha, h f ho.1]
    | invoke r m => exact absurd ho.1 (by simp)
    | builtin b =>
      simp only [sh, shO, shE, execOp, resolve, ha]
      rw [hk _ (fun x => by cases x <;> rfl)]
theorem sh_wanted (a s : Act) (hs : ∀ t, inT lo k n t = true → t < a.tmps.size) (hn : s.tmps.size = n) {l : List Oper} (hl : smallOK lo k n l = true) (o : Oper) :
    Region.wanted (sh lo k o) (yielded (l.map (sh lo k)).toArray s.tmps) = Region.wanted o (yielded l.toArray (merge lo k n a s).tmps) := by
  have key : ∀ j, yielded (l.map (sh lo k)).toArray s.tmps j = yielded l.toArray (merge lo k n a s).tmps j := fun j => by
    unfold yielded
    rw [List.getElem?_toArray, List.getElem?_toArray, List.getElem?_map]
    cases ho : l[j]? with
    | none => rfl
    | some oj =>
      have h1 := List.all_eq_true.1 hl oj (List.mem_of_getElem? ho)
      rw [Bool.and_eq_true] at h1
      have h2 := h1.1
      show (match ((oj.dst.map (shT lo k)).bind (s.tmps[·]?)) with | some (.bool b) => some b | _ => none) = (match (oj.dst.bind ((merge lo k n a s).tmps[·]?)) with | some (.bool b) => some b | _ => none)
      cases hd : oj.dst with
      | none => rfl
      | some d =>
        rw [hd] at h2
        have h3 : inT lo k n d = true := h2
        have h4 := hs d h3
        show (match s.tmps[shT lo k d]? with | some (.bool b) => some b | _ => none) = (match (merge lo k n a s).tmps[d]? with | some (.bool b) => some b | _ => none)
        rw [merge_get, Array.getElem?_eq_getElem h4, h3, Array.getElem?_eq_getElem (by rw [hn]; exact shT_lt h3)]
        show _ = (match some (s.tmps.getD (shT lo k d) undef) with | some (.bool b) => some b | _ => none)
        rw [Array.getD_eq_getD_getElem?, Array.getElem?_eq_getElem (by rw [hn]; exact shT_lt h3)]
        rfl
  show (match o.guard with | none => true | some (j, want) => yielded (l.map (sh lo k)).toArray s.tmps j == some want) = (match o.guard with | none => true | some (j, want) => yielded l.toArray (merge lo k n a s).tmps j == some want)
  cases o.guard with
  | none => rfl
  | some g =>
    show (yielded (l.map (sh lo k)).toArray s.tmps g.1 == some g.2) = _
    rw [key]
theorem sh_put (a s : Act) (hs : ∀ t, inT lo k n t = true → t < a.tmps.size) (hn : s.tmps.size = n) {d : Option Nat} (hd : inD lo k n d = true) (v : Value) : (merge lo k n a s).put d v = merge lo k n a (s.put (d.map (shT lo k)) v) := by
  cases d with
  | none => rfl
  | some d => exact merge_put a s hn hd v (hs d hd)
theorem quiet_small {P : Program} {C : World → Prop} {a : Act} (hs : ∀ t, inT lo k n t = true → t < a.tmps.size) {l : List Oper} (hl : smallOK lo k n l = true) {R Q : Act → Prop} (hR : ∀ s, s.tmps.size = n → R s → Q (merge lo k n a s)) :
    ∀ (r : List Oper), smallOK lo k n r = true → ∀ s : Act, s.tmps.size = n → wpQuiet P (l.map (sh lo k)).toArray C R (r.map (sh lo k)) s → wpQuiet P l.toArray C Q r (merge lo k n a s)
  | [], _, s, hn, h => hR s hn h
  | o :: r, hr, s, hn, h => by
    have hr' := hr
    unfold smallOK at hr'
    rw [List.all_cons, Bool.and_eq_true, Bool.and_eq_true] at hr'
    obtain ⟨⟨hd, ho⟩, hrr⟩ := hr'
    rw [List.map_cons] at h
    unfold wpQuiet at h ⊢
    rw [sh_wanted a s hs hn hl o] at h
    split at h
    · rename_i hw
      rw [if_pos hw]
      obtain ⟨v, h1, h2⟩ := h
      refine ⟨v, fun w hC => ?_, ?_⟩
      · have := h1 w hC
        unfold Oper.quietAt at this ⊢
        rwa [sh_exec ho (fun x hx => sh_eval a s hs hx)] at this
      · rw [sh_put a s hs hn hd]
        exact quiet_small hs hl hR r hrr _ (by rw [put_size]; exact hn) h2
    · rename_i hw
      rw [if_neg hw, sh_put a s hs hn hd]
      exact quiet_small hs hl hR r hrr _ (by rw [put_size]; exact hn) h
theorem wpList_of_quiet {P : Program} {ops : Array Oper} {C : World → Prop} {Q : Exit → Act → World → Prop} : ∀ (l : List Oper) (a : Act) (w : World), C w → wpQuiet P ops C (fun a' => ∀ w', C w' → Q .normal a' w') l a → wpList P ops Q l a w
  | [], _, w, hC, h => h w hC
  | o :: r, a, w, hC, h => by
    unfold wpQuiet at h
    unfold wpList
    split at h
    · rename_i hw
      rw [if_pos hw]
      exact .inl (Oper.wp_of_quiet hC (fun a' w' hC' h' => wpList_of_quiet r a' w' hC' h') h)
    · rename_i hw
      rw [if_neg hw]
      exact wpList_of_quiet r _ w hC h
end
theorem wp_region_small {P : Program} {id : Nat} {draw : Bool} {Q : Exit → Act → World → Prop} {a : Act} {w : World} {l : List Oper} (lo k n : Nat) (s : Act) (R : Act → Prop)
    (hd : draw = false ∨ (P.follows .mixedOrders = true ∧ Region.lexB .any l.toArray = true)) (hl : smallOK lo k n l = true) (hs : ∀ t, inT lo k n t = true → t < a.tmps.size) (hn : s.tmps.size = n) (ha : a = merge lo k n a s)
    (hR : ∀ s', s'.tmps.size = n → R s' → ∀ w', (∃ x : Ext w, w' = x.v) → Q .normal (merge lo k n a s') w')
    (h : wpQuiet P (l.map (sh lo k)).toArray (fun w' => ∃ x : Ext w, w' = x.v) R (l.map (sh lo k)) s) : (Code.region id l.toArray draw).wp P Q a w := by
  have h1 : wpQuiet P l.toArray (fun w' => ∃ x : Ext w, w' = x.v) (fun a' => ∀ w', (∃ x : Ext w, w' = x.v) → Q .normal a' w') l a := by
    have := quiet_small (P := P) (C := fun w' => ∃ x : Ext w, w' = x.v) hs hl (Q := fun a' => ∀ w', (∃ x : Ext w, w' = x.v) → Q .normal a' w') hR l hl s hn h
    rwa [← ha] at this
  rcases hd with rfl | ⟨h2, h3⟩
  · exact wp_region_lit (wpList_of_quiet l a w ⟨⟨w, Below.refl _ _⟩, rfl⟩ h1)
  · cases draw with
    | false => exact wp_region_lit (wpList_of_quiet l a w ⟨⟨w, Below.refl _ _⟩, rfl⟩ h1)
    | true => exact wp_region_ext h2 h3 h1
def smallOf (lo k n : Nat) (a : Act) : Act := ⟨(a.tmps.toList.take lo ++ (a.tmps.toList.drop (lo + k)).take (n - lo)).toArray, []⟩
def joined (lo k n : Nat) (a s : Act) : Act := ⟨(s.tmps.toList.take lo ++ ((a.tmps.toList.drop lo).take k ++ (s.tmps.toList.drop lo ++ a.tmps.toList.drop (n + k)))).toArray, a.defers⟩
theorem inT_iff {lo k n t : Nat} (hlo : lo ≤ n) : inT lo k n t = true ↔ (t < lo ∨ (lo + k ≤ t ∧ t < n + k)) := by
  unfold inT
  simp only [Bool.or_eq_true, Bool.and_eq_true, Nat.blt_eq, Nat.ble_eq]
  omega
theorem joined_eq {lo k n : Nat} {a s : Act} (hlo : lo ≤ n) (hs : s.tmps.size = n) (ha : n + k ≤ a.tmps.size) : merge lo k n a s = joined lo k n a s := by
  have hsl : s.tmps.toList.length = n := by simpa using hs
  have hal : n + k ≤ a.tmps.toList.length := by simpa using ha
  have e : (merge lo k n a s).tmps = (joined lo k n a s).tmps := by
    apply Array.ext_getElem?
    intro i
    rw [merge_get]
    have hta : (s.tmps.toList.take lo).length = lo := by rw [List.length_take]; omega
    have htb : ((a.tmps.toList.drop lo).take k).length = k := by rw [List.length_take, List.length_drop]; omega
    have htc : (s.tmps.toList.drop lo).length = n - lo := by rw [List.length_drop]; omega
    have ga : a.tmps[i]? = a.tmps.toList[i]? := by simp
    have gj : (joined lo k n a s).tmps[i]? = (s.tmps.toList.take lo ++ ((a.tmps.toList.drop lo).take k ++ (s.tmps.toList.drop lo ++ a.tmps.toList.drop (n + k))))[i]? := by
      unfold joined
      rw [List.getElem?_toArray]
    have gs : ∀ j, s.tmps.getD j undef = (s.tmps.toList[j]?).getD undef := fun j => by simp [Array.getD_eq_getD_getElem?]
    show (a.tmps[i]?).map _ = _
    rw [ga]
    rw [gj]
    by_cases h1 : i < lo
    · rw [List.getElem?_append_left (by rw [hta]; exact h1), List.getElem?_take, if_pos h1, (inT_iff hlo).2 (.inl h1), List.getElem?_eq_getElem (show i < a.tmps.toList.length by omega), List.getElem?_eq_getElem (show i < s.tmps.toList.length by omega)]
      show some (s.tmps.getD (shT lo k i) undef) = _
      rw [gs]
      unfold shT
      rw [if_pos h1, List.getElem?_eq_getElem (show i < s.tmps.toList.length by omega)]
      rfl
    · rw [List.getElem?_append_right (by rw [hta]; omega), hta]
      by_cases h2 : i < lo + k
      · rw [List.getElem?_append_left (by rw [htb]; omega), List.getElem?_take, if_pos (by omega), List.getElem?_drop, show lo + (i - lo) = i by omega]
        have hq : inT lo k n i = false := by
          cases hq : inT lo k n i with
          | false => rfl
          | true => have := (inT_iff hlo).1 hq; omega
        rw [hq]
        simp
      · rw [List.getElem?_append_right (by rw [htb]; omega), htb]
        by_cases h3 : i < n + k
        · rw [List.getElem?_append_left (by rw [htc]; omega), List.getElem?_drop, (inT_iff hlo).2 (.inr ⟨by omega, h3⟩), List.getElem?_eq_getElem (show i < a.tmps.toList.length by omega), show lo + (i - lo - k) = i - k by omega]
          show some (s.tmps.getD (shT lo k i) undef) = _
          rw [gs]
          unfold shT
          rw [if_neg h1, List.getElem?_eq_getElem (show i - k < s.tmps.toList.length by omega)]
          rfl
        · rw [List.getElem?_append_right (by rw [htc]; omega), htc, List.getElem?_drop, show n + k + (i - lo - k - (n - lo)) = i by omega]
          have hq : inT lo k n i = false := by
            cases hq : inT lo k n i with
            | false => rfl
            | true => have := (inT_iff hlo).1 hq; omega
          rw [hq]
          simp
  show Act.mk _ _ = Act.mk _ _
  congr 1
theorem smallOf_size {lo k n : Nat} {a : Act} (hlo : lo ≤ n) (ha : n + k ≤ a.tmps.size) : (smallOf lo k n a).tmps.size = n := by
  have hal : n + k ≤ a.tmps.toList.length := by simpa using ha
  unfold smallOf
  rw [List.size_toArray, List.length_append, List.length_take, List.length_take, List.length_drop]
  omega
theorem joined_small {lo k n : Nat} {a : Act} (hlo : lo ≤ n) (ha : n + k ≤ a.tmps.size) : a = joined lo k n a (smallOf lo k n a) := by
  have hal : n + k ≤ a.tmps.toList.length := by simpa using ha
  have e : a.tmps.toList = (smallOf lo k n a).tmps.toList.take lo ++ ((a.tmps.toList.drop lo).take k ++ ((smallOf lo k n a).tmps.toList.drop lo ++ a.tmps.toList.drop (n + k))) := by
    have h1 : (a.tmps.toList.take lo).length = lo := by rw [List.length_take]; omega
    have h2 : (smallOf lo k n a).tmps.toList = a.tmps.toList.take lo ++ (a.tmps.toList.drop (lo + k)).take (n - lo) := rfl
    have h5 : (a.tmps.toList.take lo ++ (a.tmps.toList.drop (lo + k)).take (n - lo)).take lo = a.tmps.toList.take lo := by
      rw [List.take_append_of_le_length (by rw [h1]; exact Nat.le_refl _), List.take_of_length_le (by rw [h1]; exact Nat.le_refl _)]
    have h6 : (a.tmps.toList.take lo ++ (a.tmps.toList.drop (lo + k)).take (n - lo)).drop lo = (a.tmps.toList.drop (lo + k)).take (n - lo) := by
      rw [List.drop_append_of_le_length (by rw [h1]; exact Nat.le_refl _), List.drop_of_length_le (by rw [h1]; exact Nat.le_refl _), List.nil_append]
    rw [h2, h5, h6]
    have h3 : (a.tmps.toList.drop (lo + k)).take (n - lo) ++ a.tmps.toList.drop (n + k) = a.tmps.toList.drop (lo + k) := by
      have : a.tmps.toList.drop (n + k) = (a.tmps.toList.drop (lo + k)).drop (n - lo) := by rw [List.drop_drop]; congr 1; omega
      rw [this, List.take_append_drop]
    have h4 : (a.tmps.toList.drop lo).take k ++ a.tmps.toList.drop (lo + k) = a.tmps.toList.drop lo := by
      rw [← List.drop_drop, List.take_append_drop]
    rw [h3, h4, List.take_append_drop]
  obtain ⟨⟨l⟩, d⟩ := a
  show Act.mk _ _ = Act.mk _ _
  congr 1
  exact congrArg List.toArray e
theorem wp_region_in {P : Program} {id : Nat} {draw : Bool} {Q : Exit → Act → World → Prop} {a : Act} {w : World} {l : List Oper} (lo k n : Nat) (R : Act → Prop)
    (hd : draw = false ∨ (P.follows .mixedOrders = true ∧ Region.lexB .any l.toArray = true)) (hl : smallOK lo k n l = true) (hlo : lo ≤ n) (ha : n + k ≤ a.tmps.size)
    (h : wpQuiet P (l.map (sh lo k)).toArray (fun w' => ∃ x : Ext w, w' = x.v) R (l.map (sh lo k)) (smallOf lo k n a))
    (hR : ∀ s', s'.tmps.size = n → R s' → ∀ w', (∃ x : Ext w, w' = x.v) → Q .normal (joined lo k n a s') w') : (Code.region id l.toArray draw).wp P Q a w := by
  refine wp_region_small lo k n (smallOf lo k n a) R hd hl (fun t ht => by have := (inT_iff hlo).1 ht; omega) (smallOf_size hlo ha) ?_ (fun s' hs' hr w' hw' => ?_) h
  · rw [joined_eq hlo (smallOf_size hlo ha) ha]
    exact joined_small hlo ha
  · rw [joined_eq hlo hs' ha]
    exact hR s' hs' hr w' hw'
end Go.Proofs.YtkgbgnmmgmnnlaaGreatDoor
