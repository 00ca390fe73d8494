/- Texts joined in build order: MoveAttrMath MoveValue RegionHead MoveNotesRegion. -/
import Derived.Test.YtclledmgiliggaaGreatDoorP35
import Derived.Test.YtclledmgiliggaaGreatDoorP19
import Derived.Test.YtclledmgiliggaaGreatDoorP34
import Derived.Test.YtclledmgiliggaaGreatDoorP05
import Derived.Test.YtclledmgiliggaaGreatDoorP03
namespace Go.Proofs.YtclledmgiliggaaGreatDoor
open Go.RowKit
structure Worn (c d : Core) : Prop where
  kind : d.kind = c.kind
  parent : d.parent = c.parent
  kids : d.kids = c.kids
  host : d.host = c.host
  under : d.under = c.under
  doc : d.doc = c.doc
theorem Worn.refl (c : Core) : Worn c c := ⟨rfl, rfl, rfl, rfl, rfl, rfl⟩
theorem chg_at {F : List Core} {n : Nat} {l : AL} {j : Nat} {c : Core} (hc : F[j]? = some c) : (chgF F n l)[j]? = some (if j = n then withAC c l else c) := by
  unfold chgF
  cases hx : F[n]? with
  | none =>
    have h1 := List.getElem?_eq_none_iff.1 hx
    have h2 := (List.getElem?_eq_some_iff.1 hc).1
    rw [if_neg (by omega), hc]
  | some x =>
    dsimp only
    by_cases e : j = n
    · subst e
      rw [List.getElem?_set_self (List.getElem?_eq_some_iff.1 hc).1, if_pos rfl, Option.some.inj (hx.symm.trans hc)]
    · rw [List.getElem?_set_ne (fun e2 => e e2.symm), if_neg e, hc]
theorem chg_len {F : List Core} {n : Nat} {l : AL} : (chgF F n l).length = F.length := by
  unfold chgF
  split
  · rw [List.length_set]
  · rfl
theorem chg_worn {F : List Core} {n : Nat} {l : AL} {k : Int} {c : Core} (hc : getC F k = some c) : ∃ d, getC (chgF F n l) k = some d ∧ Worn c d := by
  obtain ⟨h1, h2, h3⟩ := getC_some hc
  refine ⟨if k.toNat = n then withAC c l else c, ?_, ?_⟩
  · unfold getC
    rw [if_pos h1]
    exact chg_at h3
  · split
    · exact ⟨rfl, rfl, rfl, rfl, rfl, rfl⟩
    · exact Worn.refl c
theorem chg_kindK {F : List Core} {n : Nat} {l : AL} (k : Int) : kindK (chgF F n l) k = kindK F k := by
  unfold kindK
  cases hc : getC F k with
  | some c =>
    obtain ⟨d, h1, h2⟩ := chg_worn (n := n) (l := l) hc
    rw [h1]
    exact h2.kind
  | none =>
    have : getC (chgF F n l) k = none := by
      unfold getC at hc ⊢
      by_cases h0 : 0 ≤ k
      · rw [if_pos h0] at hc ⊢
        have := List.getElem?_eq_none_iff.1 hc
        exact List.getElem?_eq_none (by rw [chg_len]; exact this)
      · rw [if_neg h0]
    rw [this]
theorem chg_next {F : List Core} {n : Nat} {l : AL} {j : Nat} {c : Core} (hc : F[j]? = some c) : nextUp (chgF F n l) (j : Int) = nextUp F j := by
  have hg : getC F (j : Int) = some c := by rw [getC_nat, hc]
  obtain ⟨d, h1, h2⟩ := chg_worn (n := n) (l := l) hg
  unfold nextUp
  rw [hg, h1]
  dsimp only
  rw [h2.parent, h2.host]
theorem chg_node {F : List Core} {n : Nat} {l : AL} (hl : rightA l = true) (hk : kindK F n = 1) {i : Nat} {c : Core} (h : NodeP F i c) (hc : F[i]? = some c) : NodeP (chgF F n l) i (if i = n then withAC c l else c) := by
  obtain ⟨d, hd, w⟩ : ∃ d, (if i = n then withAC c l else c) = d ∧ Worn c d := by
    refine ⟨_, rfl, ?_⟩
    split
    · exact ⟨rfl, rfl, rfl, rfl, rfl, rfl⟩
    · exact Worn.refl c
  have ht : textOk d = true := by
    rw [← hd]
    by_cases e : i = n
    · subst e
      rw [if_pos rfl]
      have h1 := h.text
      have h2 : c.kind = 1 := by rw [kindK_at hc] at hk; exact hk
      unfold textOk at h1 ⊢
      rw [if_pos h2] at h1
      rw [if_pos (show (withAC c l).kind = 1 from h2)]
      simp only [Bool.and_eq_true] at h1 ⊢
      exact ⟨h1.1, hl⟩
    · rw [if_neg e]; exact h.text
  rw [hd]
  refine ⟨by rw [w.kind]; exact h.kind, ?_, by rw [w.kind, w.doc]; exact h.own, ?_, by rw [w.kids]; exact h.once, fun k hk2 => ?_, by rw [w.kind, w.kids]; exact h.leaf, fun e => ?_, fun e => ?_, by rw [w.kind, w.host]; exact h.free, ?_, ht⟩
  · obtain ⟨u, h1, h2⟩ := h.doc
    obtain ⟨u2, h3, h4⟩ := chg_worn (n := n) (l := l) h1
    rw [w.doc]
    exact ⟨u2, h3, h4.kind.trans h2⟩
  · rw [w.parent, w.kind]
    rcases h.par with e | ⟨h1, u, h2, h3, h5⟩
    · exact .inl e
    · obtain ⟨u2, h6, h7⟩ := chg_worn (n := n) (l := l) h2
      exact .inr ⟨h1, u2, h6, by rw [h7.kind]; exact h3, by rw [h7.kids]; exact h5⟩
  · rw [w.kids] at hk2
    obtain ⟨u, h1, h2, h3, h5⟩ := h.kids k hk2
    obtain ⟨u2, h6, h7⟩ := chg_worn (n := n) (l := l) h1
    exact ⟨u2, h6, by rw [h7.kind]; exact h2, h7.parent.trans h3, by rw [h7.doc, w.doc]; exact h5⟩
  · rw [w.kind] at e
    obtain ⟨h1, h2⟩ := h.root e
    rw [w.kids]
    exact ⟨h1, fun k hk2 => by rw [chg_kindK]; exact h2 k hk2⟩
  · rw [w.kind] at e
    obtain ⟨u, h1, h2, h3, h5⟩ := h.host e
    obtain ⟨u2, h6, h7⟩ := chg_worn (n := n) (l := l) h1
    rw [w.host]
    exact ⟨u2, h6, h7.kind.trans h2, h7.under.trans h3, by rw [h7.doc, w.doc]; exact h5⟩
  · rw [w.under, w.kind]
    rcases h.under with e | ⟨h1, u, h2, h3, h5⟩
    · exact .inl e
    · obtain ⟨u2, h6, h7⟩ := chg_worn (n := n) (l := l) h2
      exact .inr ⟨h1, u2, h6, h7.kind.trans h3, h7.host.trans h5⟩
theorem chg_right {m : Int} {F : List Core} (h : rightF m F = true) {n : Nat} {l : AL} (hk : kindK F n = 1) (hl : rightA l = true) : rightF m (chgF F n l) = true := by
  obtain ⟨⟨h1, h2, h3, h4⟩, h5, _⟩ := (rightF_iff m F).1 h
  have hb : ∀ (i : Nat) d, (chgF F n l)[i]? = some d → ∃ c, F[i]? = some c ∧ d = if i = n then withAC c l else c := fun i d hd => by
    have hi := (List.getElem?_eq_some_iff.1 hd).1
    rw [chg_len] at hi
    have hc : F[i]? = some F[i] := List.getElem?_eq_getElem hi
    have h6 := chg_at (n := n) (l := l) hc
    exact ⟨_, hc, Option.some.inj (hd.symm.trans h6)⟩
  refine right_of h1 h2 (by rw [chg_len]; exact h3) ?_ (fun i d hd => ?_) (rankF F) (fun i hi => ?_)
  · have hl0 : 0 < F.length := right_len h
    have hc : F[0]? = some F[0] := List.getElem?_eq_getElem hl0
    have h6 := chg_at (n := n) (l := l) hc
    have h7 : headDoc F = (F[0].kind == 0) := by
      cases F with
      | nil => cases hl0
      | cons c r => rfl
    cases hG : chgF F n l with
    | nil => rw [hG] at h6; cases h6
    | cons c r =>
      rw [hG] at h6
      have h8 : c = if 0 = n then withAC F[0] l else F[0] := Option.some.inj h6
      show (c.kind == 0) = true
      rw [h8]
      rw [h7] at h4
      split
      · exact h4
      · exact h4
  · obtain ⟨c, hc, rfl⟩ := hb i d hd
    exact chg_node hl hk (right_node h hc) hc
  · rw [chg_len] at hi ⊢
    rw [chg_next (List.getElem?_eq_getElem hi)]
    exact rank_next h hi
end Go.Proofs.YtclledmgiliggaaGreatDoor
namespace Go.Proofs.YtclledmgiliggaaGreatDoor
open Go.RowKit
set_option linter.unusedVariables false
theorem look_at {L : AL} {k : List UInt8} {i : Nat} {x : ByteArray × ByteArray} (h : L[i]? = some x) (hx : keyIs k x = true) (hn : ∀ (j : Nat) y, j < i → L[j]? = some y → keyIs k y = false) : lookA L k = some x.2 := by
  unfold lookA
  have : L.find? (keyIs k) = some x := by
    obtain ⟨hi, he⟩ := List.getElem?_eq_some_iff.1 h
    rw [List.find?_eq_some_iff_getElem]
    refine ⟨hx, i, hi, he, fun j hj => ?_⟩
    rw [hn j _ hj (List.getElem?_eq_getElem (by omega))]
    rfl
  rw [this]
  rfl
theorem look_no {L : AL} {k : List UInt8} (hn : ∀ (j : Nat) y, L[j]? = some y → keyIs k y = false) : lookA L k = none := by
  unfold lookA
  rw [List.find?_eq_none.2 (fun x hx => ?_)]
  · rfl
  · obtain ⟨j, hj⟩ := List.getElem?_of_mem hx
    rw [hn j x hj]
    decide
set_option maxHeartbeats 8000000 in
set_option maxRecDepth 100000 in
theorem value_any (a : Option Addr) (len cap : Nat) (m : Int) (L : List NodeD) (n : Nat) (x : NodeD) (k : ByteArray) (w : World) (h : NodeRow w a len cap L) (hx : L[n]? = some x) :
    Calls Tryz.prog 70 #[forV a len cap m, .int .i64 n, .string k] w fun e w' => e = .returned (.tuple #[.string ((lookA x.core.attrs k.toList).getD ⟨#[]⟩), .bool (lookA x.core.attrs k.toList).isSome]) ∧ Below w.heap.size w w' := by
  have hl0 := h.len64
  have hn : n < len := by rw [← h.hlen]; exact (List.getElem?_eq_some_iff.1 hx).1
  obtain ⟨b, off, x', hab, hb, hx', hat, hok⟩ := h.get hn
  obtain rfl : x = x' := Option.some.inj (hx.symm.trans hx')
  subst hab
  obtain ⟨w0, hw0, BX⟩ : ∃ w0, w.alloc (forB (some ⟨b, off, none⟩) len cap m) = w0 ∧ Hid (Box w w0 w.heap.size (some ⟨b, off, none⟩) len cap m L (coreL L)) := ⟨_, rfl, Lib.hid (Box.start h)⟩
  have HW0 := Lib.hid hw0
  have AR := Lib.hid (hok.attrs.below BX.out.below)
  have C4 := Lib.hid (stays hat.c4 hb)
  have z0 := BX.out.c0
  have c4 := C4.out _ BX.out.below
  have hal : (x.aN : Int) ≤ 9223372036854775807 := by
    have h1 := AR.out.row.hcap
    have h2 := AR.out.row.hmax
    unfold maxLen at h2
    omega
  have HAL := Lib.hid AR.out.row.hlen
  clear h hx hx' hat hok hw0
  go_enter Tryz.func70, Tryz.ntmps70
  go_upto_region 1 with fail
  rw [HW0.out]
  go_wp2
  go_loopw [8] (fun i wr => ∃ j : Nat, j ≤ x.aN ∧ i = .int .i64 j ∧ w0 = wr ∧ Hid (∀ (q : Nat) y, q < j → x.core.attrs[q]? = some y → keyIs k.toList y = false)) (fun i _ => x.aN - (intOf i).toNat)
  case atStart => exact ⟨0, Nat.zero_le _, rfl, rfl, Lib.hid (fun q y hq _ => by omega)⟩
  case round =>
    obtain ⟨j, hj, rfl, rfl, HN⟩ := hrel
    by_cases hlt : j < x.aN
    · obtain ⟨ba, oa, ⟨yn, yv⟩, hpa, hba, hy, -, hcy⟩ := AR.out.row.get hlt
      rw [hpa] at c4
      have HY := Lib.hid hy
      have p0 : w0.cell? ⟨ba, oa + j * 2 + 0, none⟩ = some (.string yn) := hcy 0 _ rfl
      have p1 : w0.cell? ⟨ba, oa + j * 2 + 1, none⟩ = some (.string yv) := hcy 1 _ rfl
      rw [Nat.add_zero] at p0
      have hj64 : (j : Int) + 1 ≤ 9223372036854775807 := by omega
      clear hcy hy hpa
      by_cases he : yn.toList = k.toList
      · have e1 : (yn.toList == k.toList) = true := beq_iff_eq.2 he
        have HE := Lib.hid (look_at HY.out (keyIs_iff.2 he) HN.out)
        clear he
        go_wp2
        exact bodyPost_ret (v := .tuple #[.string yv, .bool true]) (by simp [results, Tryz.results70]) rfl ⟨by rw [HE.out]; rfl, BX.out.below⟩
      · have e1 : (yn.toList == k.toList) = false := beq_eq_false_iff_ne.2 he
        have HN2 : Hid (∀ (q : Nat) z, q < j + 1 → x.core.attrs[q]? = some z → keyIs k.toList z = false) := Lib.hid (fun q z hq hz => by
          by_cases e : q = j
          · subst e
            obtain rfl : (yn, yv) = z := Option.some.inj (HY.out.symm.trans hz)
            cases hk : keyIs k.toList (yn, yv) with
            | false => rfl
            | true => exact absurd (keyIs_iff.1 hk) he
          · exact HN.out q z (by omega) hz)
        clear he
        go_wp2
        go_roundw
        case rel => exact ⟨j + 1, hlt, by go_num, by trivial, HN2⟩
        case measure => simp [intOf]; omega
    · have HE : Hid (lookA x.core.attrs k.toList = none) := Lib.hid (look_no (fun q y hq => HN.out q y (by have h1 := (List.getElem?_eq_some_iff.1 hq).1; have h2 := HAL.out; omega) hq))
      go_wp2
      exact bodyPost_ret (v := .tuple #[.string ⟨#[]⟩, .bool false]) (by simp [results, Tryz.results70]) rfl ⟨by rw [HE.out]; rfl, BX.out.below⟩
end Go.Proofs.YtclledmgiliggaaGreatDoor
namespace Go.Proofs.YtclledmgiliggaaGreatDoor
open Go.RowKit
def headOK (l : List Oper) (k n : Nat) : Bool :=
  Nat.blt k l.length && (factsOK (l.take k) n && (((List.range k).all fun i => match l[i]? with | none => false | some o => o.guard.isNone) &&
  (((List.range l.length).all fun i => match l[i]? with | none => false | some o => (o.after.all fun e => !Region.binds .any e || decide (e.on < i)) && (Nat.ble i k || (List.range i).any fun j => Nat.ble k j && edgeOn o j)) &&
  ((List.range k).all fun j => (List.range (k + 1)).any fun i => Nat.blt j i && match l[i]? with | none => false | some o => edgeOn o j))))
def headL (k n : Nat) : Array Bool := (List.replicate k true ++ List.replicate (n - k) false).toArray
section
variable {P : Program} {Q : Exit → Act → World → Prop} {fs : List Fact} {l : List Oper} {W : World} {a0 : Act}
theorem FInv.put {v : Nat → Value} {listed : Array Bool} {a : Act} {w w' : World} {i d : Nat} {o : Oper} {f : Fact} {u : Value} (h : FInv fs l W a0 v listed a w) (hi : i < l.length) (ho : l[i]? = some o) (hd : o.dst = some d) (hda : d < a.tmps.size) (hdist : ∀ j, j < l.length → j ≠ i → (l[j]?).bind (·.dst) ≠ some d) (hil : i < listed.size) (hf : fs[i]? = some f) (hu : f.is u w') (hb : Below w.heap.size w w') :
    FInv fs l W a0 (fun j => if j = i then u else v j) (listed.setIfInBounds i true) (a.put o.dst u) w' := by
  have hset : ∀ j, (listed.setIfInBounds i true).getD j false = if j = i then true else listed.getD j false := fun j => getD_set hil
  refine ⟨?_, ?_, ?_, ?_, ?_, ?_⟩
  · rw [hd]; exact h.defers
  · rw [hd, ← h.tsize]
    show (a.tmps.setIfInBounds d u).size = _
    simp
  · intro t ht
    have hdt : d ≠ t := fun e => ht i hi (by rw [hset, if_pos rfl]) (by rw [ho]; show o.dst = _; rw [hd, e])
    rw [hd, put_ne hdt]
    exact h.rest t (fun j hj hl => ht j hj (by rw [hset]; split <;> first | rfl | exact hl))
  · exact h.below.trans (hb.mono h.below.size)
  · intro j hj hl d2 hd2
    by_cases hji : j = i
    · subst hji
      rw [ho] at hd2
      have e : some d = some d2 := hd.symm.trans hd2
      injection e with e
      subst e
      rw [hd, put_self hda, if_pos rfl]
    · rw [hset, if_neg hji] at hl
      have hne : d ≠ d2 := fun e => hdist j hj hji (by rw [e]; exact hd2)
      rw [hd, put_ne hne, if_neg hji]
      exact h.vals j hj hl d2 hd2
  · intro j hj hl g hg
    by_cases hji : j = i
    · subst hji
      obtain rfl : f = g := Option.some.inj (hf.symm.trans hg)
      rw [if_pos rfl]; exact hu
    · rw [hset, if_neg hji] at hl
      rw [if_neg hji]
      exact g.stab _ _ _ (h.facts j hj hl g hg) hb
theorem FInv.frame {v : Nat → Value} {listed : Array Bool} {a : Act} {w : World} (h : FInv fs l W a0 v listed a w) (hall : ∀ j, j < l.length → listed.getD j false = true) :
    a = ⟨(puts a0.tmps.toList ((List.range l.length).map fun i => ((l[i]?).bind (·.dst), v i))).toArray, a0.defers⟩ := by
  have e := puts_eq (A := a.tmps.toList) ((List.range l.length).map fun j => ((l[j]?).bind (·.dst), v j)) a0.tmps.toList (by simp [h.tsize]) (fun q hq d hd => by
    obtain ⟨j, hj, rfl⟩ := List.mem_map.1 hq
    rw [List.mem_range] at hj
    rw [Array.getElem?_toList]
    exact h.vals j hj (hall j hj) d hd) (fun t ht => by
    rw [Array.getElem?_toList, Array.getElem?_toList]
    exact h.rest t (fun j hj _ e => ht _ (List.mem_map.2 ⟨j, List.mem_range.2 hj, rfl⟩) e))
  rw [← e, ← h.defers]
structure HInv (k : Nat) (fs : List Fact) (l : List Oper) (W : World) (a0 : Act) (listed : Array Bool) (a : Act) (w : World) : Prop where
  off : ∀ i, k ≤ i → listed.getD i false = false
  shut : ∀ i, i < k → listed.getD i false = true → ∀ o, l[i]? = some o → ∀ j, edgeOn o j = true → listed.getD j false = true
  inv : ∃ v, FInv fs (l.take k) W a0 v listed a w
theorem listed_false {listed : Array Bool} {n i : Nat} (hz : listed.size = n) (hi : i < n) (h : listed.getD i true = false) : listed.getD i false = false := by
  rw [Array.getD_eq_getD_getElem?, Array.getElem?_eq_getElem (by omega), Option.getD_some] at h ⊢
  exact h
theorem count_set' {listed : Array Bool} {n i : Nat} (hz : listed.size = n) (hi : i < n) (h : listed.getD i false = false) : (listed.setIfInBounds i true).toList.count false + 1 = listed.toList.count false := by
  rw [Array.toList_setIfInBounds]
  refine count_set ?_
  rw [Array.getElem?_toList]
  rw [Array.getD_eq_getD_getElem?, Array.getElem?_eq_getElem (by omega), Option.getD_some] at h
  rw [Array.getElem?_eq_getElem (by omega), h]
theorem headL_count {k n : Nat} : (headL k n).toList.count false = n - k := by
  unfold headL
  simp [List.count_append, List.count_replicate]
theorem headL_eq {listed : Array Bool} {k n : Nat} (hz : listed.size = n) (hk : k < n) (hall : ∀ j, j < k → listed.getD j false = true) (hoff : ∀ j, k ≤ j → listed.getD j false = false) : listed = headL k n := by
  refine Array.toList_inj.1 (List.ext_getElem? fun j => ?_)
  unfold headL
  by_cases hj : j < k
  · have e : listed.getD j false = true := hall j hj
    rw [Array.getD_eq_getD_getElem?, Array.getElem?_eq_getElem (by omega), Option.getD_some] at e
    rw [List.getElem?_append_left (by simpa using hj), List.getElem?_replicate, if_pos hj, Array.getElem?_toList, Array.getElem?_eq_getElem (by omega), e]
  · rw [List.getElem?_append_right (by simpa using Nat.le_of_not_lt hj), List.getElem?_replicate, List.length_replicate]
    by_cases hn : j < n
    · have e : listed.getD j false = false := hoff j (by omega)
      rw [Array.getD_eq_getD_getElem?, Array.getElem?_eq_getElem (by omega), Option.getD_some] at e
      rw [if_pos (by omega), Array.getElem?_toList, Array.getElem?_eq_getElem (by omega), e]
    · rw [if_neg (by omega), Array.getElem?_toList, Array.getElem?_eq_none (by omega)]
theorem wp_region_head {id : Nat} (k : Nat) (fs : List Fact) (hm : P.follows .mixedOrders = true)
    (hok : headOK l k a0.tmps.size = true) (hlen : fs.length = k) (hop : FSteps P Q fs (l.take k) W a0 fs (l.take k))
    (hQ : ∀ (v : Nat → Value) w', Below W.heap.size W w' → (∀ i, i < k → ∀ f, fs[i]? = some f → f.is (v i) w') → wpAny P .any l.toArray Q (l.length - k) (headL k l.length) ⟨(puts a0.tmps.toList ((List.range (l.take k).length).map fun i => (((l.take k)[i]?).bind (·.dst), v i))).toArray, a0.defers⟩ w') :
    (Code.region id l.toArray true).wp P Q a0 W := by
  unfold headOK at hok
  simp only [Bool.and_eq_true, List.all_eq_true, List.mem_range, Nat.blt_eq] at hok
  obtain ⟨hk, hfo, hgn, hed, hbk⟩ := hok
  have hkl : (l.take k).length = k := by rw [List.length_take]; omega
  have htk : ∀ i, i < k → (l.take k)[i]? = l[i]? := fun i hi => by rw [List.getElem?_take, if_pos hi]
  refine wp_region_any hm (wpAny_inv (fun listed a w => listed.size = l.length ∧ (HInv k fs l W a0 listed a w ∨ wpAny P .any l.toArray Q (listed.toList.count false) listed a w)) ?_ ?_ _ _ _ _ (by simp) (by simp) ⟨by simp, .inl ⟨fun i _ => rep_false, (fun i _ e => by rw [rep_false] at e; cases e), fun _ => undef, rfl, rfl, fun _ _ => rfl, (Below.refl _ _).drew, ?_, ?_⟩⟩)
  · intro listed a w i hi ⟨hz, hS⟩
    obtain ⟨hil, hun, o, ho, hedge⟩ := ready_iff.1 hi
    have hil : i < l.length := by simpa using hil
    rw [List.getElem?_toArray] at ho
    have hun' := listed_false hz hil hun
    have hcs := count_set' hz hil hun'
    rcases hS with h | h
    · have hel : ∀ j, edgeOn o j = true → listed.getD j false = true := fun j hj => edge_listed ho hi hj
      by_cases hik : i < k
      · obtain ⟨v, hv⟩ := h.inv
        have ho2 := (htk i hik).trans ho
        obtain ⟨hback, d, hd, hdn, hdist⟩ := factsOK_op hfo ho2
        obtain ⟨f, hf⟩ : ∃ f, fs[i]? = some f := ⟨_, List.getElem?_eq_getElem (by rw [hlen]; exact hik)⟩
        have hg : o.guard = none := by
          have := hgn i hik
          rw [ho] at this
          simpa using this
        have hset : ∀ j, (listed.setIfInBounds i true).getD j false = if j = i then true else listed.getD j false := fun j => getD_set (by omega)
        unfold wpOp
        rw [List.getElem?_toArray, ho]
        show if Region.wanted o _ = true then _ else _
        rw [if_pos (wanted_none hg)]
        refine .inl ?_
        have hstep := FSteps.get hop i f o hf ho2 a w v (fun a' w' => (listed.setIfInBounds i true).size = l.length ∧ (HInv k fs l W a0 (listed.setIfInBounds i true) a' w' ∨ wpAny P .any l.toArray Q ((listed.setIfInBounds i true).toList.count false) (listed.setIfInBounds i true) a' w'))
          ⟨hv.below, fun t ht => hv.rest t (fun j hj _ => ht j hj), fun j hj he => hv.vals j hj (hel j he), fun j hj he => hv.facts j hj (hel j he)⟩ ?_
        · rw [if_pos (wanted_none hg)] at hstep
          exact hstep
        · intro u w' hu hb
          have hda : d < a.tmps.size := by rw [hv.tsize]; exact hdn
          refine ⟨by simpa using hz, .inl ⟨fun j hj => ?_, fun j hj e o' ho' t he => ?_, _, hv.put (by rw [hkl]; exact hik) ho2 hd hda hdist (by omega) hf hu hb⟩⟩
          · rw [hset, if_neg (by omega)]
            exact h.off j hj
          · rw [hset] at e ⊢
            by_cases htj : t = i
            · rw [if_pos htj]
            · rw [if_neg htj]
              by_cases hji : j = i
              · subst hji
                obtain rfl : o = o' := Option.some.inj (ho.symm.trans ho')
                exact hel t he
              · rw [if_neg hji] at e
                exact h.shut j hj e o' ho' t he
      · have hie := hed i hil
        rw [ho] at hie
        simp only [Bool.and_eq_true, Bool.or_eq_true, Nat.ble_eq, List.any_eq_true, List.mem_range] at hie
        obtain rfl : i = k := by
          rcases hie.2 with h1 | ⟨j, h1, h2, h3⟩
          · omega
          · have := hel j h3
            rw [h.off j h2] at this
            cases this
        have hall : ∀ m j, j < i → i - j ≤ m → listed.getD j false = true := by
          intro m
          induction m with
          | zero => intro j h1 h2; omega
          | succ m ih =>
            intro j hj hm2
            have := hbk j hj
            simp only [List.any_eq_true, List.mem_range, Bool.and_eq_true, Nat.blt_eq] at this
            obtain ⟨q, hq1, hq2, hq3⟩ := this
            by_cases hqi : q = i
            · subst hqi
              rw [ho] at hq3
              exact hel j hq3
            · have hqk : q < i := by omega
              cases hoq : l[q]? with
              | none => rw [hoq] at hq3; cases hq3
              | some oq =>
                rw [hoq] at hq3
                exact h.shut q hqk (ih q hqk (by omega)) oq hoq j hq3
        have hall : ∀ j, j < i → listed.getD j false = true := fun j hj => hall i j hj (by omega)
        obtain ⟨v, hv⟩ := h.inv
        have e1 := headL_eq hz hk hall h.off
        have e2 := hv.frame (fun j hj => hall j (by rw [hkl] at hj; exact hj))
        have hq := hQ v w hv.below (fun j hj f hf => hv.facts j (by rw [hkl]; exact hj) (hall j hj) f hf)
        rw [← e1, ← e2] at hq
        have hc : listed.toList.count false = l.length - i := by rw [e1, headL_count]
        obtain ⟨c, hc2⟩ : ∃ c, l.length - i = c + 1 := ⟨l.length - i - 1, by omega⟩
        rw [hc2] at hq
        refine wpOp_mono (fun a' w' hk2 => ⟨by simpa using hz, .inr ?_⟩) (hq.2 i hi)
        rw [show (listed.setIfInBounds i true).toList.count false = c by omega]
        exact hk2
    · obtain ⟨c, hc2⟩ : ∃ c, listed.toList.count false = c + 1 := ⟨_, hcs.symm⟩
      rw [hc2] at h
      refine wpOp_mono (fun a' w' hk2 => ⟨by simpa using hz, .inr ?_⟩) (h.2 i hi)
      rw [show (listed.setIfInBounds i true).toList.count false = c by omega]
      exact hk2
  · intro listed a w hr ⟨hz, hS⟩
    rcases hS with h | h
    · exfalso
      have hall : ∀ j, j < l.length → listed.getD j false = true := by
        intro j
        induction j using Nat.strongRecOn with
        | ind j ih =>
          intro hj
          cases hc : listed.getD j false with
          | true => rfl
          | false =>
            obtain ⟨o, ho⟩ : ∃ o, l[j]? = some o := ⟨_, List.getElem?_eq_getElem hj⟩
            have hie := hed j hj
            rw [ho] at hie
            simp only [Bool.and_eq_true, Array.all_eq_true_iff_forall_mem, Bool.or_eq_true, Bool.not_eq_true', decide_eq_true_eq] at hie
            have : j ∈ Region.ready .any l.toArray listed := ready_iff.2 ⟨by simpa using hj, by
              rw [Array.getD_eq_getD_getElem?, Array.getElem?_eq_getElem (by omega), Option.getD_some] at hc ⊢
              exact hc, o, by rw [List.getElem?_toArray]; exact ho, fun e he hb => by
                have hlt := (hie.1 e he).resolve_left (fun h0 => by rw [hb] at h0; cases h0)
                exact ih e.on hlt (by omega)⟩
            rw [hr] at this
            cases this
      have := hall k hk
      rw [h.off k (Nat.le_refl _)] at this
      cases this
    · cases hc : listed.toList.count false with
      | zero => rw [hc] at h; exact h.2
      | succ c => rw [hc] at h; exact h.1 hr
  · intro i _ e; rw [rep_false] at e; cases e
  · intro i _ e; rw [rep_false] at e; cases e
end
end Go.Proofs.YtclledmgiliggaaGreatDoor
namespace Go.Proofs.YtclledmgiliggaaGreatDoor
open Go.RowKit
set_option linter.unusedVariables false
def byteF (z : Int) : Fact := ⟨fun u w => ∃ b, u = .slice (some ⟨b, 0, none⟩) 1 1 ∧ b < w.heap.size ∧ w.cell? ⟨b, 0, none⟩ = some (.int .u8 z), fun u w w' ⟨b, h1, h2, h3⟩ hb => ⟨b, h1, Nat.lt_of_lt_of_le h2 hb.size, (hb.cell (p := ⟨b, 0, none⟩) h2).trans h3⟩⟩
theorem byteF_new (z : Int) (W : World) : (byteF z).is (.slice (some ⟨W.heap.size, 0, none⟩) 1 1) (W.alloc (.cells #[.int .u8 z] 5)) := ⟨_, rfl, by simp, cell_of_row (W.alloc (.cells #[.int .u8 z] 5)) W.heap.size 0 _ 5 (0, 0) (heap_alloc_new W _)⟩
theorem u8_in7 {n : Int} (h1 : 0 ≤ n) (h2 : n ≤ 255) : IntKind.u8.wrap n = n := by rw [IntKind.wrap_u8]; omega
theorem one_at6 (b : UInt8) (z : Int) (hz : z = (b.toNat : Int)) (W : World) (a : Nat) (hc : W.cell? ⟨a, 0, none⟩ = some (.int .u8 z)) : (convert 48 9 (.slice (some ⟨a, 0, none⟩) 1 1)).run Tryz.prog W = .ok (.string (ofL [b])) W := by
  have := run_convert_bytes_back (P := Tryz.prog) W 48 9 5 ⟨a, 0, none⟩ 1 [b] Tryz.underlying48 Tryz.underlying5 Tryz.underlying9 (fun j hj => by
    have hj0 : j = 0 := by simpa using hj
    subst hj0
    rw [Go.WideShapes.add_plain, Nat.zero_add, hc, hz]
    rfl)
  exact this
def mn27Ops : List Oper := [
  { dst := some 147, op := Go.Op.load 24 (Go.Operand.tmp 5), type := 24, pos := "law.go:124", after := #[], guard := none },
  { dst := some 148, op := Go.Op.move (Go.Operand.tmp 8), type := 3, pos := "law.go:124", after := #[], guard := none },
  { dst := some 149, op := Go.Op.move (Go.Operand.tmp 1), type := 40, pos := "law.go:124", after := #[], guard := none },
  { dst := some 150, op := Go.Op.move (Go.Operand.tmp 7), type := 3, pos := "law.go:124", after := #[], guard := none },
  { dst := some 151, op := Go.Op.indexAddr 40 (Go.Operand.tmp 149) (Go.Operand.tmp 150), type := 0, pos := "law.go:124", after := #[{ on := 2, ground := Go.Ground.data }, { on := 3, ground := Go.Ground.data }], guard := none },
  { dst := some 152, op := Go.Op.fieldAddr 42 (Go.Operand.tmp 151) 4, type := 0, pos := "law.go:124", after := #[{ on := 4, ground := Go.Ground.data }], guard := none },
  { dst := some 153, op := Go.Op.load 5 (Go.Operand.tmp 152), type := 5, pos := "law.go:124", after := #[{ on := 5, ground := Go.Ground.data }], guard := none },
  { dst := some 154, op := Go.Op.binOp Go.BinOp.rem 5 (Go.Operand.tmp 153) (Go.Operand.const (Go.Value.int Go.IntKind.u8 3)) 5, type := 5, pos := "law.go:124", after := #[{ on := 6, ground := Go.Ground.data }], guard := none },
  { dst := some 155, op := Go.Op.binOp Go.BinOp.add 5 (Go.Operand.const (Go.Value.int Go.IntKind.u8 97)) (Go.Operand.tmp 154) 5, type := 5, pos := "law.go:124", after := #[{ on := 7, ground := Go.Ground.data }], guard := none },
  { dst := some 156, op := Go.Op.buildSlice 48 1 #[(0, Go.Operand.tmp 155)], type := 48, pos := "law.go:124", after := #[{ on := 8, ground := Go.Ground.data }], guard := none },
  { dst := some 157, op := Go.Op.convert 48 9 (Go.Operand.tmp 156), type := 9, pos := "law.go:124", after := #[{ on := 9, ground := Go.Ground.data }], guard := none },
  { dst := some 158, op := Go.Op.move (Go.Operand.tmp 1), type := 40, pos := "law.go:124", after := #[], guard := none },
  { dst := some 159, op := Go.Op.move (Go.Operand.tmp 7), type := 3, pos := "law.go:124", after := #[], guard := none },
  { dst := some 160, op := Go.Op.indexAddr 40 (Go.Operand.tmp 158) (Go.Operand.tmp 159), type := 0, pos := "law.go:124", after := #[{ on := 11, ground := Go.Ground.data }, { on := 12, ground := Go.Ground.data }], guard := none },
  { dst := some 161, op := Go.Op.fieldAddr 42 (Go.Operand.tmp 160) 5, type := 0, pos := "law.go:124", after := #[{ on := 13, ground := Go.Ground.data }], guard := none },
  { dst := some 162, op := Go.Op.load 5 (Go.Operand.tmp 161), type := 5, pos := "law.go:124", after := #[{ on := 14, ground := Go.Ground.data }], guard := none },
  { dst := some 163, op := Go.Op.binOp Go.BinOp.rem 5 (Go.Operand.tmp 162) (Go.Operand.const (Go.Value.int Go.IntKind.u8 4)) 5, type := 5, pos := "law.go:124", after := #[{ on := 15, ground := Go.Ground.data }], guard := none },
  { dst := some 164, op := Go.Op.binOp Go.BinOp.add 5 (Go.Operand.const (Go.Value.int Go.IntKind.u8 48)) (Go.Operand.tmp 163) 5, type := 5, pos := "law.go:124", after := #[{ on := 16, ground := Go.Ground.data }], guard := none },
  { dst := some 165, op := Go.Op.buildSlice 48 1 #[(0, Go.Operand.tmp 164)], type := 48, pos := "law.go:124", after := #[{ on := 17, ground := Go.Ground.data }], guard := none },
  { dst := some 166, op := Go.Op.convert 48 9 (Go.Operand.tmp 165), type := 9, pos := "law.go:124", after := #[{ on := 18, ground := Go.Ground.data }], guard := none },
  { dst := some 167, op := Go.Op.call { callee := Go.Callee.value (Go.Operand.func 21), args := #[Go.Operand.tmp 147, Go.Operand.tmp 148, Go.Operand.tmp 157, Go.Operand.tmp 166], argTypes := #[24, 3, 9, 9] }, type := 29, pos := "law.go:124", after := #[{ on := 0, ground := Go.Ground.data }, { on := 1, ground := Go.Ground.data }, { on := 10, ground := Go.Ground.data }, { on := 19, ground := Go.Ground.data }], guard := none },
  { dst := some 146, op := Go.Op.move (Go.Operand.tmp 167), type := 29, pos := "law.go:124", after := #[{ on := 20, ground := Go.Ground.data }], guard := none },
  { dst := some 168, op := Go.Op.extract (Go.Operand.tmp 146) 0, type := 24, pos := "law.go:124", after := #[{ on := 21, ground := Go.Ground.data }], guard := none },
  { dst := some 169, op := Go.Op.extract (Go.Operand.tmp 146) 1, type := 27, pos := "law.go:124", after := #[{ on := 21, ground := Go.Ground.data }, { on := 25, ground := Go.Ground.gcOnly Go.Departure.lateStores }], guard := none },
  { dst := some 170, op := Go.Op.extract (Go.Operand.tmp 146) 2, type := 28, pos := "law.go:124", after := #[{ on := 21, ground := Go.Ground.data }, { on := 26, ground := Go.Ground.gcOnly Go.Departure.lateStores }], guard := none },
  { dst := none, op := Go.Op.store 24 (Go.Operand.tmp 12) (Go.Operand.tmp 168), type := 0, pos := "law.go:124", after := #[{ on := 22, ground := Go.Ground.data }, { on := 20, ground := Go.Ground.chain }, { on := 0, ground := Go.Ground.phase }, { on := 1, ground := Go.Ground.phase }, { on := 2, ground := Go.Ground.phase }, { on := 3, ground := Go.Ground.phase }, { on := 4, ground := Go.Ground.phase }, { on := 5, ground := Go.Ground.phase }, { on := 6, ground := Go.Ground.phase }, { on := 7, ground := Go.Ground.phase }, { on := 8, ground := Go.Ground.phase }, { on := 9, ground := Go.Ground.phase }, { on := 10, ground := Go.Ground.phase }, { on := 11, ground := Go.Ground.phase }, { on := 12, ground := Go.Ground.phase }, { on := 13, ground := Go.Ground.phase }, { on := 14, ground := Go.Ground.phase }, { on := 15, ground := Go.Ground.phase }, { on := 16, ground := Go.Ground.phase }, { on := 17, ground := Go.Ground.phase }, { on := 18, ground := Go.Ground.phase }, { on := 19, ground := Go.Ground.phase }, { on := 20, ground := Go.Ground.phase }, { on := 21, ground := Go.Ground.phase }, { on := 22, ground := Go.Ground.phase }, { on := 23, ground := Go.Ground.textOnly Go.Departure.lateStores }, { on := 24, ground := Go.Ground.textOnly Go.Departure.lateStores }], guard := none },
  { dst := some 13, op := Go.Op.assign (Go.Operand.tmp 169), type := 27, pos := "law.go:124", after := #[{ on := 23, ground := Go.Ground.data }, { on := 25, ground := Go.Ground.chain }, { on := 0, ground := Go.Ground.phase }, { on := 1, ground := Go.Ground.phase }, { on := 2, ground := Go.Ground.phase }, { on := 3, ground := Go.Ground.phase }, { on := 4, ground := Go.Ground.phase }, { on := 5, ground := Go.Ground.phase }, { on := 6, ground := Go.Ground.phase }, { on := 7, ground := Go.Ground.phase }, { on := 8, ground := Go.Ground.phase }, { on := 9, ground := Go.Ground.phase }, { on := 10, ground := Go.Ground.phase }, { on := 11, ground := Go.Ground.phase }, { on := 12, ground := Go.Ground.phase }, { on := 13, ground := Go.Ground.phase }, { on := 14, ground := Go.Ground.phase }, { on := 15, ground := Go.Ground.phase }, { on := 16, ground := Go.Ground.phase }, { on := 17, ground := Go.Ground.phase }, { on := 18, ground := Go.Ground.phase }, { on := 19, ground := Go.Ground.phase }, { on := 20, ground := Go.Ground.phase }, { on := 21, ground := Go.Ground.phase }, { on := 22, ground := Go.Ground.phase }, { on := 23, ground := Go.Ground.phase }, { on := 24, ground := Go.Ground.textOnly Go.Departure.lateStores }, { on := 25, ground := Go.Ground.phase }], guard := none },
  { dst := some 14, op := Go.Op.assign (Go.Operand.tmp 170), type := 28, pos := "law.go:124", after := #[{ on := 24, ground := Go.Ground.data }, { on := 26, ground := Go.Ground.chain }, { on := 0, ground := Go.Ground.phase }, { on := 1, ground := Go.Ground.phase }, { on := 2, ground := Go.Ground.phase }, { on := 3, ground := Go.Ground.phase }, { on := 4, ground := Go.Ground.phase }, { on := 5, ground := Go.Ground.phase }, { on := 6, ground := Go.Ground.phase }, { on := 7, ground := Go.Ground.phase }, { on := 8, ground := Go.Ground.phase }, { on := 9, ground := Go.Ground.phase }, { on := 10, ground := Go.Ground.phase }, { on := 11, ground := Go.Ground.phase }, { on := 12, ground := Go.Ground.phase }, { on := 13, ground := Go.Ground.phase }, { on := 14, ground := Go.Ground.phase }, { on := 15, ground := Go.Ground.phase }, { on := 16, ground := Go.Ground.phase }, { on := 17, ground := Go.Ground.phase }, { on := 18, ground := Go.Ground.phase }, { on := 19, ground := Go.Ground.phase }, { on := 20, ground := Go.Ground.phase }, { on := 21, ground := Go.Ground.phase }, { on := 22, ground := Go.Ground.phase }, { on := 23, ground := Go.Ground.phase }, { on := 24, ground := Go.Ground.phase }, { on := 25, ground := Go.Ground.phase }, { on := 26, ground := Go.Ground.phase }], guard := none }]
set_option maxHeartbeats 16000000 in
set_option maxRecDepth 100000 in
theorem mn27_region {Q : Exit → Act → World → Prop} {a0 : Act} {W : World} (hsz : headOK mn27Ops 20 a0.tmps.size = true) {g : Nat} {a1 : Option Addr} {len1 cap1 : Nat} {m : Int} {X i bd od pl pc : Nat} {z4 z5 : Int} {l4 l5 : UInt8}
    (hg : g < W.heap.size) (hg0 : W.cell? ⟨g, 0, none⟩ = some (.slice a1 len1 cap1)) (hg1 : W.cell? ⟨g, 1, none⟩ = some (.int .i64 m)) (hbd : bd < W.heap.size) (hi : i < pl) (hi64 : (i : Int) + 1 ≤ 9223372036854775807)
    (hz4 : W.cell? ⟨bd, od + i * 6 + 4, none⟩ = some (.int .u8 z4)) (hp4 : 0 ≤ z4) (hq4 : z4 ≤ 255) (hl4 : Hid (97 + z4 % 3 = (l4.toNat : Int)))
    (hz5 : W.cell? ⟨bd, od + i * 6 + 5, none⟩ = some (.int .u8 z5)) (hp5 : 0 ≤ z5) (hq5 : z5 ≤ 255) (hl5 : Hid (48 + z5 % 4 = (l5.toNat : Int)))
    (h1 : a0.tmps[1]? = some (.slice (some ⟨bd, od, none⟩) pl pc))
    (h5 : a0.tmps[5]? = some (.pointer (some ⟨g, 0, none⟩)))
    (h7 : a0.tmps[7]? = some (.int .i64 i))
    (h8 : a0.tmps[8]? = some (.int .i64 X))
    (hQ : ∀ (v : Nat → Value) w', Below W.heap.size W w' → wpAny Tryz.prog .any mn27Ops.toArray Q 8 (headL 20 28) ⟨(puts a0.tmps.toList [(some 147, forV a1 len1 cap1 m), (some 148, .int .i64 X), (some 149, .slice (some ⟨bd, od, none⟩) pl pc), (some 150, .int .i64 i), (some 151, .pointer (some ⟨bd, od + i * 6, none⟩)), (some 152, .pointer (some ⟨bd, od + i * 6 + 4, none⟩)), (some 153, .int .u8 z4), (some 154, .int .u8 (z4 % 3)), (some 155, .int .u8 (97 + z4 % 3)), (some 156, v 9), (some 157, .string (ofL [l4])), (some 158, .slice (some ⟨bd, od, none⟩) pl pc), (some 159, .int .i64 i), (some 160, .pointer (some ⟨bd, od + i * 6, none⟩)), (some 161, .pointer (some ⟨bd, od + i * 6 + 5, none⟩)), (some 162, .int .u8 z5), (some 163, .int .u8 (z5 % 4)), (some 164, .int .u8 (48 + z5 % 4)), (some 165, v 18), (some 166, .string (ofL [l5]))]).toArray, a0.defers⟩ w') :
    (Code.region 27 mn27Ops.toArray true).wp Tryz.prog Q a0 W := by
  refine wp_region_head 20 [isV (forV a1 len1 cap1 m), isV (.int .i64 X), isV (.slice (some ⟨bd, od, none⟩) pl pc), isV (.int .i64 i), isV (.pointer (some ⟨bd, od + i * 6, none⟩)), isV (.pointer (some ⟨bd, od + i * 6 + 4, none⟩)), isV (.int .u8 z4), isV (.int .u8 (z4 % 3)), isV (.int .u8 (97 + z4 % 3)), byteF (97 + z4 % 3), isV (.string (ofL [l4])), isV (.slice (some ⟨bd, od, none⟩) pl pc), isV (.int .i64 i), isV (.pointer (some ⟨bd, od + i * 6, none⟩)), isV (.pointer (some ⟨bd, od + i * 6 + 5, none⟩)), isV (.int .u8 z5), isV (.int .u8 (z5 % 4)), isV (.int .u8 (48 + z5 % 4)), byteF (48 + z5 % 4), isV (.string (ofL [l5]))] (by kernel_rfl) hsz rfl (.cons ?_ (.cons ?_ (.cons ?_ (.cons ?_ (.cons ?_ (.cons ?_ (.cons ?_ (.cons ?_ (.cons ?_ (.cons ?_ (.cons ?_ (.cons ?_ (.cons ?_ (.cons ?_ (.cons ?_ (.cons ?_ (.cons ?_ (.cons ?_ (.cons ?_ (.cons ?_ .nil)))))))))))))))))))) ?_
  · intro a w v K h hK
    rw [if_pos (wanted_none rfl)]
    have e5 := h.out (t := 5) (by kernel_rfl) h5
    have c0 := (h.below.cell (p := ⟨g, 0, none⟩) hg).trans hg0
    have c1 := (h.below.cell (p := ⟨g, 1, none⟩) hg).trans hg1
    have hK := Lib.hid hK; clear h
    go_simp
    exact hK.out _ _ rfl (Below.refl _ _)
  · intro a w v K h hK
    rw [if_pos (wanted_none rfl)]
    have e8 := h.out (t := 8) (by kernel_rfl) h8
    have hK := Lib.hid hK; clear h
    go_simp
    exact hK.out _ _ rfl (Below.refl _ _)
  · intro a w v K h hK
    rw [if_pos (wanted_none rfl)]
    have e1 := h.out (t := 1) (by kernel_rfl) h1
    have hK := Lib.hid hK; clear h
    go_simp
    exact hK.out _ _ rfl (Below.refl _ _)
  · intro a w v K h hK
    rw [if_pos (wanted_none rfl)]
    have e7 := h.out (t := 7) (by kernel_rfl) h7
    have hK := Lib.hid hK; clear h
    go_simp
    exact hK.out _ _ rfl (Below.refl _ _)
  · intro a w v K h hK
    rw [if_pos (wanted_none rfl)]
    have e149 := h.at_ (j := 2) (d := 149) (by decide) (by kernel_rfl) rfl rfl
    have e150 := h.at_ (j := 3) (d := 150) (by decide) (by kernel_rfl) rfl rfl
    have hK := Lib.hid hK; clear h
    go_simp
    exact hK.out _ _ rfl (Below.refl _ _)
  · intro a w v K h hK
    rw [if_pos (wanted_none rfl)]
    have e151 := h.at_ (j := 4) (d := 151) (by decide) (by kernel_rfl) rfl rfl
    have hK := Lib.hid hK; clear h
    go_simp
    exact hK.out _ _ rfl (Below.refl _ _)
  · intro a w v K h hK
    rw [if_pos (wanted_none rfl)]
    have e152 := h.at_ (j := 5) (d := 152) (by decide) (by kernel_rfl) rfl rfl
    have c0 := (h.below.cell (p := ⟨bd, od + i * 6 + 4, none⟩) hbd).trans hz4
    have hK := Lib.hid hK; clear h
    go_simp
    exact hK.out _ _ rfl (Below.refl _ _)
  · intro a w v K h hK
    rw [if_pos (wanted_none rfl)]
    have e153 := h.at_ (j := 6) (d := 153) (by decide) (by kernel_rfl) rfl rfl
    have e9 : z4.tmod 3 = z4 % 3 := Int.tmod_eq_emod_of_nonneg hp4
    have hK := Lib.hid hK; clear h
    go_simp
    exact hK.out _ _ rfl (Below.refl _ _)
  · intro a w v K h hK
    rw [if_pos (wanted_none rfl)]
    have e154 := h.at_ (j := 7) (d := 154) (by decide) (by kernel_rfl) rfl rfl
    have e9 : IntKind.u8.wrap (97 + z4 % 3) = 97 + z4 % 3 := u8_in7 (by omega) (by omega)
    have hK := Lib.hid hK; clear h
    go_simp
    exact hK.out _ _ rfl (Below.refl _ _)
  · intro a w v K h hK
    rw [if_pos (wanted_none rfl)]
    have e155 := h.at_ (j := 8) (d := 155) (by decide) (by kernel_rfl) rfl rfl
    have hK := Lib.hid hK; clear h
    go_simp
    exact hK.out _ _ (byteF_new _ _) (below_box _ _)
  · intro a w v K h hK
    rw [if_pos (wanted_none rfl)]
    obtain ⟨u156, e156, r156⟩ := h.with (j := 9) (d := 156) (by decide) (by kernel_rfl) rfl rfl
    obtain ⟨bz, rfl, hbz, hcz⟩ := r156
    have e9 := one_at6 l4 _ hl4.out _ _ hcz
    have hK := Lib.hid hK; clear h
    go_simp
    exact hK.out _ _ rfl (Below.refl _ _)
  · intro a w v K h hK
    rw [if_pos (wanted_none rfl)]
    have e1 := h.out (t := 1) (by kernel_rfl) h1
    have hK := Lib.hid hK; clear h
    go_simp
    exact hK.out _ _ rfl (Below.refl _ _)
  · intro a w v K h hK
    rw [if_pos (wanted_none rfl)]
    have e7 := h.out (t := 7) (by kernel_rfl) h7
    have hK := Lib.hid hK; clear h
    go_simp
    exact hK.out _ _ rfl (Below.refl _ _)
  · intro a w v K h hK
    rw [if_pos (wanted_none rfl)]
    have e158 := h.at_ (j := 11) (d := 158) (by decide) (by kernel_rfl) rfl rfl
    have e159 := h.at_ (j := 12) (d := 159) (by decide) (by kernel_rfl) rfl rfl
    have hK := Lib.hid hK; clear h
    go_simp
    exact hK.out _ _ rfl (Below.refl _ _)
  · intro a w v K h hK
    rw [if_pos (wanted_none rfl)]
    have e160 := h.at_ (j := 13) (d := 160) (by decide) (by kernel_rfl) rfl rfl
    have hK := Lib.hid hK; clear h
    go_simp
    exact hK.out _ _ rfl (Below.refl _ _)
  · intro a w v K h hK
    rw [if_pos (wanted_none rfl)]
    have e161 := h.at_ (j := 14) (d := 161) (by decide) (by kernel_rfl) rfl rfl
    have c0 := (h.below.cell (p := ⟨bd, od + i * 6 + 5, none⟩) hbd).trans hz5
    have hK := Lib.hid hK; clear h
    go_simp
    exact hK.out _ _ rfl (Below.refl _ _)
  · intro a w v K h hK
    rw [if_pos (wanted_none rfl)]
    have e162 := h.at_ (j := 15) (d := 162) (by decide) (by kernel_rfl) rfl rfl
    have e9 : z5.tmod 4 = z5 % 4 := Int.tmod_eq_emod_of_nonneg hp5
    have hK := Lib.hid hK; clear h
    go_simp
    exact hK.out _ _ rfl (Below.refl _ _)
  · intro a w v K h hK
    rw [if_pos (wanted_none rfl)]
    have e163 := h.at_ (j := 16) (d := 163) (by decide) (by kernel_rfl) rfl rfl
    have e9 : IntKind.u8.wrap (48 + z5 % 4) = 48 + z5 % 4 := u8_in7 (by omega) (by omega)
    have hK := Lib.hid hK; clear h
    go_simp
    exact hK.out _ _ rfl (Below.refl _ _)
  · intro a w v K h hK
    rw [if_pos (wanted_none rfl)]
    have e164 := h.at_ (j := 17) (d := 164) (by decide) (by kernel_rfl) rfl rfl
    have hK := Lib.hid hK; clear h
    go_simp
    exact hK.out _ _ (byteF_new _ _) (below_box _ _)
  · intro a w v K h hK
    rw [if_pos (wanted_none rfl)]
    obtain ⟨u165, e165, r165⟩ := h.with (j := 18) (d := 165) (by decide) (by kernel_rfl) rfl rfl
    obtain ⟨bz, rfl, hbz, hcz⟩ := r165
    have e9 := one_at6 l5 _ hl5.out _ _ hcz
    have hK := Lib.hid hK; clear h
    go_simp
    exact hK.out _ _ rfl (Below.refl _ _)
  · intro v w' hb hf
    have e0 : v 0 = forV a1 len1 cap1 m := hf 0 (by decide) _ rfl
    have e1 : v 1 = .int .i64 X := hf 1 (by decide) _ rfl
    have e2 : v 2 = .slice (some ⟨bd, od, none⟩) pl pc := hf 2 (by decide) _ rfl
    have e3 : v 3 = .int .i64 i := hf 3 (by decide) _ rfl
    have e4 : v 4 = .pointer (some ⟨bd, od + i * 6, none⟩) := hf 4 (by decide) _ rfl
    have e5 : v 5 = .pointer (some ⟨bd, od + i * 6 + 4, none⟩) := hf 5 (by decide) _ rfl
    have e6 : v 6 = .int .u8 z4 := hf 6 (by decide) _ rfl
    have e7 : v 7 = .int .u8 (z4 % 3) := hf 7 (by decide) _ rfl
    have e8 : v 8 = .int .u8 (97 + z4 % 3) := hf 8 (by decide) _ rfl
    have e10 : v 10 = .string (ofL [l4]) := hf 10 (by decide) _ rfl
    have e11 : v 11 = .slice (some ⟨bd, od, none⟩) pl pc := hf 11 (by decide) _ rfl
    have e12 : v 12 = .int .i64 i := hf 12 (by decide) _ rfl
    have e13 : v 13 = .pointer (some ⟨bd, od + i * 6, none⟩) := hf 13 (by decide) _ rfl
    have e14 : v 14 = .pointer (some ⟨bd, od + i * 6 + 5, none⟩) := hf 14 (by decide) _ rfl
    have e15 : v 15 = .int .u8 z5 := hf 15 (by decide) _ rfl
    have e16 : v 16 = .int .u8 (z5 % 4) := hf 16 (by decide) _ rfl
    have e17 : v 17 = .int .u8 (48 + z5 % 4) := hf 17 (by decide) _ rfl
    have e19 : v 19 = .string (ofL [l5]) := hf 19 (by decide) _ rfl
    show wpAny Tryz.prog .any mn27Ops.toArray Q 8 (headL 20 28) ⟨(puts a0.tmps.toList [(some 147, v 0), (some 148, v 1), (some 149, v 2), (some 150, v 3), (some 151, v 4), (some 152, v 5), (some 153, v 6), (some 154, v 7), (some 155, v 8), (some 156, v 9), (some 157, v 10), (some 158, v 11), (some 159, v 12), (some 160, v 13), (some 161, v 14), (some 162, v 15), (some 163, v 16), (some 164, v 17), (some 165, v 18), (some 166, v 19)]).toArray, a0.defers⟩ w'
    rw [e0, e1, e2, e3, e4, e5, e6, e7, e8, e10, e11, e12, e13, e14, e15, e16, e17, e19]
    exact hQ v w' hb
def mn19Ops : List Oper := [
  { dst := some 98, op := Go.Op.load 24 (Go.Operand.tmp 5), type := 24, pos := "law.go:126", after := #[], guard := none },
  { dst := some 99, op := Go.Op.move (Go.Operand.tmp 8), type := 3, pos := "law.go:126", after := #[], guard := none },
  { dst := some 100, op := Go.Op.move (Go.Operand.tmp 1), type := 40, pos := "law.go:126", after := #[], guard := none },
  { dst := some 101, op := Go.Op.move (Go.Operand.tmp 7), type := 3, pos := "law.go:126", after := #[], guard := none },
  { dst := some 102, op := Go.Op.indexAddr 40 (Go.Operand.tmp 100) (Go.Operand.tmp 101), type := 0, pos := "law.go:126", after := #[{ on := 2, ground := Go.Ground.data }, { on := 3, ground := Go.Ground.data }], guard := none },
  { dst := some 103, op := Go.Op.fieldAddr 42 (Go.Operand.tmp 102) 4, type := 0, pos := "law.go:126", after := #[{ on := 4, ground := Go.Ground.data }], guard := none },
  { dst := some 104, op := Go.Op.load 5 (Go.Operand.tmp 103), type := 5, pos := "law.go:126", after := #[{ on := 5, ground := Go.Ground.data }], guard := none },
  { dst := some 105, op := Go.Op.binOp Go.BinOp.rem 5 (Go.Operand.tmp 104) (Go.Operand.const (Go.Value.int Go.IntKind.u8 3)) 5, type := 5, pos := "law.go:126", after := #[{ on := 6, ground := Go.Ground.data }], guard := none },
  { dst := some 106, op := Go.Op.binOp Go.BinOp.add 5 (Go.Operand.const (Go.Value.int Go.IntKind.u8 97)) (Go.Operand.tmp 105) 5, type := 5, pos := "law.go:126", after := #[{ on := 7, ground := Go.Ground.data }], guard := none },
  { dst := some 107, op := Go.Op.buildSlice 48 1 #[(0, Go.Operand.tmp 106)], type := 48, pos := "law.go:126", after := #[{ on := 8, ground := Go.Ground.data }], guard := none },
  { dst := some 108, op := Go.Op.convert 48 9 (Go.Operand.tmp 107), type := 9, pos := "law.go:126", after := #[{ on := 9, ground := Go.Ground.data }], guard := none },
  { dst := some 109, op := Go.Op.call { callee := Go.Callee.value (Go.Operand.func 22), args := #[Go.Operand.tmp 98, Go.Operand.tmp 99, Go.Operand.tmp 108], argTypes := #[24, 3, 9] }, type := 29, pos := "law.go:126", after := #[{ on := 0, ground := Go.Ground.data }, { on := 1, ground := Go.Ground.data }, { on := 10, ground := Go.Ground.data }], guard := none },
  { dst := some 97, op := Go.Op.move (Go.Operand.tmp 109), type := 29, pos := "law.go:126", after := #[{ on := 11, ground := Go.Ground.data }], guard := none },
  { dst := some 110, op := Go.Op.extract (Go.Operand.tmp 97) 0, type := 24, pos := "law.go:126", after := #[{ on := 12, ground := Go.Ground.data }], guard := none },
  { dst := some 111, op := Go.Op.extract (Go.Operand.tmp 97) 1, type := 27, pos := "law.go:126", after := #[{ on := 12, ground := Go.Ground.data }, { on := 16, ground := Go.Ground.gcOnly Go.Departure.lateStores }], guard := none },
  { dst := some 112, op := Go.Op.extract (Go.Operand.tmp 97) 2, type := 28, pos := "law.go:126", after := #[{ on := 12, ground := Go.Ground.data }, { on := 17, ground := Go.Ground.gcOnly Go.Departure.lateStores }], guard := none },
  { dst := none, op := Go.Op.store 24 (Go.Operand.tmp 12) (Go.Operand.tmp 110), type := 0, pos := "law.go:126", after := #[{ on := 13, ground := Go.Ground.data }, { on := 11, ground := Go.Ground.chain }, { on := 0, ground := Go.Ground.phase }, { on := 1, ground := Go.Ground.phase }, { on := 2, ground := Go.Ground.phase }, { on := 3, ground := Go.Ground.phase }, { on := 4, ground := Go.Ground.phase }, { on := 5, ground := Go.Ground.phase }, { on := 6, ground := Go.Ground.phase }, { on := 7, ground := Go.Ground.phase }, { on := 8, ground := Go.Ground.phase }, { on := 9, ground := Go.Ground.phase }, { on := 10, ground := Go.Ground.phase }, { on := 11, ground := Go.Ground.phase }, { on := 12, ground := Go.Ground.phase }, { on := 13, ground := Go.Ground.phase }, { on := 14, ground := Go.Ground.textOnly Go.Departure.lateStores }, { on := 15, ground := Go.Ground.textOnly Go.Departure.lateStores }], guard := none },
  { dst := some 13, op := Go.Op.assign (Go.Operand.tmp 111), type := 27, pos := "law.go:126", after := #[{ on := 14, ground := Go.Ground.data }, { on := 16, ground := Go.Ground.chain }, { on := 0, ground := Go.Ground.phase }, { on := 1, ground := Go.Ground.phase }, { on := 2, ground := Go.Ground.phase }, { on := 3, ground := Go.Ground.phase }, { on := 4, ground := Go.Ground.phase }, { on := 5, ground := Go.Ground.phase }, { on := 6, ground := Go.Ground.phase }, { on := 7, ground := Go.Ground.phase }, { on := 8, ground := Go.Ground.phase }, { on := 9, ground := Go.Ground.phase }, { on := 10, ground := Go.Ground.phase }, { on := 11, ground := Go.Ground.phase }, { on := 12, ground := Go.Ground.phase }, { on := 13, ground := Go.Ground.phase }, { on := 14, ground := Go.Ground.phase }, { on := 15, ground := Go.Ground.textOnly Go.Departure.lateStores }, { on := 16, ground := Go.Ground.phase }], guard := none },
  { dst := some 14, op := Go.Op.assign (Go.Operand.tmp 112), type := 28, pos := "law.go:126", after := #[{ on := 15, ground := Go.Ground.data }, { on := 17, ground := Go.Ground.chain }, { on := 0, ground := Go.Ground.phase }, { on := 1, ground := Go.Ground.phase }, { on := 2, ground := Go.Ground.phase }, { on := 3, ground := Go.Ground.phase }, { on := 4, ground := Go.Ground.phase }, { on := 5, ground := Go.Ground.phase }, { on := 6, ground := Go.Ground.phase }, { on := 7, ground := Go.Ground.phase }, { on := 8, ground := Go.Ground.phase }, { on := 9, ground := Go.Ground.phase }, { on := 10, ground := Go.Ground.phase }, { on := 11, ground := Go.Ground.phase }, { on := 12, ground := Go.Ground.phase }, { on := 13, ground := Go.Ground.phase }, { on := 14, ground := Go.Ground.phase }, { on := 15, ground := Go.Ground.phase }, { on := 16, ground := Go.Ground.phase }, { on := 17, ground := Go.Ground.phase }], guard := none }]
set_option maxHeartbeats 16000000 in
set_option maxRecDepth 100000 in
theorem mn19_region {Q : Exit → Act → World → Prop} {a0 : Act} {W : World} (hsz : headOK mn19Ops 11 a0.tmps.size = true) {g : Nat} {a1 : Option Addr} {len1 cap1 : Nat} {m : Int} {X i bd od pl pc : Nat} {z4 : Int} {l4 : UInt8}
    (hg : g < W.heap.size) (hg0 : W.cell? ⟨g, 0, none⟩ = some (.slice a1 len1 cap1)) (hg1 : W.cell? ⟨g, 1, none⟩ = some (.int .i64 m)) (hbd : bd < W.heap.size) (hi : i < pl) (hi64 : (i : Int) + 1 ≤ 9223372036854775807)
    (hz4 : W.cell? ⟨bd, od + i * 6 + 4, none⟩ = some (.int .u8 z4)) (hp4 : 0 ≤ z4) (hq4 : z4 ≤ 255) (hl4 : Hid (97 + z4 % 3 = (l4.toNat : Int)))
    (h1 : a0.tmps[1]? = some (.slice (some ⟨bd, od, none⟩) pl pc))
    (h5 : a0.tmps[5]? = some (.pointer (some ⟨g, 0, none⟩)))
    (h7 : a0.tmps[7]? = some (.int .i64 i))
    (h8 : a0.tmps[8]? = some (.int .i64 X))
    (hQ : ∀ (v : Nat → Value) w', Below W.heap.size W w' → wpAny Tryz.prog .any mn19Ops.toArray Q 8 (headL 11 19) ⟨(puts a0.tmps.toList [(some 98, forV a1 len1 cap1 m), (some 99, .int .i64 X), (some 100, .slice (some ⟨bd, od, none⟩) pl pc), (some 101, .int .i64 i), (some 102, .pointer (some ⟨bd, od + i * 6, none⟩)), (some 103, .pointer (some ⟨bd, od + i * 6 + 4, none⟩)), (some 104, .int .u8 z4), (some 105, .int .u8 (z4 % 3)), (some 106, .int .u8 (97 + z4 % 3)), (some 107, v 9), (some 108, .string (ofL [l4]))]).toArray, a0.defers⟩ w') :
    (Code.region 19 mn19Ops.toArray true).wp Tryz.prog Q a0 W := by
  refine wp_region_head 11 [isV (forV a1 len1 cap1 m), isV (.int .i64 X), isV (.slice (some ⟨bd, od, none⟩) pl pc), isV (.int .i64 i), isV (.pointer (some ⟨bd, od + i * 6, none⟩)), isV (.pointer (some ⟨bd, od + i * 6 + 4, none⟩)), isV (.int .u8 z4), isV (.int .u8 (z4 % 3)), isV (.int .u8 (97 + z4 % 3)), byteF (97 + z4 % 3), isV (.string (ofL [l4]))] (by kernel_rfl) hsz rfl (.cons ?_ (.cons ?_ (.cons ?_ (.cons ?_ (.cons ?_ (.cons ?_ (.cons ?_ (.cons ?_ (.cons ?_ (.cons ?_ (.cons ?_ .nil))))))))))) ?_
  · intro a w v K h hK
    rw [if_pos (wanted_none rfl)]
    have e5 := h.out (t := 5) (by kernel_rfl) h5
    have c0 := (h.below.cell (p := ⟨g, 0, none⟩) hg).trans hg0
    have c1 := (h.below.cell (p := ⟨g, 1, none⟩) hg).trans hg1
    have hK := Lib.hid hK; clear h
    go_simp
    exact hK.out _ _ rfl (Below.refl _ _)
  · intro a w v K h hK
    rw [if_pos (wanted_none rfl)]
    have e8 := h.out (t := 8) (by kernel_rfl) h8
    have hK := Lib.hid hK; clear h
    go_simp
    exact hK.out _ _ rfl (Below.refl _ _)
  · intro a w v K h hK
    rw [if_pos (wanted_none rfl)]
    have e1 := h.out (t := 1) (by kernel_rfl) h1
    have hK := Lib.hid hK; clear h
    go_simp
    exact hK.out _ _ rfl (Below.refl _ _)
  · intro a w v K h hK
    rw [if_pos (wanted_none rfl)]
    have e7 := h.out (t := 7) (by kernel_rfl) h7
    have hK := Lib.hid hK; clear h
    go_simp
    exact hK.out _ _ rfl (Below.refl _ _)
  · intro a w v K h hK
    rw [if_pos (wanted_none rfl)]
    have e100 := h.at_ (j := 2) (d := 100) (by decide) (by kernel_rfl) rfl rfl
    have e101 := h.at_ (j := 3) (d := 101) (by decide) (by kernel_rfl) rfl rfl
    have hK := Lib.hid hK; clear h
    go_simp
    exact hK.out _ _ rfl (Below.refl _ _)
  · intro a w v K h hK
    rw [if_pos (wanted_none rfl)]
    have e102 := h.at_ (j := 4) (d := 102) (by decide) (by kernel_rfl) rfl rfl
    have hK := Lib.hid hK; clear h
    go_simp
    exact hK.out _ _ rfl (Below.refl _ _)
  · intro a w v K h hK
    rw [if_pos (wanted_none rfl)]
    have e103 := h.at_ (j := 5) (d := 103) (by decide) (by kernel_rfl) rfl rfl
    have c0 := (h.below.cell (p := ⟨bd, od + i * 6 + 4, none⟩) hbd).trans hz4
    have hK := Lib.hid hK; clear h
    go_simp
    exact hK.out _ _ rfl (Below.refl _ _)
  · intro a w v K h hK
    rw [if_pos (wanted_none rfl)]
    have e104 := h.at_ (j := 6) (d := 104) (by decide) (by kernel_rfl) rfl rfl
    have e9 : z4.tmod 3 = z4 % 3 := Int.tmod_eq_emod_of_nonneg hp4
    have hK := Lib.hid hK; clear h
    go_simp
    exact hK.out _ _ rfl (Below.refl _ _)
  · intro a w v K h hK
    rw [if_pos (wanted_none rfl)]
    have e105 := h.at_ (j := 7) (d := 105) (by decide) (by kernel_rfl) rfl rfl
    have e9 : IntKind.u8.wrap (97 + z4 % 3) = 97 + z4 % 3 := u8_in7 (by omega) (by omega)
    have hK := Lib.hid hK; clear h
    go_simp
    exact hK.out _ _ rfl (Below.refl _ _)
  · intro a w v K h hK
    rw [if_pos (wanted_none rfl)]
    have e106 := h.at_ (j := 8) (d := 106) (by decide) (by kernel_rfl) rfl rfl
    have hK := Lib.hid hK; clear h
    go_simp
    exact hK.out _ _ (byteF_new _ _) (below_box _ _)
  · intro a w v K h hK
    rw [if_pos (wanted_none rfl)]
    obtain ⟨u107, e107, r107⟩ := h.with (j := 9) (d := 107) (by decide) (by kernel_rfl) rfl rfl
    obtain ⟨bz, rfl, hbz, hcz⟩ := r107
    have e9 := one_at6 l4 _ hl4.out _ _ hcz
    have hK := Lib.hid hK; clear h
    go_simp
    exact hK.out _ _ rfl (Below.refl _ _)
  · intro v w' hb hf
    have e0 : v 0 = forV a1 len1 cap1 m := hf 0 (by decide) _ rfl
    have e1 : v 1 = .int .i64 X := hf 1 (by decide) _ rfl
    have e2 : v 2 = .slice (some ⟨bd, od, none⟩) pl pc := hf 2 (by decide) _ rfl
    have e3 : v 3 = .int .i64 i := hf 3 (by decide) _ rfl
    have e4 : v 4 = .pointer (some ⟨bd, od + i * 6, none⟩) := hf 4 (by decide) _ rfl
    have e5 : v 5 = .pointer (some ⟨bd, od + i * 6 + 4, none⟩) := hf 5 (by decide) _ rfl
    have e6 : v 6 = .int .u8 z4 := hf 6 (by decide) _ rfl
    have e7 : v 7 = .int .u8 (z4 % 3) := hf 7 (by decide) _ rfl
    have e8 : v 8 = .int .u8 (97 + z4 % 3) := hf 8 (by decide) _ rfl
    have e10 : v 10 = .string (ofL [l4]) := hf 10 (by decide) _ rfl
    show wpAny Tryz.prog .any mn19Ops.toArray Q 8 (headL 11 19) ⟨(puts a0.tmps.toList [(some 98, v 0), (some 99, v 1), (some 100, v 2), (some 101, v 3), (some 102, v 4), (some 103, v 5), (some 104, v 6), (some 105, v 7), (some 106, v 8), (some 107, v 9), (some 108, v 10)]).toArray, a0.defers⟩ w'
    rw [e0, e1, e2, e3, e4, e5, e6, e7, e8, e10]
    exact hQ v w' hb
end Go.Proofs.YtclledmgiliggaaGreatDoor
