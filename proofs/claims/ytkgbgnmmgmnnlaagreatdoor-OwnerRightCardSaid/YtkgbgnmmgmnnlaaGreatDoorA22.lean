/- Texts joined in build order: ReadMath MoveMath2 MoveParts OwnerNamedMath Ref4Ask RefCustom. -/
import Derived.Test.YtkgbgnmmgmnnlaaGreatDoorA21
import Derived.Test.YtkgbgnmmgmnnlaaGreatDoorA13
import Derived.Lib.IndexAny
import Derived.Lib.Strings
import Derived.Test.YtkgbgnmmgmnnlaaGreatDoorA16
import Derived.Test.YtkgbgnmmgmnnlaaGreatDoorA17
import Derived.Test.YtkgbgnmmgmnnlaaGreatDoorA20
import Derived.Test.YtkgbgnmmgmnnlaaGreatDoorA12
import Derived.Test.YtkgbgnmmgmnnlaaGreatDoorA14
import Derived.Test.YtkgbgnmmgmnnlaaGreatDoorA08
import Derived.Test.YtkgbgnmmgmnnlaaGreatDoorA02
namespace Go.Proofs.YtkgbgnmmgmnnlaaGreatDoor
open Go.RowKit
abbrev BL := List UInt8
def strB (l : BL) : ByteArray := ⟨l.toArray⟩
theorem strB_data (l : BL) : (strB l).data.toList = l := rfl
theorem strB_size (l : BL) : (strB l).size = l.length := Lib.size_eq _
def skipM (l p : BL) : Option BL := if p.isPrefixOf l then some (l.drop p.length) else none
def okM (l : BL) : Bool := decide (l.length ≤ 100000) && l.all (fun b => decide (b.toNat < 128))
def endM (l : BL) : Nat := (Lib.indexAny l [33, 32, 61, 62]).toNat
def qM : BL → BL → Option (BL × BL)
  | _, [] => none
  | acc, b :: r => if b = 34 then some (acc, r) else if b = 92 then (match r with | [] => none | c :: r2 => if c = 34 ∨ c = 92 then qM (acc ++ [c]) r2 else none) else qM (acc ++ [b]) r
def quoM (l : BL) : Option (BL × BL) := if l.length ≤ 100000 then (match skipM l [34] with | some r => qM [] r | none => none) else none
def wordM (l : BL) : Option (BL × BL) := if okM l then some (l.take (endM l), l.drop (endM l)) else none
def attrM (l : BL) : Option ((ByteArray × ByteArray) × BL) :=
  match wordM l with
  | none => none
  | some (n, l1) => match skipM l1 [61] with
    | none => none
    | some l2 => match quoM l2 with
      | none => none
      | some (v, l3) => some ((strB n, strB v), l3)
def attrsM : Nat → BL → AL → Option (AL × BL)
  | 0, _, _ => none
  | k + 1, l, acc => match skipM l [32] with
    | none => some (acc, l)
    | some l1 => match attrM l1 with
      | none => none
      | some (a, l2) => if acc.length < 1000 then attrsM k l2 (acc ++ [a]) else none
def isM (l : BL) : Option (BL × BL) :=
  match skipM l [33] with
  | none => some ([], l)
  | some l1 => match wordM l1 with
    | none => none
    | some (s, l2) => if s = [] then none else some (s, l2)
abbrev nodeC (kind : Int) (name is data : BL) (attrs : AL) (doc : Int) : Core := ⟨kind, strB name, strB is, strB data, attrs, 0, [], 0, 0, doc⟩
def headM (doc : Int) (l : BL) : Option (BL × Core × BL) :=
  match wordM l with
  | none => none
  | some (n, l1) => match isM l1 with
    | none => none
    | some (s, l2) => match attrsM (l2.length + 1) l2 [] with
      | none => none
      | some (a, l3) => match skipM l3 [62] with
        | none => none
        | some l4 => if n.length ≤ 1000 then some (n, nodeC 1 n s [] a doc, l4) else none
def addM (F : List Core) (c : Core) : Option (List Core) := if F.length < 1000 then some (F ++ [aloneC c F.length]) else none
def hangM (F : List Core) (host sh : Nat) : List Core := (F.modify host (fun c => ⟨c.kind, c.name, c.is, c.data, c.attrs, c.parent, c.kids, c.host, sh, c.doc⟩)).modify sh (fun c => ⟨c.kind, c.name, c.is, c.data, c.attrs, c.parent, c.kids, host, c.under, c.doc⟩)
inductive Job where
  | node
  | kids (p : Nat) (stop : BL)
def readM (doc : Int) : Nat → Job → BL → List Core → Option (BL × List Core)
  | 0, _, _, _ => none
  | k + 1, .node, l, F =>
    match skipM l [60] with
    | some l1 => (match headM doc l1 with
      | none => none
      | some (n, c, l2) => match addM F c with
        | none => none
        | some F1 => match skipM l2 [123] with
          | none => readM doc k (.kids F.length ([60, 47] ++ n ++ [62])) l2 F1
          | some l3 => match addM F1 (nodeC 4 [] [] [] [] doc) with
            | none => none
            | some F2 => match readM doc k (.kids (F.length + 1) [125]) l3 (hangM F2 F.length (F.length + 1)) with
              | none => none
              | some (l4, F3) => readM doc k (.kids F.length ([60, 47] ++ n ++ [62])) l4 F3)
    | none => match skipM l [91] with
      | some l1 => (match addM F (nodeC 3 [] [] [] [] doc) with
        | none => none
        | some F1 => readM doc k (.kids F.length [93]) l1 F1)
      | none => match quoM l with
        | none => none
        | some (d, l1) => match addM F (nodeC 2 [] [] d [] doc) with
          | none => none
          | some F1 => some (l1, F1)
  | k + 1, .kids p stop, l, F =>
    match skipM l stop with
    | some l1 => some (l1, F)
    | none => match readM doc k .node l F with
      | none => none
      | some (l1, F1) => if (kidsK F1 p).length < 1000 ∧ p < F.length ∧ F.length < F1.length then readM doc k (.kids p stop) l1 (mvIn F1 F.length p (-1)) else none
end Go.Proofs.YtkgbgnmmgmnnlaaGreatDoor
namespace Go.Proofs.YtkgbgnmmgmnnlaaGreatDoor
open Go.RowKit
section
variable {m : Int} {F G : List Core} {P : Nat → Core → Int} {K : Nat → Core → List Int} {D : Nat → Core → Int}
theorem ordN_congr (h : rightF m F = true) : ∀ (f i : Nat), i < F.length → (∀ j, j < F.length → holdsT (parS F) i j → kidsS G j = kidsS F j) → ordN (kidsS G) f i = ordN (kidsS F) f i
  | 0, _, _, _ => rfl
  | f + 1, i, hi, hk => by
    have T := treeS h
    show i :: (kidsS G i).flatMap (ordN (kidsS G) f) = i :: (kidsS F i).flatMap (ordN (kidsS F) f)
    rw [hk i hi (holds_refl i)]
    congr 1
    exact flat_congr (fun k hkk => ordN_congr h f k (T.kid_lt i k hkk) (fun j hj hh => hk j hj (holds_trans (holds_par (T.kid_par i k hkk)) hh)))
theorem allI_congr (h : rightF m F = true) (hl : G.length = F.length) {n : Nat} (hn : n < F.length) (hk : ∀ j, j < F.length → holdsT (parS F) n j → kidsS G j = kidsS F j) : allI G n = allI F n := by
  unfold allI allF
  rw [Int.toNat_natCast, hl, ordN_congr h (F.length + 1) n hn hk]
theorem edit_undS (h : Edit F G P K D) (j : Nat) : undS G j = undS F j := by
  unfold undS
  by_cases hj : j < F.length
  · have hc : F[j]? = some F[j] := List.getElem?_eq_getElem hj
    rw [h.at_ j _ hc, hc]
    rfl
  · rw [List.getElem?_eq_none (by rw [h.len]; omega), List.getElem?_eq_none (by omega)]
theorem edit_kidsS (h : Edit F G P K D) {j : Nat} {c : Core} (hc : F[j]? = some c) (hk : K j c = c.kids) : kidsS G j = kidsS F j := by
  unfold kidsS
  rw [edit_undS h j]
  congr 1
  unfold kidsF
  rw [h.at_ j c hc, hc]
  show (K j c).map Int.toNat = c.kids.map Int.toNat
  rw [hk]
theorem tellN_congr (h : Edit F G P K D) {n : Nat} (ha : allI G n = allI F n) (x : NoteD) : tellN G n x = tellN F n x := by
  unfold tellN
  rw [ha]
  congr 1
  exact List.filter_congr (fun z _ => by rw [h.kindK])
theorem allI_out (h : rightF m F = true) {n : Nat} {x : Core} (hx : F[n]? = some x) (hp : x.parent ≠ -1) : allI (mvOut F n) n = allI F n := by
  obtain ⟨p, hpp, hpl, ho⟩ := mvOut_out h hx hp
  have hn := (List.getElem?_eq_some_iff.1 hx).1
  refine allI_congr h ho.ed.len hn (fun j hj hh => ?_)
  have hc : F[j]? = some F[j] := List.getElem?_eq_getElem hj
  refine edit_kidsS ho.ed hc ?_
  by_cases e : j = p
  · subst e
    have hpar : parS F n = some j := parS_parent hx hpp
    have e2 := (treeS h).holds_anti hn hj hh (holds_par hpar)
    have := (treeS h).rank_up j n hn hpar
    rw [e2] at this
    omega
  · exact if_neg e
theorem tellN_out (h : rightF m F = true) {n : Nat} {x : Core} (hx : F[n]? = some x) (hp : x.parent ≠ -1) (y : NoteD) : tellN (mvOut F n) n y = tellN F n y := tellN_congr (edF_edit F _ _ _) (allI_out h hx hp) y
theorem allI_doc (h : rightF m F = true) {n : Nat} (hn : n < F.length) (d : Int) : allI (mvDoc F n d) n = allI F n :=
  allI_congr h (edF_edit F _ _ _).len hn (fun _ hj _ => edit_kidsS (edF_edit F _ _ _) (List.getElem?_eq_getElem hj) rfl)
theorem tellN_doc (h : rightF m F = true) {n : Nat} (hn : n < F.length) (d : Int) (y : NoteD) : tellN (mvDoc F n d) n y = tellN F n y := tellN_congr (edF_edit F _ _ _) (allI_doc h hn d) y
theorem tellN_len (h : rightF m F = true) {n : Nat} (hn : n < F.length) (y : NoteD) : (tellN F n y).length ≤ 400 := by
  unfold tellN
  rw [List.length_map]
  exact Nat.le_trans (List.length_filter_le _ _) (Nat.le_trans (allI_len h hn) (right_len400 h))
end
end Go.Proofs.YtkgbgnmmgmnnlaaGreatDoor
namespace Go.Proofs.YtkgbgnmmgmnnlaaGreatDoor
open Go.RowKit
set_option maxHeartbeats 4000000 in
set_option maxRecDepth 100000 in
theorem vpartsNew_any (a : Option Addr) (len cap : Nat) (m : Int) (L : List NodeD) (n : Int) (w : World) (h : NodeRow w a len cap L) (hn : In64 n) (hs : smallF L) :
    Calls Tryz.prog 96 #[forV a len cap m, .int .i64 n] w (OrdNew w (partsZ (coreL L) n)) := by
  have HCL : Hid ((coreL L).length = len) := Lib.hid (by rw [coreL_len, h.hlen])
  have hlen := h.len64
  have BX := Lib.hid (Box.start (m := m) h)
  have HF : Hid (∀ W b, NodeRow W a len cap L → inF (coreL L) n = b → Calls Tryz.prog 115 #[forV a len cap m, .int .i64 n] W fun e w' => e = .returned (.bool b) ∧ Below W.heap.size W w') := Lib.hid (fun W b h1 h3 => by
    rw [← h3]
    exact vhas_any a len cap m L n W h1 hn)
  have HS := Lib.hid hs
  have HN := Lib.hid hn
  have HH := Lib.hid h
  clear h hs hn
  cases q : inF (coreL L) n with
  | false =>
    have HQ := Lib.hid q
    have HP : Hid (partsZ (coreL L) n = []) := Lib.hid (by
      unfold partsZ getC
      unfold inF at q
      by_cases h0 : 0 ≤ n
      · rw [decide_eq_true h0, Bool.true_and, decide_eq_false_iff_not] at q
        rw [if_pos h0, List.getElem?_eq_none (by omega)]
      · rw [if_neg h0])
    clear q
    have z0 := BX.out.c0
    have z1 := BX.out.c1
    go_enter Tryz.func96, Tryz.ntmps96
    go_wp2_with (go_at_call 115; (refine (HF.out _ _ BX.out.row HQ.out).mono ?_); rintro e w1 ⟨rfl, hb⟩; have BX := Lib.hid (BX.out.keep hb); have z0 := BX.out.c0; have z1 := BX.out.c1; clear hb)
    go_ret
    exact ⟨none, 0, 0, rfl, by rw [HP.out]; exact ⟨SRow.nil, by simp, fun _ => rfl⟩, BX.out.below, fun b off h => by cases h⟩
  | true =>
    have HQ := Lib.hid q
    obtain ⟨k, rfl, hk⟩ := inF_nat q
    rw [HCL.out] at hk
    clear q
    obtain ⟨b, off, x, rfl, hb, hx, hat, hok⟩ := HH.out.get hk
    have hxc := coreL_get hx
    have C0 := Lib.hid (stays hat.c0 hb)
    have C6 := Lib.hid (stays hat.c6 hb)
    have NK := Lib.hid hok
    by_cases h3 : x.core.kind = 3
    · have HP : Hid (partsZ (coreL L) k = x.core.kids) := Lib.hid (by unfold partsZ; rw [getC_nat, hxc]; dsimp only; rw [if_pos h3])
      have hk3 : (x.core.kind == 3) = true := beq_iff_eq.2 h3
      have HKL : Hid (x.core.kids.length ≤ 1000) := Lib.hid (HS.out.2 x (List.mem_of_getElem? hx)).1
      have IN : Hid (∀ z ∈ x.core.kids, In64 z) := Lib.hid NK.out.kids.inb
      have CC : Hid (∀ W, Below w.heap.size w W → Calls Tryz.prog 114 #[.slice x.kA x.kN x.kC] W (OwnPostI W x.core.kids)) := Lib.hid (fun W hb => cloneI_any x.kA x.kN x.kC x.core.kids W (NK.out.kids.below hb) (by have h1 := HKL.out; have h2 := NK.out.kids.hlen; omega))
      clear hat hok hx hxc hb h3
      have z0 := BX.out.c0
      have z1 := BX.out.c1
      go_enter Tryz.func96, Tryz.ntmps96
      go_wp2_with (first
        | (go_at_call 115; ((with_reducible refine (HF.out _ _ BX.out.row HQ.out).mono ?_); rintro e w1 ⟨rfl, hb⟩; have BX := Lib.hid (BX.out.keep hb); have z0 := BX.out.c0; have z1 := BX.out.c1; clear hb; have c0 := C0.out _ BX.out.below; have c6 := C6.out _ BX.out.below))
        | (go_at_call 114; ((with_reducible refine (CC.out _ BX.out.below).mono ?_)); intro e w2 hp; obtain ⟨a2, cap2, rfl, hr2, hlo2, hb2⟩ := OwnPostI.row hp IN.out; have HSZ := Lib.hid BX.out.below.size; have HLO := Lib.hid hlo2; clear hlo2; have BX := Lib.hid (BX.out.keep hb2); have HR2 := Lib.hid hr2; clear hp hr2 hb2))
      go_ret
      exact ⟨a2, _, cap2, rfl, by rw [HP.out]; exact HR2.out, BX.out.below, fun b off h => Nat.le_trans HSZ.out (HLO.out b off h)⟩
    · have HP : Hid (partsZ (coreL L) k = [(k : Int)]) := Lib.hid (by unfold partsZ; rw [getC_nat, hxc]; dsimp only; rw [if_neg h3])
      have hk3 : (x.core.kind == 3) = false := beq_eq_false_iff_ne.2 h3
      clear hat hok hx hxc hb h3
      have z0 := BX.out.c0
      have z1 := BX.out.c1
      go_enter Tryz.func96, Tryz.ntmps96
      go_wp2_with (go_at_call 115; ((with_reducible refine (HF.out _ _ BX.out.row HQ.out).mono ?_); rintro e w1 ⟨rfl, hb⟩; have BX := Lib.hid (BX.out.keep hb); have z0 := BX.out.c0; have z1 := BX.out.c1; clear hb; have c0 := C0.out _ BX.out.below; have c6 := C6.out _ BX.out.below))
      go_ret
      exact ⟨_, 1, 1, rfl, by rw [HP.out]; exact lit_one _ _ _ HN.out, BX.out.below.trans ((below_box _ _).mono BX.out.below.size), fun b off h => by injection h with h; injection h with h1; have := BX.out.below.size; omega⟩
end Go.Proofs.YtkgbgnmmgmnnlaaGreatDoor
namespace Go.Proofs.YtkgbgnmmgmnnlaaGreatDoor
open Go.RowKit
def hasId (F : List Core) (i : Nat) : Bool := match F[i]? with | some x => hasA x.attrs idT | none => false
theorem hasId_at {F : List Core} {i : Nat} {x : Core} (h : F[i]? = some x) : hasId F i = hasA x.attrs idT := by unfold hasId; rw [h]
theorem has_of_id {F : List Core} {i : Nat} (h : idF F i ≠ []) : hasId F i = true := by
  unfold idF hasId idC valA at *
  cases hx : F[i]? with
  | none => rw [hx] at h; exact absurd rfl h
  | some x =>
    rw [hx] at h
    dsimp only at h ⊢
    cases hq : hasA x.attrs idT with
    | true => rfl
    | false =>
      rw [hq, if_neg Bool.false_ne_true] at h
      exact absurd (toList_ofL []) h
theorem ahead_pos {m : Int} {F : List Core} (h : rightF m F = true) {a b : Nat} (ha : a < F.length) (hb : b < F.length) : aheadZ m F a b = (decide (rootF F a = rootF F b) && decide (posN (ordF F (rootF F a)) a < posN (ordF F (rootF F a)) b)) := by
  unfold aheadZ aheadF
  rw [thereF_of h ha, thereF_of h hb, Int.toNat_natCast, Int.toNat_natCast]
  rfl
def NamedIs (m : Int) (F : List Core) (n : Nat) (v : List UInt8) : Prop :=
  (ownF F n = -1 ∧ ∀ k, k < F.length → idF F k = v → v ≠ [] → rootF F k = rootF F n → formB F k = true → ∃ j, j < F.length ∧ hasId F j = true ∧ idF F j = v ∧ aheadZ m F j k = true) ∨
  ∃ p : Nat, ownF F n = p ∧ p < F.length ∧ hasId F p = true ∧ idF F p = v ∧ v ≠ [] ∧ formB F p = true ∧ rootF F p = rootF F n ∧ ∀ k, k < F.length → idF F k = v → rootF F k = rootF F n → aheadZ m F k p = false
theorem named_is {m : Int} {F : List Core} (h : rightF m F = true) {n : Nat} {x : Core} (hx : F[n]? = some x) (hk : x.kind = 1) (ha : asksC x = true) (hc : linkF F n = true) : NamedIs m F n (wantC x) := by
  have hn : n < F.length := (List.getElem?_eq_some_iff.1 hx).1
  have hO : ownF F n = pickF F (ordF F (rootF F n)) (wantC x) := by
    rw [ownF_at hx]
    unfold ownC
    rw [if_pos hk, ha, hc]
    rfl
  obtain ⟨r, hr⟩ : ∃ r, rootF F n = r := ⟨_, rfl⟩
  have hrl : r < F.length := by rw [← hr]; exact rootF_lt2 h hn
  unfold NamedIs
  rw [hO, hr]
  obtain ⟨v, hv⟩ : ∃ v, wantC x = v := ⟨_, rfl⟩
  rw [hv]
  have hin : ∀ k, k < F.length → rootF F k = r → k ∈ ordF F r := fun k hk e => by rw [← e]; exact in_tree h hk
  have hnd := ordF_nodup h hrl
  unfold pickF
  by_cases e : v = []
  · rw [if_pos e]
    exact .inl ⟨rfl, fun k _ _ hne => absurd e hne⟩
  · rw [if_neg e]
    cases hf : (ordF F r).find? (fun k => idF F k == v) with
    | none =>
      refine .inl ⟨rfl, fun k hkl hid _ hro _ => ?_⟩
      have := List.find?_eq_none.1 hf k (hin k hkl hro)
      rw [hid] at this
      simp at this
    | some j =>
      obtain ⟨hpj, i, hi, hij, hlt⟩ := List.find?_eq_some_iff_getElem.1 hf
      have hjid : idF F j = v := beq_iff_eq.1 hpj
      have hjm : j ∈ ordF F r := List.mem_of_find?_eq_some hf
      have hjl := ordF_lt h hrl j hjm
      have hrp : parF F r = none := by rw [← hr]; exact root_none h hn
      have hjr : rootF F j = r := (root_self h hrl hrp hjm).2
      have hpos : posN (ordF F r) j = i := posN_at hnd (by rw [List.getElem?_eq_getElem hi, hij])
      have later : ∀ k, k ∈ ordF F r → idF F k = v → i ≤ posN (ordF F r) k := fun k hkm hid => by
        rcases Nat.lt_or_ge (posN (ordF F r) k) i with hl | hl
        · have h1 := hlt _ hl
          have h2 := posN_get hkm
          rw [List.getElem?_eq_getElem (by omega)] at h2
          rw [Option.some.inj h2, hid] at h1
          simp at h1
        · exact hl
      dsimp only
      cases hfb : formB F j with
      | true =>
        rw [if_pos rfl]
        refine .inr ⟨j, rfl, hjl, has_of_id (by rw [hjid]; exact e), hjid, e, hfb, hjr, fun k hkl hid hro => ?_⟩
        rw [ahead_pos h hkl hjl, hro, hjr, decide_eq_true rfl, Bool.true_and, hpos]
        exact decide_eq_false (by have := later k (hin k hkl hro) hid; omega)
      | false =>
        rw [if_neg Bool.false_ne_true]
        refine .inl ⟨rfl, fun k hkl hid _ hro hfk => ⟨j, hjl, has_of_id (by rw [hjid]; exact e), hjid, ?_⟩⟩
        have hkm := hin k hkl hro
        rw [ahead_pos h hjl hkl, hro, hjr, decide_eq_true rfl, Bool.true_and, hpos]
        have h1 := later k hkm hid
        refine decide_eq_true (Nat.lt_of_le_of_ne h1 (fun e2 => ?_))
        have h2 := posN_get hkm
        rw [← e2, List.getElem?_eq_getElem hi, hij] at h2
        rw [← Option.some.inj h2, hfb] at hfk
        cases hfk
theorem kind_of_attr {m : Int} {F : List Core} (h : rightF m F = true) {n : Nat} {x : Core} (hx : F[n]? = some x) {s : List UInt8} (ha : hasA x.attrs s = true) : x.kind = 1 := by
  have h1 := (nodeOk_iff.1 (((rightF_iff m F).1 h).2.1 n x hx)).2.2.2.2.2
  unfold textOk at h1
  by_cases hk : x.kind = 1
  · exact hk
  · rw [if_neg hk] at h1
    simp only [Bool.and_eq_true, decide_eq_true_eq] at h1
    unfold hasA at ha
    simp only [Bool.and_eq_true, decide_eq_true_eq] at ha
    omega
end Go.Proofs.YtkgbgnmmgmnnlaaGreatDoor
namespace Go.Proofs.YtkgbgnmmgmnnlaaGreatDoor
open Go.RowKit
set_option maxHeartbeats 4000000 in
set_option maxRecDepth 100000 in
theorem reftopR_any (a : Option Addr) (len cap : Nat) (m : Int) (L : List NodeD) (hr : rightF m (coreL L) = true) : ∀ (r n : Nat) (w : World), NodeRow w a len cap L → n < len → rankF (coreL L) n ≤ r →
    Calls Tryz.prog 72 #[forV a len cap m, .int .i64 n] w fun e w' => e = .returned (.int .i64 (topF (coreL L) n : Nat)) ∧ Below w.heap.size w w' := by
  intro r
  induction r using Nat.strongRecOn with
  | ind r ih =>
    intro n w h hn hk
    have HCL : Hid ((coreL L).length = len) := Lib.hid (by rw [coreL_len, h.hlen])
    have hlen := h.len64
    have BX := Lib.hid (Box.start (m := m) h)
    have z0 := BX.out.c0
    have z1 := BX.out.c1
    obtain ⟨b, off, x, rfl, hb, hx, hat, hok⟩ := BX.out.row.get hn
    have c5 := hat.c5
    have c7 := hat.c7
    have hxc := coreL_get hx
    have T := treeS hr
    have UPW : Hid (∀ z : Int, nextUp (coreL L) (n : Int) = z → z ≠ -1 → ∃ p : Nat, z = p ∧ p < len ∧ rankF (coreL L) p < r ∧ topF (coreL L) p = topF (coreL L) n) := Lib.hid (fun z hz hne => by
      rcases right_up hr n (by omega) (by rw [HCL.out]; omega) with e | ⟨e1, e2⟩
      · exact absurd (hz.symm.trans e) hne
      · rw [hz] at e1 e2
        rw [HCL.out] at e2
        obtain ⟨p, rfl⟩ : ∃ p : Nat, z = p := ⟨z.toNat, by omega⟩
        have hpar : parS (coreL L) n = some p := parS_some hz
        have hrk := T.rank_up _ n (by rw [HCL.out]; exact hn) hpar
        exact ⟨p, rfl, by omega, by omega, T.root_held (by rw [HCL.out]; exact hn) (by omega) (holds_par hpar)⟩)
    by_cases hp : x.core.parent = -1
    · have e5 : (x.core.parent != -1) = false := by rw [hp]; rfl
      by_cases hh : x.core.host = -1
      · have e7 : (x.core.host != -1) = false := by rw [hh]; rfl
        have HR : Hid (topF (coreL L) n = n) := Lib.hid (rootN_none (parS_none (by rw [next_host hxc hp, hh])))
        clear hat hok hx hxc hp hh hb h hk ih UPW T
        go_enter Tryz.func72, Tryz.ntmps72
        go_wp2
        go_ret
        exact ⟨ret_int (by rw [HR.out]), BX.out.below⟩
      · obtain ⟨p, hpp, hpl, hpr, hpt⟩ := UPW.out _ (next_host hxc hp) hh
        have IH : Hid (∀ W, NodeRow W (some ⟨b, off, none⟩) len cap L → Calls Tryz.prog 72 #[forV (some ⟨b, off, none⟩) len cap m, .int .i64 p] W fun e w' => e = .returned (.int .i64 (topF (coreL L) n : Nat)) ∧ Below W.heap.size W w') := Lib.hid (fun W h => by
          rw [← hpt]
          exact ih _ hpr p W h hpl (Nat.le_refl _))
        rw [hpp] at c7
        have e7 : ((p : Int) != -1) = true := bne_iff_ne.2 (by omega)
        clear hp hh hpp hpl hpr hpt UPW T
        (
          have HB := Lib.hid hb
          clear hat hok hx hxc hb h hk ih
          go_enter Tryz.func72, Tryz.ntmps72
          go_wp2
          have E0 := Ext.cell z0 BX.out.lt
          have E1 := Ext.cell z1 BX.out.lt
          have E5 := Ext.cell c5 HB.out
          have E7 := Ext.cell c7 HB.out
          have EI := Lib.hid (fun (x : Ext (w.alloc (forB (some ⟨b, off, none⟩) len cap m))) => IH.out x.v (BX.out.row.below x.below))
          refine wp_region_ext (by kernel_rfl) (by kernel_rfl) ?_
          repeat (go_big_quiet_step (first | (go_at_call 72; exact Ext.call_below (EI.out _))))
          refine wpQuiet_nil ?_
          intro w3 hw'
          obtain ⟨⟨w4, hb4⟩, hw''⟩ := hw'
          dsimp only at hw''
          subst hw''
          have BX := Lib.hid (BX.out.keep hb4)
          clear E0 E1 E5 E7 EI hb4
          go_wp2
          go_ret
          exact ⟨rfl, BX.out.below⟩)
    · have e5 : (x.core.parent != -1) = true := bne_iff_ne.2 hp
      obtain ⟨p, hpp, hpl, hpr, hpt⟩ := UPW.out _ (next_par hxc hp) hp
      have IH : Hid (∀ W, NodeRow W (some ⟨b, off, none⟩) len cap L → Calls Tryz.prog 72 #[forV (some ⟨b, off, none⟩) len cap m, .int .i64 p] W fun e w' => e = .returned (.int .i64 (topF (coreL L) n : Nat)) ∧ Below W.heap.size W w') := Lib.hid (fun W h => by
        rw [← hpt]
        exact ih _ hpr p W h hpl (Nat.le_refl _))
      rw [hpp] at c5
      have e6 : ((p : Int) != -1) = true := bne_iff_ne.2 (by omega)
      clear hp hpp hpl hpr hpt UPW T e5
      (
        have HB := Lib.hid hb
        clear hat hok hx hxc hb h hk ih
        go_enter Tryz.func72, Tryz.ntmps72
        go_wp2
        have E0 := Ext.cell z0 BX.out.lt
        have E1 := Ext.cell z1 BX.out.lt
        have E5 := Ext.cell c5 HB.out
        have E7 := Ext.cell c7 HB.out
        have EI := Lib.hid (fun (x : Ext (w.alloc (forB (some ⟨b, off, none⟩) len cap m))) => IH.out x.v (BX.out.row.below x.below))
        refine wp_region_ext (by kernel_rfl) (by kernel_rfl) ?_
        repeat (go_big_quiet_step (first | (go_at_call 72; exact Ext.call_below (EI.out _))))
        refine wpQuiet_nil ?_
        intro w3 hw'
        obtain ⟨⟨w4, hb4⟩, hw''⟩ := hw'
        dsimp only at hw''
        subst hw''
        have BX := Lib.hid (BX.out.keep hb4)
        clear E0 E1 E5 E7 EI hb4
        go_wp2
        go_ret
        exact ⟨rfl, BX.out.below⟩)
theorem reftop_any (a : Option Addr) (len cap : Nat) (m : Int) (L : List NodeD) (n : Nat) (w : World) (hr : rightF m (coreL L) = true) (h : NodeRow w a len cap L) (hn : n < len) :
    Calls Tryz.prog 72 #[forV a len cap m, .int .i64 n] w fun e w' => e = .returned (.int .i64 (topF (coreL L) n : Nat)) ∧ Below w.heap.size w w' :=
  reftopR_any a len cap m L hr _ n w h hn (Nat.le_refl _)
set_option maxHeartbeats 4000000 in
set_option maxRecDepth 100000 in
theorem refconn_any (a : Option Addr) (len cap : Nat) (m : Int) (L : List NodeD) (n : Nat) (w : World) (hr : rightF m (coreL L) = true) (h : NodeRow w a len cap L) (hn : n < len) :
    Calls Tryz.prog 37 #[forV a len cap m, .int .i64 n] w fun e w' => e = .returned (.bool (kindK (coreL L) (topF (coreL L) n : Nat) == 0)) ∧ Below w.heap.size w w' := by
  have HCL : Hid ((coreL L).length = len) := Lib.hid (by rw [coreL_len, h.hlen])
  have hlen := h.len64
  have BX := Lib.hid (Box.start (m := m) h)
  have z0 := BX.out.c0
  have z1 := BX.out.c1
  obtain ⟨t, ht⟩ : ∃ t, topF (coreL L) n = t := ⟨_, rfl⟩
  have htl : t < len := by rw [← ht, ← HCL.out]; exact topF_lt hr (by rw [HCL.out]; exact hn)
  obtain ⟨b, off, y, rfl, hb, hy, hat, -⟩ := BX.out.row.get htl
  have c0 := hat.c0
  have HK : Hid (kindK (coreL L) (t : Int) = y.core.kind) := Lib.hid (by unfold kindK; rw [getC_nat, coreL_get hy])
  have CT : Hid (∀ W, NodeRow W (some ⟨b, off, none⟩) len cap L → Calls Tryz.prog 72 #[forV (some ⟨b, off, none⟩) len cap m, .int .i64 n] W fun e w' => e = .returned (.int .i64 t) ∧ Below W.heap.size W w') := Lib.hid (fun W hW => by
    rw [← ht]
    exact reftop_any _ len cap m L n W hr hW hn)
  rw [ht]
  have HB := Lib.hid hb
  clear ht hat hy hb h
  go_enter Tryz.func37, Tryz.ntmps37
  go_wp2
  have E0 := Ext.cell z0 BX.out.lt
  have E1 := Ext.cell z1 BX.out.lt
  have EK := Ext.cell c0 HB.out
  have EI := Lib.hid (fun (x : Ext (w.alloc (forB (some ⟨b, off, none⟩) len cap m))) => CT.out x.v (BX.out.row.below x.below))
  refine wp_region_ext (by kernel_rfl) (by kernel_rfl) ?_
  repeat (go_big_quiet_step (first | (go_at_call 72; exact Ext.call_below (EI.out _))))
  refine wpQuiet_nil ?_
  intro w3 hw'
  obtain ⟨⟨w4, hb4⟩, hw''⟩ := hw'
  dsimp only at hw''
  subst hw''
  have BX := Lib.hid (BX.out.keep hb4)
  clear E0 E1 EK EI hb4
  go_wp2
  go_ret
  exact ⟨ret_bool (by rw [HK.out]), BX.out.below⟩
end Go.Proofs.YtkgbgnmmgmnnlaaGreatDoor
namespace Go.Proofs.YtkgbgnmmgmnnlaaGreatDoor
open Go.RowKit
theorem low_of_right (s : ByteArray) (hr : rightL s.toList = true) (hp : 0 < s.size) (hsm : smallL s.toList = s.toList) : lowI (s[0].toNat : Int) = !((s[0].toNat : Int) == 95) := by
  have hh : headB s[0] = true := by
    by_cases h : headB s[0] = true
    · exact h
    · have := rightL_head _ _ (tl_get s 0 hp) (by simpa using h)
      rw [this] at hr; cases hr
  have hcap : capI (s[0].toNat : Int) = false := by
    have h1 : (smallL s.toList)[0]? = some (smallB s[0]) := by
      unfold smallL
      rw [List.getElem?_map, tl_get s 0 hp]
      rfl
    rw [hsm, tl_get s 0 hp] at h1
    have h2 := cap_small s[0]
    rw [← Option.some.inj h1] at h2
    exact h2
  unfold headB headI alphI at hh
  rw [hcap] at hh
  rw [Bool.eq_iff_iff]
  unfold lowI at *
  simp at hh ⊢
  omega
theorem dash_step (l : List UInt8) (k : Nat) (c : UInt8) (h : l[k]? = some c) (hd : dashL (l.take k) = false) : dashL (l.take (k + 1)) = ((c.toNat : Int) == 45) := by
  obtain ⟨hl, he⟩ := List.getElem?_eq_some_iff.1 h
  unfold dashL at *
  rw [List.take_succ_eq_append_getElem hl, he, Bool.eq_iff_iff]
  have e : (45 : UInt8) = c ↔ (c.toNat : Int) = 45 := by
    constructor
    · rintro rfl; rfl
    · intro h; apply UInt8.toNat_inj.1; have : (45 : UInt8).toNat = 45 := rfl; omega
  simp at hd
  simp [e, hd]
theorem dash_hit (l : List UInt8) (k : Nat) (c : UInt8) (h : l[k]? = some c) (hc : (c.toNat : Int) = 45) : dashL l = true := by
  have : c = 45 := by apply UInt8.toNat_inj.1; have : (45 : UInt8).toNat = 45 := rfl; omega
  subst this
  unfold dashL
  simp
  exact List.mem_of_getElem? h
set_option maxHeartbeats 16000000 in
set_option maxRecDepth 100000 in
theorem refcustom_any (s : ByteArray) (w : World) (hs : s.size ≤ 1000000) :
    Calls Tryz.prog 68 #[.string s] w fun e w' => e = .returned (.bool (customL s.toList)) ∧ Below w.heap.size w w' := by
  have HB : Below w.heap.size w w := Below.refl _ _
  by_cases hr : rightL s.toList = true
  rotate_left
  · have hr' : rightL s.toList = false := by simpa using hr
    have HC := Lib.hid (customL_no _ hr')
    clear hr
    go_enter Tryz.func68, Tryz.ntmps68
    go_wp2_with (go_at_call 66; refine (refright_any _ _ (le_max hs)).mono ?_; rintro e w' ⟨rfl, rfl⟩)
    go_ret
    exact ⟨ret_bool HC.out.symm, HB⟩
  have hp := rightL_pos s hr
  have HC := Lib.hid (customL_eq s hr hp)
  have HL := Lib.hid (tl_len s)
  by_cases hsm : smallL s.toList = s.toList
  rotate_left
  · have b1 : (s.toList == smallL s.toList) = false := beq_eq_false_iff_ne.2 (fun e => hsm e.symm)
    have b2 : (s.toList != smallL s.toList) = true := by unfold bne; rw [b1]; rfl
    have HR : Hid (customL s.toList = false) := Lib.hid (by rw [HC.out, beq_eq_false_iff_ne.2 hsm]; rfl)
    clear hsm
    go_enter Tryz.func68, Tryz.ntmps68
    go_wp2_with (first
      | (go_at_call 66; refine (refright_any _ _ (le_max hs)).mono ?_; rintro e w' ⟨rfl, rfl⟩)
      | (go_at_call 67; refine (refsmall_any _ _ hs).mono ?_; rintro e w' ⟨rfl, hb⟩; have HB := HB.trans (hb.mono HB.size); clear hb))
    go_ret
    exact ⟨ret_bool HR.out.symm, by assumption⟩
  have HW := Lib.hid (low_of_right s hr hp hsm)
  have HV : Hid (customL s.toList = (!((s[0].toNat : Int) == 95) && dashL s.toList && !reservedL s.toList)) := Lib.hid (by rw [HC.out, HW.out, hsm]; simp)
  by_cases h95 : (s[0].toNat : Int) = 95
  · have e95 : ((s[0].toNat : Int) == 95) = true := beq_iff_eq.2 h95
    have HR : Hid (customL s.toList = false) := Lib.hid (by rw [HV.out, e95]; rfl)
    clear h95
    go_enter Tryz.func68, Tryz.ntmps68
    go_wp2_with (first
      | (go_at_call 66; refine (refright_any _ _ (le_max hs)).mono ?_; rintro e w' ⟨rfl, rfl⟩)
      | (go_at_call 67; refine (refsmall_any _ _ hs).mono ?_; rintro e w' ⟨rfl, hb⟩; have HB := HB.trans (hb.mono HB.size); clear hb))
    go_ret
    exact ⟨ret_bool HR.out.symm, by assumption⟩
  have e95 : ((s[0].toNat : Int) == 95) = false := beq_eq_false_iff_ne.2 h95
  have hone := one_reserved s.toList
  by_cases hres : reservedL s.toList = true
  · rw [hres] at hone
    have HR : Hid (customL s.toList = false) := Lib.hid (by rw [HV.out, hres]; simp)
    clear h95 hres
    go_enter Tryz.func68, Tryz.ntmps68
    go_wp2_with (first
      | (go_at_call 66; refine (refright_any _ _ (le_max hs)).mono ?_; rintro e w' ⟨rfl, rfl⟩)
      | (go_at_call 67; refine (refsmall_any _ _ hs).mono ?_; rintro e w' ⟨rfl, hb⟩; have HB := HB.trans (hb.mono HB.size); clear hb)
      | (go_at_call 99; refine (one_any _ ⟨RESERVED_WORDS.toArray⟩ _ (by decide)).mono ?_; rintro e w' ⟨rfl, rfl⟩))
    go_ret
    exact ⟨ret_bool HR.out.symm, by assumption⟩
  have hres' : reservedL s.toList = false := by simpa using hres
  rw [hres'] at hone
  have HR : Hid (customL s.toList = dashL s.toList) := Lib.hid (by rw [HV.out, hres', e95]; simp)
  clear h95 hres hres'
  go_enter Tryz.func68, Tryz.ntmps68
  go_wp2_with (first
    | (go_at_call 66; refine (refright_any _ _ (le_max hs)).mono ?_; rintro e w' ⟨rfl, rfl⟩)
    | (go_at_call 67; refine (refsmall_any _ _ hs).mono ?_; rintro e w' ⟨rfl, hb⟩; have HB := HB.trans (hb.mono HB.size); clear hb)
    | (go_at_call 99; refine (one_any _ ⟨RESERVED_WORDS.toArray⟩ _ (by decide)).mono ?_; rintro e w' ⟨rfl, rfl⟩))
  clear hone hsm
  go_loop [3] (fun i => ∃ k : Nat, k ≤ s.size ∧ i = .int .i64 k ∧ Hid (dashL (s.toList.take k) = false)) (fun i => s.size - (intOf i).toNat)
  case atStart => exact ⟨0, by omega, rfl, Lib.hid rfl⟩
  case round =>
    obtain ⟨k, hk, rfl, HA⟩ := hrel
    by_cases hlt : k < s.size
    · have HG := Lib.hid (tl_get s k hlt)
      obtain ⟨n, hn⟩ : ∃ n : Nat, (s[k]'hlt).toNat = n := ⟨_, rfl⟩
      have HN := Lib.hid hn
      by_cases h45 : (n : Int) = 45
      · have e45 : ((n : Int) == 45) = true := beq_iff_eq.2 h45
        have HR2 : Hid (customL s.toList = true) := Lib.hid (by rw [HR.out]; exact dash_hit _ _ _ HG.out (by rw [HN.out]; exact h45))
        clear h45
        go_wp2
        go_ret
        exact ⟨ret_bool HR2.out.symm, by assumption⟩
      · have e45 : ((n : Int) == 45) = false := beq_eq_false_iff_ne.2 h45
        have HS : Hid (dashL (s.toList.take (k + 1)) = false) := Lib.hid ((dash_step _ _ _ HG.out HA.out).trans (by rw [HN.out]; exact e45))
        clear h45
        go_wp2
        go_round
        case rel => exact ⟨k + 1, by omega, by go_num, HS⟩
        case measure => simp [intOf]; omega
    · have HR2 : Hid (customL s.toList = false) := Lib.hid (by
        rw [HR.out]
        have h := HA.out
        rwa [List.take_of_length_le (by rw [HL.out]; omega)] at h)
      go_wp2
      go_ret
      exact ⟨ret_bool HR2.out.symm, by assumption⟩
end Go.Proofs.YtkgbgnmmgmnnlaaGreatDoor
