/- Texts joined in build order: MoveMath2 MoveParts MoveOpenDo. -/
import Derived.Test.YtclledmgiliggaaGreatDoorP26
import Derived.Test.YtclledmgiliggaaGreatDoorP20
import Derived.Test.YtclledmgiliggaaGreatDoorP22
import Derived.OpenShut
namespace Go.Proofs.YtclledmgiliggaaGreatDoor
open Go.RowKit
section
variable {m : Int} {F G : List Core} {P : Nat → Core → Int} {K : Nat → Core → List Int} {D : Nat → Core → Int}
theorem ordN_congr (h : rightF m F = true) : ∀ (f i : Nat), i < F.length → (∀ j, j < F.length → holdsT (parS F) i j → kidsS G j = kidsS F j) → ordN (kidsS G) f i = ordN (kidsS F) f i
  | 0, _, _, _ => rfl
  | f + 1, i, hi, hk => by
    have T := treeS h
    show i :: (kidsS G i).flatMap (ordN (kidsS G) f) = i :: (kidsS F i).flatMap (ordN (kidsS F) f)
    rw [hk i hi (holds_refl i)]
    congr 1
    exact flat_congr (fun k hkk => ordN_congr h f k (T.kid_lt i k hkk) (fun j hj hh => hk j hj (holds_trans (holds_par (T.kid_par i k hkk)) hh)))
theorem allI_congr (h : rightF m F = true) (hl : G.length = F.length) {n : Nat} (hn : n < F.length) (hk : ∀ j, j < F.length → holdsT (parS F) n j → kidsS G j = kidsS F j) : allI G n = allI F n := by
  unfold allI allF
  rw [Int.toNat_natCast, hl, ordN_congr h (F.length + 1) n hn hk]
theorem edit_undS (h : Edit F G P K D) (j : Nat) : undS G j = undS F j := by
  unfold undS
  by_cases hj : j < F.length
  · have hc : F[j]? = some F[j] := List.getElem?_eq_getElem hj
    rw [h.at_ j _ hc, hc]
    rfl
  · rw [List.getElem?_eq_none (by rw [h.len]; omega), List.getElem?_eq_none (by omega)]
theorem edit_kidsS (h : Edit F G P K D) {j : Nat} {c : Core} (hc : F[j]? = some c) (hk : K j c = c.kids) : kidsS G j = kidsS F j := by
  unfold kidsS
  rw [edit_undS h j]
  congr 1
  unfold kidsF
  rw [h.at_ j c hc, hc]
  show (K j c).map Int.toNat = c.kids.map Int.toNat
  rw [hk]
theorem tellN_congr (h : Edit F G P K D) {n : Nat} (ha : allI G n = allI F n) (x : NoteD) : tellN G n x = tellN F n x := by
  unfold tellN
  rw [ha]
  congr 1
  exact List.filter_congr (fun z _ => by rw [h.kindK])
theorem allI_out (h : rightF m F = true) {n : Nat} {x : Core} (hx : F[n]? = some x) (hp : x.parent ≠ -1) : allI (mvOut F n) n = allI F n := by
  obtain ⟨p, hpp, hpl, ho⟩ := mvOut_out h hx hp
  have hn := (List.getElem?_eq_some_iff.1 hx).1
  refine allI_congr h ho.ed.len hn (fun j hj hh => ?_)
  have hc : F[j]? = some F[j] := List.getElem?_eq_getElem hj
  refine edit_kidsS ho.ed hc ?_
  by_cases e : j = p
  · subst e
    have hpar : parS F n = some j := parS_parent hx hpp
    have e2 := (treeS h).holds_anti hn hj hh (holds_par hpar)
    have := (treeS h).rank_up j n hn hpar
    rw [e2] at this
    omega
  · exact if_neg e
theorem tellN_out (h : rightF m F = true) {n : Nat} {x : Core} (hx : F[n]? = some x) (hp : x.parent ≠ -1) (y : NoteD) : tellN (mvOut F n) n y = tellN F n y := tellN_congr (edF_edit F _ _ _) (allI_out h hx hp) y
theorem allI_doc (h : rightF m F = true) {n : Nat} (hn : n < F.length) (d : Int) : allI (mvDoc F n d) n = allI F n :=
  allI_congr h (edF_edit F _ _ _).len hn (fun _ hj _ => edit_kidsS (edF_edit F _ _ _) (List.getElem?_eq_getElem hj) rfl)
theorem tellN_doc (h : rightF m F = true) {n : Nat} (hn : n < F.length) (d : Int) (y : NoteD) : tellN (mvDoc F n d) n y = tellN F n y := tellN_congr (edF_edit F _ _ _) (allI_doc h hn d) y
theorem tellN_len (h : rightF m F = true) {n : Nat} (hn : n < F.length) (y : NoteD) : (tellN F n y).length ≤ 400 := by
  unfold tellN
  rw [List.length_map]
  exact Nat.le_trans (List.length_filter_le _ _) (Nat.le_trans (allI_len h hn) (right_len400 h))
end
end Go.Proofs.YtclledmgiliggaaGreatDoor
namespace Go.Proofs.YtclledmgiliggaaGreatDoor
open Go.RowKit
set_option maxHeartbeats 4000000 in
set_option maxRecDepth 100000 in
theorem vpartsNew_any (a : Option Addr) (len cap : Nat) (m : Int) (L : List NodeD) (n : Int) (w : World) (h : NodeRow w a len cap L) (hn : In64 n) (hs : smallF L) :
    Calls Tryz.prog 95 #[forV a len cap m, .int .i64 n] w (OrdNew w (partsZ (coreL L) n)) := by
  have HCL : Hid ((coreL L).length = len) := Lib.hid (by rw [coreL_len, h.hlen])
  have hlen := h.len64
  have BX := Lib.hid (Box.start (m := m) h)
  have HF : Hid (∀ W b, NodeRow W a len cap L → inF (coreL L) n = b → Calls Tryz.prog 135 #[forV a len cap m, .int .i64 n] W fun e w' => e = .returned (.bool b) ∧ Below W.heap.size W w') := Lib.hid (fun W b h1 h3 => by
    rw [← h3]
    exact vhas_any a len cap m L n W h1 hn)
  have HS := Lib.hid hs
  have HN := Lib.hid hn
  have HH := Lib.hid h
  clear h hs hn
  cases q : inF (coreL L) n with
  | false =>
    have HQ := Lib.hid q
    have HP : Hid (partsZ (coreL L) n = []) := Lib.hid (by
      unfold partsZ getC
      unfold inF at q
      by_cases h0 : 0 ≤ n
      · rw [decide_eq_true h0, Bool.true_and, decide_eq_false_iff_not] at q
        rw [if_pos h0, List.getElem?_eq_none (by omega)]
      · rw [if_neg h0])
    clear q
    have z0 := BX.out.c0
    have z1 := BX.out.c1
    go_enter Tryz.func95, Tryz.ntmps95
    go_wp2_with (go_at_call 135; (refine (HF.out _ _ BX.out.row HQ.out).mono ?_); rintro e w1 ⟨rfl, hb⟩; have BX := Lib.hid (BX.out.keep hb); have z0 := BX.out.c0; have z1 := BX.out.c1; clear hb)
    go_ret
    exact ⟨none, 0, 0, rfl, by rw [HP.out]; exact ⟨SRow.nil, by simp, fun _ => rfl⟩, BX.out.below, fun b off h => by cases h⟩
  | true =>
    have HQ := Lib.hid q
    obtain ⟨k, rfl, hk⟩ := inF_nat q
    rw [HCL.out] at hk
    clear q
    obtain ⟨b, off, x, rfl, hb, hx, hat, hok⟩ := HH.out.get hk
    have hxc := coreL_get hx
    have C0 := Lib.hid (stays hat.c0 hb)
    have C6 := Lib.hid (stays hat.c6 hb)
    have NK := Lib.hid hok
    by_cases h3 : x.core.kind = 3
    · have HP : Hid (partsZ (coreL L) k = x.core.kids) := Lib.hid (by unfold partsZ; rw [getC_nat, hxc]; dsimp only; rw [if_pos h3])
      have hk3 : (x.core.kind == 3) = true := beq_iff_eq.2 h3
      have HKL : Hid (x.core.kids.length ≤ 1000) := Lib.hid (HS.out.2 x (List.mem_of_getElem? hx)).1
      have IN : Hid (∀ z ∈ x.core.kids, In64 z) := Lib.hid NK.out.kids.inb
      have CC : Hid (∀ W, Below w.heap.size w W → Calls Tryz.prog 134 #[.slice x.kA x.kN x.kC] W (OwnPostI W x.core.kids)) := Lib.hid (fun W hb => cloneI_any x.kA x.kN x.kC x.core.kids W (NK.out.kids.below hb) (by have h1 := HKL.out; have h2 := NK.out.kids.hlen; omega))
      clear hat hok hx hxc hb h3
      have z0 := BX.out.c0
      have z1 := BX.out.c1
      go_enter Tryz.func95, Tryz.ntmps95
      go_wp2_with (first
        | (go_at_call 135; ((with_reducible refine (HF.out _ _ BX.out.row HQ.out).mono ?_); rintro e w1 ⟨rfl, hb⟩; have BX := Lib.hid (BX.out.keep hb); have z0 := BX.out.c0; have z1 := BX.out.c1; clear hb; have c0 := C0.out _ BX.out.below; have c6 := C6.out _ BX.out.below))
        | (go_at_call 134; ((with_reducible refine (CC.out _ BX.out.below).mono ?_)); intro e w2 hp; obtain ⟨a2, cap2, rfl, hr2, hlo2, hb2⟩ := OwnPostI.row hp IN.out; have HSZ := Lib.hid BX.out.below.size; have HLO := Lib.hid hlo2; clear hlo2; have BX := Lib.hid (BX.out.keep hb2); have HR2 := Lib.hid hr2; clear hp hr2 hb2))
      go_ret
      exact ⟨a2, _, cap2, rfl, by rw [HP.out]; exact HR2.out, BX.out.below, fun b off h => Nat.le_trans HSZ.out (HLO.out b off h)⟩
    · have HP : Hid (partsZ (coreL L) k = [(k : Int)]) := Lib.hid (by unfold partsZ; rw [getC_nat, hxc]; dsimp only; rw [if_neg h3])
      have hk3 : (x.core.kind == 3) = false := beq_eq_false_iff_ne.2 h3
      clear hat hok hx hxc hb h3
      have z0 := BX.out.c0
      have z1 := BX.out.c1
      go_enter Tryz.func95, Tryz.ntmps95
      go_wp2_with (go_at_call 135; ((with_reducible refine (HF.out _ _ BX.out.row HQ.out).mono ?_); rintro e w1 ⟨rfl, hb⟩; have BX := Lib.hid (BX.out.keep hb); have z0 := BX.out.c0; have z1 := BX.out.c1; clear hb; have c0 := C0.out _ BX.out.below; have c6 := C6.out _ BX.out.below))
      go_ret
      exact ⟨_, 1, 1, rfl, by rw [HP.out]; exact lit_one _ _ _ HN.out, BX.out.below.trans ((below_box _ _).mono BX.out.below.size), fun b off h => by injection h with h; injection h with h1; have := BX.out.below.size; omega⟩
end Go.Proofs.YtclledmgiliggaaGreatDoor
namespace Go.Proofs.YtclledmgiliggaaGreatDoor
open Go.RowKit Go.Deep Go.ChangeShapes Go.WideShapes
structure DoF where
  kind : Int
  n : Int
  p : Int
  c : Int
  name : Int
  value : Int
def encF (x : DoF) : List Value := [.int .u8 x.kind, .int .u8 x.n, .int .u8 x.p, .int .u8 x.c, .int .u8 x.name, .int .u8 x.value]
def fineF (x : DoF) : Prop := (0 ≤ x.kind ∧ x.kind ≤ 255) ∧ (0 ≤ x.n ∧ x.n ≤ 255) ∧ (0 ≤ x.p ∧ x.p ≤ 255) ∧ (0 ≤ x.c ∧ x.c ≤ 255) ∧ (0 ≤ x.name ∧ x.name ≤ 255) ∧ (0 ≤ x.value ∧ x.value ≤ 255)
set_option maxRecDepth 100000 in
theorem open_dosF {H : Type} {enc : TypeId × Value → H} {W : World} {a : Option Addr} {len cap : Nat} {d : DataW H} {p : List MemPlace}
    (h : DataW.Trod enc Tryz.prog W 0 (fun _ => true) true 40 (.slice a len cap) d p) : ∃ L : List DoF, SRow encF 6 W a len cap L ∧ ∀ x ∈ L, fineF x := by
  obtain ⟨fuel, hf⟩ := h
  rcases open_slice Tryz.underlying40 hf with ⟨hcs, _⟩ | ⟨ad, l, c, m, n, D, Pl, hcs, _, hl, hm, hmm, _, hi⟩
  · simp [Value.cells] at hcs
    obtain ⟨rfl, rfl, rfl⟩ := hcs
    exact ⟨[], SRow.nil, by simp⟩
  · simp [Value.cells] at hcs
    obtain ⟨rfl, rfl, rfl⟩ := hcs
    have hml : len ≤ m := by rw [hmm]; simpa using hl
    have ce : Tryz.prog.cellsOf 42 = 6 := by kernel_rfl
    have c5 : Tryz.prog.cellsOf 5 = 1 := by kernel_rfl
    have each : ∀ i, i < len → ∃ x : DoF, W.cell? (ad.add (i * 6)) = some (.int .u8 x.kind) ∧ W.cell? (ad.add (i * 6 + 1)) = some (.int .u8 x.n) ∧ W.cell? (ad.add (i * 6 + 2)) = some (.int .u8 x.p) ∧ W.cell? (ad.add (i * 6 + 3)) = some (.int .u8 x.c) ∧ W.cell? (ad.add (i * 6 + 4)) = some (.int .u8 x.name) ∧ W.cell? (ad.add (i * 6 + 5)) = some (.int .u8 x.value) ∧ fineF x := by
      intro i hil
      obtain ⟨cs', h1, h2⟩ := hi i (by omega)
      rw [ce] at h1
      obtain ⟨_, hlen, hcell⟩ := World.cells?_some h1
      obtain ⟨xs, k, _, _, _, hxl, hff⟩ := DataW.trod_struct Tryz.underlying42 h2
      match xs, hxl, cs', hlen with
      | [y0, y1, y2, y3, y4, y5], _, [v0, v1, v2, v3, v4, v5], _ =>
        have g0 := hff 0 _ rfl
        have g1 := hff 1 _ rfl
        have g2 := hff 2 _ rfl
        have g3 := hff 3 _ rfl
        have g4 := hff 4 _ rfl
        have g5 := hff 5 _ rfl
        simp [c5] at g0 g1 g2 g3 g4 g5
        have e0 := hcell 0 (by omega)
        have e1 := hcell 1 (by omega)
        have e2 := hcell 2 (by omega)
        have e3 := hcell 3 (by omega)
        have e4 := hcell 4 (by omega)
        have e5 := hcell 5 (by omega)
        rw [add_add] at e0 e1 e2 e3 e4 e5
        obtain ⟨n0, hn0, _, hw0⟩ := DataW.trod_int Tryz.underlying5 g0
        obtain ⟨n1, hn1, _, hw1⟩ := DataW.trod_int Tryz.underlying5 g1
        obtain ⟨n2, hn2, _, hw2⟩ := DataW.trod_int Tryz.underlying5 g2
        obtain ⟨n3, hn3, _, hw3⟩ := DataW.trod_int Tryz.underlying5 g3
        obtain ⟨n4, hn4, _, hw4⟩ := DataW.trod_int Tryz.underlying5 g4
        obtain ⟨n5, hn5, _, hw5⟩ := DataW.trod_int Tryz.underlying5 g5
        simp at hn0 hn1 hn2 hn3 hn4 hn5
        subst hn0; subst hn1; subst hn2; subst hn3; subst hn4; subst hn5
        exact ⟨⟨n0, n1, n2, n3, n4, n5⟩, by simpa using e0, by simpa using e1, by simpa using e2, by simpa using e3, by simpa using e4, by simpa using e5, bounds_u8 hw0, bounds_u8 hw1, bounds_u8 hw2, bounds_u8 hw3, bounds_u8 hw4, bounds_u8 hw5⟩
    obtain ⟨q, hq⟩ : ∃ q : Nat → DoF, ∀ i, i < len → W.cell? (ad.add (i * 6)) = some (.int .u8 (q i).kind) ∧ W.cell? (ad.add (i * 6 + 1)) = some (.int .u8 (q i).n) ∧ W.cell? (ad.add (i * 6 + 2)) = some (.int .u8 (q i).p) ∧ W.cell? (ad.add (i * 6 + 3)) = some (.int .u8 (q i).c) ∧ W.cell? (ad.add (i * 6 + 4)) = some (.int .u8 (q i).name) ∧ W.cell? (ad.add (i * 6 + 5)) = some (.int .u8 (q i).value) ∧ fineF (q i) := by
      refine ⟨fun i => if h : i < len then (each i h).choose else ⟨0, 0, 0, 0, 0, 0⟩, fun i hil => ?_⟩
      simp only [dif_pos hil]
      exact (each i hil).choose_spec
    refine ⟨(List.range len).map q, ⟨by simp, hl, hm, fun x _ => rfl, ?_⟩, ?_⟩
    · rcases Nat.eq_zero_or_pos len with h0 | h0
      · exact .inl h0
      · obtain ⟨b, off, spot⟩ := ad
        have hc := (hq 0 h0).1
        have hspot : spot = none := by simpa [Addr.add] using World.cell?_spot hc
        subst hspot
        refine .inr ⟨b, off, rfl, ?_, ?_⟩
        · have := block_lt hc
          rwa [add_plain] at this
        · intro i x j v hx hv
          obtain ⟨hil, hgx⟩ := List.getElem?_eq_some_iff.1 hx
          have hil' : i < len := by simpa using hil
          simp at hgx
          obtain ⟨h1, h2, h3, h4, h5, h6, _⟩ := hq i hil'
          rw [add_plain] at h1 h2 h3 h4 h5 h6
          rw [hgx] at h1 h2 h3 h4 h5 h6
          obtain ⟨hjl, hgv⟩ := List.getElem?_eq_some_iff.1 hv
          match j, hjl with
          | 0, _ => simp [encF] at hgv; subst hgv; exact h1
          | 1, _ => simp [encF] at hgv; subst hgv; simpa [Nat.add_assoc] using h2
          | 2, _ => simp [encF] at hgv; subst hgv; simpa [Nat.add_assoc] using h3
          | 3, _ => simp [encF] at hgv; subst hgv; simpa [Nat.add_assoc] using h4
          | 4, _ => simp [encF] at hgv; subst hgv; simpa [Nat.add_assoc] using h5
          | 5, _ => simp [encF] at hgv; subst hgv; simpa [Nat.add_assoc] using h6
    · intro x hx
      obtain ⟨i, hi1, rfl⟩ := List.mem_map.1 hx
      exact (hq i (List.mem_range.1 hi1)).2.2.2.2.2.2
end Go.Proofs.YtclledmgiliggaaGreatDoor
