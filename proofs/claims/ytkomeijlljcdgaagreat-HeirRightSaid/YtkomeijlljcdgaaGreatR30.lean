/- Texts joined in build order: HeirIter HeirHeirs SmallFrame. -/
import Derived.Test.YtkomeijlljcdgaaGreatR28
import Derived.Test.YtkomeijlljcdgaaGreatR22
import Derived.Test.YtkomeijlljcdgaaGreatR29
import Derived.Test.YtkomeijlljcdgaaGreatR27
import Derived.BigQuiet
import Derived.Deep.QuietTactic
import Derived.Below
import Derived.WalkSmall
import Derived.Test.YtkomeijlljcdgaaGreatR04
namespace Go.Proofs.YtkomeijlljcdgaaGreat
open Go.RowKit Go.Shelf
attribute [local go_sem] Oper.semAt_some
set_option maxHeartbeats 2000000 in
set_option maxRecDepth 100000 in
theorem elemsSeq_any (a : Option Addr) (len cap : Nat) (m : Int) (n : Int) (w : World) :
    Calls Tryz.prog 39 #[forV a len cap m, .int .i64 n] w fun e w' => e = .returned (.func (.func 71) #[] #[.pointer (some ⟨w.heap.size, 0, none⟩), .pointer (some ⟨w.heap.size + 1, 0, none⟩)]) ∧ w' = (w.alloc (forB a len cap m)).alloc (.cells #[.int .i64 n] 3) := by
  go_enter Tryz.func39, Tryz.ntmps39
  go_wp2
  go_ret
  exact ⟨rfl, rfl⟩
def rowB (Bx : Nat) (W : World) : Option Nat := (W.cell? ⟨Bx, 0, none⟩).bind Value.ownBlock
structure KpE (Bx : Nat) (W W' : World) : Prop where
  size : W.heap.size ≤ W'.heap.size
  cell : ∀ b o u, b ≠ Bx → rowB Bx W ≠ some b → W.cell? ⟨b, o, none⟩ = some u → W'.cell? ⟨b, o, none⟩ = some u
  row : ∀ r, rowB Bx W' = some r → rowB Bx W = some r ∨ W.heap.size ≤ r
theorem cell_lt {W : World} {b o : Nat} {u : Value} (h : W.cell? ⟨b, o, none⟩ = some u) : b < W.heap.size := by
  rcases Nat.lt_or_ge b W.heap.size with h1 | h1
  · exact h1
  · simp [World.cell?, Array.getElem?_eq_none h1] at h
theorem KpE.refl (Bx : Nat) (W : World) : KpE Bx W W := ⟨Nat.le_refl _, fun _ _ _ _ _ h => h, fun _ h => .inl h⟩
theorem KpE.trans {Bx : Nat} {A B C : World} (h : KpE Bx A B) (k : KpE Bx B C) : KpE Bx A C :=
  ⟨Nat.le_trans h.size k.size, fun b o u hb hr hc => k.cell b o u hb (fun e => by
    rcases h.row b e with h1 | h1
    · exact hr h1
    · have := cell_lt hc
      omega) (h.cell b o u hb hr hc), fun r hr => by
    rcases k.row r hr with h1 | h1
    · exact h.row r h1
    · exact .inr (Nat.le_trans h.size h1)⟩
theorem cell_of_cells {W : World} {b o : Nat} {u : Value} (h : W.cell? ⟨b, o, none⟩ = some u) : ∃ c t f, W.heap[b]? = some (.cells c t f) := by
  have hlt := cell_lt h
  unfold World.cell? at h
  cases hb : W.heap[b]? with
  | none => simp [hb] at h
  | some ob =>
    cases ob with
    | cells c t f => exact ⟨c, t, f, rfl⟩
    | _ => simp [hb] at h
theorem putObj_cell {W : World} {l b o : Nat} {ob ob' : Obj} (hl : W.heap[l]? = some ob) (hc : ob.isCells = false) {u : Value} (h : W.cell? ⟨b, o, none⟩ = some u) : (W.putObj l ob').cell? ⟨b, o, none⟩ = some u := by
  have hne : b ≠ l := fun e => by
    obtain ⟨c, t, f, hb⟩ := cell_of_cells h
    rw [e, hl] at hb
    injection hb with hb
    rw [hb] at hc
    cases hc
  rw [World.cell?_of_block (w := W) (a := ⟨b, o, none⟩) (World.putObj_heap_other hne)]
  exact h
theorem KpE.putObj {Bx : Nat} {W : World} {l : Nat} {ob ob' : Obj} (hne : Bx ≠ l) (hl : W.heap[l]? = some ob) (hc : ob.isCells = false) : KpE Bx W (W.putObj l ob') := by
  refine ⟨by simp, fun b o u _ _ h => putObj_cell hl hc h, fun r hr => .inl ?_⟩
  unfold rowB at hr ⊢
  rwa [World.cell?_of_block (w := W) (a := ⟨Bx, 0, none⟩) (World.putObj_heap_other hne)] at hr
abbrev zND : NodeD := ⟨⟨0, ⟨#[]⟩, ⟨#[]⟩, ⟨#[]⟩, [], 0, [], 0, 0, 0⟩, none, 0, 0, none, 0, 0⟩
def nodeK (K : List NodeD) (z : Int) : NodeD := K[z.toNat]?.getD zND
def seqE (K : List NodeD) (E : List Int) (k : Nat) : List (Int × NodeD) := (E.take k).map fun z => (z, nodeK K z)
abbrev encZN (x : Int × NodeD) : Array Value := #[.int .i64 x.1, nodVal x.2]
theorem seqE_succ {K : List NodeD} {E : List Int} {k : Nat} {z : Int} (h : E[k]? = some z) : seqE K E (k + 1) = seqE K E k ++ [(z, nodeK K z)] := by
  unfold seqE
  rw [List.take_add_one, h, List.map_append]
  rfl
theorem seqE_len {K : List NodeD} {E : List Int} {k : Nat} (h : k ≤ E.length) : (seqE K E k).length = k := by
  unfold seqE
  rw [List.length_map, List.length_take]
  omega
theorem elemsZ_in {m : Int} {F : List Core} {n z : Int} (h : z ∈ elemsZ m F n) : ∃ t : Nat, z = t ∧ t < F.length := by
  unfold elemsZ at h
  have h := (List.mem_filter.1 h).1
  unfold allZ at h
  by_cases ht : thereF m F n = true
  · rw [if_pos ht] at h
    unfold thereF at ht
    simp only [Bool.and_eq_true, decide_eq_true_eq] at ht
    have hn : n.toNat < F.length := by omega
    have := allI_num (x := n.toNat) ht.1.1 hn (z := z) (by rwa [show ((n.toNat : Nat) : Int) = n by omega])
    exact this
  · rw [if_neg ht] at h
    cases h
set_option maxRecDepth 100000 in
set_option maxHeartbeats 4000000 in
theorem elems1_in (n : Nat) (hn : 1 ≤ n) (l Bf Bn Bx : Nat) (t : TypeId) (a : Option Addr) (len cap : Nat) (m nn : Int) (K : List NodeD) (J Jx : List (Int × NodeD) → World → Prop) (W : World)
    (hJ : AbidesFrom W.heap.size J)
    (hY : ∀ pre x W, J pre W → pre.length < (elemsZ m (coreL K) nn).length → YieldAt Fence.wide (n - 1) Tryz.prog l (encZN x) W fun e W' =>
      (e = .returned (.bool true) ∧ J (pre ++ [x]) W' ∧ KpE Bx W W') ∨ (e = .returned (.bool false) ∧ Jx (pre ++ [x]) W'))
    (hBf0 : W.cell? ⟨Bf, 0, none⟩ = some (.slice a len cap)) (hBf1 : W.cell? ⟨Bf, 1, none⟩ = some (.int .i64 m)) (hBn : W.cell? ⟨Bn, 0, none⟩ = some (.int .i64 nn)) (hBx : Boxed W Bx t (.slice none 0 0)) (hfx : Bf ≠ Bx) (hax : ∀ b off, a = some ⟨b, off, none⟩ → 0 < len → b ≠ Bx)
    (hK : NodeRow W a len cap K) (hm : In64 m) (hnn : In64 nn) (hs : smallF K) (h0 : J [] W) :
    CallsIn Fence.wide n Tryz.prog 71 #[.func (.yield l) #[] #[], .pointer (some ⟨Bf, 0, none⟩), .pointer (some ⟨Bn, 0, none⟩)] W fun e W' => (∃ v, e = .returned v) ∧
      ((∃ ys, ys = seqE K (elemsZ m (coreL K) nn) (elemsZ m (coreL K) nn).length ∧ J ys W') ∨ (∃ pre, pre.length ≤ (elemsZ m (coreL K) nn).length ∧ Jx pre W')) := by
  have CE : Hid (Calls Tryz.prog 24 #[forV a len cap m, .int .i64 nn] W (OrdPost W (elemsZ m (coreL K) nn))) := Lib.hid (elemsFn_any a len cap m K nn W hK hm hnn hs)
  have HEI : Hid (∀ z ∈ elemsZ m (coreL K) nn, ∃ t : Nat, z = t ∧ t < len) := Lib.hid (fun z hz => by
    obtain ⟨t, h1, h2⟩ := elemsZ_in hz
    rw [coreL_len, hK.hlen] at h2
    exact ⟨t, h1, h2⟩)
  obtain ⟨E, hE⟩ : ∃ E, elemsZ m (coreL K) nn = E := ⟨_, rfl⟩
  rw [hE] at CE HEI hY ⊢
  have HK := Lib.hid hK
  have HBX := Lib.hid hBx
  have HAX := Lib.hid hax
  have HJ := Lib.hid hJ
  have HSM := Lib.hid hs
  clear hE hK hm hnn hs hJ hBx hax
  refine callsIn_of_wp Tryz.func71 rfl trivial ?_ rfl
  simp only [Tryz.ntmps71, List.size_toArray, List.length_cons, List.length_nil, Nat.reduceAdd, Nat.reduceSub, Array.replicate_succ, Array.replicate_zero, List.push_toArray, List.append_toArray, List.nil_append, List.cons_append]
  gi_wp2_with (refine ⟨trivial, ?_⟩; gi_at_call 24; (refine (callsIn_wide.2 CE.out).mono ?_); rintro e W1 ⟨ea, el, ec, rfl, hER, hb⟩; have HER := Lib.hid hER; have HB := Lib.hid hb; clear hER hb)
  have HB1 := HB.out
  have h1J : J [] W1 := HJ.out [] W W1 none h0 ⟨HB1.os, HB1.tape, HB1.output, HB1.size, fun k hk _ => HB1.block k hk⟩ (fun r e => by cases e)
  have hbx1 : Boxed W1 Bx t (.slice none 0 0) := (HB1.block Bx HBX.out.lt).trans HBX.out
  have HRN : Hid (rowB Bx W1 = none) := Lib.hid (by unfold rowB; rw [hbx1.cell]; rfl)
  have HNB : Hid (∀ o z, W1.cell? ⟨Bx, o, none⟩ ≠ some (.int .i64 z)) := Lib.hid (fun o z e => by
    rw [cell_of_row W1 Bx o _ t (0, 0) hbx1] at e
    cases o with
    | zero => cases e
    | succ o => cases e)
  have HC : Hid (∀ wr, KpE Bx W1 wr → ∀ b o u, b ≠ Bx → W1.cell? ⟨b, o, none⟩ = some u → wr.cell? ⟨b, o, none⟩ = some u) := Lib.hid (fun wr hk b o u hb hc => hk.cell b o u hb (by rw [HRN.out]; intro e; cases e) hc)
  have hBf01 : W1.cell? ⟨Bf, 0, none⟩ = some (.slice a len cap) := (HB1.cell (p := ⟨Bf, 0, none⟩) (cell_lt hBf0)).trans hBf0
  have HBF := Lib.hid hBf01
  have HK1 := Lib.hid (HK.out.below HB1)
  have HFX := Lib.hid hfx
  have HEL := Lib.hid HER.out.hlen
  have hel := HER.out.len64
  have hl64 := HK.out.len64
  clear HB1 hbx1 hBf0 hBf1 hBn hBf01 h0 hfx
  gi_wp2
  gi_loopw [10] (fun i wr => ∃ k : Nat, k ≤ el ∧ i = .int .i64 k ∧ J (seqE K E k) wr ∧ Hid (KpE Bx W1 wr)) (fun i _ => el - (intOf i).toNat)
  case atStart => exact ⟨0, Nat.zero_le _, rfl, h1J, Lib.hid (KpE.refl _ _)⟩
  case round =>
    obtain ⟨k, hk, rfl, hJs, HKP⟩ := hrel
    by_cases hlt : k < el
    · obtain ⟨eb, eo, z, rfl, hebl, hz, hcz, hin⟩ := HER.out.get hlt
      obtain ⟨j, hj, hjl⟩ := HEI.out z (List.mem_of_getElem? hz)
      subst hj
      obtain ⟨b, off, x, rfl, hbl, hx, hxa, -⟩ := HK1.out.get hjl
      have hne : eb ≠ Bx := fun e => HNB.out (eo + k) j (by rw [← e]; exact hcz)
      have hbne := HAX.out b off rfl (by omega)
      have cz := HC.out wr HKP.out eb _ _ hne hcz
      have cf := HC.out wr HKP.out Bf 0 _ HFX.out HBF.out
      have x0 := HC.out wr HKP.out b _ _ hbne hxa.c0
      have x1 := HC.out wr HKP.out b _ _ hbne hxa.c1
      have x2 := HC.out wr HKP.out b _ _ hbne hxa.c2
      have x3 := HC.out wr HKP.out b _ _ hbne hxa.c3
      have x4 := HC.out wr HKP.out b _ _ hbne hxa.c4
      have x5 := HC.out wr HKP.out b _ _ hbne hxa.c5
      have x6 := HC.out wr HKP.out b _ _ hbne hxa.c6
      have x7 := HC.out wr HKP.out b _ _ hbne hxa.c7
      have x8 := HC.out wr HKP.out b _ _ hbne hxa.c8
      have x9 := HC.out wr HKP.out b _ _ hbne hxa.c9
      have hnk : nodeK K (j : Int) = x := by unfold nodeK; rw [Int.toNat_natCast, hx]; rfl
      have HSQ : Hid (seqE K E (k + 1) = seqE K E k ++ [((j : Int), x)]) := Lib.hid (by rw [seqE_succ hz, hnk])
      have hxd : x.core.data.size ≤ 9223372036854775807 := (HK.out.ok x (List.mem_of_getElem? hx)).data
      obtain ⟨fn, tmps, assign, body, hy, hR⟩ := hY _ ((j : Int), x) wr hJs (by rw [seqE_len (by rw [HEL.out]; exact hk), HEL.out]; exact hlt)
      try dsimp only at hy
      have hj64 : (j : Int) ≤ 9223372036854775807 := by omega
      clear hz hcz hin hxa hx hne hbne hnk
      gi_wp2
      refine hR.mono ?_
      rintro e W3 (⟨rfl, hJ3, hk3⟩ | ⟨rfl, hJx3⟩)
      · gi_wp2
        go_roundw
        case rel => exact ⟨k + 1, hlt, by go_num, by rw [HSQ.out]; exact hJ3, Lib.hid (HKP.out.trans hk3)⟩
        case measure => simp [intOf]; omega
      · gi_wp2
        refine bodyPost_ret (results_none rfl _ _ _) rfl ?_
        exact ⟨⟨_, rfl⟩, .inr ⟨_, by rw [List.length_append, seqE_len (by rw [HEL.out]; exact hk), HEL.out]; simp; omega, hJx3⟩⟩
    · have hkk : k = el := by omega
      subst hkk
      gi_wp2
      go_end0
      exact ⟨⟨_, rfl⟩, .inl ⟨_, by rw [HEL.out], hJs⟩⟩
theorem elems_stops (n : Nat) (hn : 1 ≤ n) (Bf Bn Bx : Nat) (t : TypeId) (a : Option Addr) (len cap : Nat) (m nn : Int) (K : List NodeD) (w : World) (hBf0 : w.cell? ⟨Bf, 0, none⟩ = some (.slice a len cap)) (hBf1 : w.cell? ⟨Bf, 1, none⟩ = some (.int .i64 m)) (hBn : w.cell? ⟨Bn, 0, none⟩ = some (.int .i64 nn)) (hBx : Boxed w Bx t (.slice none 0 0)) (hfx : Bf ≠ Bx) (hax : ∀ b off, a = some ⟨b, off, none⟩ → 0 < len → b ≠ Bx)
    (hK : NodeRow w a len cap K) (hm : In64 m) (hnn : In64 nn) (hs : smallF K) :
    SeqStopsK Fence.wide n Tryz.prog 71 #[.pointer (some ⟨Bf, 0, none⟩), .pointer (some ⟨Bn, 0, none⟩)] encZN (KpE Bx) (fun ys => ys = seqE K (elemsZ m (coreL K) nn) (elemsZ m (coreL K) nn).length) (fun pre => pre.length ≤ (elemsZ m (coreL K) nn).length) (elemsZ m (coreL K) nn).length w := fun l J Jx W hW hJ _ hY h0 =>
  elems1_in n hn l Bf Bn Bx t a len cap m nn K J Jx W hJ hY ((hW.cell (p := ⟨Bf, 0, none⟩) (cell_lt hBf0)).trans hBf0) ((hW.cell (p := ⟨Bf, 1, none⟩) (cell_lt hBf1)).trans hBf1) ((hW.cell (p := ⟨Bn, 0, none⟩) (cell_lt hBn)).trans hBn) ((hW.block Bx hBx.lt).trans hBx) hfx hax (hK.below hW) hm hnn hs h0
end Go.Proofs.YtkomeijlljcdgaaGreat
namespace Go.Proofs.YtkomeijlljcdgaaGreat
open Go.RowKit Go.Shelf
attribute [local go_sem] Oper.semAt_some
def heirB (xn xl : ByteArray) (c : Core) : Bool := (c.name.toList == xl.toList) && ((c.is.toList == xn.toList) || (c.name.toList == xn.toList))
def heirsZ (m : Int) (F : List Core) (xn xl : ByteArray) : List Int := (elemsZ m F 0).filter fun z => match getC F z with | some c => heirB xn xl c | none => false
def selH (xn xl : ByteArray) (pre : List (Int × NodeD)) : List Int := (pre.filter fun p => heirB xn xl p.2.core).map Prod.fst
theorem selH_hit {xn xl : ByteArray} (pre : List (Int × NodeD)) {x : Int × NodeD} (h : heirB xn xl x.2.core = true) : selH xn xl (pre ++ [x]) = selH xn xl pre ++ [x.1] := by simp [selH, h]
theorem selH_miss {xn xl : ByteArray} (pre : List (Int × NodeD)) {x : Int × NodeD} (h : heirB xn xl x.2.core = false) : selH xn xl (pre ++ [x]) = selH xn xl pre := by simp [selH, h]
theorem selH_all {m : Int} {K : List NodeD} {xn xl : ByteArray} : selH xn xl (seqE K (elemsZ m (coreL K) 0) (elemsZ m (coreL K) 0).length) = heirsZ m (coreL K) xn xl := by
  unfold selH seqE heirsZ
  rw [List.take_of_length_le (Nat.le_refl _), List.filter_map, List.map_map]
  have h1 : (Prod.fst ∘ fun z => (z, nodeK K z)) = (id : Int → Int) := rfl
  rw [h1, List.map_id]
  refine List.filter_congr fun z hz => ?_
  obtain ⟨t, rfl, ht⟩ := elemsZ_in hz
  rw [coreL_len] at ht
  have hx : K[t]? = some K[t] := List.getElem?_eq_getElem ht
  show heirB xn xl (nodeK K (t : Int)).core = _
  rw [getC_nat, coreL_get hx]
  unfold nodeK
  rw [Int.toNat_natCast, hx]
  rfl
theorem kpE_append {W w1 : World} {Bx base k size : Nat} {t e : TypeId} {v v' : Value} {xs : List Value} {lit : Obj} (hb : Boxed W Bx t v) (ho : W.ownsRow base e size v k xs) (hg : (W.alloc lit).grownBy w1 v.ownBlock) (hat : v'.ownBlock = v.ownBlock ∨ v'.ownBlock = some (W.alloc lit).heap.size) (hte : t ≠ e) : KpE Bx W (w1.setCell ⟨Bx, 0, none⟩ v') := by
  have hs : (W.alloc lit).heap.size = W.heap.size + 1 := by simp
  have hz := hg.size
  have hr : rowB Bx W = v.ownBlock := by unfold rowB; rw [hb.cell]; rfl
  have hlt := hb.lt
  have hbx1 : w1.heap[Bx]? = W.heap[Bx]? := (hg.block Bx (by omega) (hb.not_row hte ho)).trans (Below.heap_alloc W lit Bx hlt)
  refine ⟨by simp only [World.setCell, Array.size_modify]; omega, fun b o u hne hnr hc => ?_, fun r hr2 => ?_⟩
  · have hl := cell_lt hc
    rw [hr] at hnr
    refine (World.cell?_setCell_other _ _ _ _ (fun e => by injection e with e _; exact hne e.symm)).trans ?_
    rw [World.cell?_of_block (w := W.alloc lit) (a := ⟨b, o, none⟩) (hg.block b (by omega) (fun e => hnr e.symm)), World.cell?_alloc_lt W lit ⟨b, o, none⟩ hl]
    exact hc
  · unfold rowB at hr2
    rw [World.cell?_setCell_same _ _ _ ((World.cell?_of_block (w := W) (a := ⟨Bx, 0, none⟩) hbx1).trans hb.cell)] at hr2
    have hr2 : v'.ownBlock = some r := hr2
    rw [hr]
    rcases hat with h1 | h1
    · exact .inl (h1 ▸ hr2)
    · rw [h1] at hr2
      injection hr2 with hr2
      exact .inr (by omega)
theorem kpE_alloc {Bx : Nat} {W : World} (hlt : Bx < W.heap.size) (o : Obj) : KpE Bx W (W.alloc o) := by
  refine ⟨by simp, fun b o' u _ _ hc => (World.cell?_alloc_lt W o ⟨b, o', none⟩ (cell_lt hc)).trans hc, fun r hr => .inl ?_⟩
  unfold rowB at hr ⊢
  rwa [World.cell?_alloc_lt W o ⟨Bx, 0, none⟩ hlt] at hr
structure Coll (B Bx : Nat) (t e : TypeId) (size : Nat) (w W : World) (n : Nat) (xs : List Value) : Prop where
  row : ∃ v, Boxed W Bx t v ∧ W.ownsRow B e size v n xs
  below : Below B w W
  low : B ≤ W.heap.size
theorem Coll.own {β : Type} {B B' Bx : Nat} {t e : TypeId} {size : Nat} {w : World} (hB : B ≤ B') (k : β → Nat) (f : β → List Value) : OwnFrom B' (fun s W => Coll B Bx t e size w W (k s) (f s)) := by
  rintro s W W' row ⟨⟨v, hv, hr⟩, hb, hl⟩ hg hrow
  refine ⟨⟨v, hv.kept hg (fun e' => ?_), hr.kept hg ?_⟩, hb.grown hg hl (fun k e' => Nat.le_trans hB (hrow k e').1), Nat.le_trans hl hg.size⟩
  · obtain ⟨o, ho, hc⟩ := (hrow Bx e'.symm).2
    rw [show W.heap[Bx]? = _ from hv] at ho
    cases ho
    cases hc
  · rcases hr.2 with ⟨rfl, _⟩ | ⟨g, cap, cur, rfl, _, hgb, _⟩
    · exact .inl rfl
    · refine .inr fun e' => ?_
      obtain ⟨o, ho, hc⟩ := (hrow g (by simpa [Value.ownBlock] using e'.symm)).2
      rw [hgb] at ho
      cases ho
      cases hc
theorem own_blkF {β : Type} {B' b : Nat} {c : Array Value} {t : TypeId} {f : Nat × Nat} : OwnFrom B' (fun (_ : β) (W : World) => W.heap[b]? = some (.cells c t f)) := by
  rintro s W W' row h hg hrow
  exact (hg.block b (Array.getElem?_eq_some_iff.1 h).1 (fun e' => by
    obtain ⟨ob, ho, hc⟩ := (hrow b e'.symm).2
    rw [h] at ho
    cases ho
    cases hc)).trans h
theorem blk_append {W w1 : World} {Bx b base k size : Nat} {t e : TypeId} {v v' : Value} {xs : List Value} {lit : Obj} {c : Array Value} {f : Nat × Nat} (hb : W.heap[b]? = some (.cells c t f)) (hne : b ≠ Bx) (ho : W.ownsRow base e size v k xs) (hte : t ≠ e) (hg : (W.alloc lit).grownBy w1 v.ownBlock) : (w1.setCell ⟨Bx, 0, none⟩ v').heap[b]? = some (.cells c t f) := by
  have hlt := (Array.getElem?_eq_some_iff.1 hb).1
  refine (Below.heap_setCell _ _ _ b hne).trans ((hg.block b (by simp; omega) (fun e' => ?_)).trans ((Below.heap_alloc W lit b hlt).trans hb))
  rcases ho.2 with ⟨rfl, _⟩ | ⟨g, cap, cur, rfl, _, hgb, _⟩
  · cases e'
  · have e' : some b = some g := e'
    injection e' with e'
    subst e'
    rw [hb] at hgb
    injection hgb with hgb
    injection hgb with _ h2
    exact hte h2
theorem elemsZ_len (m : Int) (F : List Core) (n : Int) : (elemsZ m F n).length ≤ F.length := by
  unfold elemsZ allZ
  refine Nat.le_trans (List.length_filter_le _ _) ?_
  by_cases ht : thereF m F n = true
  · rw [if_pos ht]
    unfold thereF at ht
    simp only [Bool.and_eq_true, decide_eq_true_eq] at ht
    have := allI_len (x := n.toNat) ht.1.1 (by omega)
    rwa [show ((n.toNat : Nat) : Int) = n by omega] at this
  · rw [if_neg ht]
    exact Nat.zero_le _
set_option maxHeartbeats 8000000 in
set_option maxRecDepth 100000 in
theorem heirs_any (a : Option Addr) (len cap : Nat) (m : Int) (K : List NodeD) (xn xl : ByteArray) (cl : Int) (w : World) (h : NodeRow w a len cap K) (hm : In64 m) (hs : smallF K) :
    Calls Tryz.prog 15 #[forV a len cap m, .agg #[.string xn, .string xl, .int .i64 cl]] w (OrdPost w (heirsZ m (coreL K) xn xl)) := by
  have HL := Lib.hid h.hlen
  refine (callsIn_wide (n := 9)).1 ?_
  refine callsIn_of_wp_marks Tryz.func15 rfl trivial ?_ rfl
  simp only [Tryz.ntmps15, List.size_toArray, List.length_cons, List.length_nil, Nat.reduceAdd, Nat.reduceSub, Array.replicate_succ, Array.replicate_zero, List.push_toArray, List.append_toArray, List.nil_append, List.cons_append]
  gi_wp2_with (refine ⟨trivial, ?_⟩; gi_at_call 39; refine (callsIn_wide.2 (elemsSeq_any _ _ _ _ _ _)).mono ?_; rintro e w3 ⟨rfl, rfl⟩)
  obtain ⟨i0, hi0, hz0, hz1, hz2⟩ := info_parts int_info
  obtain ⟨W0, Bd, Bx, Bf, Bn, hW0, hBd, hBx, hBf, hBn, HB0, HSZ, HBX, HF0, HF1, HN0, HD0, HROW⟩ : ∃ (W0 : World) (Bd Bx Bf Bn : Nat), ((((w.alloc (forB a len cap m)).alloc (.cells #[.string xn, .string xl, .int .i64 cl] 30)).alloc (.cells #[.slice none 0 0] 36)).alloc (forB a len cap m)).alloc (.cells #[.int .i64 0] 3) = W0 ∧ w.heap.size + 1 = Bd ∧ Bd + 1 = Bx ∧ Bx + 1 = Bf ∧ Bf + 1 = Bn ∧ Hid (Below w.heap.size w W0) ∧ Hid (W0.heap.size = Bn + 1) ∧ Hid (Boxed W0 Bx 36 (.slice none 0 0)) ∧ Hid (W0.cell? ⟨Bf, 0, none⟩ = some (.slice a len cap)) ∧ Hid (W0.cell? ⟨Bf, 1, none⟩ = some (.int .i64 m)) ∧ Hid (W0.cell? ⟨Bn, 0, none⟩ = some (.int .i64 0)) ∧ Hid (W0.heap[Bd]? = some (.cells #[.string xn, .string xl, .int .i64 cl] 30 (0, 0))) ∧ Hid (NodeRow W0 a len cap K) := by
    refine ⟨_, _, _, _, _, rfl, rfl, rfl, rfl, rfl, ?_⟩
    generalize hw1 : w.alloc (forB a len cap m) = w1
    have s1 : w1.heap.size = w.heap.size + 1 := by rw [← hw1]; simp
    have b1 : Below w.heap.size w w1 := by rw [← hw1]; exact below_box _ _
    generalize hw2 : w1.alloc (.cells #[.string xn, .string xl, .int .i64 cl] 30) = w2
    have s2 : w2.heap.size = w.heap.size + 1 + 1 := by rw [← hw2]; simp [s1]
    have b2 : Below w1.heap.size w1 w2 := by rw [← hw2]; exact below_box _ _
    have d2 : w2.heap[w.heap.size + 1]? = some (.cells #[.string xn, .string xl, .int .i64 cl] 30 (0, 0)) := by rw [← hw2, ← s1]; exact heap_alloc_new w1 _
    generalize hw3 : w2.alloc (.cells #[.slice none 0 0] 36) = w3
    have s3 : w3.heap.size = w.heap.size + 1 + 1 + 1 := by rw [← hw3]; simp [s2]
    have b3 : Below w2.heap.size w2 w3 := by rw [← hw3]; exact below_box _ _
    have x3 : Boxed w3 (w.heap.size + 1 + 1) 36 (.slice none 0 0) := by rw [← hw3, ← s2]; exact Boxed.new w2 _ _
    generalize hw4 : w3.alloc (forB a len cap m) = w4
    have s4 : w4.heap.size = w.heap.size + 1 + 1 + 1 + 1 := by rw [← hw4]; simp [s3]
    have b4 : Below w3.heap.size w3 w4 := by rw [← hw4]; exact below_box _ _
    have f4 : ∀ j, w4.cell? ⟨w.heap.size + 1 + 1 + 1, j, none⟩ = (#[.slice a len cap, .int .i64 m] : Array Value)[j]? := fun j => by rw [← hw4, ← s3]; exact cell_of_row _ w3.heap.size j _ 24 (0, 0) (heap_alloc_new w3 _)
    generalize hw5 : w4.alloc (.cells #[.int .i64 0] 3) = w5
    have s5 : w5.heap.size = w.heap.size + 1 + 1 + 1 + 1 + 1 := by rw [← hw5]; simp [s4]
    have b5 : Below w4.heap.size w4 w5 := by rw [← hw5]; exact below_box _ _
    have n5 : w5.cell? ⟨w.heap.size + 1 + 1 + 1 + 1, 0, none⟩ = some (.int .i64 0) := by rw [← hw5, ← s4]; exact cell_of_row _ w4.heap.size 0 _ 3 (0, 0) (heap_alloc_new w4 _)
    have b25 : Below w2.heap.size w2 w5 := (b3.trans (b4.mono b3.size)).trans (b5.mono (Nat.le_trans b3.size b4.size))
    have b35 : Below w3.heap.size w3 w5 := b4.trans (b5.mono b4.size)
    have b05 : Below w.heap.size w w5 := (b1.trans (b2.mono b1.size)).trans (b25.mono (Nat.le_trans b1.size b2.size))
    exact ⟨Lib.hid b05, Lib.hid s5, Lib.hid ((b35.block _ x3.lt).trans x3), Lib.hid ((b5.cell (p := ⟨w.heap.size + 1 + 1 + 1, 0, none⟩) (by rw [s4]; exact Nat.lt_succ_self _)).trans (f4 0)), Lib.hid ((b5.cell (p := ⟨w.heap.size + 1 + 1 + 1, 1, none⟩) (by rw [s4]; exact Nat.lt_succ_self _)).trans (f4 1)), Lib.hid n5, Lib.hid ((b25.block _ (by rw [s2]; exact Nat.lt_succ_self _)).trans d2), Lib.hid (h.below b05)⟩
  show Code.wpIn _ _ _ _ _ _ (((((w.alloc (forB a len cap m)).alloc (.cells #[.string xn, .string xl, .int .i64 cl] 30)).alloc (.cells #[.slice none 0 0] 36)).alloc (forB a len cap m)).alloc (.cells #[.int .i64 0] 3))
  rw [hW0, hBd, hBx, hBf, hBn]
  clear hW0
  have hsz := HSZ.out
  have hdx : Bd ≠ Bx := by omega
  have hfx : Bf ≠ Bx := by omega
  have hax : ∀ b off, a = some ⟨b, off, none⟩ → 0 < len → b ≠ Bx := fun b off e hp => by
    rcases h.row.cells with h0 | ⟨b2, off2, ha2, hlt, _⟩
    · omega
    · rw [e] at ha2
      injection ha2 with ha2
      injection ha2 with e1
      omega
  refine wpIn_rangeFunc_ownH (F := Fence.wide) (n := 9) rfl (by decide) (gf := 71) (lb := #[.pointer (some ⟨Bf, 0, none⟩), .pointer (some ⟨Bn, 0, none⟩)]) rfl trivial (enters_of Tryz.func71 (by kernel_rfl) rfl)
    (elems_stops 8 (by decide) Bf Bn Bx 36 a len cap m 0 K W0 HF0.out HF1.out HN0.out HBX.out hfx hax HROW.out hm ⟨by decide, by decide⟩ hs) KpE.trans (fun W l o o' hl h1 hc _ => KpE.putObj (by omega) h1 hc) (Below.refl _ _) (fun _ => rfl)
    (fun pre W => Coll w.heap.size Bx 36 3 1 w W ((selH xn xl pre).flatMap encZ).length ((selH xn xl pre).flatMap encZ) ∧ W.heap[Bd]? = some (.cells #[.string xn, .string xl, .int .i64 cl] 30 (0, 0)))
    (fun _ _ _ => False)
    (OwnFrom.and (Coll.own (by omega) _ _) own_blkF)
    (fun _ _ _ _ _ hs _ _ => hs)
    ⟨⟨⟨_, HBX.out, World.ownsRow_nil _ _ _ _⟩, HB0.out, HB0.out.size⟩, HD0.out⟩
    (fun x a' W => ∃ Bv, W.heap[Bv]? = some (nodB x.2) ∧ a' = { tmps := #[forV a len cap m, .agg #[.string xn, .string xl, .int .i64 cl], .pointer (some ⟨w.heap.size, 0, none⟩), .pointer (some ⟨Bd, 0, none⟩), .slice none 0 0, .pointer (some ⟨Bx, 0, none⟩), .int .i64 x.1, .pointer (some ⟨Bv, 0, none⟩), forV a len cap m, .func (.func 71) #[] #[.pointer (some ⟨Bf, 0, none⟩), .pointer (some ⟨Bn, 0, none⟩)], .int .i64 x.1, nodVal x.2, undef, undef, undef, undef, undef, undef, undef, undef, undef, undef, undef, undef, undef, undef, undef, undef, undef, undef, undef, undef, undef, undef, undef, undef], defers := [] })
    ?hAx ?assign ?body ?done ?stop
  case hAx =>
    rintro x a' s W W' row ⟨Bv, hb, he⟩ hg hrow
    refine ⟨Bv, (hg.block Bv (Array.getElem?_eq_some_iff.1 hb).1 (fun e' => ?_)).trans hb, he⟩
    obtain ⟨ob, ho, hc⟩ := (hrow Bv e'.symm).2
    rw [hb] at ho
    cases ho
    cases hc
  case assign =>
    rintro l pre x W K' ⟨hC, hd⟩ hK
    have hbxl : Bx < W.heap.size := by
      obtain ⟨v, hv, _⟩ := hC.row
      exact hv.lt
    gi_wp2
    exact hK _ _ ((KeepsOthers.alloc _ _).from _) (kpE_alloc hbxl _) ⟨(Coll.own (β := Unit) (B' := w.heap.size) (Nat.le_refl _) (fun _ => _) (fun _ => _)).alloc (s := ()) _ hC, (own_blkF (β := Unit) (B' := 0)).alloc (s := ()) _ hd⟩ ⟨W.heap.size, heap_alloc_new W _, rfl⟩
  case body =>
    rintro l pre x a' W hl ⟨r, hr⟩ ⟨hC, hd⟩ ⟨Bv, hBv, rfl⟩ hlt
    obtain ⟨⟨v, hv, hrow⟩, hB, hlo⟩ := hC
    have hpl : (selH xn xl pre).length ≤ 1000 := by
      have h1 : (selH xn xl pre).length ≤ pre.length := by unfold selH; rw [List.length_map]; exact List.length_filter_le _ _
      have h2 := elemsZ_len m (coreL K) 0
      rw [coreL_len, HL.out] at h2
      have h3 := hs.1
      have h4 := HL.out
      omega
    obtain ⟨kk, hkk⟩ : ∃ kk, ((selH xn xl pre).flatMap encZ).length = kk := ⟨_, rfl⟩
    have hkk2 : kk ≤ 1000 := by rw [← hkk, flat_len (fun z _ => encZ_len z)]; omega
    rw [hkk] at hrow
    have HV := Lib.hid hv
    have HROW2 := Lib.hid hrow
    have HBB := Lib.hid hB
    have HD := Lib.hid hd
    have HKK := Lib.hid hkk
    have d0 : W.cell? ⟨Bd, 0, none⟩ = some (.string xn) := cell_of_row W Bd 0 _ _ (0, 0) hd
    have d1 : W.cell? ⟨Bd, 1, none⟩ = some (.string xl) := cell_of_row W Bd 1 _ _ (0, 0) hd
    have y1 : W.cell? ⟨Bv, 1, none⟩ = some (.string x.2.core.name) := cell_of_row W Bv 1 _ _ (0, 0) hBv
    have y2 : W.cell? ⟨Bv, 2, none⟩ = some (.string x.2.core.is) := cell_of_row W Bv 2 _ _ (0, 0) hBv
    have hc := hv.cell
    have hfz := hv.frozen
    have hbw : w.heap.size ≤ Bx := by omega
    obtain ⟨q1, hq1⟩ : ∃ q, (x.2.core.name.toList == xl.toList) = q := ⟨_, rfl⟩
    obtain ⟨q2, hq2⟩ : ∃ q, (x.2.core.is.toList == xn.toList) = q := ⟨_, rfl⟩
    obtain ⟨q3, hq3⟩ : ∃ q, (x.2.core.name.toList == xn.toList) = q := ⟨_, rfl⟩
    have HQ : Hid (heirB xn xl x.2.core = (q1 && (q2 || q3))) := Lib.hid (by unfold heirB; rw [hq1, hq2, hq3])
    clear hv hrow hB hd hkk hBv hpl hlt hr
    cases q1 <;> cases q2 <;> cases q3
    all_goals
      gi_wp2_with (gi_at_builtin; refine wpListIn_append_keep _ rfl _ _ 36 rfl w.heap.size 3 i0 _ 1 8 Tryz.underlying36 hi0 hz0 hz1 hz2 rfl (by decide) v kk ((selH xn xl pre).flatMap encZ) rfl (HROW2.out.alloc _) ⟨W.heap.size, 0, none⟩ 1 1 [.int .i64 x.1] rfl rfl (cell_one_new W (.int .i64 x.1) 3) (by simp [Value.oneCell']) (by decide) (by unfold maxLen; omega) (by omega) (by simp; omega) ?_; intro g6 cap6 w6 hown6 hold6 hg6 hat6 hlt6; obtain ⟨hv1, hv2, hr2, hk2, hb2⟩ := HV.out.appended (by decide) HROW2.out hlo hbw hown6 hg6; have hc6 := hv1.cell; have hf6 := hv1.frozen; have HDN := Lib.hid (blk_append (Bx := Bx) (v' := .slice (some ⟨g6, 0, none⟩) (kk + 1) cap6) HD.out (by omega) HROW2.out (by decide) hg6); have HKP := Lib.hid (kpE_append (v' := .slice (some ⟨g6, 0, none⟩) (kk + 1) cap6) HV.out HROW2.out hg6 (hat6.imp (fun e => e.symm) (fun e => by rw [← e]; rfl)) (by decide)); clear hown6 hold6 hg6 hat6 hlt6)
    all_goals first
      | (have hq := selH_miss pre (HQ.out.trans rfl)
         refine ⟨KeepsFrom.refl _ _, KpE.refl _ _, ⟨⟨v, HV.out, ?_⟩, HBB.out, hlo⟩, HD.out⟩
         rw [hq, HKK.out]
         exact HROW2.out)
      | (have hq := selH_hit pre (HQ.out.trans rfl)
         refine ⟨hk2.from _, HKP.out, ⟨⟨_, hv2, ?_⟩, HBB.out.trans hb2, Nat.le_trans hlo hk2.size⟩, HDN.out⟩
         rw [hq, List.flatMap_append, List.length_append, HKK.out]
         exact hr2)
  case done =>
    rintro D ys W hD rfl ⟨hC, hd⟩ hK
    obtain ⟨v, hv, hrow⟩ := hC.row
    have hc := hv.cell
    gi_wp2
    refine ⟨by simp, .inl ⟨_, _, rfl, run_takeDeferred hK, ?_⟩⟩
    have hC2 := (Coll.own (β := Unit) (B' := w.heap.size) (Bx := Bx) (t := 36) (e := 3) (size := 1) (w := w) (Nat.le_refl _) (fun _ => _) (fun _ => _)).putObj (s := ()) (.deferred none) hC (by omega) hK rfl
    rw [selH_all] at hrow
    have hro := ownsRow_putObj hrow (.deferred none) hK rfl
    rw [flat_len (fun z _ => encZ_len z), Nat.mul_one] at hro
    obtain ⟨a5, c5, rfl, hI, -⟩ := IntRow.of_own_new rfl hro (fun z hz => by
      obtain ⟨t, rfl, ht⟩ := elemsZ_in (List.mem_filter.1 hz).1
      rw [coreL_len] at ht
      exact ⟨by omega, by have := hs.1; omega⟩)
    exact ⟨_, results_tmp rfl _ _ _, a5, _, c5, rfl, hI, hC2.below⟩
  case stop =>
    rintro D c pre W _ _ h _
    exact h.elim
end Go.Proofs.YtkomeijlljcdgaaGreat
namespace Go.Proofs.YtkomeijlljcdgaaGreat
open Go.RowKit
def shT (lo k t : Nat) : Nat := if t < lo then t else t - k
def shX (lo k : Nat) : Operand → Operand
  | .tmp t => .tmp (shT lo k t)
  | .const v => .const v
  | .global g => .global g
  | .func f => .func f
def shE (lo k : Nat) : Callee → Callee
  | .value f => .value (shX lo k f)
  | .invoke r m => .invoke (shX lo k r) m
  | .builtin b => .builtin b
def shO (lo k : Nat) : Op → Op
  | .move x => .move (shX lo k x)
  | .assign x => .assign (shX lo k x)
  | .pick c a b => .pick (shX lo k c) (shX lo k a) (shX lo k b)
  | .load t x => .load t (shX lo k x)
  | .binOp op t x y t' => .binOp op t (shX lo k x) (shX lo k y) t'
  | .unOp op t x => .unOp op t (shX lo k x)
  | .fieldAddr t x f => .fieldAddr t (shX lo k x) f
  | .indexAddr t x y => .indexAddr t (shX lo k x) (shX lo k y)
  | .call c => .call { callee := shE lo k c.callee, args := c.args.map (shX lo k), argTypes := c.argTypes }
  | o => o
def sh (lo k : Nat) (o : Oper) : Oper := { o with dst := o.dst.map (shT lo k), op := shO lo k o.op }
def inT (lo k n t : Nat) : Bool := (Nat.blt t lo && Nat.blt t n) || (Nat.ble (lo + k) t && Nat.blt t (n + k))
def inX (lo k n : Nat) : Operand → Bool
  | .tmp t => inT lo k n t
  | _ => true
def inO (lo k n : Nat) : Op → Bool
  | .move x => inX lo k n x
  | .assign x => inX lo k n x
  | .pick c a b => inX lo k n c && inX lo k n a && inX lo k n b
  | .load _ x => inX lo k n x
  | .binOp _ _ x y _ => inX lo k n x && inX lo k n y
  | .unOp _ _ x => inX lo k n x
  | .fieldAddr _ x _ => inX lo k n x
  | .indexAddr _ x y => inX lo k n x && inX lo k n y
  | .call c => (match c.callee with | .value f => inX lo k n f | .invoke _ _ => false | .builtin _ => true) && c.args.all (inX lo k n)
  | _ => false
def inD (lo k n : Nat) : Option Nat → Bool
  | some d => inT lo k n d
  | none => true
def smallOK (lo k n : Nat) (l : List Oper) : Bool := l.all (fun o => inD lo k n o.dst && inO lo k n o.op)
def mergeL (lo k n : Nat) (s : Array Value) : Nat → List Value → List Value
  | _, [] => []
  | t, v :: r => (bif inT lo k n t then s.getD (shT lo k t) undef else v) :: mergeL lo k n s (t + 1) r
def merge (lo k n : Nat) (a s : Act) : Act := ⟨(mergeL lo k n s.tmps 0 a.tmps.toList).toArray, a.defers⟩
section
variable {lo k n : Nat}
theorem mergeL_len (s : Array Value) : ∀ (t : Nat) (l : List Value), (mergeL lo k n s t l).length = l.length
  | _, [] => rfl
  | t, v :: r => by unfold mergeL; rw [List.length_cons, List.length_cons, mergeL_len s (t + 1) r]
theorem mergeL_get (s : Array Value) : ∀ (t : Nat) (l : List Value) (i : Nat), (mergeL lo k n s t l)[i]? = (l[i]?).map (fun v => bif inT lo k n (t + i) then s.getD (shT lo k (t + i)) undef else v)
  | _, [], _ => by simp [mergeL]
  | t, v :: r, 0 => by simp [mergeL]
  | t, v :: r, i + 1 => by
    unfold mergeL
    rw [List.getElem?_cons_succ, List.getElem?_cons_succ, mergeL_get s (t + 1) r i, show t + 1 + i = t + (i + 1) by omega]
theorem merge_get (a s : Act) (i : Nat) : (merge lo k n a s).tmps[i]? = (a.tmps[i]?).map (fun v => bif inT lo k n i then s.tmps.getD (shT lo k i) undef else v) := by
  unfold merge
  rw [List.getElem?_toArray, mergeL_get, Nat.zero_add, Array.getElem?_toList]
theorem merge_getD (a s : Act) {i : Nat} (hi : i < a.tmps.size) (ht : inT lo k n i = true) : (merge lo k n a s).tmps.getD i undef = s.tmps.getD (shT lo k i) undef := by
  rw [Array.getD_eq_getD_getElem?, merge_get, Array.getElem?_eq_getElem hi, ht]
  rfl
theorem merge_size (a s : Act) : (merge lo k n a s).tmps.size = a.tmps.size := by
  unfold merge
  rw [List.size_toArray, mergeL_len, Array.length_toList]
theorem shT_lt {t : Nat} (h : inT lo k n t = true) : shT lo k t < n := by
  unfold inT at h
  unfold shT
  simp only [Bool.or_eq_true, Bool.and_eq_true, Nat.blt_eq, Nat.ble_eq] at h
  split <;> omega
theorem shT_inj {t u : Nat} (ht : inT lo k n t = true) (hu : inT lo k n u = true) (h : shT lo k t = shT lo k u) : t = u := by
  unfold inT at ht hu
  unfold shT at h
  simp only [Bool.or_eq_true, Bool.and_eq_true, Nat.blt_eq, Nat.ble_eq] at ht hu
  split at h <;> split at h <;> omega
theorem merge_put (a s : Act) {d : Nat} (hs : s.tmps.size = n) (ht : inT lo k n d = true) (v : Value) (hda : d < a.tmps.size) : (merge lo k n a s).put (some d) v = merge lo k n a (s.put (some (shT lo k d)) v) := by
  have e : ((merge lo k n a s).put (some d) v).tmps = (merge lo k n a (s.put (some (shT lo k d)) v)).tmps := by
    apply Array.ext_getElem?
    intro i
    rw [merge_get]
    show ((merge lo k n a s).tmps.setIfInBounds d v)[i]? = _
    rw [Array.getElem?_setIfInBounds, merge_get, merge_size]
    show _ = (a.tmps[i]?).map (fun w => bif inT lo k n i then (s.tmps.setIfInBounds (shT lo k d) v).getD (shT lo k i) undef else w)
    by_cases hdi : d = i
    · subst hdi
      rw [if_pos rfl, if_pos hda, Array.getElem?_eq_getElem hda, ht]
      have : shT lo k d < s.tmps.size := by rw [hs]; exact shT_lt ht
      simp [Array.getD_eq_getD_getElem?, this]
    · rw [if_neg hdi]
      cases hq : inT lo k n i with
      | false => rfl
      | true =>
        have hne : shT lo k d ≠ shT lo k i := fun h => hdi (shT_inj ht hq h)
        simp [Array.getD_eq_getD_getElem?, hne]
  show Act.mk _ _ = Act.mk _ _
  congr 1
theorem put_size (a : Act) (d : Option Nat) (v : Value) : (a.put d v).tmps.size = a.tmps.size := by
  cases d with
  | none => rfl
  | some d => simp [Act.put]
theorem sh_eval (a s : Act) (hs : ∀ t, inT lo k n t = true → t < a.tmps.size) {x : Operand} (hx : inX lo k n x = true) : s.eval (shX lo k x) = (merge lo k n a s).eval x := by
  cases x with
  | tmp t => exact (merge_getD a s (hs t hx) hx).symm
  | const v => rfl
  | global g => rfl
  | func f => rfl
theorem sh_exec {e e' : Operand → Value} {o : Oper} (ho : inO lo k n o.op = true) (h : ∀ x, inX lo k n x = true → e' (shX lo k x) = e x) : execOp e' (sh lo k o) = execOp e o := by
  obtain ⟨dst, op, type, pos, after, guard⟩ := o
  cases op <;> simp only [inO, Bool.and_eq_true, Bool.false_eq_true] at ho
  case move x => simp only [sh, shO, execOp, h x ho]
  case assign x => simp only [sh, shO, execOp, h x ho]
  case pick c a b => simp only [sh, shO, execOp, h c ho.1.1, h a ho.1.2, h b ho.2]
  case load t x => simp only [sh, shO, execOp, h x ho]
  case binOp op t x y t' =>
    simp only [sh, shO, execOp, h x ho.1, h y ho.2, eqGuard]
    cases x <;> cases y <;> rfl
  case unOp op t x => simp only [sh, shO, execOp, h x ho]
  case fieldAddr t x f => simp only [sh, shO, execOp, h x ho]
  case indexAddr t x y => simp only [sh, shO, execOp, h x ho.1, h y ho.2]
  case call c =>
    obtain ⟨callee, args, ats⟩ := c
    have ha : (args.map (shX lo k)).map e' = args.map e := by
      rw [Array.map_map]
      apply Array.map_congr_left
      intro x hx
      exact h x (Array.all_eq_true_iff_forall_mem.1 ho.2 x hx)
    have hk : ∀ f : Operand → Bool, (∀ x, f (shX lo k x) = f x) → (args.map (shX lo k)).map f = args.map f := fun f hf => by
      rw [Array.map_map]
      apply Array.map_congr_left
      intro x _
      exact hf x
    cases callee with
    | value f => simp only [sh, shO, shE, execOp, resolve, ha, h f ho.1]
    | invoke r m => exact absurd ho.1 (by simp)
    | builtin b =>
      simp only [sh, shO, shE, execOp, resolve, ha]
      rw [hk _ (fun x => by cases x <;> rfl)]
theorem sh_wanted (a s : Act) (hs : ∀ t, inT lo k n t = true → t < a.tmps.size) (hn : s.tmps.size = n) {l : List Oper} (hl : smallOK lo k n l = true) (o : Oper) :
    Region.wanted (sh lo k o) (yielded (l.map (sh lo k)).toArray s.tmps) = Region.wanted o (yielded l.toArray (merge lo k n a s).tmps) := by
  have key : ∀ j, yielded (l.map (sh lo k)).toArray s.tmps j = yielded l.toArray (merge lo k n a s).tmps j := fun j => by
    unfold yielded
    rw [List.getElem?_toArray, List.getElem?_toArray, List.getElem?_map]
    cases ho : l[j]? with
    | none => rfl
    | some oj =>
      have h1 := List.all_eq_true.1 hl oj (List.mem_of_getElem? ho)
      rw [Bool.and_eq_true] at h1
      have h2 := h1.1
      show (match ((oj.dst.map (shT lo k)).bind (s.tmps[·]?)) with | some (.bool b) => some b | _ => none) = (match (oj.dst.bind ((merge lo k n a s).tmps[·]?)) with | some (.bool b) => some b | _ => none)
      cases hd : oj.dst with
      | none => rfl
      | some d =>
        rw [hd] at h2
        have h3 : inT lo k n d = true := h2
        have h4 := hs d h3
        show (match s.tmps[shT lo k d]? with | some (.bool b) => some b | _ => none) = (match (merge lo k n a s).tmps[d]? with | some (.bool b) => some b | _ => none)
        rw [merge_get, Array.getElem?_eq_getElem h4, h3, Array.getElem?_eq_getElem (by rw [hn]; exact shT_lt h3)]
        show _ = (match some (s.tmps.getD (shT lo k d) undef) with | some (.bool b) => some b | _ => none)
        rw [Array.getD_eq_getD_getElem?, Array.getElem?_eq_getElem (by rw [hn]; exact shT_lt h3)]
        rfl
  show (match o.guard with | none => true | some (j, want) => yielded (l.map (sh lo k)).toArray s.tmps j == some want) = (match o.guard with | none => true | some (j, want) => yielded l.toArray (merge lo k n a s).tmps j == some want)
  cases o.guard with
  | none => rfl
  | some g =>
    show (yielded (l.map (sh lo k)).toArray s.tmps g.1 == some g.2) = _
    rw [key]
theorem sh_put (a s : Act) (hs : ∀ t, inT lo k n t = true → t < a.tmps.size) (hn : s.tmps.size = n) {d : Option Nat} (hd : inD lo k n d = true) (v : Value) : (merge lo k n a s).put d v = merge lo k n a (s.put (d.map (shT lo k)) v) := by
  cases d with
  | none => rfl
  | some d => exact merge_put a s hn hd v (hs d hd)
theorem quiet_small {P : Program} {C : World → Prop} {a : Act} (hs : ∀ t, inT lo k n t = true → t < a.tmps.size) {l : List Oper} (hl : smallOK lo k n l = true) {R Q : Act → Prop} (hR : ∀ s, s.tmps.size = n → R s → Q (merge lo k n a s)) :
    ∀ (r : List Oper), smallOK lo k n r = true → ∀ s : Act, s.tmps.size = n → wpQuiet P (l.map (sh lo k)).toArray C R (r.map (sh lo k)) s → wpQuiet P l.toArray C Q r (merge lo k n a s)
  | [], _, s, hn, h => hR s hn h
  | o :: r, hr, s, hn, h => by
    have hr' := hr
    unfold smallOK at hr'
    rw [List.all_cons, Bool.and_eq_true, Bool.and_eq_true] at hr'
    obtain ⟨⟨hd, ho⟩, hrr⟩ := hr'
    rw [List.map_cons] at h
    unfold wpQuiet at h ⊢
    rw [sh_wanted a s hs hn hl o] at h
    split at h
    · rename_i hw
      rw [if_pos hw]
      obtain ⟨v, h1, h2⟩ := h
      refine ⟨v, fun w hC => ?_, ?_⟩
      · have := h1 w hC
        unfold Oper.quietAt at this ⊢
        rwa [sh_exec ho (fun x hx => sh_eval a s hs hx)] at this
      · rw [sh_put a s hs hn hd]
        exact quiet_small hs hl hR r hrr _ (by rw [put_size]; exact hn) h2
    · rename_i hw
      rw [if_neg hw, sh_put a s hs hn hd]
      exact quiet_small hs hl hR r hrr _ (by rw [put_size]; exact hn) h
theorem wpList_of_quiet {P : Program} {ops : Array Oper} {C : World → Prop} {Q : Exit → Act → World → Prop} : ∀ (l : List Oper) (a : Act) (w : World), C w → wpQuiet P ops C (fun a' => ∀ w', C w' → Q .normal a' w') l a → wpList P ops Q l a w
  | [], _, w, hC, h => h w hC
  | o :: r, a, w, hC, h => by
    unfold wpQuiet at h
    unfold wpList
    split at h
    · rename_i hw
      rw [if_pos hw]
      exact .inl (Oper.wp_of_quiet hC (fun a' w' hC' h' => wpList_of_quiet r a' w' hC' h') h)
    · rename_i hw
      rw [if_neg hw]
      exact wpList_of_quiet r _ w hC h
end
theorem wp_region_small {P : Program} {id : Nat} {draw : Bool} {Q : Exit → Act → World → Prop} {a : Act} {w : World} {l : List Oper} (lo k n : Nat) (s : Act) (R : Act → Prop)
    (hd : draw = false ∨ (P.follows .mixedOrders = true ∧ Region.lexB .any l.toArray = true)) (hl : smallOK lo k n l = true) (hs : ∀ t, inT lo k n t = true → t < a.tmps.size) (hn : s.tmps.size = n) (ha : a = merge lo k n a s)
    (hR : ∀ s', s'.tmps.size = n → R s' → ∀ w', (∃ x : Ext w, w' = x.v) → Q .normal (merge lo k n a s') w')
    (h : wpQuiet P (l.map (sh lo k)).toArray (fun w' => ∃ x : Ext w, w' = x.v) R (l.map (sh lo k)) s) : (Code.region id l.toArray draw).wp P Q a w := by
  have h1 : wpQuiet P l.toArray (fun w' => ∃ x : Ext w, w' = x.v) (fun a' => ∀ w', (∃ x : Ext w, w' = x.v) → Q .normal a' w') l a := by
    have := quiet_small (P := P) (C := fun w' => ∃ x : Ext w, w' = x.v) hs hl (Q := fun a' => ∀ w', (∃ x : Ext w, w' = x.v) → Q .normal a' w') hR l hl s hn h
    rwa [← ha] at this
  rcases hd with rfl | ⟨h2, h3⟩
  · exact wp_region_lit (wpList_of_quiet l a w ⟨⟨w, Below.refl _ _⟩, rfl⟩ h1)
  · cases draw with
    | false => exact wp_region_lit (wpList_of_quiet l a w ⟨⟨w, Below.refl _ _⟩, rfl⟩ h1)
    | true => exact wp_region_ext h2 h3 h1
def smallOf (lo k n : Nat) (a : Act) : Act := ⟨(a.tmps.toList.take lo ++ (a.tmps.toList.drop (lo + k)).take (n - lo)).toArray, []⟩
def joined (lo k n : Nat) (a s : Act) : Act := ⟨(s.tmps.toList.take lo ++ ((a.tmps.toList.drop lo).take k ++ (s.tmps.toList.drop lo ++ a.tmps.toList.drop (n + k)))).toArray, a.defers⟩
theorem inT_iff {lo k n t : Nat} (hlo : lo ≤ n) : inT lo k n t = true ↔ (t < lo ∨ (lo + k ≤ t ∧ t < n + k)) := by
  unfold inT
  simp only [Bool.or_eq_true, Bool.and_eq_true, Nat.blt_eq, Nat.ble_eq]
  omega
theorem joined_eq {lo k n : Nat} {a s : Act} (hlo : lo ≤ n) (hs : s.tmps.size = n) (ha : n + k ≤ a.tmps.size) : merge lo k n a s = joined lo k n a s := by
  have hsl : s.tmps.toList.length = n := by simpa using hs
  have hal : n + k ≤ a.tmps.toList.length := by simpa using ha
  have e : (merge lo k n a s).tmps = (joined lo k n a s).tmps := by
    apply Array.ext_getElem?
    intro i
    rw [merge_get]
    have hta : (s.tmps.toList.take lo).length = lo := by rw [List.length_take]; omega
    have htb : ((a.tmps.toList.drop lo).take k).length = k := by rw [List.length_take, List.length_drop]; omega
    have htc : (s.tmps.toList.drop lo).length = n - lo := by rw [List.length_drop]; omega
    have ga : a.tmps[i]? = a.tmps.toList[i]? := by simp
    have gj : (joined lo k n a s).tmps[i]? = (s.tmps.toList.take lo ++ ((a.tmps.toList.drop lo).take k ++ (s.tmps.toList.drop lo ++ a.tmps.toList.drop (n + k))))[i]? := by
      unfold joined
      rw [List.getElem?_toArray]
    have gs : ∀ j, s.tmps.getD j undef = (s.tmps.toList[j]?).getD undef := fun j => by simp [Array.getD_eq_getD_getElem?]
    show (a.tmps[i]?).map _ = _
    rw [ga]
    rw [gj]
    by_cases h1 : i < lo
    · rw [List.getElem?_append_left (by rw [hta]; exact h1), List.getElem?_take, if_pos h1, (inT_iff hlo).2 (.inl h1), List.getElem?_eq_getElem (show i < a.tmps.toList.length by omega), List.getElem?_eq_getElem (show i < s.tmps.toList.length by omega)]
      show some (s.tmps.getD (shT lo k i) undef) = _
      rw [gs]
      unfold shT
      rw [if_pos h1, List.getElem?_eq_getElem (show i < s.tmps.toList.length by omega)]
      rfl
    · rw [List.getElem?_append_right (by rw [hta]; omega), hta]
      by_cases h2 : i < lo + k
      · rw [List.getElem?_append_left (by rw [htb]; omega), List.getElem?_take, if_pos (by omega), List.getElem?_drop, show lo + (i - lo) = i by omega]
        have hq : inT lo k n i = false := by
          cases hq : inT lo k n i with
          | false => rfl
          | true => have := (inT_iff hlo).1 hq; omega
        rw [hq]
        simp
      · rw [List.getElem?_append_right (by rw [htb]; omega), htb]
        by_cases h3 : i < n + k
        · rw [List.getElem?_append_left (by rw [htc]; omega), List.getElem?_drop, (inT_iff hlo).2 (.inr ⟨by omega, h3⟩), List.getElem?_eq_getElem (show i < a.tmps.toList.length by omega), show lo + (i - lo - k) = i - k by omega]
          show some (s.tmps.getD (shT lo k i) undef) = _
          rw [gs]
          unfold shT
          rw [if_neg h1, List.getElem?_eq_getElem (show i - k < s.tmps.toList.length by omega)]
          rfl
        · rw [List.getElem?_append_right (by rw [htc]; omega), htc, List.getElem?_drop, show n + k + (i - lo - k - (n - lo)) = i by omega]
          have hq : inT lo k n i = false := by
            cases hq : inT lo k n i with
            | false => rfl
            | true => have := (inT_iff hlo).1 hq; omega
          rw [hq]
          simp
  show Act.mk _ _ = Act.mk _ _
  congr 1
theorem smallOf_size {lo k n : Nat} {a : Act} (hlo : lo ≤ n) (ha : n + k ≤ a.tmps.size) : (smallOf lo k n a).tmps.size = n := by
  have hal : n + k ≤ a.tmps.toList.length := by simpa using ha
  unfold smallOf
  rw [List.size_toArray, List.length_append, List.length_take, List.length_take, List.length_drop]
  omega
theorem joined_small {lo k n : Nat} {a : Act} (hlo : lo ≤ n) (ha : n + k ≤ a.tmps.size) : a = joined lo k n a (smallOf lo k n a) := by
  have hal : n + k ≤ a.tmps.toList.length := by simpa using ha
  have e : a.tmps.toList = (smallOf lo k n a).tmps.toList.take lo ++ ((a.tmps.toList.drop lo).take k ++ ((smallOf lo k n a).tmps.toList.drop lo ++ a.tmps.toList.drop (n + k))) := by
    have h1 : (a.tmps.toList.take lo).length = lo := by rw [List.length_take]; omega
    have h2 : (smallOf lo k n a).tmps.toList = a.tmps.toList.take lo ++ (a.tmps.toList.drop (lo + k)).take (n - lo) := rfl
    have h5 : (a.tmps.toList.take lo ++ (a.tmps.toList.drop (lo + k)).take (n - lo)).take lo = a.tmps.toList.take lo := by
      rw [List.take_append_of_le_length (by rw [h1]; exact Nat.le_refl _), List.take_of_length_le (by rw [h1]; exact Nat.le_refl _)]
    have h6 : (a.tmps.toList.take lo ++ (a.tmps.toList.drop (lo + k)).take (n - lo)).drop lo = (a.tmps.toList.drop (lo + k)).take (n - lo) := by
      rw [List.drop_append_of_le_length (by rw [h1]; exact Nat.le_refl _), List.drop_of_length_le (by rw [h1]; exact Nat.le_refl _), List.nil_append]
    rw [h2, h5, h6]
    have h3 : (a.tmps.toList.drop (lo + k)).take (n - lo) ++ a.tmps.toList.drop (n + k) = a.tmps.toList.drop (lo + k) := by
      have : a.tmps.toList.drop (n + k) = (a.tmps.toList.drop (lo + k)).drop (n - lo) := by rw [List.drop_drop]; congr 1; omega
      rw [this, List.take_append_drop]
    have h4 : (a.tmps.toList.drop lo).take k ++ a.tmps.toList.drop (lo + k) = a.tmps.toList.drop lo := by
      rw [← List.drop_drop, List.take_append_drop]
    rw [h3, h4, List.take_append_drop]
  obtain ⟨⟨l⟩, d⟩ := a
  show Act.mk _ _ = Act.mk _ _
  congr 1
  exact congrArg List.toArray e
theorem wp_region_in {P : Program} {id : Nat} {draw : Bool} {Q : Exit → Act → World → Prop} {a : Act} {w : World} {l : List Oper} (lo k n : Nat) (R : Act → Prop)
    (hd : draw = false ∨ (P.follows .mixedOrders = true ∧ Region.lexB .any l.toArray = true)) (hl : smallOK lo k n l = true) (hlo : lo ≤ n) (ha : n + k ≤ a.tmps.size)
    (h : wpQuiet P (l.map (sh lo k)).toArray (fun w' => ∃ x : Ext w, w' = x.v) R (l.map (sh lo k)) (smallOf lo k n a))
    (hR : ∀ s', s'.tmps.size = n → R s' → ∀ w', (∃ x : Ext w, w' = x.v) → Q .normal (joined lo k n a s') w') : (Code.region id l.toArray draw).wp P Q a w := by
  refine wp_region_small lo k n (smallOf lo k n a) R hd hl (fun t ht => by have := (inT_iff hlo).1 ht; omega) (smallOf_size hlo ha) ?_ (fun s' hs' hr w' hw' => ?_) h
  · rw [joined_eq hlo (smallOf_size hlo ha) ha]
    exact joined_small hlo ha
  · rw [joined_eq hlo hs' ha]
    exact hR s' hs' hr w' hw'
end Go.Proofs.YtkomeijlljcdgaaGreat
