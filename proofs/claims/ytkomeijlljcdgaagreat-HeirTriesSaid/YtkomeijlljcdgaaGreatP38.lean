/- Texts joined in build order: HeirIter HeirHeirs. -/
import Derived.Test.YtkomeijlljcdgaaGreatP37
import Derived.Test.YtkomeijlljcdgaaGreatP21
import Derived.Test.YtkomeijlljcdgaaGreatP28
import Derived.Test.YtkomeijlljcdgaaGreatP23
/- Package heir: elems: what goes through the elements. -/
namespace Go.Proofs.YtkomeijlljcdgaaGreat
open Go.RowKit Go.Shelf
attribute [local go_sem] Oper.semAt_some
set_option maxHeartbeats 2000000 in
set_option maxRecDepth 100000 in
theorem elemsSeq_any (a : Option Addr) (len cap : Nat) (m : Int) (n : Int) (w : World) :
    Calls Tryz.prog 39 #[forV a len cap m, .int .i64 n] w fun e w' => e = .returned (.func (.func 71) #[] #[.pointer (some ⟨w.heap.size, 0, none⟩), .pointer (some ⟨w.heap.size + 1, 0, none⟩)]) ∧ w' = (w.alloc (forB a len cap m)).alloc (.cells #[.int .i64 n] 3) := by
  go_enter Tryz.func39, Tryz.ntmps39
  go_wp2
  go_ret
  exact ⟨rfl, rfl⟩
/-- The row of the list that a loop's body collects. -/
def rowB (Bx : Nat) (W : World) : Option Nat := (W.cell? ⟨Bx, 0, none⟩).bind Value.ownBlock
/-- What a round must keep: all cells but the list's own. -/
structure KpE (Bx : Nat) (W W' : World) : Prop where
  size : W.heap.size ≤ W'.heap.size
  cell : ∀ b o u, b ≠ Bx → rowB Bx W ≠ some b → W.cell? ⟨b, o, none⟩ = some u → W'.cell? ⟨b, o, none⟩ = some u
  row : ∀ r, rowB Bx W' = some r → rowB Bx W = some r ∨ W.heap.size ≤ r
theorem cell_lt {W : World} {b o : Nat} {u : Value} (h : W.cell? ⟨b, o, none⟩ = some u) : b < W.heap.size := by
  rcases Nat.lt_or_ge b W.heap.size with h1 | h1
  · exact h1
  · simp [World.cell?, Array.getElem?_eq_none h1] at h
theorem KpE.refl (Bx : Nat) (W : World) : KpE Bx W W := ⟨Nat.le_refl _, fun _ _ _ _ _ h => h, fun _ h => .inl h⟩
theorem KpE.trans {Bx : Nat} {A B C : World} (h : KpE Bx A B) (k : KpE Bx B C) : KpE Bx A C :=
  ⟨Nat.le_trans h.size k.size, fun b o u hb hr hc => k.cell b o u hb (fun e => by
    rcases h.row b e with h1 | h1
    · exact hr h1
    · have := cell_lt hc
      omega) (h.cell b o u hb hr hc), fun r hr => by
    rcases k.row r hr with h1 | h1
    · exact h.row r h1
    · exact .inr (Nat.le_trans h.size h1)⟩
theorem cell_of_cells {W : World} {b o : Nat} {u : Value} (h : W.cell? ⟨b, o, none⟩ = some u) : ∃ c t f, W.heap[b]? = some (.cells c t f) := by
  have hlt := cell_lt h
  unfold World.cell? at h
  cases hb : W.heap[b]? with
  | none => simp [hb] at h
  | some ob =>
    cases ob with
    | cells c t f => exact ⟨c, t, f, rfl⟩
    | _ => simp [hb] at h
theorem putObj_cell {W : World} {l b o : Nat} {ob ob' : Obj} (hl : W.heap[l]? = some ob) (hc : ob.isCells = false) {u : Value} (h : W.cell? ⟨b, o, none⟩ = some u) : (W.putObj l ob').cell? ⟨b, o, none⟩ = some u := by
  have hne : b ≠ l := fun e => by
    obtain ⟨c, t, f, hb⟩ := cell_of_cells h
    rw [e, hl] at hb
    injection hb with hb
    rw [hb] at hc
    cases hc
  rw [World.cell?_of_block (w := W) (a := ⟨b, o, none⟩) (World.putObj_heap_other hne)]
  exact h
theorem KpE.putObj {Bx : Nat} {W : World} {l : Nat} {ob ob' : Obj} (hne : Bx ≠ l) (hl : W.heap[l]? = some ob) (hc : ob.isCells = false) : KpE Bx W (W.putObj l ob') := by
  refine ⟨by simp, fun b o u _ _ h => putObj_cell hl hc h, fun r hr => .inl ?_⟩
  unfold rowB at hr ⊢
  rwa [World.cell?_of_block (w := W) (a := ⟨Bx, 0, none⟩) (World.putObj_heap_other hne)] at hr
abbrev zND : NodeD := ⟨⟨0, ⟨#[]⟩, ⟨#[]⟩, ⟨#[]⟩, [], 0, [], 0, 0, 0⟩, none, 0, 0, none, 0, 0⟩
def nodeK (K : List NodeD) (z : Int) : NodeD := K[z.toNat]?.getD zND
/-- What comes: each with its node. -/
def seqE (K : List NodeD) (E : List Int) (k : Nat) : List (Int × NodeD) := (E.take k).map fun z => (z, nodeK K z)
abbrev encZN (x : Int × NodeD) : Array Value := #[.int .i64 x.1, nodVal x.2]
theorem seqE_succ {K : List NodeD} {E : List Int} {k : Nat} {z : Int} (h : E[k]? = some z) : seqE K E (k + 1) = seqE K E k ++ [(z, nodeK K z)] := by
  unfold seqE
  rw [List.take_add_one, h, List.map_append]
  rfl
theorem seqE_len {K : List NodeD} {E : List Int} {k : Nat} (h : k ≤ E.length) : (seqE K E k).length = k := by
  unfold seqE
  rw [List.length_map, List.length_take]
  omega
theorem elemsZ_in {m : Int} {F : List Core} {n z : Int} (h : z ∈ elemsZ m F n) : ∃ t : Nat, z = t ∧ t < F.length := by
  unfold elemsZ at h
  have h := (List.mem_filter.1 h).1
  unfold allZ at h
  by_cases ht : thereF m F n = true
  · rw [if_pos ht] at h
    unfold thereF at ht
    simp only [Bool.and_eq_true, decide_eq_true_eq] at ht
    have hn : n.toNat < F.length := by omega
    have := allI_num (x := n.toNat) ht.1.1 hn (z := z) (by rwa [show ((n.toNat : Nat) : Int) = n by omega])
    exact this
  · rw [if_neg ht] at h
    cases h
set_option maxRecDepth 100000 in
set_option maxHeartbeats 4000000 in
theorem elems1_in (n : Nat) (hn : 1 ≤ n) (l Bf Bn Bx : Nat) (t : TypeId) (a : Option Addr) (len cap : Nat) (m nn : Int) (K : List NodeD) (J Jx : List (Int × NodeD) → World → Prop) (W : World)
    (hJ : AbidesFrom W.heap.size J)
    (hY : ∀ pre x W, J pre W → pre.length < (elemsZ m (coreL K) nn).length → YieldAt Fence.wide (n - 1) Tryz.prog l (encZN x) W fun e W' =>
      (e = .returned (.bool true) ∧ J (pre ++ [x]) W' ∧ KpE Bx W W') ∨ (e = .returned (.bool false) ∧ Jx (pre ++ [x]) W'))
    (hBf0 : W.cell? ⟨Bf, 0, none⟩ = some (.slice a len cap)) (hBf1 : W.cell? ⟨Bf, 1, none⟩ = some (.int .i64 m)) (hBn : W.cell? ⟨Bn, 0, none⟩ = some (.int .i64 nn)) (hBx : Boxed W Bx t (.slice none 0 0)) (hfx : Bf ≠ Bx) (hax : ∀ b off, a = some ⟨b, off, none⟩ → 0 < len → b ≠ Bx)
    (hK : NodeRow W a len cap K) (hm : In64 m) (hnn : In64 nn) (hs : smallF K) (h0 : J [] W) :
    CallsIn Fence.wide n Tryz.prog 71 #[.func (.yield l) #[] #[], .pointer (some ⟨Bf, 0, none⟩), .pointer (some ⟨Bn, 0, none⟩)] W fun e W' => (∃ v, e = .returned v) ∧
      ((∃ ys, ys = seqE K (elemsZ m (coreL K) nn) (elemsZ m (coreL K) nn).length ∧ J ys W') ∨ (∃ pre, pre.length ≤ (elemsZ m (coreL K) nn).length ∧ Jx pre W')) := by
  have CE : Hid (Calls Tryz.prog 24 #[forV a len cap m, .int .i64 nn] W (OrdPost W (elemsZ m (coreL K) nn))) := Lib.hid (elemsFn_any a len cap m K nn W hK hm hnn hs)
  have HEI : Hid (∀ z ∈ elemsZ m (coreL K) nn, ∃ t : Nat, z = t ∧ t < len) := Lib.hid (fun z hz => by
    obtain ⟨t, h1, h2⟩ := elemsZ_in hz
    rw [coreL_len, hK.hlen] at h2
    exact ⟨t, h1, h2⟩)
  obtain ⟨E, hE⟩ : ∃ E, elemsZ m (coreL K) nn = E := ⟨_, rfl⟩
  rw [hE] at CE HEI hY ⊢
  have HK := Lib.hid hK
  have HBX := Lib.hid hBx
  have HAX := Lib.hid hax
  have HJ := Lib.hid hJ
  have HSM := Lib.hid hs
  clear hE hK hm hnn hs hJ hBx hax
  refine callsIn_of_wp Tryz.func71 rfl trivial ?_ rfl
  simp only [Tryz.ntmps71, List.size_toArray, List.length_cons, List.length_nil, Nat.reduceAdd, Nat.reduceSub, Array.replicate_succ, Array.replicate_zero, List.push_toArray, List.append_toArray, List.nil_append, List.cons_append]
  gi_wp2_with (refine ⟨trivial, ?_⟩; gi_at_call 24; (refine (callsIn_wide.2 CE.out).mono ?_); rintro e W1 ⟨ea, el, ec, rfl, hER, hb⟩; have HER := Lib.hid hER; have HB := Lib.hid hb; clear hER hb)
  have HB1 := HB.out
  have h1J : J [] W1 := HJ.out [] W W1 none h0 ⟨HB1.os, HB1.tape, HB1.output, HB1.size, fun k hk _ => HB1.block k hk⟩ (fun r e => by cases e)
  have hbx1 : Boxed W1 Bx t (.slice none 0 0) := (HB1.block Bx HBX.out.lt).trans HBX.out
  have HRN : Hid (rowB Bx W1 = none) := Lib.hid (by unfold rowB; rw [hbx1.cell]; rfl)
  have HNB : Hid (∀ o z, W1.cell? ⟨Bx, o, none⟩ ≠ some (.int .i64 z)) := Lib.hid (fun o z e => by
    rw [cell_of_row W1 Bx o _ t (0, 0) hbx1] at e
    cases o with
    | zero => cases e
    | succ o => cases e)
  have HC : Hid (∀ wr, KpE Bx W1 wr → ∀ b o u, b ≠ Bx → W1.cell? ⟨b, o, none⟩ = some u → wr.cell? ⟨b, o, none⟩ = some u) := Lib.hid (fun wr hk b o u hb hc => hk.cell b o u hb (by rw [HRN.out]; intro e; cases e) hc)
  have hBf01 : W1.cell? ⟨Bf, 0, none⟩ = some (.slice a len cap) := (HB1.cell (p := ⟨Bf, 0, none⟩) (cell_lt hBf0)).trans hBf0
  have HBF := Lib.hid hBf01
  have HK1 := Lib.hid (HK.out.below HB1)
  have HFX := Lib.hid hfx
  have HEL := Lib.hid HER.out.hlen
  have hel := HER.out.len64
  have hl64 := HK.out.len64
  clear HB1 hbx1 hBf0 hBf1 hBn hBf01 h0 hfx
  gi_wp2
  gi_loopw [10] (fun i wr => ∃ k : Nat, k ≤ el ∧ i = .int .i64 k ∧ J (seqE K E k) wr ∧ Hid (KpE Bx W1 wr)) (fun i _ => el - (intOf i).toNat)
  case atStart => exact ⟨0, Nat.zero_le _, rfl, h1J, Lib.hid (KpE.refl _ _)⟩
  case round =>
    obtain ⟨k, hk, rfl, hJs, HKP⟩ := hrel
    by_cases hlt : k < el
    · obtain ⟨eb, eo, z, rfl, hebl, hz, hcz, hin⟩ := HER.out.get hlt
      obtain ⟨j, hj, hjl⟩ := HEI.out z (List.mem_of_getElem? hz)
      subst hj
      obtain ⟨b, off, x, rfl, hbl, hx, hxa, -⟩ := HK1.out.get hjl
      have hne : eb ≠ Bx := fun e => HNB.out (eo + k) j (by rw [← e]; exact hcz)
      have hbne := HAX.out b off rfl (by omega)
      have cz := HC.out wr HKP.out eb _ _ hne hcz
      have cf := HC.out wr HKP.out Bf 0 _ HFX.out HBF.out
      have x0 := HC.out wr HKP.out b _ _ hbne hxa.c0
      have x1 := HC.out wr HKP.out b _ _ hbne hxa.c1
      have x2 := HC.out wr HKP.out b _ _ hbne hxa.c2
      have x3 := HC.out wr HKP.out b _ _ hbne hxa.c3
      have x4 := HC.out wr HKP.out b _ _ hbne hxa.c4
      have x5 := HC.out wr HKP.out b _ _ hbne hxa.c5
      have x6 := HC.out wr HKP.out b _ _ hbne hxa.c6
      have x7 := HC.out wr HKP.out b _ _ hbne hxa.c7
      have x8 := HC.out wr HKP.out b _ _ hbne hxa.c8
      have x9 := HC.out wr HKP.out b _ _ hbne hxa.c9
      have hnk : nodeK K (j : Int) = x := by unfold nodeK; rw [Int.toNat_natCast, hx]; rfl
      have HSQ : Hid (seqE K E (k + 1) = seqE K E k ++ [((j : Int), x)]) := Lib.hid (by rw [seqE_succ hz, hnk])
      have hxd : x.core.data.size ≤ 9223372036854775807 := (HK.out.ok x (List.mem_of_getElem? hx)).data
      obtain ⟨fn, tmps, assign, body, hy, hR⟩ := hY _ ((j : Int), x) wr hJs (by rw [seqE_len (by rw [HEL.out]; exact hk), HEL.out]; exact hlt)
      try dsimp only at hy
      have hj64 : (j : Int) ≤ 9223372036854775807 := by omega
      clear hz hcz hin hxa hx hne hbne hnk
      gi_wp2
      refine hR.mono ?_
      rintro e W3 (⟨rfl, hJ3, hk3⟩ | ⟨rfl, hJx3⟩)
      · gi_wp2
        go_roundw
        case rel => exact ⟨k + 1, hlt, by go_num, by rw [HSQ.out]; exact hJ3, Lib.hid (HKP.out.trans hk3)⟩
        case measure => simp [intOf]; omega
      · gi_wp2
        refine bodyPost_ret (results_none rfl _ _ _) rfl ?_
        exact ⟨⟨_, rfl⟩, .inr ⟨_, by rw [List.length_append, seqE_len (by rw [HEL.out]; exact hk), HEL.out]; simp; omega, hJx3⟩⟩
    · have hkk : k = el := by omega
      subst hkk
      gi_wp2
      go_end0
      exact ⟨⟨_, rfl⟩, .inl ⟨_, by rw [HEL.out], hJs⟩⟩
theorem elems_stops (n : Nat) (hn : 1 ≤ n) (Bf Bn Bx : Nat) (t : TypeId) (a : Option Addr) (len cap : Nat) (m nn : Int) (K : List NodeD) (w : World) (hBf0 : w.cell? ⟨Bf, 0, none⟩ = some (.slice a len cap)) (hBf1 : w.cell? ⟨Bf, 1, none⟩ = some (.int .i64 m)) (hBn : w.cell? ⟨Bn, 0, none⟩ = some (.int .i64 nn)) (hBx : Boxed w Bx t (.slice none 0 0)) (hfx : Bf ≠ Bx) (hax : ∀ b off, a = some ⟨b, off, none⟩ → 0 < len → b ≠ Bx)
    (hK : NodeRow w a len cap K) (hm : In64 m) (hnn : In64 nn) (hs : smallF K) :
    SeqStopsK Fence.wide n Tryz.prog 71 #[.pointer (some ⟨Bf, 0, none⟩), .pointer (some ⟨Bn, 0, none⟩)] encZN (KpE Bx) (fun ys => ys = seqE K (elemsZ m (coreL K) nn) (elemsZ m (coreL K) nn).length) (fun pre => pre.length ≤ (elemsZ m (coreL K) nn).length) (elemsZ m (coreL K) nn).length w := fun l J Jx W hW hJ _ hY h0 =>
  elems1_in n hn l Bf Bn Bx t a len cap m nn K J Jx W hJ hY ((hW.cell (p := ⟨Bf, 0, none⟩) (cell_lt hBf0)).trans hBf0) ((hW.cell (p := ⟨Bf, 1, none⟩) (cell_lt hBf1)).trans hBf1) ((hW.cell (p := ⟨Bn, 0, none⟩) (cell_lt hBn)).trans hBn) ((hW.block Bx hBx.lt).trans hBx) hfx hax (hK.below hW) hm hnn hs h0
end Go.Proofs.YtkomeijlljcdgaaGreat
/- Package heir: Heirs. -/
namespace Go.Proofs.YtkomeijlljcdgaaGreat
open Go.RowKit Go.Shelf
attribute [local go_sem] Oper.semAt_some
/-- Is a node an heir of a definition? -/
def heirB (xn xl : ByteArray) (c : Core) : Bool := (c.name.toList == xl.toList) && ((c.is.toList == xn.toList) || (c.name.toList == xn.toList))
def heirsZ (m : Int) (F : List Core) (xn xl : ByteArray) : List Int := (elemsZ m F 0).filter fun z => match getC F z with | some c => heirB xn xl c | none => false
def selH (xn xl : ByteArray) (pre : List (Int × NodeD)) : List Int := (pre.filter fun p => heirB xn xl p.2.core).map Prod.fst
theorem selH_hit {xn xl : ByteArray} (pre : List (Int × NodeD)) {x : Int × NodeD} (h : heirB xn xl x.2.core = true) : selH xn xl (pre ++ [x]) = selH xn xl pre ++ [x.1] := by simp [selH, h]
theorem selH_miss {xn xl : ByteArray} (pre : List (Int × NodeD)) {x : Int × NodeD} (h : heirB xn xl x.2.core = false) : selH xn xl (pre ++ [x]) = selH xn xl pre := by simp [selH, h]
theorem selH_all {m : Int} {K : List NodeD} {xn xl : ByteArray} : selH xn xl (seqE K (elemsZ m (coreL K) 0) (elemsZ m (coreL K) 0).length) = heirsZ m (coreL K) xn xl := by
  unfold selH seqE heirsZ
  rw [List.take_of_length_le (Nat.le_refl _), List.filter_map, List.map_map]
  have h1 : (Prod.fst ∘ fun z => (z, nodeK K z)) = (id : Int → Int) := rfl
  rw [h1, List.map_id]
  refine List.filter_congr fun z hz => ?_
  obtain ⟨t, rfl, ht⟩ := elemsZ_in hz
  rw [coreL_len] at ht
  have hx : K[t]? = some K[t] := List.getElem?_eq_getElem ht
  show heirB xn xl (nodeK K (t : Int)).core = _
  rw [getC_nat, coreL_get hx]
  unfold nodeK
  rw [Int.toNat_natCast, hx]
  rfl
/-- Behind an append onto the list that a loop collects. -/
theorem kpE_append {W w1 : World} {Bx base k size : Nat} {t e : TypeId} {v v' : Value} {xs : List Value} {lit : Obj} (hb : Boxed W Bx t v) (ho : W.ownsRow base e size v k xs) (hg : (W.alloc lit).grownBy w1 v.ownBlock) (hat : v'.ownBlock = v.ownBlock ∨ v'.ownBlock = some (W.alloc lit).heap.size) (hte : t ≠ e) : KpE Bx W (w1.setCell ⟨Bx, 0, none⟩ v') := by
  have hs : (W.alloc lit).heap.size = W.heap.size + 1 := by simp
  have hz := hg.size
  have hr : rowB Bx W = v.ownBlock := by unfold rowB; rw [hb.cell]; rfl
  have hlt := hb.lt
  have hbx1 : w1.heap[Bx]? = W.heap[Bx]? := (hg.block Bx (by omega) (hb.not_row hte ho)).trans (Below.heap_alloc W lit Bx hlt)
  refine ⟨by simp only [World.setCell, Array.size_modify]; omega, fun b o u hne hnr hc => ?_, fun r hr2 => ?_⟩
  · have hl := cell_lt hc
    rw [hr] at hnr
    refine (World.cell?_setCell_other _ _ _ _ (fun e => by injection e with e _; exact hne e.symm)).trans ?_
    rw [World.cell?_of_block (w := W.alloc lit) (a := ⟨b, o, none⟩) (hg.block b (by omega) (fun e => hnr e.symm)), World.cell?_alloc_lt W lit ⟨b, o, none⟩ hl]
    exact hc
  · unfold rowB at hr2
    rw [World.cell?_setCell_same _ _ _ ((World.cell?_of_block (w := W) (a := ⟨Bx, 0, none⟩) hbx1).trans hb.cell)] at hr2
    have hr2 : v'.ownBlock = some r := hr2
    rw [hr]
    rcases hat with h1 | h1
    · exact .inl (h1 ▸ hr2)
    · rw [h1] at hr2
      injection hr2 with hr2
      exact .inr (by omega)
theorem kpE_alloc {Bx : Nat} {W : World} (hlt : Bx < W.heap.size) (o : Obj) : KpE Bx W (W.alloc o) := by
  refine ⟨by simp, fun b o' u _ _ hc => (World.cell?_alloc_lt W o ⟨b, o', none⟩ (cell_lt hc)).trans hc, fun r hr => .inl ?_⟩
  unfold rowB at hr ⊢
  rwa [World.cell?_alloc_lt W o ⟨Bx, 0, none⟩ hlt] at hr
/-- What a loop that collects has in hand. -/
structure Coll (B Bx : Nat) (t e : TypeId) (size : Nat) (w W : World) (n : Nat) (xs : List Value) : Prop where
  row : ∃ v, Boxed W Bx t v ∧ W.ownsRow B e size v n xs
  below : Below B w W
  low : B ≤ W.heap.size
theorem Coll.own {β : Type} {B B' Bx : Nat} {t e : TypeId} {size : Nat} {w : World} (hB : B ≤ B') (k : β → Nat) (f : β → List Value) : OwnFrom B' (fun s W => Coll B Bx t e size w W (k s) (f s)) := by
  rintro s W W' row ⟨⟨v, hv, hr⟩, hb, hl⟩ hg hrow
  refine ⟨⟨v, hv.kept hg (fun e' => ?_), hr.kept hg ?_⟩, hb.grown hg hl (fun k e' => Nat.le_trans hB (hrow k e').1), Nat.le_trans hl hg.size⟩
  · obtain ⟨o, ho, hc⟩ := (hrow Bx e'.symm).2
    rw [show W.heap[Bx]? = _ from hv] at ho
    cases ho
    cases hc
  · rcases hr.2 with ⟨rfl, _⟩ | ⟨g, cap, cur, rfl, _, hgb, _⟩
    · exact .inl rfl
    · refine .inr fun e' => ?_
      obtain ⟨o, ho, hc⟩ := (hrow g (by simpa [Value.ownBlock] using e'.symm)).2
      rw [hgb] at ho
      cases ho
      cases hc
theorem own_blkF {β : Type} {B' b : Nat} {c : Array Value} {t : TypeId} {f : Nat × Nat} : OwnFrom B' (fun (_ : β) (W : World) => W.heap[b]? = some (.cells c t f)) := by
  rintro s W W' row h hg hrow
  exact (hg.block b (Array.getElem?_eq_some_iff.1 h).1 (fun e' => by
    obtain ⟨ob, ho, hc⟩ := (hrow b e'.symm).2
    rw [h] at ho
    cases ho
    cases hc)).trans h
theorem blk_append {W w1 : World} {Bx b base k size : Nat} {t e : TypeId} {v v' : Value} {xs : List Value} {lit : Obj} {c : Array Value} {f : Nat × Nat} (hb : W.heap[b]? = some (.cells c t f)) (hne : b ≠ Bx) (ho : W.ownsRow base e size v k xs) (hte : t ≠ e) (hg : (W.alloc lit).grownBy w1 v.ownBlock) : (w1.setCell ⟨Bx, 0, none⟩ v').heap[b]? = some (.cells c t f) := by
  have hlt := (Array.getElem?_eq_some_iff.1 hb).1
  refine (Below.heap_setCell _ _ _ b hne).trans ((hg.block b (by simp; omega) (fun e' => ?_)).trans ((Below.heap_alloc W lit b hlt).trans hb))
  rcases ho.2 with ⟨rfl, _⟩ | ⟨g, cap, cur, rfl, _, hgb, _⟩
  · cases e'
  · have e' : some b = some g := e'
    injection e' with e'
    subst e'
    rw [hb] at hgb
    injection hgb with hgb
    injection hgb with _ h2
    exact hte h2
theorem elemsZ_len (m : Int) (F : List Core) (n : Int) : (elemsZ m F n).length ≤ F.length := by
  unfold elemsZ allZ
  refine Nat.le_trans (List.length_filter_le _ _) ?_
  by_cases ht : thereF m F n = true
  · rw [if_pos ht]
    unfold thereF at ht
    simp only [Bool.and_eq_true, decide_eq_true_eq] at ht
    have := allI_len (x := n.toNat) ht.1.1 (by omega)
    rwa [show ((n.toNat : Nat) : Int) = n by omega] at this
  · rw [if_neg ht]
    exact Nat.zero_le _
set_option maxHeartbeats 8000000 in
set_option maxRecDepth 100000 in
theorem heirs_any (a : Option Addr) (len cap : Nat) (m : Int) (K : List NodeD) (xn xl : ByteArray) (cl : Int) (w : World) (h : NodeRow w a len cap K) (hm : In64 m) (hs : smallF K) :
    Calls Tryz.prog 15 #[forV a len cap m, .agg #[.string xn, .string xl, .int .i64 cl]] w (OrdPost w (heirsZ m (coreL K) xn xl)) := by
  have HL := Lib.hid h.hlen
  refine (callsIn_wide (n := 9)).1 ?_
  refine callsIn_of_wp_marks Tryz.func15 rfl trivial ?_ rfl
  simp only [Tryz.ntmps15, List.size_toArray, List.length_cons, List.length_nil, Nat.reduceAdd, Nat.reduceSub, Array.replicate_succ, Array.replicate_zero, List.push_toArray, List.append_toArray, List.nil_append, List.cons_append]
  gi_wp2_with (refine ⟨trivial, ?_⟩; gi_at_call 39; refine (callsIn_wide.2 (elemsSeq_any _ _ _ _ _ _)).mono ?_; rintro e w3 ⟨rfl, rfl⟩)
  obtain ⟨i0, hi0, hz0, hz1, hz2⟩ := info_parts int_info
  obtain ⟨W0, Bd, Bx, Bf, Bn, hW0, hBd, hBx, hBf, hBn, HB0, HSZ, HBX, HF0, HF1, HN0, HD0, HROW⟩ : ∃ (W0 : World) (Bd Bx Bf Bn : Nat), ((((w.alloc (forB a len cap m)).alloc (.cells #[.string xn, .string xl, .int .i64 cl] 30)).alloc (.cells #[.slice none 0 0] 36)).alloc (forB a len cap m)).alloc (.cells #[.int .i64 0] 3) = W0 ∧ w.heap.size + 1 = Bd ∧ Bd + 1 = Bx ∧ Bx + 1 = Bf ∧ Bf + 1 = Bn ∧ Hid (Below w.heap.size w W0) ∧ Hid (W0.heap.size = Bn + 1) ∧ Hid (Boxed W0 Bx 36 (.slice none 0 0)) ∧ Hid (W0.cell? ⟨Bf, 0, none⟩ = some (.slice a len cap)) ∧ Hid (W0.cell? ⟨Bf, 1, none⟩ = some (.int .i64 m)) ∧ Hid (W0.cell? ⟨Bn, 0, none⟩ = some (.int .i64 0)) ∧ Hid (W0.heap[Bd]? = some (.cells #[.string xn, .string xl, .int .i64 cl] 30 (0, 0))) ∧ Hid (NodeRow W0 a len cap K) := by
    refine ⟨_, _, _, _, _, rfl, rfl, rfl, rfl, rfl, ?_⟩
    generalize hw1 : w.alloc (forB a len cap m) = w1
    have s1 : w1.heap.size = w.heap.size + 1 := by rw [← hw1]; simp
    have b1 : Below w.heap.size w w1 := by rw [← hw1]; exact below_box _ _
    generalize hw2 : w1.alloc (.cells #[.string xn, .string xl, .int .i64 cl] 30) = w2
    have s2 : w2.heap.size = w.heap.size + 1 + 1 := by rw [← hw2]; simp [s1]
    have b2 : Below w1.heap.size w1 w2 := by rw [← hw2]; exact below_box _ _
    have d2 : w2.heap[w.heap.size + 1]? = some (.cells #[.string xn, .string xl, .int .i64 cl] 30 (0, 0)) := by rw [← hw2, ← s1]; exact heap_alloc_new w1 _
    generalize hw3 : w2.alloc (.cells #[.slice none 0 0] 36) = w3
    have s3 : w3.heap.size = w.heap.size + 1 + 1 + 1 := by rw [← hw3]; simp [s2]
    have b3 : Below w2.heap.size w2 w3 := by rw [← hw3]; exact below_box _ _
    have x3 : Boxed w3 (w.heap.size + 1 + 1) 36 (.slice none 0 0) := by rw [← hw3, ← s2]; exact Boxed.new w2 _ _
    generalize hw4 : w3.alloc (forB a len cap m) = w4
    have s4 : w4.heap.size = w.heap.size + 1 + 1 + 1 + 1 := by rw [← hw4]; simp [s3]
    have b4 : Below w3.heap.size w3 w4 := by rw [← hw4]; exact below_box _ _
    have f4 : ∀ j, w4.cell? ⟨w.heap.size + 1 + 1 + 1, j, none⟩ = (#[.slice a len cap, .int .i64 m] : Array Value)[j]? := fun j => by rw [← hw4, ← s3]; exact cell_of_row _ w3.heap.size j _ 24 (0, 0) (heap_alloc_new w3 _)
    generalize hw5 : w4.alloc (.cells #[.int .i64 0] 3) = w5
    have s5 : w5.heap.size = w.heap.size + 1 + 1 + 1 + 1 + 1 := by rw [← hw5]; simp [s4]
    have b5 : Below w4.heap.size w4 w5 := by rw [← hw5]; exact below_box _ _
    have n5 : w5.cell? ⟨w.heap.size + 1 + 1 + 1 + 1, 0, none⟩ = some (.int .i64 0) := by rw [← hw5, ← s4]; exact cell_of_row _ w4.heap.size 0 _ 3 (0, 0) (heap_alloc_new w4 _)
    have b25 : Below w2.heap.size w2 w5 := (b3.trans (b4.mono b3.size)).trans (b5.mono (Nat.le_trans b3.size b4.size))
    have b35 : Below w3.heap.size w3 w5 := b4.trans (b5.mono b4.size)
    have b05 : Below w.heap.size w w5 := (b1.trans (b2.mono b1.size)).trans (b25.mono (Nat.le_trans b1.size b2.size))
    exact ⟨Lib.hid b05, Lib.hid s5, Lib.hid ((b35.block _ x3.lt).trans x3), Lib.hid ((b5.cell (p := ⟨w.heap.size + 1 + 1 + 1, 0, none⟩) (by rw [s4]; exact Nat.lt_succ_self _)).trans (f4 0)), Lib.hid ((b5.cell (p := ⟨w.heap.size + 1 + 1 + 1, 1, none⟩) (by rw [s4]; exact Nat.lt_succ_self _)).trans (f4 1)), Lib.hid n5, Lib.hid ((b25.block _ (by rw [s2]; exact Nat.lt_succ_self _)).trans d2), Lib.hid (h.below b05)⟩
  show Code.wpIn _ _ _ _ _ _ (((((w.alloc (forB a len cap m)).alloc (.cells #[.string xn, .string xl, .int .i64 cl] 30)).alloc (.cells #[.slice none 0 0] 36)).alloc (forB a len cap m)).alloc (.cells #[.int .i64 0] 3))
  rw [hW0, hBd, hBx, hBf, hBn]
  clear hW0
  have hsz := HSZ.out
  have hdx : Bd ≠ Bx := by omega
  have hfx : Bf ≠ Bx := by omega
  have hax : ∀ b off, a = some ⟨b, off, none⟩ → 0 < len → b ≠ Bx := fun b off e hp => by
    rcases h.row.cells with h0 | ⟨b2, off2, ha2, hlt, _⟩
    · omega
    · rw [e] at ha2
      injection ha2 with ha2
      injection ha2 with e1
      omega
  refine wpIn_rangeFunc_ownH (F := Fence.wide) (n := 9) rfl (by decide) (gf := 71) (lb := #[.pointer (some ⟨Bf, 0, none⟩), .pointer (some ⟨Bn, 0, none⟩)]) rfl trivial (enters_of Tryz.func71 (by kernel_rfl) rfl)
    (elems_stops 8 (by decide) Bf Bn Bx 36 a len cap m 0 K W0 HF0.out HF1.out HN0.out HBX.out hfx hax HROW.out hm ⟨by decide, by decide⟩ hs) KpE.trans (fun W l o o' hl h1 hc _ => KpE.putObj (by omega) h1 hc) (Below.refl _ _) (fun _ => rfl)
    (fun pre W => Coll w.heap.size Bx 36 3 1 w W ((selH xn xl pre).flatMap encZ).length ((selH xn xl pre).flatMap encZ) ∧ W.heap[Bd]? = some (.cells #[.string xn, .string xl, .int .i64 cl] 30 (0, 0)))
    (fun _ _ _ => False)
    (OwnFrom.and (Coll.own (by omega) _ _) own_blkF)
    (fun _ _ _ _ _ hs _ _ => hs)
    ⟨⟨⟨_, HBX.out, World.ownsRow_nil _ _ _ _⟩, HB0.out, HB0.out.size⟩, HD0.out⟩
    (fun x a' W => ∃ Bv, W.heap[Bv]? = some (nodB x.2) ∧ a' = { tmps := #[forV a len cap m, .agg #[.string xn, .string xl, .int .i64 cl], .pointer (some ⟨w.heap.size, 0, none⟩), .pointer (some ⟨Bd, 0, none⟩), .slice none 0 0, .pointer (some ⟨Bx, 0, none⟩), .int .i64 x.1, .pointer (some ⟨Bv, 0, none⟩), forV a len cap m, .func (.func 71) #[] #[.pointer (some ⟨Bf, 0, none⟩), .pointer (some ⟨Bn, 0, none⟩)], .int .i64 x.1, nodVal x.2, undef, undef, undef, undef, undef, undef, undef, undef, undef, undef, undef, undef, undef, undef, undef, undef, undef, undef, undef, undef, undef, undef, undef, undef], defers := [] })
    ?hAx ?assign ?body ?done ?stop
  case hAx =>
    rintro x a' s W W' row ⟨Bv, hb, he⟩ hg hrow
    refine ⟨Bv, (hg.block Bv (Array.getElem?_eq_some_iff.1 hb).1 (fun e' => ?_)).trans hb, he⟩
    obtain ⟨ob, ho, hc⟩ := (hrow Bv e'.symm).2
    rw [hb] at ho
    cases ho
    cases hc
  case assign =>
    rintro l pre x W K' ⟨hC, hd⟩ hK
    have hbxl : Bx < W.heap.size := by
      obtain ⟨v, hv, _⟩ := hC.row
      exact hv.lt
    gi_wp2
    exact hK _ _ ((KeepsOthers.alloc _ _).from _) (kpE_alloc hbxl _) ⟨(Coll.own (β := Unit) (B' := w.heap.size) (Nat.le_refl _) (fun _ => _) (fun _ => _)).alloc (s := ()) _ hC, (own_blkF (β := Unit) (B' := 0)).alloc (s := ()) _ hd⟩ ⟨W.heap.size, heap_alloc_new W _, rfl⟩
  case body =>
    rintro l pre x a' W hl ⟨r, hr⟩ ⟨hC, hd⟩ ⟨Bv, hBv, rfl⟩ hlt
    obtain ⟨⟨v, hv, hrow⟩, hB, hlo⟩ := hC
    have hpl : (selH xn xl pre).length ≤ 1000 := by
      have h1 : (selH xn xl pre).length ≤ pre.length := by unfold selH; rw [List.length_map]; exact List.length_filter_le _ _
      have h2 := elemsZ_len m (coreL K) 0
      rw [coreL_len, HL.out] at h2
      have h3 := hs.1
      have h4 := HL.out
      omega
    obtain ⟨kk, hkk⟩ : ∃ kk, ((selH xn xl pre).flatMap encZ).length = kk := ⟨_, rfl⟩
    have hkk2 : kk ≤ 1000 := by rw [← hkk, flat_len (fun z _ => encZ_len z)]; omega
    rw [hkk] at hrow
    have HV := Lib.hid hv
    have HROW2 := Lib.hid hrow
    have HBB := Lib.hid hB
    have HD := Lib.hid hd
    have HKK := Lib.hid hkk
    have d0 : W.cell? ⟨Bd, 0, none⟩ = some (.string xn) := cell_of_row W Bd 0 _ _ (0, 0) hd
    have d1 : W.cell? ⟨Bd, 1, none⟩ = some (.string xl) := cell_of_row W Bd 1 _ _ (0, 0) hd
    have y1 : W.cell? ⟨Bv, 1, none⟩ = some (.string x.2.core.name) := cell_of_row W Bv 1 _ _ (0, 0) hBv
    have y2 : W.cell? ⟨Bv, 2, none⟩ = some (.string x.2.core.is) := cell_of_row W Bv 2 _ _ (0, 0) hBv
    have hc := hv.cell
    have hfz := hv.frozen
    have hbw : w.heap.size ≤ Bx := by omega
    obtain ⟨q1, hq1⟩ : ∃ q, (x.2.core.name.toList == xl.toList) = q := ⟨_, rfl⟩
    obtain ⟨q2, hq2⟩ : ∃ q, (x.2.core.is.toList == xn.toList) = q := ⟨_, rfl⟩
    obtain ⟨q3, hq3⟩ : ∃ q, (x.2.core.name.toList == xn.toList) = q := ⟨_, rfl⟩
    have HQ : Hid (heirB xn xl x.2.core = (q1 && (q2 || q3))) := Lib.hid (by unfold heirB; rw [hq1, hq2, hq3])
    clear hv hrow hB hd hkk hBv hpl hlt hr
    cases q1 <;> cases q2 <;> cases q3
    all_goals
      gi_wp2_with (gi_at_builtin; refine wpListIn_append_keep _ rfl _ _ 36 rfl w.heap.size 3 i0 _ 1 8 Tryz.underlying36 hi0 hz0 hz1 hz2 rfl (by decide) v kk ((selH xn xl pre).flatMap encZ) rfl (HROW2.out.alloc _) ⟨W.heap.size, 0, none⟩ 1 1 [.int .i64 x.1] rfl rfl (cell_one_new W (.int .i64 x.1) 3) (by simp [Value.oneCell']) (by decide) (by unfold maxLen; omega) (by omega) (by simp; omega) ?_; intro g6 cap6 w6 hown6 hold6 hg6 hat6 hlt6; obtain ⟨hv1, hv2, hr2, hk2, hb2⟩ := HV.out.appended (by decide) HROW2.out hlo hbw hown6 hg6; have hc6 := hv1.cell; have hf6 := hv1.frozen; have HDN := Lib.hid (blk_append (Bx := Bx) (v' := .slice (some ⟨g6, 0, none⟩) (kk + 1) cap6) HD.out (by omega) HROW2.out (by decide) hg6); have HKP := Lib.hid (kpE_append (v' := .slice (some ⟨g6, 0, none⟩) (kk + 1) cap6) HV.out HROW2.out hg6 (hat6.imp (fun e => e.symm) (fun e => by rw [← e]; rfl)) (by decide)); clear hown6 hold6 hg6 hat6 hlt6)
    all_goals first
      | (have hq := selH_miss pre (HQ.out.trans rfl)
         refine ⟨KeepsFrom.refl _ _, KpE.refl _ _, ⟨⟨v, HV.out, ?_⟩, HBB.out, hlo⟩, HD.out⟩
         rw [hq, HKK.out]
         exact HROW2.out)
      | (have hq := selH_hit pre (HQ.out.trans rfl)
         refine ⟨hk2.from _, HKP.out, ⟨⟨_, hv2, ?_⟩, HBB.out.trans hb2, Nat.le_trans hlo hk2.size⟩, HDN.out⟩
         rw [hq, List.flatMap_append, List.length_append, HKK.out]
         exact hr2)
  case done =>
    rintro D ys W hD rfl ⟨hC, hd⟩ hK
    obtain ⟨v, hv, hrow⟩ := hC.row
    have hc := hv.cell
    gi_wp2
    refine ⟨by simp, .inl ⟨_, _, rfl, run_takeDeferred hK, ?_⟩⟩
    have hC2 := (Coll.own (β := Unit) (B' := w.heap.size) (Bx := Bx) (t := 36) (e := 3) (size := 1) (w := w) (Nat.le_refl _) (fun _ => _) (fun _ => _)).putObj (s := ()) (.deferred none) hC (by omega) hK rfl
    rw [selH_all] at hrow
    have hro := ownsRow_putObj hrow (.deferred none) hK rfl
    rw [flat_len (fun z _ => encZ_len z), Nat.mul_one] at hro
    obtain ⟨a5, c5, rfl, hI, -⟩ := IntRow.of_own_new rfl hro (fun z hz => by
      obtain ⟨t, rfl, ht⟩ := elemsZ_in (List.mem_filter.1 hz).1
      rw [coreL_len] at ht
      exact ⟨by omega, by have := hs.1; omega⟩)
    exact ⟨_, results_tmp rfl _ _ _, a5, _, c5, rfl, hI, hC2.below⟩
  case stop =>
    rintro D c pre W _ _ h _
    exact h.elim
end Go.Proofs.YtkomeijlljcdgaaGreat
