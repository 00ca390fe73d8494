/- Texts joined in build order: MoveTell MoveWhy MoveAs MoveMath2 MoveOut MoveOver MoveStand MovePutMath MoveParts. -/
import Derived.Test.YtiffhlncnpppoaaGreatDoorM10
import Derived.Test.YtiffhlncnpppoaaGreatDoorM09
import Derived.Deep.RegionLaw
import Derived.Deep.DeepCutAuto
import Derived.Test.YtiffhlncnpppoaaGreatDoorM01
import Derived.Test.YtiffhlncnpppoaaGreatDoorM06
import Derived.WalkKit
import Derived.LaidEql
import Derived.Stop.Asserts
import Derived.RowKitTokens
import Derived.Deep.RegionWith
namespace Go.Proofs.YtiffhlncnpppoaaGreatDoor
open Go.RowKit
abbrev ptrV (b : Nat) : Value := .pointer (some ⟨b, 0, none⟩)
abbrev workV (b : Nat) : Value := .agg #[.pointer (some ⟨b, 0, none⟩)]
theorem note_info : (Tryz.prog.info? 58).map (fun i => (i.zero, i.size, i.bytes)) = some (some (.agg #[.int .i64 0, .int .i64 0, .int .i64 0, .int .i64 0, .string ⟨#[]⟩, .bool false, .bool false, .string ⟨#[]⟩, .string ⟨#[]⟩]), 9, 88) := by kernel_rfl
section
variable {ρ : Nat → Nat} {pw g cap len : Nat} {m : Int} {M : List NodeD} {v : Value} {N : List NoteD}
theorem top_at (h : rightF m (coreL M) = true) {n : Nat} (hn : n < M.length) : ∃ (t : Nat) (x : NodeD), topF (coreL M) n = t ∧ M[t]? = some x ∧ connF (coreL M) n = (x.core.kind == 0) := by
  have ht := topF_lt h (show n < (coreL M).length by rw [coreL_len]; exact hn)
  rw [coreL_len] at ht
  refine ⟨_, M[topF (coreL M) n], rfl, List.getElem?_eq_getElem ht, ?_⟩
  unfold connF
  rw [kindK_at (coreL_get (List.getElem?_eq_getElem ht))]
set_option maxHeartbeats 4000000 in
set_option maxRecDepth 100000 in
theorem mconn_any (w : World) (h : Wk ρ w pw g cap len m M v N) (hr : rightF m (coreL M) = true) (n : Nat) (hn : n < len) :
    Calls Tryz.prog 118 #[ptrV pw, .int .i64 n] w fun e w' => e = .returned (.bool (connF (coreL M) n)) ∧ Below w.heap.size w w' := by
  obtain ⟨t, x, ht, hx, hc⟩ := top_at hr (by rw [h.hlen]; exact hn)
  have htl : t < len := by rw [← h.hlen]; exact (List.getElem?_eq_some_iff.1 hx).1
  have CT : Hid (∀ W, NodeRow W (some ⟨g, 0, none⟩) len cap M → Calls Tryz.prog 143 #[.slice (some ⟨g, 0, none⟩) len cap, .int .i64 n] W fun e w' => e = .returned (.int .i64 t) ∧ Below W.heap.size W w') := Lib.hid (fun W h1 => by
    have := wtop_any _ _ _ m _ n W h1 hr hn
    rwa [ht] at this)
  have HW := Lib.hid h
  have HC := Lib.hid hc
  have hl64 : (len : Int) ≤ 9223372036854775807 := by have h1 := h.hcap; have h2 := h.hmax; unfold maxLen at h2; omega
  have E0 := Ext.cell h.c0 h.plt
  have EK := Ext.cell (h.at_ hx).c0 h.glt
  have EX := Lib.hid (fun (y : Ext w) => CT.out y.v (HW.out.row.below y.below))
  clear h hr ht hx hc
  go_enter Tryz.func118, Tryz.ntmps118
  go_upto_region 1 with fail
  refine wp_region_ext (by kernel_rfl) (by kernel_rfl) ?_
  repeat (go_big_quiet_step (first | (go_at_call 143; exact Ext.call_below (EX.out _))))
  refine wpQuiet_nil ?_
  intro w3 hw'
  obtain ⟨⟨w4, hb4⟩, hw''⟩ := hw'
  dsimp only at hw''
  subst hw''
  go_wp2
  go_ret
  exact ⟨ret_bool HC.out.symm, hb4⟩
def toldN (F : List Core) (l : List Int) (x : NoteD) (k : Nat) : List NoteD := ((l.take k).filter (fun z => kindK F z == 1)).map (noteAt x)
theorem toldN_step {F : List Core} {l : List Int} {x : NoteD} {k : Nat} {z : Int} (hz : l[k]? = some z) : toldN F l x (k + 1) = toldN F l x k ++ if kindK F z == 1 then [noteAt x z] else [] := by
  unfold toldN
  rw [List.take_add_one, hz, List.filter_append, List.map_append]
  congr 1
  simp only [Option.toList_some, List.filter_cons, List.filter_nil]
  split <;> rfl
theorem toldN_all {F : List Core} {n : Nat} {x : NoteD} {k : Nat} (hk : (allI F n).length ≤ k) : toldN F (allI F n) x k = tellN F n x := by
  unfold toldN tellN
  rw [List.take_of_length_le hk]
abbrev noteB (x : NoteD) : Obj := .cells #[.int .i64 x.kind, .int .i64 x.node, .int .i64 x.src, .int .i64 x.dst, .string x.name, .bool x.had, .bool x.has, .string x.old, .string x.new] 58
structure TBox (W : World) (b : Nat) (x : NoteD) : Prop where
  lt : b < W.heap.size
  c : ∀ j u, (encO x)[j]? = some u → W.cell? ⟨b, j, none⟩ = some u
  f : ∀ j, W.frozen? ⟨b, j, none⟩ = false
theorem TBox.new (W : World) (x : NoteD) : TBox (W.alloc (noteB x)) W.heap.size x :=
  ⟨by simp, fun j u hu => by rw [cell_of_row (W.alloc (noteB x)) W.heap.size j _ 58 (0, 0) (heap_alloc_new W _)]; simpa [encO] using hu, fun j => row_free (heap_alloc_new W (noteB x)) j⟩
theorem TBox.keep {W W2 : World} {b : Nat} {x : NoteD} (h : TBox W b x) (hb : Below W.heap.size W W2) : TBox W2 b x :=
  ⟨Nat.lt_of_lt_of_le h.lt hb.size, fun j u hu => (hb.cell (p := ⟨b, j, none⟩) h.lt).trans (h.c j u hu), fun j => (hb.frozen (p := ⟨b, j, none⟩) h.lt).trans (h.f j)⟩
theorem TBox.at_ {W : World} {b : Nat} {x : NoteD} (h : TBox W b x) (z : Int) : TBox (W.setCell ⟨b, 1, none⟩ (.int .i64 z)) b (noteAt x z) := by
  refine ⟨by simpa [World.setCell] using h.lt, fun j u hu => ?_, fun j => by rw [World.frozen?_setCell]; exact h.f j⟩
  by_cases e : j = 1
  · subst e
    have hu : some (Value.int .i64 z) = some u := hu
    rw [← Option.some.inj hu]
    exact World.cell?_setCell_same _ _ _ (h.c 1 _ rfl)
  · rw [World.cell?_setCell_other _ _ _ _ (fun e' => by injection e' with _ e'; omega)]
    refine h.c j u ?_
    rw [show encO (noteAt x z) = (encO x).set 1 (.int .i64 z) from rfl, List.getElem?_set_ne (fun e2 => e e2.symm)] at hu
    exact hu
theorem TBox.turn {W W2 : World} {b : Nat} {x : NoteD} (h : TBox W b x) (hs : W.heap.size ≤ W2.heap.size) (hb : W2.heap[b]? = W.heap[b]?) : TBox W2 b x :=
  ⟨Nat.lt_of_lt_of_le h.lt hs, fun j u hu => (World.cell?_of_block (w := W) (a := ⟨b, j, none⟩) hb).trans (h.c j u hu), fun j => (World.frozen?_of_block (w := W) (a := ⟨b, j, none⟩) hb).trans (h.f j)⟩
def WkPost (ρ : Nat → Nat) (w : World) (pw g cap len : Nat) (m : Int) (Q : List NodeD → List NoteD → Prop) (e : Ending) (w' : World) : Prop :=
  e = .returned (.tuple #[]) ∧ ∃ ρ' M' v' N', Wk ρ' w' pw g cap len m M' v' N' ∧ Turn ρ w w' ∧ (∀ k, k < w.heap.size → ρ' k = ρ k) ∧ Q M' N'
theorem own_some {w : World} {base : Nat} {e : TypeId} {size n : Nat} {v : Value} {xs : List Value} (h : w.ownsRow base e size v n xs) (hn : 0 < n) : ∃ g cap, v = .slice (some ⟨g, 0, none⟩) n cap := by
  rcases h.2 with ⟨_, h0⟩ | ⟨g, cap, cur, hv, _⟩
  · omega
  · exact ⟨g, cap, hv⟩
theorem note_one (W : World) (x : NoteD) : SRow encO 9 (W.alloc (noteB x)) (some ⟨W.heap.size, 0, none⟩) 1 1 [x] := own_one (size := 9) W 58 x #[.int .i64 x.kind, .int .i64 x.node, .int .i64 x.src, .int .i64 x.dst, .string x.name, .bool x.had, .bool x.has, .string x.old, .string x.new] rfl rfl
structure TellIn (ρ1 : Nat → Nat) (w1 : World) (pw g cap len : Nat) (m : Int) (M : List NodeD) (bx : Nat) (Nk : List NoteD) (wr : World) (ρk : Nat → Nat) (vk : Value) (xk : NoteD) : Prop where
  wk : Wk ρk wr pw g cap len m M vk Nk
  turn : Turn ρ1 w1 wr
  agree : ∀ k, k < w1.heap.size → ρk k = ρ1 k
  box : TBox wr bx xk
  b4 : ρ1 bx = 4
  blt : bx < w1.heap.size
section
variable {ρ1 ρk : Nat → Nat} {w1 wr W W1 : World} {bx : Nat} {Nk : List NoteD} {vk v' : Value} {xk : NoteD}
theorem TellIn.keep (h : TellIn ρ1 w1 pw g cap len m M bx Nk wr ρk vk xk) (hb : Below wr.heap.size wr W) : TellIn ρ1 w1 pw g cap len m M bx Nk W ρk vk xk :=
  ⟨h.wk.keep hb, h.turn.keep hb, h.agree, h.box.keep hb, h.b4, h.blt⟩
theorem TellIn.at_ (h : TellIn ρ1 w1 pw g cap len m M bx Nk wr ρk vk xk) (z : Int) : TellIn ρ1 w1 pw g cap len m M bx Nk (wr.setCell ⟨bx, 1, none⟩ (.int .i64 z)) ρk vk (noteAt xk z) :=
  ⟨h.wk.other (by rw [h.agree bx h.blt, h.b4]) _ _, h.turn.setCell (.inr (by rw [h.b4]; decide)) _ _, h.agree, h.box.at_ z, h.b4, h.blt⟩
theorem TellIn.more (h : TellIn ρ1 w1 pw g cap len m M bx Nk W ρk vk xk) (hok : NoteOk xk) (ho : W1.ownsRow 0 58 9 v' (Nk.length + 1) ((Nk ++ [xk]).flatMap encO)) (hg : W.grownBy W1 vk.ownBlock) (hat : v'.ownBlock = vk.ownBlock ∨ v'.ownBlock = some W.heap.size) :
    TellIn ρ1 w1 pw g cap len m M bx (Nk ++ [xk]) (W1.setCell ⟨pw, 2, none⟩ v') (upd ρk v'.ownBlock 3) v' xk ∧ W1.cell? ⟨pw, 2, none⟩ = some vk ∧ W1.frozen? ⟨pw, 2, none⟩ = false := by
  have hb : ∀ b, v'.ownBlock = some b → vk.ownBlock = some b ∨ W.heap.size ≤ b := fun b e => by
    rcases hat with h1 | h1
    · exact .inl (h1.symm.trans e)
    · rw [h1] at e
      injection e with e
      exact .inr (by omega)
  have hs := h.turn.size
  have pne : some pw ≠ vk.ownBlock := fun e => by
    have h1 := h.wk.nrole pw e.symm
    have h2 := h.wk.prole
    omega
  have sp := hg.block pw h.wk.plt pne
  have b4 : ρk bx = 4 := by rw [h.agree bx h.blt, h.b4]
  have bne : some bx ≠ vk.ownBlock := fun e => by
    have h1 := h.wk.nrole bx e.symm
    omega
  have hbp : bx ≠ pw := fun e => by
    have h2 := h.wk.prole
    rw [← e] at h2
    omega
  refine ⟨⟨h.wk.note hok hg ho hb, ?_, fun k hk => ?_, ?_, h.b4, h.blt⟩, (World.cell?_of_block (w := W) (a := ⟨pw, 2, none⟩) sp).trans h.wk.c2, (World.frozen?_of_block (w := W) (a := ⟨pw, 2, none⟩) sp).trans (h.wk.pfree 2)⟩
  · refine (h.turn.grown hg (fun k e => ?_)).setCell ?_ _ _
    · rcases Nat.lt_or_ge k w1.heap.size with h1 | h1
      · right
        rw [← h.agree k h1, h.wk.nrole k e]
        decide
      · exact .inl h1
    · rcases Nat.lt_or_ge pw w1.heap.size with h1 | h1
      · right
        rw [← h.agree pw h1, h.wk.prole]
        decide
      · exact .inl h1
  · rw [← h.agree k hk]
    exact upd_old (fun b e => (hb b e).imp (h.wk.nrole b) id) k (by omega)
  · refine h.box.turn (by simpa [World.setCell] using hg.size) ?_
    rw [Below.heap_setCell _ _ _ bx hbp]
    exact hg.block bx h.box.lt bne
end
theorem NoteOk.at_ {x : NoteD} (h : NoteOk x) {z : Int} (hz : In64 z) : NoteOk (noteAt x z) := ⟨h.kind, hz, h.src, h.dst, h.name, h.old, h.new⟩
theorem all_in {m : Int} {F : List Core} (hr : rightF m F = true) {n : Nat} (hn : n < F.length) : ∀ z ∈ allI F (n : Int), ∃ t : Nat, z = t ∧ t < F.length := ordB_in (sh := true) hr hn
set_option maxHeartbeats 8000000 in
set_option maxRecDepth 100000 in
theorem mtell_any (w : World) (h : Wk ρ w pw g cap len m M v N) (hr : rightF m (coreL M) = true) (hs : smallF M) (n : Nat) (hn : n < len) (x : NoteD) (hx : NoteOk x) (hN : N.length ≤ 100000000) :
    Calls Tryz.prog 121 #[ptrV pw, .int .i64 n, noteV x] w (WkPost ρ w pw g cap len m fun M' N' => M' = M ∧ N' = N ++ tellN (coreL M) n x) := by
  have HL : Hid ((coreL M).length = len) := Lib.hid (by rw [coreL_len, h.hlen])
  have hl1k : len ≤ 1000 := by rw [← h.hlen]; exact hs.1
  have CF : Hid (∀ W, NodeRow W (some ⟨g, 0, none⟩) len cap M → Calls Tryz.prog 112 #[.slice (some ⟨g, 0, none⟩) len cap, .int .i64 n] W (OrdNew W (allI (coreL M) n))) := Lib.hid (fun W h1 => wfull_any _ _ _ m _ n W h1 hs hr hn)
  have HA : Hid (∀ z ∈ allI (coreL M) n, ∃ t : Nat, z = t ∧ t < len) := Lib.hid (fun z hz => by
    obtain ⟨t, h1, h2⟩ := all_in hr (by rw [HL.out]; exact hn) z hz
    exact ⟨t, h1, by rw [← HL.out]; exact h2⟩)
  have HAL : Hid ((allI (coreL M) n).length ≤ 1000) := Lib.hid (Nat.le_trans (allI_len hr (by rw [HL.out]; exact hn)) (by rw [HL.out]; exact hl1k))
  have HX := Lib.hid hx
  have HN := Lib.hid hN
  have HF := Lib.hid h.fresh
  have hbx : w.heap.size < (w.alloc (noteB x)).heap.size := by simp
  obtain ⟨w0, hw0, WK0, BX0, hlt0⟩ : ∃ w0, w.alloc (noteB x) = w0 ∧ Hid (Wk (upd ρ (some w.heap.size) 4) w0 pw g cap len m M v N) ∧ Hid (TBox w0 w.heap.size x) ∧ Below w.heap.size w w0 := by
    have hb : Below w.heap.size w (w.alloc (noteB x)) := (Below.refl _ _).alloc (Nat.le_refl _) _
    refine ⟨_, rfl, Lib.hid ((h.keep hb).mark hbx (h.fresh _ (Nat.le_refl _)) (fun z hz b' off he hp e => ?_)), Lib.hid (TBox.new w x), hb⟩
    have := attr_block_lt (h.aok z hz) he hp
    omega
  have HW0 := Lib.hid hw0
  have HB0 := Lib.hid hlt0
  have hlt1 : w.heap.size < w0.heap.size := by rw [← hw0]; exact hbx
  have p0 := WK0.out.c0
  clear h hr hs hx hN hbx hw0 hlt0
  go_enter Tryz.func121, Tryz.ntmps121
  go_upto_region 1 with fail
  rw [HW0.out]
  go_wp2_with (go_at_call 112; (with_reducible refine (CF.out _ WK0.out.row).mono ?_); rintro e w1 ⟨ra, rl, rc, rfl, hrl, hb, hrn⟩; have LR := Lib.hid hrl; have LN := Lib.hid hrn; have WK1 := Lib.hid (WK0.out.keep hb); have BX1 := Lib.hid (BX0.out.keep hb); have HB1 := Lib.hid hb; clear hb hrl hrn p0)
  have T0 : Hid (TellIn (upd ρ (some w.heap.size) 4) w1 pw g cap len m M w.heap.size N w1 (upd ρ (some w.heap.size) 4) v x) := Lib.hid ⟨WK1.out, Turn.refl _ _, fun _ _ => rfl, BX1.out, by unfold upd; rw [if_pos rfl], BX1.out.lt⟩
  have hrl := LR.out.hlen
  have HRL := Lib.hid hrl
  have hrl1k : rl ≤ 1000 := by rw [← hrl]; exact HAL.out
  have LR0 : Hid (∀ b off, ra = some ⟨b, off, none⟩ → 0 < rl → upd ρ (some w.heap.size) 4 b = 0) := Lib.hid (fun b off he hp => by
    have h1 := LN.out b off he
    unfold upd
    rw [if_neg (fun e => by injection e with e; omega)]
    exact HF.out b (by omega))
  clear hrl
  go_loopw [16] (fun i wr => ∃ (k : Nat) (ρk : Nat → Nat) (vk : Value) (xk : NoteD) (Nk : List NoteD), k ≤ rl ∧ i = .int .i64 k ∧ Nk.length ≤ 100000000 + k ∧ Hid (Nk = N ++ toldN (coreL M) (allI (coreL M) n) x k) ∧ Hid (∃ z0, xk = noteAt x z0) ∧ Hid (TellIn (upd ρ (some w.heap.size) 4) w1 pw g cap len m M w.heap.size Nk wr ρk vk xk)) (fun i _ => rl - (intOf i).toNat)
  case atStart => exact ⟨0, _, v, x, N, Nat.zero_le _, rfl, by have := HN.out; omega, Lib.hid (by simp [toldN]), Lib.hid ⟨x.node, rfl⟩, T0⟩
  case round =>
    obtain ⟨k, ρk, vk, xk, Nk, hk, rfl, hNk, HNK, HXK, TI⟩ := hrel
    by_cases hlt : k < rl
    · obtain ⟨bp, op, z, hpa, hbp, hz, hcz, hin⟩ := (TI.out.turn.introw LR.out LR0.out).get hlt
      obtain ⟨q, rfl, hql⟩ := HA.out z (List.mem_of_getElem? hz)
      have HST := Lib.hid (toldN_step (F := coreL M) (x := x) hz)
      have HIN := Lib.hid hin
      obtain ⟨y, hy⟩ : ∃ y, M[q]? = some y := ⟨_, List.getElem?_eq_getElem (by rw [TI.out.wk.hlen]; exact hql)⟩
      have HKY : Hid (kindK (coreL M) (q : Int) = y.core.kind) := Lib.hid (kindK_at (coreL_get hy))
      have p0 := TI.out.wk.c0
      have yk := (TI.out.wk.at_ hy).c0
      subst hpa
      have hk64 : (k : Int) + 1 ≤ 9223372036854775807 := by omega
      clear hz hin hy
      by_cases hk1 : y.core.kind = 1
      · have e1 : (y.core.kind == 1) = true := by rw [hk1]; rfl
        have HS2 : Hid (toldN (coreL M) (allI (coreL M) n) x (k + 1) = toldN (coreL M) (allI (coreL M) n) x k ++ [noteAt x (q : Int)]) := Lib.hid (by rw [HST.out, HKY.out, hk1]; rfl)
        have b1 := TI.out.box.c 1 _ rfl
        have f1 := TI.out.box.f 1
        clear hk1
        go_upto_region 6 with fail
        have TI2 := Lib.hid (TI.out.at_ (q : Int))
        obtain ⟨wa, hwa⟩ : ∃ wa, wr.setCell ⟨w.heap.size, 1, none⟩ (.int .i64 (q : Int)) = wa := ⟨_, rfl⟩
        obtain ⟨z0, rfl⟩ := HXK.out
        rw [hwa] at TI2 ⊢
        obtain ⟨xq, hxq⟩ : ∃ xq, noteAt (noteAt x z0) (q : Int) = xq := ⟨_, rfl⟩
        have HXQ : Hid (noteAt x (q : Int) = xq) := Lib.hid hxq
        rw [hxq] at TI2
        have OKQ : Hid (NoteOk xq) := Lib.hid (by rw [← hxq]; exact HX.out.at_ HIN.out)
        clear hwa hxq b1 f1 p0 yk TI HXK
        have n0 := TI2.out.box.c 0 _ rfl
        have n1 := TI2.out.box.c 1 _ rfl
        have n2 := TI2.out.box.c 2 _ rfl
        have n3 := TI2.out.box.c 3 _ rfl
        have n4 := TI2.out.box.c 4 _ rfl
        have n5 := TI2.out.box.c 5 _ rfl
        have n6 := TI2.out.box.c 6 _ rfl
        have n7 := TI2.out.box.c 7 _ rfl
        have n8 := TI2.out.box.c 8 _ rfl
        have p2 := TI2.out.wk.c2
        have AL : Hid (∀ o : Obj, Below wa.heap.size wa (wa.alloc o).drew) := Lib.hid (fun o => ((Below.refl _ _).alloc (Nat.le_refl _) o).drew)
        have p2a := fun o => (TI2.out.wk.keep (AL.out o)).c2
        obtain ⟨i0, hi0, hq0, hq1, hq2⟩ := info_parts note_info
        have ho63 : xq.old.size ≤ 9223372036854775807 := by have := OKQ.out.old; unfold maxLen at this; omega
        go_region_law (go_loud (refine step_append_rows rfl (.tmp 36) (.tmp 38) 27 rfl 58 i0 _ 9 88 Tryz.underlying27 hi0 hq0 hq1 hq2 rfl (by decide) 0 vk Nk.length Nk [xq] rfl (own_below TI2.out.wk.nown (AL.out _)) _ 1 1 rfl (note_one wa xq).drew (fun x _ => encO_one x) (by unfold maxLen; omega) (by omega) (Nat.zero_le _) (fun h => by cases h) ?_; intro v5 w5 hown5 hg5 hat5; obtain ⟨g5, cap5, rfl⟩ := own_some hown5 (Nat.succ_pos _); obtain ⟨t5, c5, f5⟩ := (TI2.out.keep (AL.out _)).more OKQ.out hown5 hg5 hat5; have T5 := Lib.hid t5; clear hown5 hg5 hat5 t5))
        all_goals
          go_wp2
          go_roundw
          case rel => exact ⟨k + 1, _, _, xq, _, by omega, by go_num, by rw [List.length_append]; simp; omega, Lib.hid (by rw [HS2.out, HNK.out, HXQ.out, List.append_assoc]), Lib.hid ⟨q, HXQ.out.symm⟩, T5⟩
          case measure => simp [intOf]; omega
      · have e1 : (y.core.kind == 1) = false := beq_eq_false_iff_ne.2 hk1
        have HS2 : Hid (toldN (coreL M) (allI (coreL M) n) x (k + 1) = toldN (coreL M) (allI (coreL M) n) x k) := Lib.hid (by rw [HST.out, HKY.out, e1]; simp)
        clear hk1
        go_wp2
        go_roundw
        case rel => exact ⟨k + 1, ρk, vk, xk, Nk, by omega, by go_num, by omega, Lib.hid (by rw [HS2.out, HNK.out]), HXK, TI⟩
        case measure => simp [intOf]; omega
    · have hkk : k = rl := by omega
      subst hkk
      have HT : Hid (toldN (coreL M) (allI (coreL M) n) x k = tellN (coreL M) n x) := Lib.hid (toldN_all (by rw [HRL.out]; exact Nat.le_refl _))
      go_wp2
      have hs01 := HB1.out.size
      have hs00 := HB0.out.size
      refine bodyPost_ret (v := .tuple #[]) (by simp [results, Tryz.results121]) rfl ⟨rfl, ρk, M, vk, Nk, TI.out.wk, ?_, fun j hj => ?_, rfl, by rw [HNK.out, HT.out]⟩
      · refine (Turn.of_below (ρ := ρ) (HB0.out.trans (HB1.out.mono hs00))).trans (ρ1 := upd ρ (some w.heap.size) 4) (fun j hj => ?_) TI.out.turn
        unfold upd
        rw [if_neg (fun e => by injection e with e; omega)]
      · rw [TI.out.agree j (by omega)]
        unfold upd
        rw [if_neg (fun e => by injection e with e; omega)]
end
end Go.Proofs.YtiffhlncnpppoaaGreatDoor
namespace Go.Proofs.YtiffhlncnpppoaaGreatDoor
open Go.RowKit Go.Extern.Stop Go.Stop Go.Extern
def ErrVar (w : World) : Prop := w.cell? ⟨0, 0, none⟩ = some (.iface 197 (.agg #[.pointer (some ⟨2, 95, none⟩)]))
theorem ErrVar.lt {w : World} (h : ErrVar w) : 0 < w.heap.size := by
  rcases Nat.eq_zero_or_pos w.heap.size with h0 | h1
  · unfold ErrVar at h
    simp [World.cell?, h0] at h
  · exact h1
theorem ErrVar.keep {w w2 : World} (h : ErrVar w) (hb : Below w.heap.size w w2) : ErrVar w2 := (hb.cell (p := ⟨0, 0, none⟩) h.lt).trans h
abbrev faultV (no : Int) : Value := .iface 143 (.int .i64 no)
abbrev refusedV (s : ByteArray) (no : Int) : Value := .iface 145 (.agg #[.string s, faultV no])
set_option maxHeartbeats 4000000 in
theorem mrefuse_any (s : ByteArray) (no : Int) (w : World) : Calls Tryz.prog 61 #[.string s, .int .i64 no] w fun e w' => e = .returned (refusedV s no) ∧ w' = w := by
  go_enter Tryz.func61, Tryz.ntmps61
  go_wp2
  go_ret
  exact ⟨rfl, rfl⟩
theorem as_nil (t : Value) (w : World) : Calls Tryz.prog 153 #[.nilIface, t] w fun e w' => e = .returned (.bool false) ∧ w' = w := by
  go_enter Tryz.func153, Tryz.ntmps153
  go_wp2
  go_ret
  exact ⟨rfl, rfl⟩
abbrev hdl (t : Nat) : Value := .pointer (some ⟨2, t, none⟩)
theorem rl_valueOfP (t : Addr) (w : World) : (ReflectliteValue.unpack (.iface 171 (.pointer (some t)))).run Tryz.prog w
    = .ok (.agg #[hdl 171, .pointer (some ⟨w.heap.size, 0, none⟩), .int .u64 150]) (w.alloc (.cells #[.pointer (some t)] 171)) := by kernel_rfl
theorem rl_typeP (a : Addr) (w : World) : (ReflectliteValue.methodAny (ReflectliteValue.valueError "reflectlite.Value.Type" 0) (fun t _ _ _ => ReflectliteType.toType t) #[.agg #[hdl 171, .pointer (some a), .int .u64 150]]).run Tryz.prog w
    = .ok (.iface 197 (.agg #[hdl 171])) w := by kernel_rfl
theorem rl_methodKind (h : Value) (w : World) : (Go.method 347 197 (.agg #[h]) "Kind").run Tryz.prog w = .ok (207, h) w := by kernel_rfl
theorem rl_kindP (w : World) : ((ReflectliteType.abiMethod fun t => (fun a : Nat => Value.int IntKind.u8 (a : Int)) <$> Rtype.kind t) #[hdl 171]).run Tryz.prog w = .ok (.int .u8 22) w := by kernel_rfl
theorem rl_kindF (w : World) : ((ReflectliteType.abiMethod fun t => (fun a : Nat => Value.int IntKind.u8 (a : Int)) <$> Rtype.kind t) #[hdl 143]).run Tryz.prog w = .ok (.int .u8 2) w := by kernel_rfl
theorem rlm (z : Sem Value) (f : TypeId → Addr → Nat → Nat → Sem Value) (v : Value) :
    ReflectliteValue.method z f #[v] = (do match ← ReflectliteValue.parts v with | none => z | some (t, a, fl) => f t a fl (fl % 32)) := rfl
theorem rl_partsP (a : Addr) (w : World) : (ReflectliteValue.parts (.agg #[hdl 171, .pointer (some a), .int .u64 150])).run Tryz.prog w = .ok (some (171, a, 150)) w := by kernel_rfl
theorem rl_isNilP (a p : Addr) (W : World) (ha : W.cell? a = some (.pointer (some p))) :
    (ReflectliteValue.method (ReflectliteValue.valueError "reflectlite.Value.IsNil" 0) ReflectliteValue.isNil #[.agg #[hdl 171, .pointer (some a), .int .u64 150]]).run Tryz.prog W = .ok (.bool false) W := by
  rw [rlm]
  simp only [Sem.run_bind, rl_partsP, Result.andThen]
  simp [ReflectliteValue.isNil, loadVar, isAgg, underlying, Tryz.underlying171, ha, Result.andThen]
theorem rl_methodElem (h : Value) (w : World) : (Go.method 347 197 (.agg #[h]) "Elem").run Tryz.prog w = .ok (219, .agg #[h]) w := by kernel_rfl
theorem rl_methodImpl (h : Value) (w : World) : (Go.method 347 197 (.agg #[h]) "Implements").run Tryz.prog w = .ok (220, .agg #[h]) w := by kernel_rfl
theorem rl_methodAsg (h : Value) (w : World) : (Go.method 347 197 (.agg #[h]) "AssignableTo").run Tryz.prog w = .ok (217, .agg #[h]) w := by kernel_rfl
theorem rl_elemP (w : World) : (ReflectliteType.method ReflectliteType.elem #[.agg #[hdl 171]]).run Tryz.prog w = .ok (.iface 197 (.agg #[hdl 143])) w := by kernel_rfl
theorem rl_implF (w : World) : (ReflectliteType.relation "Implements" ReflectliteType.implements_ #[.agg #[hdl 143], .iface 197 (.agg #[hdl 95])]).run Tryz.prog w = .ok (.bool true) w := by kernel_rfl
theorem rl_typeOfF (v : Value) (w : World) : (ReflectliteType.typeOf #[.iface 143 v]).run Tryz.prog w = .ok (.iface 197 (.agg #[hdl 143])) w := by kernel_rfl
theorem rl_typeOfR (v : Value) (w : World) : (ReflectliteType.typeOf #[.iface 145 v]).run Tryz.prog w = .ok (.iface 197 (.agg #[hdl 145])) w := by kernel_rfl
theorem rl_asgF (w : World) : (ReflectliteType.relation "AssignableTo" ReflectliteType.assignableTo #[.agg #[hdl 143], .iface 197 (.agg #[hdl 143])]).run Tryz.prog w = .ok (.bool true) w := by kernel_rfl
theorem rl_asgR (w : World) : (ReflectliteType.relation "AssignableTo" ReflectliteType.assignableTo #[.agg #[hdl 145], .iface 197 (.agg #[hdl 143])]).run Tryz.prog w = .ok (.bool false) w := by kernel_rfl
theorem rl_valueOfF (no : Int) (w : World) : (ReflectliteValue.unpack (faultV no)).run Tryz.prog w
    = .ok (.agg #[hdl 143, .pointer (some ⟨w.heap.size, 0, none⟩), .int .u64 130]) (w.alloc (.cells #[.int .i64 no] 143)) := by kernel_rfl
theorem rl_elemOfP (w : World) : (Rtype.elem? 171).run Tryz.prog w = .ok (some 143) w := by kernel_rfl
theorem rl_mkF (p : Addr) (w : World) : (ReflectliteValue.mk 143 p ReflectliteValue.flagAddr).run Tryz.prog w = .ok (.agg #[hdl 143, .pointer (some p), .int .u64 386]) w := by kernel_rfl
theorem rl_elemVP (a p : Addr) (W : World) (ha : W.cell? a = some (.pointer (some p))) :
    (ReflectliteValue.method (ReflectliteValue.valueError "reflectlite.Value.Elem" 0) ReflectliteValue.elem #[.agg #[hdl 171, .pointer (some a), .int .u64 150]]).run Tryz.prog W
      = .ok (.agg #[hdl 143, .pointer (some p), .int .u64 386]) W := by
  rw [rlm]
  simp only [Sem.run_bind, rl_partsP, Result.andThen]
  simp [ReflectliteValue.elem, loadVar, isAgg, underlying, Tryz.underlying171, ha, Result.andThen, rl_elemOfP, rl_mkF]
theorem rls (v x : Value) : ReflectliteValue.set #[v, x] = (do
    let (some (dst, a, fl), some (src, b, _)) := (← ReflectliteValue.parts v, ← ReflectliteValue.parts x)
      | unsupported (.noEntry "extern/(internal/reflectlite.Value).Set.zeroValue")
    if fl / ReflectliteValue.flagAddr % 2 == 0 then unsupported (.noEntry "extern/(internal/reflectlite.Value).Set.unaddressable")
    let val ← loadVar src b
    if ← Rtype.directlyAssignable dst src then storeVar dst a val
    else if ← Rtype.implements dst src then
      if (← Rtype.kind src) == 20 then
        match val with
        | .nilIface => unsupported (.noEntry "extern/reflectlite: a nil value of one interface type handed on as a value of another")
        | _ => storeVar dst a val
      else storeVar dst a (.iface src val)
    else panicString ("reflectlite.Set: value of type " ++ (← Rtype.spelt src) ++ " is not assignable to type " ++ (← Rtype.spelt dst))
    pure (.tuple #[])) := rfl
theorem rl_partsFa (a : Addr) (w : World) : (ReflectliteValue.parts (.agg #[hdl 143, .pointer (some a), .int .u64 386])).run Tryz.prog w = .ok (some (143, a, 386)) w := by kernel_rfl
theorem rl_partsF (a : Addr) (w : World) : (ReflectliteValue.parts (.agg #[hdl 143, .pointer (some a), .int .u64 130])).run Tryz.prog w = .ok (some (143, a, 130)) w := by kernel_rfl
theorem rl_direct (w : World) : (Rtype.directlyAssignable 143 143).run Tryz.prog w = .ok true w := by kernel_rfl
theorem rl_setF (ta b : Addr) (no : Int) (old : Value) (W : World) (hb : W.cell? b = some (.int .i64 no)) (ht : W.cell? ta = some old) (hf : W.frozen? ta = false) :
    (ReflectliteValue.set #[.agg #[hdl 143, .pointer (some ta), .int .u64 386], .agg #[hdl 143, .pointer (some b), .int .u64 130]]).run Tryz.prog W
      = .ok (.tuple #[]) (W.setCell ta (.int .i64 no)) := by
  rw [rls]
  simp only [Sem.run_bind, rl_partsFa, rl_partsF, Result.andThen]
  simp [ReflectliteValue.flagAddr, loadVar, isAgg, underlying, Tryz.underlying143, hb, Result.andThen, rl_direct, storeVar, Value.cells, storeCells, Addr.add]
  rw [run_store Tryz.prog W ta _ _ (by rfl)]
  simp [ht, hf]
theorem rl_noAs (v : Value) (xT : TypeId) (w : World) : (Instr.typeAssert (.iface 145 v) xT 202 true).run Tryz.prog w = .ok (.tuple #[.nilIface, .bool false]) w :=
  run_typeAssert_lacksB Tryz.underlying202 (by kernel_rfl) (by kernel_rfl) v xT w
theorem rl_unwraps (v : Value) (xT : TypeId) (w : World) : (Instr.typeAssert (.iface 145 v) xT 205 true).run Tryz.prog w = .ok (.tuple #[.iface 145 v, .bool true]) w :=
  run_typeAssert_hasB Tryz.underlying205 (by kernel_rfl) v xT w
theorem rl_methodUnwrap (s : ByteArray) (no : Int) (w : World) : (Go.method 347 145 (.agg #[.string s, faultV no]) "Unwrap").run Tryz.prog w = .ok (212, .agg #[.string s, faultV no]) w := by kernel_rfl
end Go.Proofs.YtiffhlncnpppoaaGreatDoor
namespace Go.Proofs.YtiffhlncnpppoaaGreatDoor
open Go.RowKit Go.Extern.Stop Go.Stop Go.Extern
abbrev asW1 (w : World) (t : Addr) : World := w.alloc (.cells #[.pointer (some t)] 171)
abbrev asW2 (w : World) (t : Addr) : World := (asW1 w t).alloc (.cells #[hdl 171, .pointer (some ⟨w.heap.size, 0, none⟩), .int .u64 150] 185)
abbrev asW3 (w : World) (t : Addr) : World := (asW2 w t).alloc (.cells #[hdl 171, .pointer (some ⟨w.heap.size, 0, none⟩), .int .u64 150] 185)
abbrev asW4 (w : World) (t : Addr) (s : ByteArray) (no : Int) : World := (asW3 w t).alloc (.cells #[.string s, faultV no] 145)
abbrev asW5 (w : World) (t : Addr) (s : ByteArray) (no : Int) : World := (asW4 w t s no).alloc (.cells #[.int .i64 no] 143)
set_option maxHeartbeats 8000000 in
set_option maxRecDepth 100000 in
theorem as_any (s : ByteArray) (no : Int) (t : Addr) (old : Value) (w : World) (hg : ErrVar w) (ht0 : w.cell? t = some old) (hf0 : w.frozen? t = false) :
    Calls Tryz.prog 153 #[refusedV s no, .iface 171 (.pointer (some t))] w fun e w' => e = .returned (.bool true) ∧ w' = (asW5 w t s no).setCell t (.int .i64 no) := by
  have h134 := @run_callFunc_extern Tryz.prog 167 _ (fun args => ReflectliteValue.unpack (args.getD 0 (.tuple #[]))) Tryz.func167 (by kernel_rfl) (by kernel_rfl) (by kernel_rfl) (by kernel_rfl)
  have h135 := @run_callFunc_extern Tryz.prog 168 _ (ReflectliteValue.methodAny (ReflectliteValue.valueError "reflectlite.Value.Type" 0) (fun t _ _ _ => ReflectliteType.toType t)) Tryz.func168 (by kernel_rfl) (by kernel_rfl) (by kernel_rfl) (by kernel_rfl)
  have h136 := @run_callFunc_extern Tryz.prog 169 _ (ReflectliteValue.method (ReflectliteValue.valueError "reflectlite.Value.IsNil" 0) ReflectliteValue.isNil) Tryz.func169 (by kernel_rfl) (by kernel_rfl) (by kernel_rfl) (by kernel_rfl)
  have h27 := @run_callFunc_extern Tryz.prog 207 _ (ReflectliteType.abiMethod fun t => do pure (.int .u8 (← Rtype.kind t))) Tryz.func207 (by kernel_rfl) (by kernel_rfl) (by kernel_rfl) (by kernel_rfl)
  have h37 := @run_callFunc_extern Tryz.prog 219 _ (ReflectliteType.method ReflectliteType.elem) Tryz.func219 (by kernel_rfl) (by kernel_rfl) (by kernel_rfl) (by kernel_rfl)
  have h38 := @run_callFunc_extern Tryz.prog 220 _ (ReflectliteType.relation "Implements" ReflectliteType.implements_) Tryz.func220 (by kernel_rfl) (by kernel_rfl) (by kernel_rfl) (by kernel_rfl)
  have h10 := @run_callFunc_extern Tryz.prog 180 _ ReflectliteType.typeOf Tryz.func180 (by kernel_rfl) (by kernel_rfl) (by kernel_rfl) (by kernel_rfl)
  have h35 := @run_callFunc_extern Tryz.prog 217 _ (ReflectliteType.relation "AssignableTo" ReflectliteType.assignableTo) Tryz.func217 (by kernel_rfl) (by kernel_rfl) (by kernel_rfl) (by kernel_rfl)
  have h11 := @run_callFunc_extern Tryz.prog 181 _ (ReflectliteValue.method (ReflectliteValue.valueError "reflectlite.Value.Elem" 0) ReflectliteValue.elem) Tryz.func181 (by kernel_rfl) (by kernel_rfl) (by kernel_rfl) (by kernel_rfl)
  have h12 := @run_callFunc_extern Tryz.prog 182 _ ReflectliteValue.set Tryz.func182 (by kernel_rfl) (by kernel_rfl) (by kernel_rfl) (by kernel_rfl)
  have tO := rl_typeOfF
  have tR := rl_typeOfR
  have mA := rl_methodAsg
  have aF := rl_asgF
  have aR := rl_asgR
  have vF := rl_valueOfF
  have f6 := rl_valueOfP
  have f7 := rl_typeP
  have mK := rl_methodKind
  have mE := rl_methodElem
  have mI := rl_methodImpl
  have kP := rl_kindP
  have kF := rl_kindF
  have eP := rl_elemP
  have iF := rl_implF
  have nA := rl_noAs
  have uW := rl_unwraps
  have mU := rl_methodUnwrap
  have hlt := hg.lt
  unfold ErrVar at hg
  have htl : t.block < w.heap.size := by
    rcases Nat.lt_or_ge t.block w.heap.size with h | h
    · exact h
    · simp [World.cell?, Array.getElem?_eq_none h] at ht0
  have n8 := rl_isNilP ⟨w.heap.size, 0, none⟩ t (asW2 w t) (by simp)
  have hg2 : (asW2 w t).cell? ⟨0, 0, none⟩ = some (.iface 197 (.agg #[hdl 95])) := by
    rw [World.cell?_alloc_lt _ _ ⟨0, 0, none⟩ (by simp), World.cell?_alloc_lt _ _ ⟨0, 0, none⟩ hlt]; exact hg
  have el := rl_elemVP ⟨w.heap.size, 0, none⟩ t (asW4 w t s no) (by
    rw [World.cell?_alloc_lt _ _ ⟨w.heap.size, 0, none⟩ (by simp; omega), World.cell?_alloc_lt _ _ ⟨w.heap.size, 0, none⟩ (by simp; omega)]
    simp)
  have hb3 : (asW4 w t s no).cell? ⟨w.heap.size + 1 + 1, 0, none⟩ = some (hdl 171) ∧ (asW4 w t s no).cell? ⟨w.heap.size + 1 + 1, 1, none⟩ = some (.pointer (some ⟨w.heap.size, 0, none⟩)) ∧ (asW4 w t s no).cell? ⟨w.heap.size + 1 + 1, 2, none⟩ = some (.int .u64 150) := by
    refine ⟨?_, ?_, ?_⟩
    all_goals
      rw [World.cell?_alloc_lt _ _ _ (by simp), World.cell?_alloc_at _ _ _ _ (by simp)]
      rfl
  obtain ⟨b30, b31, b32⟩ := hb3
  have st := rl_setF t ⟨w.heap.size + 1 + 1 + 1 + 1, 0, none⟩ no old (asW5 w t s no)
    (by rw [World.cell?_alloc_at _ _ _ _ (by simp)]; rfl)
    (by rw [World.cell?_alloc_lt _ _ t (by simp; omega), World.cell?_alloc_lt _ _ t (by simp; omega), World.cell?_alloc_lt _ _ t (by simp; omega), World.cell?_alloc_lt _ _ t (by simp; omega), World.cell?_alloc_lt _ _ t htl]; exact ht0)
    (by rw [World.frozen?_alloc_old _ _ t (by simp; omega), World.frozen?_alloc_old _ _ t (by simp; omega), World.frozen?_alloc_old _ _ t (by simp; omega), World.frozen?_alloc_old _ _ t (by simp; omega), World.frozen?_alloc_old _ _ t (Nat.ne_of_lt htl)]; exact hf0)
  go_enter Tryz.func153, Tryz.ntmps153
  go_wp2
  refine wp_loop_rounds 2 ?_
  rw [rounds_succ]
  go_wp2
  rw [rounds_succ]
  go_wp2
  go_ret
  exact ⟨rfl, rfl⟩
theorem as_below {w : World} {t : Addr} {s : ByteArray} {no : Int} : Below w.heap.size w (asW5 w t s no) := by
  have h1 := (Below.refl w.heap.size w).alloc (Nat.le_refl _) (.cells #[.pointer (some t)] 171)
  have h2 := h1.alloc h1.size (.cells #[hdl 171, .pointer (some ⟨w.heap.size, 0, none⟩), .int .u64 150] 185)
  have h3 := h2.alloc h2.size (.cells #[hdl 171, .pointer (some ⟨w.heap.size, 0, none⟩), .int .u64 150] 185)
  have h4 := h3.alloc h3.size (.cells #[.string s, faultV no] 145)
  exact h4.alloc h4.size _
set_option maxHeartbeats 4000000 in
theorem mwhyNil_any (w : World) : Calls Tryz.prog 116 #[.nilIface] w fun e w' => e = .returned (.int .i64 0) ∧ Below w.heap.size w w' := by
  go_enter Tryz.func116, Tryz.ntmps116
  go_wp2_with (go_at_call 153; (refine (as_nil _ _).mono ?_); rintro e w1 ⟨rfl, rfl⟩)
  go_ret
  exact ⟨rfl, below_box _ _⟩
set_option maxHeartbeats 4000000 in
theorem mwhy_any (s : ByteArray) (no : Int) (w : World) (hg : ErrVar w) : Calls Tryz.prog 116 #[refusedV s no] w fun e w' => e = .returned (.int .i64 no) ∧ Below w.heap.size w w' := by
  have hb0 : Below w.heap.size w (w.alloc (.cells #[.int .i64 0] 143)) := below_box _ _
  have c0 : (w.alloc (.cells #[.int .i64 0] 143)).cell? ⟨w.heap.size, 0, none⟩ = some (.int .i64 0) := by
    rw [cell_of_row (w.alloc (.cells #[.int .i64 0] 143)) w.heap.size 0 _ _ (0, 0) (heap_alloc_new w _)]
    rfl
  have f0 : (w.alloc (.cells #[.int .i64 0] 143)).frozen? ⟨w.heap.size, 0, none⟩ = false := row_free (heap_alloc_new w _) 0
  have CA := Lib.hid (as_any s no ⟨w.heap.size, 0, none⟩ (.int .i64 0) _ (hg.keep hb0) c0 f0)
  obtain ⟨w0, hw0⟩ : ∃ w0, w.alloc (.cells #[.int .i64 0] 143) = w0 := ⟨_, rfl⟩
  have hlt : w.heap.size < w0.heap.size := by rw [← hw0]; simp
  rw [hw0] at CA hb0 c0 f0
  obtain ⟨w5, hw5, hb5⟩ : ∃ w5, asW5 w0 ⟨w.heap.size, 0, none⟩ s no = w5 ∧ Below w0.heap.size w0 w5 := ⟨_, rfl, as_below⟩
  rw [hw5] at CA
  have c5 : (w5.setCell ⟨w.heap.size, 0, none⟩ (.int .i64 no)).cell? ⟨w.heap.size, 0, none⟩ = some (.int .i64 no) := World.cell?_setCell_same _ _ _ ((hb5.cell (p := ⟨w.heap.size, 0, none⟩) hlt).trans c0)
  have HB : Hid (Below w.heap.size w (w5.setCell ⟨w.heap.size, 0, none⟩ (.int .i64 no))) := Lib.hid ((hb0.trans (hb5.mono hb0.size)).setCell (p := ⟨w.heap.size, 0, none⟩) (Nat.le_refl _) _)
  have HW0 := Lib.hid hw0
  clear hw0 hb0 hb5 hw5 c0 f0 hg
  go_enter Tryz.func116, Tryz.ntmps116
  go_wp2_with (go_at_call 153; rw [HW0.out]; (with_reducible refine CA.out.mono ?_); rintro e w1 ⟨rfl, rfl⟩)
  go_ret
  exact ⟨rfl, HB.out⟩
end Go.Proofs.YtiffhlncnpppoaaGreatDoor
namespace Go.Proofs.YtiffhlncnpppoaaGreatDoor
open Go.RowKit
section
variable {m : Int} {F G : List Core} {P : Nat → Core → Int} {K : Nat → Core → List Int} {D : Nat → Core → Int}
theorem ordN_congr (h : rightF m F = true) : ∀ (f i : Nat), i < F.length → (∀ j, j < F.length → holdsT (parS F) i j → kidsS G j = kidsS F j) → ordN (kidsS G) f i = ordN (kidsS F) f i
  | 0, _, _, _ => rfl
  | f + 1, i, hi, hk => by
    have T := treeS h
    show i :: (kidsS G i).flatMap (ordN (kidsS G) f) = i :: (kidsS F i).flatMap (ordN (kidsS F) f)
    rw [hk i hi (holds_refl i)]
    congr 1
    exact flat_congr (fun k hkk => ordN_congr h f k (T.kid_lt i k hkk) (fun j hj hh => hk j hj (holds_trans (holds_par (T.kid_par i k hkk)) hh)))
theorem allI_congr (h : rightF m F = true) (hl : G.length = F.length) {n : Nat} (hn : n < F.length) (hk : ∀ j, j < F.length → holdsT (parS F) n j → kidsS G j = kidsS F j) : allI G n = allI F n := by
  unfold allI allF
  rw [Int.toNat_natCast, hl, ordN_congr h (F.length + 1) n hn hk]
theorem edit_undS (h : Edit F G P K D) (j : Nat) : undS G j = undS F j := by
  unfold undS
  by_cases hj : j < F.length
  · have hc : F[j]? = some F[j] := List.getElem?_eq_getElem hj
    rw [h.at_ j _ hc, hc]
    rfl
  · rw [List.getElem?_eq_none (by rw [h.len]; omega), List.getElem?_eq_none (by omega)]
theorem edit_kidsS (h : Edit F G P K D) {j : Nat} {c : Core} (hc : F[j]? = some c) (hk : K j c = c.kids) : kidsS G j = kidsS F j := by
  unfold kidsS
  rw [edit_undS h j]
  congr 1
  unfold kidsF
  rw [h.at_ j c hc, hc]
  show (K j c).map Int.toNat = c.kids.map Int.toNat
  rw [hk]
theorem tellN_congr (h : Edit F G P K D) {n : Nat} (ha : allI G n = allI F n) (x : NoteD) : tellN G n x = tellN F n x := by
  unfold tellN
  rw [ha]
  congr 1
  exact List.filter_congr (fun z _ => by rw [h.kindK])
theorem allI_out (h : rightF m F = true) {n : Nat} {x : Core} (hx : F[n]? = some x) (hp : x.parent ≠ -1) : allI (mvOut F n) n = allI F n := by
  obtain ⟨p, hpp, hpl, ho⟩ := mvOut_out h hx hp
  have hn := (List.getElem?_eq_some_iff.1 hx).1
  refine allI_congr h ho.ed.len hn (fun j hj hh => ?_)
  have hc : F[j]? = some F[j] := List.getElem?_eq_getElem hj
  refine edit_kidsS ho.ed hc ?_
  by_cases e : j = p
  · subst e
    have hpar : parS F n = some j := parS_parent hx hpp
    have e2 := (treeS h).holds_anti hn hj hh (holds_par hpar)
    have := (treeS h).rank_up j n hn hpar
    rw [e2] at this
    omega
  · exact if_neg e
theorem tellN_out (h : rightF m F = true) {n : Nat} {x : Core} (hx : F[n]? = some x) (hp : x.parent ≠ -1) (y : NoteD) : tellN (mvOut F n) n y = tellN F n y := tellN_congr (edF_edit F _ _ _) (allI_out h hx hp) y
theorem allI_doc (h : rightF m F = true) {n : Nat} (hn : n < F.length) (d : Int) : allI (mvDoc F n d) n = allI F n :=
  allI_congr h (edF_edit F _ _ _).len hn (fun _ hj _ => edit_kidsS (edF_edit F _ _ _) (List.getElem?_eq_getElem hj) rfl)
theorem tellN_doc (h : rightF m F = true) {n : Nat} (hn : n < F.length) (d : Int) (y : NoteD) : tellN (mvDoc F n d) n y = tellN F n y := tellN_congr (edF_edit F _ _ _) (allI_doc h hn d) y
theorem tellN_len (h : rightF m F = true) {n : Nat} (hn : n < F.length) (y : NoteD) : (tellN F n y).length ≤ 400 := by
  unfold tellN
  rw [List.length_map]
  exact Nat.le_trans (List.length_filter_le _ _) (Nat.le_trans (allI_len h hn) (right_len400 h))
end
end Go.Proofs.YtiffhlncnpppoaaGreatDoor
namespace Go.Proofs.YtiffhlncnpppoaaGreatDoor
open Go.RowKit
section
variable {ρ : Nat → Nat} {pw g cap len : Nat} {m : Int} {M : List NodeD} {v : Value} {N : List NoteD}
theorem erase_filter {l : List Int} {z : Int} {i : Nat} (hn : l.Nodup) (hi : l[i]? = some z) : l.eraseIdx i = l.filter (fun y => y != z) := by
  obtain ⟨hl, he⟩ := List.getElem?_eq_some_iff.1 hi
  have h1 : l.idxOf z = i := by rw [← he]; exact hn.idxOf_getElem i hl
  rw [← hn.erase_eq_filter, List.erase_eq_eraseIdx_of_idxOf h1]
theorem core_set2 {M : List NodeD} {n p : Nat} {x y : NodeD} {a : Option Addr} {l c : Nat} {ks : List Int} {q : Int} (hx : M[n]? = some x) (hy : M[p]? = some y) (hnp : n ≠ p) :
    Edit (coreL M) (coreL ((M.set p (withK y a l c ks)).set n (withP x q))) (fun j c => if j = n then q else c.parent) (fun j c => if j = p then ks else c.kids) (fun _ c => c.doc) := by
  refine ⟨by unfold coreL; simp, fun j z hz => ?_⟩
  obtain ⟨u, hu, rfl⟩ : ∃ u, M[j]? = some u ∧ u.core = z := by
    unfold coreL at hz
    rw [List.getElem?_map] at hz
    cases hm : M[j]? with
    | none => rw [hm] at hz; cases hz
    | some u => rw [hm] at hz; exact ⟨u, rfl, Option.some.inj hz⟩
  have hjl := (List.getElem?_eq_some_iff.1 hu).1
  unfold coreL
  rw [List.getElem?_map]
  by_cases e : j = n
  · subst e
    obtain rfl : x = u := Option.some.inj (hx.symm.trans hu)
    rw [List.getElem?_set_self (by rw [List.length_set]; exact hjl), if_pos rfl, if_neg hnp]
    rfl
  · rw [List.getElem?_set_ne (fun e2 => e e2.symm), if_neg e]
    by_cases e2 : j = p
    · subst e2
      obtain rfl : y = u := Option.some.inj (hy.symm.trans hu)
      rw [List.getElem?_set_self hjl, if_pos rfl]
      rfl
    · rw [List.getElem?_set_ne (fun e3 => e2 e3.symm), if_neg e2, hu]
      rfl
theorem mv0 : In64 0 := ⟨by decide, by decide⟩
theorem emp_le : (⟨#[]⟩ : ByteArray).size ≤ maxLen := by decide
theorem noteOk_note (k : Int) (hk : In64 k) : NoteOk (note k) := ⟨hk, mv0, mv0, mv0, emp_le, emp_le, emp_le⟩
theorem in64_nat {n : Nat} (h : n ≤ 1000) : In64 (n : Int) := ⟨by omega, by omega⟩
theorem out_par (h : rightF m (coreL M) = true) {n : Nat} {x : NodeD} (hx : M[n]? = some x) (hp : x.core.parent ≠ -1) : ∃ (p : Nat) (y : NodeD) (i : Nat), x.core.parent = p ∧ M[p]? = some y ∧ n ≠ p ∧ findZ y.core.kids n = i ∧ y.core.kids[i]? = some (n : Int) ∧ y.core.kids.Nodup := by
  obtain ⟨p, h1, h2, ho⟩ := mvOut_out h (coreL_get hx) hp
  rw [coreL_len] at h2
  have hy : M[p]? = some M[p] := List.getElem?_eq_getElem h2
  obtain ⟨hnp, _⟩ := out_made h hx hy h1 (a := none) (l := 0) (c := 0)
  have N := right_node h (coreL_get hx)
  rcases N.par with e | ⟨_, d, h3, _, h5⟩
  · exact absurd e hp
  · rw [h1, getC_nat, coreL_get hy] at h3
    rw [← Option.some.inj h3] at h5
    obtain ⟨i, hi1, hi2⟩ := find_at h5
    exact ⟨p, M[p], i, h1, hy, hnp, hi1, hi2, (right_node h (coreL_get hy)).once⟩
set_option maxHeartbeats 8000000 in
set_option maxRecDepth 100000 in
theorem mgoOut_any (w : World) (h : Wk ρ w pw g cap len m M v N) (hr : rightF m (coreL M) = true) (hs : smallF M) (n : Nat) (hn : n < len) (hp : parentK (coreL M) n ≠ -1) (hN : N.length ≤ 90000000) :
    Calls Tryz.prog 64 #[ptrV pw, .int .i64 n] w (WkPost ρ w pw g cap len m fun M' N' => (coreL M', N') = outS (coreL M, N) n ∧ smallF M' ∧ rightF m (coreL M') = true) := by
  have HL : Hid ((coreL M).length = len) := Lib.hid (by rw [coreL_len, h.hlen])
  have hl1k : len ≤ 1000 := by rw [← h.hlen]; exact hs.1
  obtain ⟨x, hx⟩ : ∃ x, M[n]? = some x := ⟨_, List.getElem?_eq_getElem (by rw [h.hlen]; exact hn)⟩
  rw [parentK_at (coreL_get hx)] at hp
  obtain ⟨p, y, i, hpp, hy, hnp, hfi, hi, hnd⟩ := out_par hr hx hp
  have hpl : p < len := by rw [← h.hlen]; exact (List.getElem?_eq_some_iff.1 hy).1
  have hkl : y.core.kids.length = y.kN := (h.kidsRow hy).hlen
  have hik : i < y.kN := by rw [← hkl]; exact (List.getElem?_eq_some_iff.1 hi).1
  have hk400 : y.kN ≤ 400 := by rw [← hkl]; exact right_kids hr (coreL_get hy)
  obtain ⟨gk, ck, hgk⟩ := own_some (h.kown p y hy) (by omega)
  have CC : Hid (Calls Tryz.prog 118 #[ptrV pw, .int .i64 n] w fun e w' => e = .returned (.bool (connF (coreL M) n)) ∧ Below w.heap.size w w') := Lib.hid (mconn_any w h hr n hn)
  have CX : Hid (∀ W, Below w.heap.size w W → Calls Tryz.prog 119 #[.slice y.kA y.kN y.kC, .int .i64 n] W fun e w' => e = .returned (.int .i64 i) ∧ W = w') := Lib.hid (fun W hb => by
    rw [← hfi]
    exact index_any _ _ _ _ _ W ((h.kidsRow hy).below hb))
  have CD : Hid (∀ W, Below w.heap.size w W → Calls Tryz.prog 120 #[.slice y.kA y.kN y.kC, .int .i64 i, .int .i64 ((i : Int) + 1)] W fun e w' => e = .returned (.slice (some ⟨gk, 0, none⟩) (y.kN - 1) ck) ∧ w'.ownsRow 0 3 1 (.slice (some ⟨gk, 0, none⟩) (y.kN - 1) ck) (y.kN - 1) ((y.core.kids.eraseIdx i).flatMap encZ) ∧ W.grownBy w' (some gk)) := Lib.hid (fun W hb => by
    have ho := (h.keep hb).kown p y hy
    rw [hgk] at ho ⊢
    exact deleteI_any W 0 gk y.kN ck y.core.kids i ho hik)
  -- what comes of it
  obtain ⟨ks, hks⟩ : ∃ ks, y.core.kids.eraseIdx i = ks := ⟨_, rfl⟩
  have HKS : Hid (ks = y.core.kids.filter (fun z => z != (n : Int))) := Lib.hid (by rw [← hks]; exact erase_filter hnd hi)
  rw [hks] at CD
  have HED := Lib.hid (core_set2 (a := some ⟨gk, 0, none⟩) (l := y.kN - 1) (c := ck) (ks := ks) (q := -1) hx hy hnp)
  obtain ⟨M2, hM2⟩ : ∃ M2, (M.set p (withK y (some ⟨gk, 0, none⟩) (y.kN - 1) ck ks)).set n (withP x (-1)) = M2 := ⟨_, rfl⟩
  rw [hM2] at HED
  have HEQ : Hid (coreL M2 = mvOut (coreL M) n) := Lib.hid (by
    refine (HED.out.cong (fun j c hc => ⟨rfl, ?_, rfl⟩)).eq
    rw [parentK_at (coreL_get hx), hpp]
    by_cases e : j = p
    · subst e
      rw [coreL_get hy] at hc
      rw [if_pos rfl, if_pos rfl, ← Option.some.inj hc, HKS.out]
    · rw [if_neg e, if_neg (by omega)])
  have HRR : Hid (rightF m (coreL M2) = true) := Lib.hid (by
    obtain ⟨p', _, _, ho⟩ := mvOut_out hr (coreL_get hx) hp
    rw [HEQ.out]
    exact ho.rightG)
  have HSM : Hid (smallF M2) := Lib.hid (small_edit hs HED.out HRR.out)
  have HINK : Hid (∀ z ∈ ks, In64 z) := Lib.hid (fun z hz => by
    rw [HKS.out] at hz
    exact (h.fld y (List.mem_of_getElem? hy)).kids z (List.mem_filter.1 hz).1)
  have HOS : Hid (outS (coreL M, N) n = (coreL M2, if connF (coreL M) n then N ++ tellN (coreL M) n (note 2) else N)) := Lib.hid (by
    unfold outS
    rw [if_neg (by rw [parentK_at (coreL_get hx)]; exact hp), HEQ.out])
  have HXN : Hid (M.set p (withK y (some ⟨gk, 0, none⟩) (y.kN - 1) ck ks) = M.set p (withK y (some ⟨gk, 0, none⟩) (y.kN - 1) ck ks) ∧ (M.set p (withK y (some ⟨gk, 0, none⟩) (y.kN - 1) ck ks))[n]? = some x) := Lib.hid ⟨rfl, by rw [List.getElem?_set_ne (fun e => hnp e.symm)]; exact hx⟩
  have HM2 := Lib.hid hM2
  have HTN : Hid (tellN (coreL M2) n (note 2) = tellN (coreL M) n (note 2)) := Lib.hid (by rw [HEQ.out]; exact tellN_out hr (coreL_get hx) hp _)
  obtain ⟨b, hb⟩ : ∃ b, connF (coreL M) n = b := ⟨_, rfl⟩
  rw [hb] at CC HOS
  have HW := Lib.hid h
  have HX := Lib.hid hx
  have HY := Lib.hid hy
  have HGK : Hid (Value.ownBlock (.slice y.kA y.kN y.kC) = some gk) := Lib.hid (by rw [hgk]; rfl)
  have HN := Lib.hid hN
  have HPP := Lib.hid hpp
  have hl64 : (len : Int) ≤ 9223372036854775807 := by omega
  clear h hr hs hx hp hpp hy hfi hi hnd hkl hgk hks hM2 hb
  go_enter Tryz.func64, Tryz.ntmps64
  go_upto_region 1 with (go_at_call 118; (with_reducible refine CC.out.mono ?_); rintro e w1 ⟨rfl, hb⟩; have HB1 := Lib.hid hb; clear hb)
  have W1 := Lib.hid (HW.out.keep HB1.out)
  have p0 := W1.out.c0
  go_upto_region 2 with fail
  have E0 := Ext.cell W1.out.c0 W1.out.plt
  have x5 := (W1.out.at_ HX.out).c5
  rw [HPP.out] at x5
  have E5 := Ext.cell x5 W1.out.glt
  refine wp_region_ext (by kernel_rfl) (by kernel_rfl) ?_
  repeat (go_big_quiet_step (fail))
  refine wpQuiet_nil ?_
  intro w3 hw'
  obtain ⟨⟨w4, hb4⟩, hw''⟩ := hw'
  dsimp only at hw''
  subst hw''
  have HB2 := Lib.hid (HB1.out.trans (hb4.mono HB1.out.size))
  clear E0 E5 x5 p0 hb4
  have W2 := Lib.hid (HW.out.keep HB2.out)
  have y6 := (W2.out.at_ HY.out).c6
  have KN := Lib.hid (show In64 (i : Int) from in64_nat (by omega))
  have hi64 : (i : Int) + 1 ≤ 9223372036854775807 := by omega
  go_upto_if 48 with (first
    | (go_at_call 119; (with_reducible refine (CX.out _ HB2.out).mono ?_); rintro e w5 ⟨rfl, rfl⟩)
    | (go_at_call 120; (with_reducible refine (CD.out _ HB2.out).mono ?_); rintro e w6 ⟨rfl, hown, hgr⟩; have HO6 := Lib.hid hown; have HG6 := Lib.hid hgr; have MID := Lib.hid (W2.out.mid (row := some gk) hgr (fun b e => by injection e with e; rw [← e, W2.out.krole p y gk HY.out HGK.out]; omega)); have f6 := MID.out.gfree (p * 10 + 6); have f5 := MID.out.gfree (n * 10 + 5); have c6 := MID.out.cells p y 6 _ HY.out rfl; have c5 := MID.out.cells n x 5 _ HX.out rfl; have hne : n * 10 + 5 ≠ p * 10 + 6 := (by omega); clear hown hgr y6))
  have W7 := W2.out.setK HY.out (by rw [HGK.out]; exact HG6.out) HO6.out (fun b e => .inl (by rw [HGK.out]; exact e)) HINK.out
  have W8 := W7.setP HXN.out.2 inM1
  rw [HM2.out] at W8
  have hgk0 : ρ gk = p + 5 := W2.out.krole p y gk HY.out HGK.out
  have T8 : Turn ρ w ((w6.setCell ⟨g, p * 10 + 6, none⟩ (.slice (some ⟨gk, 0, none⟩) (y.kN - 1) ck)).setCell ⟨g, n * 10 + 5, none⟩ (.int .i64 (-1))) := (((Turn.of_below HB2.out).grown HG6.out (fun k e => by injection e with e; right; rw [← e, hgk0]; omega)).setCell (.inr (by rw [W2.out.grole]; decide)) _ _).setCell (.inr (by rw [W2.out.grole]; decide)) _ _
  have A8 : ∀ k, upd ρ (some gk) (p + 5) k = ρ k := fun k => by
    unfold upd
    by_cases e : some gk = some k
    · rw [if_pos e]
      injection e with e
      rw [← e, hgk0]
    · rw [if_neg e]
  have W8 := Lib.hid W8
  have T8 := Lib.hid T8
  have A8 := Lib.hid A8
  clear W7 c6 c5 f6 f5 hne hgk0
  obtain ⟨w8, hw8⟩ : ∃ w8, (w6.setCell ⟨g, p * 10 + 6, none⟩ (.slice (some ⟨gk, 0, none⟩) (y.kN - 1) ck)).setCell ⟨g, n * 10 + 5, none⟩ (.int .i64 (-1)) = w8 := ⟨_, rfl⟩
  rw [hw8] at W8 T8 ⊢
  clear hw8
  cases b with
  | false =>
    go_wp2
    refine bodyPost_ret (v := .tuple #[]) (by simp [results, Tryz.results64]) rfl ⟨rfl, _, M2, v, N, W8.out, T8.out, fun k _ => A8.out k, by rw [HOS.out]; rfl, HSM.out, HRR.out⟩
  | true =>
    have CT := Lib.hid (mtell_any w8 W8.out HRR.out HSM.out n hn (note 2) (noteOk_note 2 ⟨by decide, by decide⟩) (by have := HN.out; omega))
    go_wp2_with (go_at_call 121; (with_reducible refine CT.out.mono ?_); rintro e w9 ⟨rfl, ρ9, M9, v9, N9, W9, T9, A9, rfl, rfl⟩)
    refine bodyPost_ret (v := .tuple #[]) (by simp [results, Tryz.results64]) rfl ⟨rfl, ρ9, M9, v9, _, W9, T8.out.trans (fun k _ => A8.out k) T9, fun k hk => ?_, by rw [HOS.out, HTN.out]; rfl, HSM.out, HRR.out⟩
    exact (A9 k (Nat.lt_of_lt_of_le hk T8.out.size)).trans (A8.out k)
end
end Go.Proofs.YtiffhlncnpppoaaGreatDoor
namespace Go.Proofs.YtiffhlncnpppoaaGreatDoor
open Go.RowKit
section
variable {m : Int} {F : List Core}
theorem mv3 : In64 3 := ⟨by decide, by decide⟩
theorem edit_refl (F : List Core) : Edit F F (fun _ c => c.parent) (fun _ c => c.kids) (fun _ c => c.doc) := ⟨rfl, fun _ _ h => h⟩
theorem outS_facts {S : St} (h : rightF m S.1 = true) {n : Nat} (hn : n < S.1.length) : rightF m (outS S n).1 = true ∧ (∃ P K, Edit S.1 (outS S n).1 P K (fun _ c => c.doc)) ∧ parentK (outS S n).1 n = -1 := by
  have hx : S.1[n]? = some S.1[n] := List.getElem?_eq_getElem hn
  unfold outS
  by_cases hp : parentK S.1 n = -1
  · rw [if_pos hp]
    exact ⟨h, ⟨_, _, edit_refl _⟩, hp⟩
  · rw [if_neg hp]
    rw [parentK_at hx] at hp
    obtain ⟨p, hpp, hpl, ho⟩ := mvOut_out h hx hp
    refine ⟨ho.rightG, ⟨_, _, ho.ed⟩, ?_⟩
    show parentK (mvOut S.1 n) n = -1
    rw [parentK_at (ho.ed.at_ n _ hx)]
    exact if_pos rfl
theorem top_none (h : rightF m F = true) {n : Nat} (hn : n < F.length) (hp : parentK F n = -1) (hk : kindK F n = 1 ∨ kindK F n = 2) : parS F n = none := by
  have hx : F[n]? = some F[n] := List.getElem?_eq_getElem hn
  rw [parentK_at hx] at hp
  rw [kindK_at hx] at hk
  refine parS_none ?_
  rw [nextUp_at hx]
  show (if F[n].parent = -1 then F[n].host else F[n].parent) = -1
  rw [if_pos hp]
  exact (right_node h hx).free (by omega)
theorem taken_doc (h : rightF m F = true) {n : Nat} (hn : n < F.length) (hp : parentK F n = -1) (hk : kindK F n = 1 ∨ kindK F n = 2) {d : Int} (hd : ∃ c, getC F d = some c ∧ c.kind = 0) : Taken m F (mvDoc F n d) n d :=
  ⟨h, hn, top_none h hn hp hk, by omega, hd, edF_edit _ _ _ _⟩
theorem docIs_edit {F G : List Core} {P : Nat → Core → Int} {K : Nat → Core → List Int} {D : Nat → Core → Int} (h : Edit F G P K D) {d : Int} (hd : ∃ c, getC F d = some c ∧ c.kind = 0) : ∃ c, getC G d = some c ∧ c.kind = 0 := by
  obtain ⟨c, h1, h2⟩ := hd
  exact ⟨_, h.getC h1, h2⟩
end
section
variable {ρ : Nat → Nat} {pw g cap len : Nat} {m : Int} {M : List NodeD} {v : Value} {N : List NoteD}
theorem core_setD {M M2 : List NodeD} {P : Nat → Core → Int} {K : Nat → Core → List Int} {D : Nat → Core → Int} {k : Nat} {x : NodeD} {d : Int} (h : Edit (coreL M) (coreL M2) P K D) (hx : M2[k]? = some x) :
    Edit (coreL M) (coreL (M2.set k (withD x d))) P K (fun j c => if j = k then d else D j c) := by
  refine ⟨by unfold coreL; rw [List.length_map, List.length_set]; have := h.len; unfold coreL at this; rwa [List.length_map] at this, fun j c hc => ?_⟩
  have h1 := h.at_ j c hc
  unfold coreL at h1 ⊢
  rw [List.getElem?_map] at h1 ⊢
  by_cases e : j = k
  · subst e
    rw [hx] at h1
    rw [List.getElem?_set_self (List.getElem?_eq_some_iff.1 hx).1, if_pos rfl]
    have h1 : x.core = edC c (P j c) (K j c) (D j c) := Option.some.inj h1
    show some (withD x d).core = _
    have e2 : (withD x d).core = edC x.core x.core.parent x.core.kids d := rfl
    rw [e2, h1]
    rfl
  · rw [List.getElem?_set_ne (fun e2 => e e2.symm), if_neg e]
    exact h1
set_option maxHeartbeats 8000000 in
set_option maxRecDepth 100000 in
theorem mover_any (w : World) (h : Wk ρ w pw g cap len m M v N) (hr : rightF m (coreL M) = true) (hs : smallF M) (n : Nat) (hn : n < len) (hkd : kindK (coreL M) n = 1 ∨ kindK (coreL M) n = 2) (d : Int) (hd64 : In64 d) (hd : ∃ c, getC (coreL M) d = some c ∧ c.kind = 0) (hN : N.length ≤ 80000000) :
    Calls Tryz.prog 101 #[ptrV pw, .int .i64 n, .int .i64 d] w (WkPost ρ w pw g cap len m fun M' N' => (coreL M', N') = overS (coreL M, N) n d ∧ smallF M' ∧ rightF m (coreL M') = true) := by
  have HL : Hid ((coreL M).length = len) := Lib.hid (by rw [coreL_len, h.hlen])
  have hl1k : len ≤ 1000 := by rw [← h.hlen]; exact hs.1
  obtain ⟨x, hx⟩ : ∃ x, M[n]? = some x := ⟨_, List.getElem?_eq_getElem (by rw [h.hlen]; exact hn)⟩
  have OF := Lib.hid (outS_facts (S := (coreL M, N)) hr (show n < (coreL M).length by rw [HL.out]; exact hn))
  have HW := Lib.hid h
  have HX := Lib.hid hx
  have HR := Lib.hid hr
  have HS := Lib.hid hs
  have HN := Lib.hid hN
  have HKD := Lib.hid hkd
  have HD := Lib.hid hd
  have HD64 := Lib.hid hd64
  have HPK : Hid (parentK (coreL M) n = x.core.parent) := Lib.hid (parentK_at (coreL_get hx))
  have hl64 : (len : Int) ≤ 9223372036854775807 := by omega
  have p0 := h.c0
  have x5 := (h.at_ hx).c5
  clear h hr hs hx hkd hd hd64
  go_enter Tryz.func101, Tryz.ntmps101
  go_upto_if 18 with fail
  go_cut [] (fun wx => True ∧ ∃ ρ1 M1 v1 N1, Hid (Wk ρ1 wx pw g cap len m M1 v1 N1) ∧ Hid (Turn ρ w wx) ∧ Hid (∀ k, k < w.heap.size → ρ1 k = ρ k) ∧ Hid ((coreL M1, N1) = outS (coreL M, N) n) ∧ Hid (smallF M1) ∧ Hid (rightF m (coreL M1) = true))
  case first =>
    by_cases hp : x.core.parent = -1
    · have e1 : (x.core.parent != -1) = false := by rw [hp]; rfl
      have HO : Hid (outS (coreL M, N) n = (coreL M, N)) := Lib.hid (by unfold outS; rw [if_pos (by rw [HPK.out]; exact hp)])
      clear hp
      go_wp2
      go_meet
      exact ⟨trivial, ρ, M, v, N, HW, Lib.hid (Turn.refl _ _), Lib.hid (fun _ _ => rfl), Lib.hid HO.out.symm, HS, HR⟩
    · have e1 : (x.core.parent != -1) = true := bne_iff_ne.2 hp
      have CO := Lib.hid (mgoOut_any w HW.out HR.out HS.out n hn (by rw [HPK.out]; exact hp) (by have := HN.out; omega))
      clear hp
      go_wp2_with (go_at_call 64; (with_reducible refine CO.out.mono ?_); rintro e w9 ⟨rfl, ρ9, M9, v9, N9, W9, T9, A9, E9, S9, R9⟩)
      go_meet
      exact ⟨trivial, ρ9, M9, v9, N9, Lib.hid W9, Lib.hid T9, Lib.hid A9, Lib.hid E9, Lib.hid S9, Lib.hid R9⟩
  case rest =>
    obtain ⟨-, ρ1, M1, v1, N1, W1, T1, A1, E1, S1, R1⟩ := hcut
    have HL1 : Hid ((coreL M1).length = len) := Lib.hid (by rw [coreL_len, W1.out.hlen])
    obtain ⟨x1, hx1⟩ : ∃ x1, M1[n]? = some x1 := ⟨_, List.getElem?_eq_getElem (by rw [W1.out.hlen]; exact hn)⟩
    have EA : Hid ((outS (coreL M, N) n).1 = coreL M1) := Lib.hid (by rw [← E1.out])
    have EB : Hid ((outS (coreL M, N) n).2 = N1) := Lib.hid (by rw [← E1.out])
    have OV : Hid (overS (coreL M, N) n d = if x1.core.doc = d then (coreL M1, N1) else (mvDoc (coreL M1) n d, N1 ++ tellN (coreL M1) n ⟨3, 0, x1.core.doc, d, ⟨#[]⟩, false, false, ⟨#[]⟩, ⟨#[]⟩⟩)) := Lib.hid (by
      unfold overS
      simp only [docK_at (coreL_get hx1), ← E1.out])
    have ED1 : Hid (∃ P K, Edit (coreL M) (coreL M1) P K (fun _ c => c.doc)) := Lib.hid (by rw [← EA.out]; exact OF.out.2.1)
    have HP1 : Hid (parentK (coreL M1) n = -1) := Lib.hid (by rw [← EA.out]; exact OF.out.2.2)
    have HK1 : Hid (kindK (coreL M1) n = 1 ∨ kindK (coreL M1) n = 2) := Lib.hid (by obtain ⟨P, K, e⟩ := ED1.out; rw [e.kindK]; exact HKD.out)
    have HD1 : Hid (∃ c, getC (coreL M1) d = some c ∧ c.kind = 0) := Lib.hid (by obtain ⟨P, K, e⟩ := ED1.out; exact docIs_edit e HD.out)
    have TK : Hid (Taken m (coreL M1) (mvDoc (coreL M1) n d) n d) := Lib.hid (taken_doc R1.out (by rw [HL1.out]; exact hn) HP1.out HK1.out HD1.out)
    have HN1 : Hid (N1.length ≤ 80001000) := Lib.hid (by
      rw [← EB.out]
      unfold outS
      split
      · have := HN.out
        show N.length ≤ _
        omega
      · show (if _ then N ++ tellN (coreL M) n (note 2) else N).length ≤ _
        have := HN.out
        split
        · rw [List.length_append]
          have := tellN_len HR.out (show n < (coreL M).length by rw [HL.out]; exact hn) (note 2)
          omega
        · omega)
    have HX1 := Lib.hid hx1
    have F1 := Lib.hid (W1.out.fld x1 (List.mem_of_getElem? hx1))
    have p0 := W1.out.c0
    have x9 := (W1.out.at_ hx1).c9
    clear hx1 E1 EA EB ED1 HW HX HR HS HKD HD OF HPK
    by_cases he : x1.core.doc = d
    · have e1 : (x1.core.doc == d) = true := beq_iff_eq.2 he
      have OV2 : Hid (overS (coreL M, N) n d = (coreL M1, N1)) := Lib.hid (by rw [OV.out, if_pos he])
      clear he
      go_wp2
      refine bodyPost_ret (v := .tuple #[]) (by simp [results, Tryz.results101]) rfl ⟨rfl, ρ1, M1, v1, N1, W1.out, T1.out, A1.out, OV2.out.symm, S1.out, R1.out⟩
    · have e1 : (x1.core.doc == d) = false := beq_eq_false_iff_ne.2 he
      have OV2 : Hid (overS (coreL M, N) n d = (mvDoc (coreL M1) n d, N1 ++ tellN (coreL M1) n ⟨3, 0, x1.core.doc, d, ⟨#[]⟩, false, false, ⟨#[]⟩, ⟨#[]⟩⟩)) := Lib.hid (by rw [OV.out, if_neg he])
      clear he OV
      have CF : Hid (∀ W, NodeRow W (some ⟨g, 0, none⟩) len cap M1 → Calls Tryz.prog 112 #[.slice (some ⟨g, 0, none⟩) len cap, .int .i64 n] W (OrdNew W (allI (coreL M1) n))) := Lib.hid (fun W h1 => wfull_any _ _ _ m _ n W h1 S1.out R1.out hn)
      have HA : Hid (∀ z ∈ allI (coreL M1) n, ∃ t : Nat, z = t ∧ t < len) := Lib.hid (fun z hz => by
        obtain ⟨t, h1, h2⟩ := all_in R1.out (by rw [HL1.out]; exact hn) z hz
        exact ⟨t, h1, by rw [← HL1.out]; exact h2⟩)
      have HAL : Hid ((allI (coreL M1) n).length ≤ 1000) := Lib.hid (Nat.le_trans (allI_len R1.out (by rw [HL1.out]; exact hn)) (by rw [HL1.out]; exact hl1k))
      go_wp2_with (go_at_call 112; (with_reducible refine (CF.out _ W1.out.row).mono ?_); rintro e w2 ⟨ra, rl, rc, rfl, hrl, hb, hrn⟩; have LR := Lib.hid hrl; have LN := Lib.hid hrn; have W2 := Lib.hid (W1.out.keep hb); have HB2 := Lib.hid hb; clear hb hrl hrn p0 x9)
      have hrl := LR.out.hlen
      have HRL := Lib.hid hrl
      have hrl1k : rl ≤ 1000 := by rw [← hrl]; exact HAL.out
      have LR0 : Hid (∀ b off, ra = some ⟨b, off, none⟩ → 0 < rl → ρ1 b = 0) := Lib.hid (fun b off he hp => W1.out.fresh b (LN.out b off he))
      clear hrl
      go_loopw [42] (fun i wr => ∃ (k : Nat) (Mk : List NodeD), k ≤ rl ∧ i = .int .i64 k ∧ Hid (Wk ρ1 wr pw g cap len m Mk v1 N1) ∧ Hid (Turn ρ1 w2 wr) ∧ Hid (Edit (coreL M1) (coreL Mk) (fun _ c => c.parent) (fun _ c => c.kids) (fun j c => if (j : Int) ∈ (allI (coreL M1) n).take k then d else c.doc))) (fun i _ => rl - (intOf i).toNat)
      case atStart => exact ⟨0, M1, Nat.zero_le _, rfl, W2, Lib.hid (Turn.refl _ _), Lib.hid ((edit_refl _).cong (fun j c _ => ⟨rfl, rfl, by simp⟩))⟩
      case round =>
        obtain ⟨k, Mk, hk, rfl, WK, TK2, EK⟩ := hrel
        by_cases hlt : k < rl
        · obtain ⟨bp, op, z, hpa, hbp, hz, hcz, hin⟩ := (TK2.out.introw LR.out LR0.out).get hlt
          obtain ⟨q, rfl, hql⟩ := HA.out z (List.mem_of_getElem? hz)
          obtain ⟨y, hy⟩ : ∃ y, Mk[q]? = some y := ⟨_, List.getElem?_eq_getElem (by rw [WK.out.hlen]; exact hql)⟩
          have EK2 := Lib.hid ((core_setD (d := d) EK.out hy).cong (P' := fun _ c => c.parent) (K' := fun _ c => c.kids) (D' := fun j c => if (j : Int) ∈ (allI (coreL M1) n).take (k + 1) then d else c.doc) (fun j c _ => ⟨rfl, rfl, by
            rw [List.take_add_one, hz]
            simp only [Option.toList_some, List.mem_append, List.mem_singleton, Int.ofNat_inj]
            by_cases e : j = q
            · rw [if_pos e, if_pos (.inr e)]
            · rw [if_neg e]
              by_cases e2 : (j : Int) ∈ (allI (coreL M1) n).take k
              · rw [if_pos e2, if_pos (.inl e2)]
              · rw [if_neg e2, if_neg (fun e3 => e3.elim e2 e)]⟩))
          have WK2 := Lib.hid (WK.out.setD hy HD64.out)
          have TK3 : Hid (Turn ρ1 w2 (wr.setCell ⟨g, q * 10 + 9, none⟩ (.int .i64 d))) := Lib.hid (TK2.out.setCell (.inr (by rw [WK.out.grole]; decide)) _ _)
          have p0 := WK.out.c0
          have y9 := (WK.out.at_ hy).c9
          have f9 := WK.out.gfree (q * 10 + 9)
          subst hpa
          have hk64 : (k : Int) + 1 ≤ 9223372036854775807 := by omega
          clear hz hin hy WK TK2 EK
          go_wp2
          go_roundw
          case rel => exact ⟨k + 1, _, by omega, by go_num, WK2, TK3, EK2⟩
          case measure => simp [intOf]; omega
        · have hkk : k = rl := by omega
          subst hkk
          have HTK : Hid ((allI (coreL M1) n).take k = allI (coreL M1) n) := Lib.hid (List.take_of_length_le (by rw [HRL.out]; exact Nat.le_refl _))
          have EQ : Hid (coreL Mk = mvDoc (coreL M1) n d) := Lib.hid (by
            have := EK.out.eq
            rw [HTK.out] at this
            exact this)
          have RK : Hid (rightF m (coreL Mk) = true) := Lib.hid (by rw [EQ.out]; exact TK.out.rightG)
          have SK : Hid (smallF Mk) := Lib.hid (small_edit S1.out EK.out RK.out)
          have HTL : Hid (tellN (coreL Mk) n ⟨3, 0, x1.core.doc, d, ⟨#[]⟩, false, false, ⟨#[]⟩, ⟨#[]⟩⟩ = tellN (coreL M1) n ⟨3, 0, x1.core.doc, d, ⟨#[]⟩, false, false, ⟨#[]⟩, ⟨#[]⟩⟩) := Lib.hid (by rw [EQ.out]; exact tellN_doc R1.out (by rw [HL1.out]; exact hn) d _)
          have CT := Lib.hid (mtell_any wr WK.out RK.out SK.out n hn ⟨3, 0, x1.core.doc, d, ⟨#[]⟩, false, false, ⟨#[]⟩, ⟨#[]⟩⟩ ⟨mv3, mv0, F1.out.doc, HD64.out, emp_le, emp_le, emp_le⟩ (by have := HN1.out; omega))
          go_wp2_with (go_at_call 121; (with_reducible refine CT.out.mono ?_); rintro e w9 ⟨rfl, ρ9, M9, v9, N9, W9, T9, A9, rfl, rfl⟩)
          have TA : Turn ρ w wr := T1.out.trans (fun k hk => A1.out k hk) ((Turn.of_below HB2.out).trans (fun _ _ => rfl) TK2.out)
          refine bodyPost_ret (v := .tuple #[]) (by simp [results, Tryz.results101]) rfl ⟨rfl, ρ9, M9, v9, _, W9, TA.trans (fun k hk => A1.out k hk) T9, fun k hk => ?_, by rw [OV2.out, HTL.out, EQ.out], SK.out, RK.out⟩
          exact (A9 k (Nat.lt_of_lt_of_le hk TA.size)).trans (A1.out k hk)
end
end Go.Proofs.YtiffhlncnpppoaaGreatDoor
namespace Go.Proofs.YtiffhlncnpppoaaGreatDoor
open Go.RowKit
section
variable {ρ : Nat → Nat} {pw g cap len : Nat} {m : Int} {M : List NodeD} {v : Value} {N : List NoteD}
def insAt (l : List Int) (b : Int) : Nat := if b = -1 then l.length else findN l b
theorem insAt_le (l : List Int) (b : Int) (hb : b = -1 ∨ b ∈ l) : insAt l b ≤ l.length := by
  unfold insAt
  by_cases e : b = -1
  · rw [if_pos e]; exact Nat.le_refl _
  · rw [if_neg e]; exact Nat.le_of_lt (findN_mem (hb.resolve_left e))
theorem insB_eq (l : List Int) (b n : Int) : l.take (insAt l b) ++ n :: l.drop (insAt l b) = insB l b n := by
  unfold insAt insB
  by_cases e : b = -1
  · rw [if_pos e, if_pos e, List.take_of_length_le (Nat.le_refl _), List.drop_eq_nil_of_le (Nat.le_refl _)]
  · rw [if_neg e, if_neg e]
set_option maxHeartbeats 8000000 in
set_option maxRecDepth 100000 in
theorem mstand_any (w : World) (h : Wk ρ w pw g cap len m M v N) (hs : smallF M) (n p : Nat) (hn : n < len) (hpl : p < len) (hnp : n ≠ p) (b : Int) (hb : b = -1 ∨ b ∈ kidsK (coreL M) p) :
    Calls Tryz.prog 147 #[ptrV pw, .int .i64 n, .int .i64 p, .int .i64 b] w (WkPost ρ w pw g cap len m fun M' N' => coreL M' = mvIn (coreL M) n p b ∧ N' = N) := by
  have hl1k : len ≤ 1000 := by rw [← h.hlen]; exact hs.1
  obtain ⟨x, hx⟩ : ∃ x, M[n]? = some x := ⟨_, List.getElem?_eq_getElem (by rw [h.hlen]; exact hn)⟩
  obtain ⟨y, hy⟩ : ∃ y, M[p]? = some y := ⟨_, List.getElem?_eq_getElem (by rw [h.hlen]; exact hpl)⟩
  have hkk : kidsK (coreL M) p = y.core.kids := by unfold kidsK; rw [getC_nat, coreL_get hy]
  rw [hkk] at hb
  have hkl : y.core.kids.length = y.kN := (h.kidsRow hy).hlen
  have hk1k : y.kN ≤ 1000 := by rw [← hkl]; exact (hs.2 y (List.mem_of_getElem? hy)).1
  obtain ⟨i, hi⟩ : ∃ i, insAt y.core.kids b = i := ⟨_, rfl⟩
  have hil : i ≤ y.kN := by rw [← hkl, ← hi]; exact insAt_le _ _ hb
  have hnn : In64 (n : Int) := in64_nat (by omega)
  have hpp : In64 (p : Int) := in64_nat (by omega)
  have CX : Hid (b ≠ -1 → Calls Tryz.prog 119 #[.slice y.kA y.kN y.kC, .int .i64 b] w fun e w' => e = .returned (.int .i64 i) ∧ w = w') := Lib.hid (fun hne => by
    have h1 := findZ_mem (hb.resolve_left hne)
    have h2 : insAt y.core.kids b = findN y.core.kids b := by unfold insAt; rw [if_neg hne]
    have h3 : findZ y.core.kids b = (i : Int) := by rw [h1, ← h2, hi]
    rw [← h3]
    exact index_any _ _ _ _ _ w (h.kidsRow hy))
  have hIL : b = -1 → i = y.kN := fun e => by rw [← hi, ← hkl]; unfold insAt; rw [if_pos e]
  obtain ⟨WI, hWI, WK2, HBI, HCELL⟩ : ∃ WI, (w.alloc (.cells #[.int .i64 (n : Int)] 3)).drew = WI ∧ Hid (Wk ρ WI pw g cap len m M v N) ∧ Hid (Below w.heap.size w WI) ∧ Hid (WI.heap[w.heap.size]? = some (.cells #[.int .i64 (n : Int)] 3 (0, 0))) := by
    have hb2 : Below w.heap.size w (w.alloc (.cells #[.int .i64 (n : Int)] 3)).drew := ((Below.refl _ _).alloc (Nat.le_refl _) _).drew
    exact ⟨_, rfl, Lib.hid (h.keep hb2), Lib.hid hb2, Lib.hid (heap_alloc_new w _)⟩
  have CI : Hid (Calls Tryz.prog 166 #[.slice y.kA y.kN y.kC, .int .i64 i, .slice (some ⟨w.heap.size, 0, none⟩) 1 1] WI (InsPost 0 (.slice y.kA y.kN y.kC) y.kN (insB y.core.kids b n) WI)) := Lib.hid (by
    rw [← insB_eq, hi]
    exact insertI_any WI 0 y.kN i _ y.core.kids n w.heap.size (Nat.zero_le _) (WK2.out.kown p y hy) hil (by omega) HCELL.out (fun e => by
      have := own_block_lt (h.kown p y hy) e
      omega))
  have HKR : Hid (∀ b', Value.ownBlock (.slice y.kA y.kN y.kC) = some b' → ρ b' = p + 5) := Lib.hid (fun b' e => h.krole p y b' hy e)
  have HINK : Hid (∀ z ∈ insB y.core.kids b n, In64 z) := Lib.hid (fun z hz => by
    have hk := (h.fld y (List.mem_of_getElem? hy)).kids
    rw [← insB_eq] at hz
    rcases List.mem_append.1 hz with hz | hz
    · exact hk z (List.mem_of_mem_take hz)
    · rcases List.mem_cons.1 hz with rfl | hz
      · exact hnn
      · exact hk z (List.mem_of_mem_drop hz))
  have HW := Lib.hid h
  have HX := Lib.hid hx
  have HY := Lib.hid hy
  have HP64 := Lib.hid hpp
  have HWI := Lib.hid hWI
  have p0 := h.c0
  have y6 := (h.at_ hy).c6
  have p0a := fun o => (h.keep (below_box w o)).c0
  have y6a := fun o => ((h.keep (below_box w o)).at_ hy).c6
  have hl64 : (len : Int) ≤ 9223372036854775807 := by omega
  have hkn64 : (y.kN : Int) ≤ 9223372036854775807 := by omega
  clear h hs hx hy hkk hkl hi hb hnn hpp hWI
  go_enter Tryz.func147, Tryz.ntmps147
  go_upto_if 23 with fail
  go_cut [9] (fun c wx => wx = w ∧ c = .int .i64 i)
  case first =>
    by_cases he : b = -1
    · have e1 : (b != -1) = false := by rw [he]; rfl
      have e2 := hIL he
      clear he
      go_wp2
      go_meet
      exact ⟨rfl, by rw [e2]⟩
    · have e1 : (b != -1) = true := bne_iff_ne.2 he
      have CX := CX.out he
      clear he
      go_wp2_with (go_at_call 119; (with_reducible refine CX.mono ?_); rintro e w3 ⟨rfl, rfl⟩)
      go_meet
      exact ⟨rfl, rfl⟩
  case rest =>
    obtain ⟨rfl, rfl⟩ := hcut
    go_upto_region 4 with fail
    go_region_with (go_at_call 166; rw [HWI.out]; (refine CI.out.mono ?_); rintro e w6 ⟨v6, rfl, ho6, hg6, hb6⟩; obtain ⟨g6, cap6, rfl⟩ := own_some ho6 (Nat.succ_pos _); have MID := WK2.out.mid hg6 (fun b' e => by rw [HKR.out b' e]; omega); have p0 := MID.c0; have f6 := MID.gfree (p * 10 + 6); have f5 := MID.gfree (n * 10 + 5); have c6 := MID.cells p y 6 _ HY.out rfl; have c5 := MID.cells n x 5 _ HX.out rfl; have hne : n * 10 + 5 ≠ p * 10 + 6 := (by omega); have HO6 := Lib.hid ho6; have HG6 := Lib.hid hg6; have HB6 := Lib.hid hb6; clear ho6 hg6 hb6 MID)
    all_goals go_wp2
    all_goals
      have W7 := WK2.out.setK HY.out HG6.out HO6.out HB6.out HINK.out
      have hxn : (M.set p (withK y (some ⟨g6, 0, none⟩) (y.kN + 1) cap6 (insB y.core.kids b n)))[n]? = some x := by rw [List.getElem?_set_ne (fun e => hnp e.symm)]; exact HX.out
      have W8 := W7.setP hxn HP64.out
      have hsz := HBI.out.size
      have T8 := (((Turn.of_below (ρ := ρ) HBI.out).grown HG6.out (fun k e => .inr (by rw [HKR.out k e]; omega))).setCell (b := g) (.inr (by rw [WK2.out.grole]; decide)) (p * 10 + 6) (.slice (some ⟨g6, 0, none⟩) (y.kN + 1) cap6)).setCell (b := g) (.inr (by rw [WK2.out.grole]; decide)) (n * 10 + 5) (.int .i64 (p : Int))
      refine bodyPost_ret (v := .tuple #[]) (by simp [results, Tryz.results147]) rfl ⟨rfl, _, _, v, N, W8, T8, upd_old (fun k e => (HB6.out k e).imp (HKR.out k) (fun h => Nat.le_trans hsz h)), ?_, rfl⟩
      refine ((core_set2 HX.out HY.out hnp).cong (fun j c hc => ⟨rfl, ?_, rfl⟩)).eq
      by_cases e : j = p
      · subst e
        rw [coreL_get HY.out] at hc
        rw [if_pos rfl, if_pos rfl, ← Option.some.inj hc]
      · rw [if_neg e, if_neg e]
end
end Go.Proofs.YtiffhlncnpppoaaGreatDoor
namespace Go.Proofs.YtiffhlncnpppoaaGreatDoor
open Go.RowKit
structure PutInv (m : Int) (F : List Core) (p : Nat) (l : List Int) (b : Int) : Prop where
  right : rightF m F = true
  lt : p < F.length
  kp : kindK F p ≠ 2
  once : l.Nodup
  ls : ∀ z ∈ l, ∃ q : Nat, z = q ∧ q < F.length ∧ (kindK F q = 1 ∨ kindK F q = 2)
  over : ∀ q : Nat, (q : Int) ∈ l → ¬ holdsT (parS F) q p
  root : kindK F p = 0 → (kidsK F p).length + l.length ≤ 1 ∧ ∀ k ∈ l, kindK F k = 1
  before : b = -1 ∨ (b ∈ kidsK F p ∧ b ∉ l)
section
variable {m : Int} {F G : List Core} {p : Nat} {l r : List Int} {b : Int}
theorem PutOk.inv {n : Nat} {c : Int} {cp : Core} (h : PutOk m F n p c l cp) : PutInv m F p l (beforeZ m F n p c) := by
  refine ⟨h.right, (List.getElem?_eq_some_iff.1 h.hp).1, by rw [kindK_at h.hp]; exact h.kp, h.once, fun z hz => ?_, h.over, fun e => ?_, ?_⟩
  · obtain ⟨q, c1, h1, h2, h3⟩ := h.ls z hz
    exact ⟨q, h1, (List.getElem?_eq_some_iff.1 h2).1, by rw [kindK_at h2]; exact h3⟩
  · rw [kidsK_get h.hp]
    exact h.root (by rw [kindK_at h.hp] at e; exact e)
  · rcases h.before with e | e
    · exact .inl e
    · rw [List.mem_filter] at e
      rw [kidsK_get h.hp]
      exact .inr ⟨e.1, by simpa using e.2⟩
theorem kidsK_edit {P : Nat → Core → Int} {K : Nat → Core → List Int} {D : Nat → Core → Int} (h : Edit F G P K D) {c : Core} (hc : F[p]? = some c) : kidsK G p = K p c := kidsK_get (h.at_ p c hc)
theorem PutInv.out (h : PutInv m F p l b) {q : Nat} (hq : (q : Int) ∈ l) (hp : parentK F q ≠ -1) : PutInv m (mvOut F q) p l b := by
  obtain ⟨q', e, hql, _⟩ := h.ls _ hq
  obtain rfl : q = q' := by omega
  have hx : F[q]? = some F[q] := List.getElem?_eq_getElem hql
  rw [parentK_at hx] at hp
  obtain ⟨a, ha1, ha2, ho⟩ := mvOut_out h.right hx hp
  obtain ⟨cp, hc⟩ : ∃ cp, F[p]? = some cp := ⟨_, List.getElem?_eq_getElem h.lt⟩
  have hk : kidsK (mvOut F q) p = if p = a then cp.kids.filter (fun z => z != (q : Int)) else cp.kids := kidsK_edit ho.ed hc
  have hk0 : kidsK F p = cp.kids := kidsK_get hc
  refine ⟨ho.rightG, by rw [ho.ed.len]; exact h.lt, by rw [ho.ed.kindK]; exact h.kp, h.once, fun z hz => ?_, fun t ht hh => ?_, fun e => ?_, ?_⟩
  · obtain ⟨t, h1, h2, h3⟩ := h.ls z hz
    exact ⟨t, h1, by rw [ho.ed.len]; exact h2, by rw [ho.ed.kindK]; exact h3⟩
  · obtain ⟨t', e, htl, _⟩ := h.ls _ ht
    obtain rfl : t = t' := by omega
    exact h.over t ht ((ho.over htl h.lt).1 hh).1
  · rw [ho.ed.kindK] at e
    obtain ⟨h1, h2⟩ := h.root e
    refine ⟨?_, fun k hk => by rw [ho.ed.kindK]; exact h2 k hk⟩
    rw [hk]
    rw [hk0] at h1
    split
    · exact Nat.le_trans (Nat.add_le_add_right (List.length_filter_le _ _) _) h1
    · exact h1
  · rcases h.before with e | ⟨h1, h2⟩
    · exact .inl e
    · refine .inr ⟨?_, h2⟩
      rw [hk]
      rw [hk0] at h1
      split
      · rw [List.mem_filter]
        exact ⟨h1, bne_iff_ne.2 (fun e => h2 (by rw [e]; exact hq))⟩
      · exact h1
theorem PutInv.outs {S : St} (h : PutInv m S.1 p l b) {q : Nat} (hq : (q : Int) ∈ l) : PutInv m (outS S q).1 p l b := by
  unfold outS
  split
  · exact h
  · next hp => exact h.out hq hp
theorem parS_same {F G : List Core} (h : ∀ j : Nat, nextUp G (j : Int) = nextUp F j) : parS G = parS F := by
  funext j
  unfold parS
  rw [h j]
theorem PutInv.doc (h : PutInv m F p l b) {q : Nat} (hq : (q : Int) ∈ l) (hp : parentK F q = -1) {d : Int} (hd : ∃ c, getC F d = some c ∧ c.kind = 0) : PutInv m (mvDoc F q d) p l b := by
  obtain ⟨q', e, hql, hqk⟩ := h.ls _ hq
  obtain rfl : q = q' := by omega
  have T := taken_doc h.right hql hp hqk hd
  obtain ⟨cp, hc⟩ : ∃ cp, F[p]? = some cp := ⟨_, List.getElem?_eq_getElem h.lt⟩
  have hk : kidsK (mvDoc F q d) p = kidsK F p := by rw [kidsK_edit T.ed hc, kidsK_get hc]
  have hpar := parS_same T.next
  exact ⟨T.rightG, by rw [T.ed.len]; exact h.lt, by rw [T.ed.kindK]; exact h.kp, h.once, fun z hz => by
    obtain ⟨t, h1, h2, h3⟩ := h.ls z hz
    exact ⟨t, h1, by rw [T.ed.len]; exact h2, by rw [T.ed.kindK]; exact h3⟩, fun t ht hh => h.over t ht (by rw [hpar] at hh; exact hh), fun e => by
    rw [T.ed.kindK] at e
    rw [hk]
    obtain ⟨h1, h2⟩ := h.root e
    exact ⟨h1, fun k hk => by rw [T.ed.kindK]; exact h2 k hk⟩, by rw [hk]; exact h.before⟩
theorem doc_is (h : rightF m F = true) {p : Nat} (hp : p < F.length) : ∃ c, getC F (docK F p) = some c ∧ c.kind = 0 := by
  obtain ⟨cp, hc⟩ : ∃ cp, F[p]? = some cp := ⟨_, List.getElem?_eq_getElem hp⟩
  rw [docK_at hc]
  exact (right_node h hc).doc
structure Overs (m : Int) (S : St) (q p : Nat) (l : List Int) (b d : Int) (T : St) : Prop where
  inv : PutInv m T.1 p l b
  len : T.1.length = S.1.length
  par : parentK T.1 q = -1
  docq : docK T.1 q = d
  docp : docK T.1 p = docK S.1 p
theorem PutInv.overs {S : St} (h : PutInv m S.1 p l b) {q : Nat} (hq : (q : Int) ∈ l) {d : Int} (hd : ∃ c, getC S.1 d = some c ∧ c.kind = 0) : Overs m S q p l b d (overS S q d) := by
  obtain ⟨q', e, hql, hqk⟩ := h.ls _ hq
  obtain rfl : q = q' := by omega
  obtain ⟨hr1, ⟨P, K, hed⟩, hp1⟩ := outS_facts (S := S) h.right hql
  have h1 := h.outs hq
  obtain ⟨xp, hx⟩ : ∃ xp, S.1[p]? = some xp := ⟨_, List.getElem?_eq_getElem h.lt⟩
  have hxq : S.1[q]? = some S.1[q] := List.getElem?_eq_getElem hql
  have hdp : docK (outS S q).1 p = docK S.1 p := by rw [docK_at (hed.at_ p _ hx), docK_at hx]; rfl
  unfold overS
  dsimp only
  split
  · next e => exact ⟨h1, hed.len, hp1, e, hdp⟩
  · next e =>
    have hql1 : q < (outS S q).1.length := by rw [hed.len]; exact hql
    have hpl1 : p < (outS S q).1.length := by rw [hed.len]; exact h.lt
    have hed2 : Edit (outS S q).1 (mvDoc (outS S q).1 q d) (fun _ c => c.parent) (fun _ c => c.kids) (fun j c => if (j : Int) ∈ allI (outS S q).1 q then d else c.doc) := edF_edit (outS S q).1 (fun _ c => c.parent) (fun _ c => c.kids) (fun j c => if (j : Int) ∈ allI (outS S q).1 q then d else c.doc)
    obtain ⟨xp1, hx1⟩ : ∃ xp, (outS S q).1[p]? = some xp := ⟨_, List.getElem?_eq_getElem hpl1⟩
    have hxq1 : (outS S q).1[q]? = some (outS S q).1[q] := List.getElem?_eq_getElem hql1
    refine ⟨h1.doc hq hp1 (docIs_edit hed hd), hed2.len.trans hed.len, ?_, ?_, ?_⟩
    · show parentK (mvDoc (outS S q).1 q d) q = -1
      rw [parentK_at (hed2.at_ q _ hxq1)]
      rw [parentK_at hxq1] at hp1
      exact hp1
    · show docK (mvDoc (outS S q).1 q d) q = d
      rw [docK_at (hed2.at_ q _ hxq1)]
      exact if_pos ((mem_all h1.right hql1 hql1).2 (holds_refl q))
    · show docK (mvDoc (outS S q).1 q d) p = docK S.1 p
      rw [docK_at (hed2.at_ p _ hx1), ← hdp, docK_at hx1]
      exact if_neg (fun hh => h1.over q hq ((mem_all h1.right hql1 hpl1).1 hh))
theorem PutInv.put {q : Nat} (h : PutInv m F p ((q : Int) :: r) b) (hp : parentK F q = -1) (hd : docK F q = docK F p) : PutInv m (mvIn F q p b) p r b := by
  have hq : (q : Int) ∈ (q : Int) :: r := List.mem_cons_self
  obtain ⟨q', e, hql, hqk⟩ := h.ls _ hq
  obtain rfl : q = q' := by omega
  have hx : F[q]? = some F[q] := List.getElem?_eq_getElem hql
  obtain ⟨cp, hc⟩ : ∃ cp, F[p]? = some cp := ⟨_, List.getElem?_eq_getElem h.lt⟩
  have hov := h.over q hq
  have hqp : q ≠ p := fun e => hov (by rw [e]; exact holds_refl p)
  have hk0 : kidsK F p = cp.kids := kidsK_get hc
  have notin : ∀ (j : Nat) (c : Core), F[j]? = some c → (q : Int) ∉ c.kids := fun j c hj hm => by
    obtain ⟨c', h1, _, h3, _⟩ := (right_node h.right hj).kids _ hm
    rw [getC_nat, hx] at h1
    rw [parentK_at hx] at hp
    rw [← Option.some.inj h1, hp] at h3
    omega
  have hb : b = -1 ∨ b ∈ cp.kids := by
    rcases h.before with e | ⟨h1, _⟩
    · exact .inl e
    · rw [hk0] at h1
      exact .inr h1
  have hfil : ∀ (j : Nat) (c : Core), F[j]? = some c → c.kids.filter (fun z => !([(q : Int)] : List Int).contains z) = c.kids := fun j c hj => List.filter_eq_self.2 (fun z hz => by
    have : z ≠ (q : Int) := fun e => notin j c hj (by rw [← e]; exact hz)
    simpa using this)
  have hedi := edF_edit F (fun j c => if j = q then (p : Int) else c.parent) (fun j c => if j = p then insB c.kids b q else c.kids) (fun _ c => c.doc)
  have hIn : PutIn m F (mvIn F q p b) [(q : Int)] p cp (cp.kids.take (insAt cp.kids b)) (cp.kids.drop (insAt cp.kids b)) (fun j => decide ((j : Int) ∈ allI F q)) := by
    refine ⟨h.right, hc, by rw [← kindK_at hc]; exact h.kp, by simp, fun z hz => ?_, fun t ht => ?_, ?_, fun e => ?_, fun j hj => ?_, hedi.cong (fun j c hj => ⟨?_, ?_, ?_⟩)⟩
    · rw [List.mem_singleton] at hz
      exact ⟨q, F[q], hz, hx, by rw [← kindK_at hx]; exact hqk⟩
    · have : t = q := Int.ofNat_inj.1 (by simpa using ht)
      rw [this]
      exact hov
    · rw [List.take_append_drop]
      exact (hfil p _ hc).symm
    · have h1 := h.root (by rw [kindK_at hc]; exact e)
      rw [hk0, List.length_cons] at h1
      have hnil : cp.kids = [] := List.eq_nil_of_length_eq_zero (by omega)
      rw [hnil]
      simp only [List.take_nil, List.drop_nil, List.nil_append, List.append_nil, List.length_singleton]
      exact ⟨Nat.le_refl _, fun k hk => by rw [List.mem_singleton] at hk; rw [hk]; exact h1.2 _ hq⟩
    · rw [decide_eq_true_iff, mem_all h.right hql hj]
      constructor
      · exact fun hh => ⟨q, by simp, hh⟩
      · rintro ⟨t, ht, hh⟩
        have : t = q := Int.ofNat_inj.1 (by simpa using ht)
        rw [← this]
        exact hh
    · by_cases e : j = q
      · subst e; simp
      · rw [if_neg e, if_neg (by simpa using (fun h2 => e (by omega) : (j : Int) ≠ (q : Int)))]
    · by_cases e : j = p
      · subst e
        rw [hc] at hj
        rw [if_pos rfl, if_pos rfl, ← Option.some.inj hj, ← insB_eq]
        simp
      · rw [if_neg e, if_neg e, hfil j c hj]
    · by_cases e : (j : Int) ∈ allI F q
      · have hjl := (List.getElem?_eq_some_iff.1 hj).1
        have h1 := doc_all h.right hql e hjl
        rw [hd, docK_at hj, docK_at hc] at h1
        simp only [decide_eq_true e, if_true]
        exact h1
      · simp only [decide_eq_false e, Bool.false_eq_true, if_false]
  have hed : Edit F (mvIn F q p b) (fun j c => if j = q then (p : Int) else c.parent) (fun j c => if j = p then insB c.kids b q else c.kids) (fun _ c => c.doc) := hedi
  have hkG : kidsK (mvIn F q p b) p = insB cp.kids b q := by rw [kidsK_edit hed hc]; exact if_pos rfl
  have hup : ∀ (k c a : Nat), c < F.length → ¬ holdsT (parS F) q c → upN (parS (mvIn F q p b)) k c = some a → upN (parS F) k c = some a := by
    intro k
    induction k with
    | zero => exact fun c a _ _ hu => hu
    | succ k ih =>
      intro c a hcl hn hu
      unfold upN at hu ⊢
      have hcq : c ≠ q := fun e => hn (by rw [e]; exact holds_refl q)
      have hpc : parS (mvIn F q p b) c = parS F c := by
        unfold parS
        have h1 := hIn.next hcl
        rw [if_neg (by simpa using (fun h2 => hcq (by omega) : (c : Int) ≠ (q : Int)))] at h1
        rw [h1]
      rw [hpc] at hu
      cases hq2 : parS F c with
      | none => rw [hq2] at hu; cases hu
      | some t =>
        rw [hq2] at hu
        exact ih t a (parS_next h.right hcl hq2).2 (fun hh => hn (holds_trans hh (holds_par hq2))) hu
  refine ⟨hIn.rightG, by rw [hed.len]; exact h.lt, by rw [hed.kindK]; exact h.kp, (List.nodup_cons.1 h.once).2, fun z hz => ?_, fun t ht hh => ?_, fun e => ?_, ?_⟩
  · obtain ⟨t, h1, h2, h3⟩ := h.ls z (List.mem_cons_of_mem _ hz)
    exact ⟨t, h1, by rw [hed.len]; exact h2, by rw [hed.kindK]; exact h3⟩
  · obtain ⟨k, hk⟩ := hh
    exact h.over t (List.mem_cons_of_mem _ ht) ⟨k, hup k p t h.lt hov hk⟩
  · rw [hed.kindK] at e
    obtain ⟨h1, h2⟩ := h.root e
    refine ⟨?_, fun k hk => by rw [hed.kindK]; exact h2 k (List.mem_cons_of_mem _ hk)⟩
    rw [hkG, ← insB_eq]
    rw [hk0, List.length_cons] at h1
    simp only [List.length_append, List.length_cons, List.length_take, List.length_drop]
    omega
  · rcases h.before with e | ⟨h1, h2⟩
    · exact .inl e
    · refine .inr ⟨?_, fun hh => h2 (List.mem_cons_of_mem _ hh)⟩
      rw [hkG, ← insB_eq]
      rw [hk0, ← List.take_append_drop (insAt cp.kids b) cp.kids] at h1
      rcases List.mem_append.1 h1 with h1 | h1
      · exact List.mem_append.2 (.inl h1)
      · exact List.mem_append.2 (.inr (List.mem_cons_of_mem _ h1))
theorem PutInv.ins {S : St} {q : Nat} (h : PutInv m S.1 p ((q : Int) :: r) b) : PutInv m (inS p b S q).1 p r b := by
  have hO := h.overs List.mem_cons_self (doc_is h.right h.lt)
  exact hO.inv.put hO.par (hO.docq.trans hO.docp.symm)
end
end Go.Proofs.YtiffhlncnpppoaaGreatDoor
namespace Go.Proofs.YtiffhlncnpppoaaGreatDoor
open Go.RowKit
set_option maxHeartbeats 4000000 in
set_option maxRecDepth 100000 in
theorem vpartsNew_any (a : Option Addr) (len cap : Nat) (m : Int) (L : List NodeD) (n : Int) (w : World) (h : NodeRow w a len cap L) (hn : In64 n) (hs : smallF L) :
    Calls Tryz.prog 34 #[forV a len cap m, .int .i64 n] w (OrdNew w (partsZ (coreL L) n)) := by
  have HCL : Hid ((coreL L).length = len) := Lib.hid (by rw [coreL_len, h.hlen])
  have hlen := h.len64
  have BX := Lib.hid (Box.start (m := m) h)
  have HF : Hid (∀ W b, NodeRow W a len cap L → inF (coreL L) n = b → Calls Tryz.prog 91 #[forV a len cap m, .int .i64 n] W fun e w' => e = .returned (.bool b) ∧ Below W.heap.size W w') := Lib.hid (fun W b h1 h3 => by
    rw [← h3]
    exact vhas_any a len cap m L n W h1 hn)
  have HS := Lib.hid hs
  have HN := Lib.hid hn
  have HH := Lib.hid h
  clear h hs hn
  cases q : inF (coreL L) n with
  | false =>
    have HQ := Lib.hid q
    have HP : Hid (partsZ (coreL L) n = []) := Lib.hid (by
      unfold partsZ getC
      unfold inF at q
      by_cases h0 : 0 ≤ n
      · rw [decide_eq_true h0, Bool.true_and, decide_eq_false_iff_not] at q
        rw [if_pos h0, List.getElem?_eq_none (by omega)]
      · rw [if_neg h0])
    clear q
    have z0 := BX.out.c0
    have z1 := BX.out.c1
    go_enter Tryz.func34, Tryz.ntmps34
    go_wp2_with (go_at_call 91; (refine (HF.out _ _ BX.out.row HQ.out).mono ?_); rintro e w1 ⟨rfl, hb⟩; have BX := Lib.hid (BX.out.keep hb); have z0 := BX.out.c0; have z1 := BX.out.c1; clear hb)
    go_ret
    exact ⟨none, 0, 0, rfl, by rw [HP.out]; exact ⟨SRow.nil, by simp, fun _ => rfl⟩, BX.out.below, fun b off h => by cases h⟩
  | true =>
    have HQ := Lib.hid q
    obtain ⟨k, rfl, hk⟩ := inF_nat q
    rw [HCL.out] at hk
    clear q
    obtain ⟨b, off, x, rfl, hb, hx, hat, hok⟩ := HH.out.get hk
    have hxc := coreL_get hx
    have C0 := Lib.hid (stays hat.c0 hb)
    have C6 := Lib.hid (stays hat.c6 hb)
    have NK := Lib.hid hok
    by_cases h3 : x.core.kind = 3
    · have HP : Hid (partsZ (coreL L) k = x.core.kids) := Lib.hid (by unfold partsZ; rw [getC_nat, hxc]; dsimp only; rw [if_pos h3])
      have hk3 : (x.core.kind == 3) = true := beq_iff_eq.2 h3
      have HKL : Hid (x.core.kids.length ≤ 1000) := Lib.hid (HS.out.2 x (List.mem_of_getElem? hx)).1
      have IN : Hid (∀ z ∈ x.core.kids, In64 z) := Lib.hid NK.out.kids.inb
      have CC : Hid (∀ W, Below w.heap.size w W → Calls Tryz.prog 92 #[.slice x.kA x.kN x.kC] W (OwnPostI W x.core.kids)) := Lib.hid (fun W hb => cloneI_any x.kA x.kN x.kC x.core.kids W (NK.out.kids.below hb) (by have h1 := HKL.out; have h2 := NK.out.kids.hlen; omega))
      clear hat hok hx hxc hb h3
      have z0 := BX.out.c0
      have z1 := BX.out.c1
      go_enter Tryz.func34, Tryz.ntmps34
      go_wp2_with (first
        | (go_at_call 91; ((with_reducible refine (HF.out _ _ BX.out.row HQ.out).mono ?_); rintro e w1 ⟨rfl, hb⟩; have BX := Lib.hid (BX.out.keep hb); have z0 := BX.out.c0; have z1 := BX.out.c1; clear hb; have c0 := C0.out _ BX.out.below; have c6 := C6.out _ BX.out.below))
        | (go_at_call 92; ((with_reducible refine (CC.out _ BX.out.below).mono ?_)); intro e w2 hp; obtain ⟨a2, cap2, rfl, hr2, hlo2, hb2⟩ := OwnPostI.row hp IN.out; have HSZ := Lib.hid BX.out.below.size; have HLO := Lib.hid hlo2; clear hlo2; have BX := Lib.hid (BX.out.keep hb2); have HR2 := Lib.hid hr2; clear hp hr2 hb2))
      go_ret
      exact ⟨a2, _, cap2, rfl, by rw [HP.out]; exact HR2.out, BX.out.below, fun b off h => Nat.le_trans HSZ.out (HLO.out b off h)⟩
    · have HP : Hid (partsZ (coreL L) k = [(k : Int)]) := Lib.hid (by unfold partsZ; rw [getC_nat, hxc]; dsimp only; rw [if_neg h3])
      have hk3 : (x.core.kind == 3) = false := beq_eq_false_iff_ne.2 h3
      clear hat hok hx hxc hb h3
      have z0 := BX.out.c0
      have z1 := BX.out.c1
      go_enter Tryz.func34, Tryz.ntmps34
      go_wp2_with (go_at_call 91; ((with_reducible refine (HF.out _ _ BX.out.row HQ.out).mono ?_); rintro e w1 ⟨rfl, hb⟩; have BX := Lib.hid (BX.out.keep hb); have z0 := BX.out.c0; have z1 := BX.out.c1; clear hb; have c0 := C0.out _ BX.out.below; have c6 := C6.out _ BX.out.below))
      go_ret
      exact ⟨_, 1, 1, rfl, by rw [HP.out]; exact lit_one _ _ _ HN.out, BX.out.below.trans ((below_box _ _).mono BX.out.below.size), fun b off h => by injection h with h; injection h with h1; have := BX.out.below.size; omega⟩
end Go.Proofs.YtiffhlncnpppoaaGreatDoor
