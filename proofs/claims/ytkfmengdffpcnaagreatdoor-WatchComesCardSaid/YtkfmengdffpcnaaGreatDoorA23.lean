/- Texts joined in build order: MoveTell MoveOut. -/
import Derived.Test.YtkfmengdffpcnaaGreatDoorA22
import Derived.Test.YtkfmengdffpcnaaGreatDoorA13
import Derived.Test.YtkfmengdffpcnaaGreatDoorA17
import Derived.Deep.RegionLaw
import Derived.Deep.DeepCutAuto
import Derived.Test.YtkfmengdffpcnaaGreatDoorA01
import Derived.Test.YtkfmengdffpcnaaGreatDoorA18
namespace Go.Proofs.YtkfmengdffpcnaaGreatDoor
open Go.RowKit
abbrev ptrV (b : Nat) : Value := .pointer (some ⟨b, 0, none⟩)
abbrev workV (b : Nat) : Value := .agg #[.pointer (some ⟨b, 0, none⟩)]
theorem note_info : (Tryz.prog.info? 71).map (fun i => (i.zero, i.size, i.bytes)) = some (some (.agg #[.int .i64 0, .int .i64 0, .int .i64 0, .int .i64 0, .string ⟨#[]⟩, .bool false, .bool false, .string ⟨#[]⟩, .string ⟨#[]⟩]), 9, 88) := by kernel_rfl
section
variable {ρ : Nat → Nat} {pw g cap len : Nat} {m : Int} {M : List NodeD} {v : Value} {N : List NoteD}
theorem top_at (h : rightF m (coreL M) = true) {n : Nat} (hn : n < M.length) : ∃ (t : Nat) (x : NodeD), topF (coreL M) n = t ∧ M[t]? = some x ∧ connF (coreL M) n = (x.core.kind == 0) := by
  have ht := topF_lt h (show n < (coreL M).length by rw [coreL_len]; exact hn)
  rw [coreL_len] at ht
  refine ⟨_, M[topF (coreL M) n], rfl, List.getElem?_eq_getElem ht, ?_⟩
  unfold connF
  rw [kindK_at (coreL_get (List.getElem?_eq_getElem ht))]
set_option maxHeartbeats 4000000 in
set_option maxRecDepth 100000 in
theorem mconn_any (w : World) (h : Wk ρ w pw g cap len m M v N) (hr : rightF m (coreL M) = true) (n : Nat) (hn : n < len) :
    Calls Tryz.prog 84 #[ptrV pw, .int .i64 n] w fun e w' => e = .returned (.bool (connF (coreL M) n)) ∧ Below w.heap.size w w' := by
  obtain ⟨t, x, ht, hx, hc⟩ := top_at hr (by rw [h.hlen]; exact hn)
  have htl : t < len := by rw [← h.hlen]; exact (List.getElem?_eq_some_iff.1 hx).1
  have CT : Hid (∀ W, NodeRow W (some ⟨g, 0, none⟩) len cap M → Calls Tryz.prog 48 #[.slice (some ⟨g, 0, none⟩) len cap, .int .i64 n] W fun e w' => e = .returned (.int .i64 t) ∧ Below W.heap.size W w') := Lib.hid (fun W h1 => by
    have := wtop_any _ _ _ m _ n W h1 hr hn
    rwa [ht] at this)
  have HW := Lib.hid h
  have HC := Lib.hid hc
  have hl64 : (len : Int) ≤ 9223372036854775807 := by have h1 := h.hcap; have h2 := h.hmax; unfold maxLen at h2; omega
  have E0 := Ext.cell h.c0 h.plt
  have EK := Ext.cell (h.at_ hx).c0 h.glt
  have EX := Lib.hid (fun (y : Ext w) => CT.out y.v (HW.out.row.below y.below))
  clear h hr ht hx hc
  go_enter Tryz.func84, Tryz.ntmps84
  go_upto_region 1 with fail
  refine wp_region_ext (by kernel_rfl) (by kernel_rfl) ?_
  repeat (go_big_quiet_step (first | (go_at_call 48; exact Ext.call_below (EX.out _))))
  refine wpQuiet_nil ?_
  intro w3 hw'
  obtain ⟨⟨w4, hb4⟩, hw''⟩ := hw'
  dsimp only at hw''
  subst hw''
  go_wp2
  go_ret
  exact ⟨ret_bool HC.out.symm, hb4⟩
def toldN (F : List Core) (l : List Int) (x : NoteD) (k : Nat) : List NoteD := ((l.take k).filter (fun z => kindK F z == 1)).map (noteAt x)
theorem toldN_step {F : List Core} {l : List Int} {x : NoteD} {k : Nat} {z : Int} (hz : l[k]? = some z) : toldN F l x (k + 1) = toldN F l x k ++ if kindK F z == 1 then [noteAt x z] else [] := by
  unfold toldN
  rw [List.take_add_one, hz, List.filter_append, List.map_append]
  congr 1
  simp only [Option.toList_some, List.filter_cons, List.filter_nil]
  split <;> rfl
theorem toldN_all {F : List Core} {n : Nat} {x : NoteD} {k : Nat} (hk : (allI F n).length ≤ k) : toldN F (allI F n) x k = tellN F n x := by
  unfold toldN tellN
  rw [List.take_of_length_le hk]
abbrev noteB (x : NoteD) : Obj := .cells #[.int .i64 x.kind, .int .i64 x.node, .int .i64 x.src, .int .i64 x.dst, .string x.name, .bool x.had, .bool x.has, .string x.old, .string x.new] 71
structure TBox (W : World) (b : Nat) (x : NoteD) : Prop where
  lt : b < W.heap.size
  c : ∀ j u, (encO x)[j]? = some u → W.cell? ⟨b, j, none⟩ = some u
  f : ∀ j, W.frozen? ⟨b, j, none⟩ = false
theorem TBox.new (W : World) (x : NoteD) : TBox (W.alloc (noteB x)) W.heap.size x :=
  ⟨by simp, fun j u hu => by rw [cell_of_row (W.alloc (noteB x)) W.heap.size j _ 71 (0, 0) (heap_alloc_new W _)]; simpa [encO] using hu, fun j => row_free (heap_alloc_new W (noteB x)) j⟩
theorem TBox.keep {W W2 : World} {b : Nat} {x : NoteD} (h : TBox W b x) (hb : Below W.heap.size W W2) : TBox W2 b x :=
  ⟨Nat.lt_of_lt_of_le h.lt hb.size, fun j u hu => (hb.cell (p := ⟨b, j, none⟩) h.lt).trans (h.c j u hu), fun j => (hb.frozen (p := ⟨b, j, none⟩) h.lt).trans (h.f j)⟩
theorem TBox.at_ {W : World} {b : Nat} {x : NoteD} (h : TBox W b x) (z : Int) : TBox (W.setCell ⟨b, 1, none⟩ (.int .i64 z)) b (noteAt x z) := by
  refine ⟨by simpa [World.setCell] using h.lt, fun j u hu => ?_, fun j => by rw [World.frozen?_setCell]; exact h.f j⟩
  by_cases e : j = 1
  · subst e
    have hu : some (Value.int .i64 z) = some u := hu
    rw [← Option.some.inj hu]
    exact World.cell?_setCell_same _ _ _ (h.c 1 _ rfl)
  · rw [World.cell?_setCell_other _ _ _ _ (fun e' => by injection e' with _ e'; omega)]
    refine h.c j u ?_
    rw [show encO (noteAt x z) = (encO x).set 1 (.int .i64 z) from rfl, List.getElem?_set_ne (fun e2 => e e2.symm)] at hu
    exact hu
theorem TBox.turn {W W2 : World} {b : Nat} {x : NoteD} (h : TBox W b x) (hs : W.heap.size ≤ W2.heap.size) (hb : W2.heap[b]? = W.heap[b]?) : TBox W2 b x :=
  ⟨Nat.lt_of_lt_of_le h.lt hs, fun j u hu => (World.cell?_of_block (w := W) (a := ⟨b, j, none⟩) hb).trans (h.c j u hu), fun j => (World.frozen?_of_block (w := W) (a := ⟨b, j, none⟩) hb).trans (h.f j)⟩
def WkPost (ρ : Nat → Nat) (w : World) (pw g cap len : Nat) (m : Int) (Q : List NodeD → List NoteD → Prop) (e : Ending) (w' : World) : Prop :=
  e = .returned (.tuple #[]) ∧ ∃ ρ' M' v' N', Wk ρ' w' pw g cap len m M' v' N' ∧ Turn ρ w w' ∧ (∀ k, k < w.heap.size → ρ' k = ρ k) ∧ Q M' N'
theorem own_some {w : World} {base : Nat} {e : TypeId} {size n : Nat} {v : Value} {xs : List Value} (h : w.ownsRow base e size v n xs) (hn : 0 < n) : ∃ g cap, v = .slice (some ⟨g, 0, none⟩) n cap := by
  rcases h.2 with ⟨_, h0⟩ | ⟨g, cap, cur, hv, _⟩
  · omega
  · exact ⟨g, cap, hv⟩
theorem note_one (W : World) (x : NoteD) : SRow encO 9 (W.alloc (noteB x)) (some ⟨W.heap.size, 0, none⟩) 1 1 [x] := own_one (size := 9) W 71 x #[.int .i64 x.kind, .int .i64 x.node, .int .i64 x.src, .int .i64 x.dst, .string x.name, .bool x.had, .bool x.has, .string x.old, .string x.new] rfl rfl
structure TellIn (ρ1 : Nat → Nat) (w1 : World) (pw g cap len : Nat) (m : Int) (M : List NodeD) (bx : Nat) (Nk : List NoteD) (wr : World) (ρk : Nat → Nat) (vk : Value) (xk : NoteD) : Prop where
  wk : Wk ρk wr pw g cap len m M vk Nk
  turn : Turn ρ1 w1 wr
  agree : ∀ k, k < w1.heap.size → ρk k = ρ1 k
  box : TBox wr bx xk
  b4 : ρ1 bx = 4
  blt : bx < w1.heap.size
section
variable {ρ1 ρk : Nat → Nat} {w1 wr W W1 : World} {bx : Nat} {Nk : List NoteD} {vk v' : Value} {xk : NoteD}
theorem TellIn.keep (h : TellIn ρ1 w1 pw g cap len m M bx Nk wr ρk vk xk) (hb : Below wr.heap.size wr W) : TellIn ρ1 w1 pw g cap len m M bx Nk W ρk vk xk :=
  ⟨h.wk.keep hb, h.turn.keep hb, h.agree, h.box.keep hb, h.b4, h.blt⟩
theorem TellIn.at_ (h : TellIn ρ1 w1 pw g cap len m M bx Nk wr ρk vk xk) (z : Int) : TellIn ρ1 w1 pw g cap len m M bx Nk (wr.setCell ⟨bx, 1, none⟩ (.int .i64 z)) ρk vk (noteAt xk z) :=
  ⟨h.wk.other (by rw [h.agree bx h.blt, h.b4]) _ _, h.turn.setCell (.inr (by rw [h.b4]; decide)) _ _, h.agree, h.box.at_ z, h.b4, h.blt⟩
theorem TellIn.more (h : TellIn ρ1 w1 pw g cap len m M bx Nk W ρk vk xk) (hok : NoteOk xk) (ho : W1.ownsRow 0 71 9 v' (Nk.length + 1) ((Nk ++ [xk]).flatMap encO)) (hg : W.grownBy W1 vk.ownBlock) (hat : v'.ownBlock = vk.ownBlock ∨ v'.ownBlock = some W.heap.size) :
    TellIn ρ1 w1 pw g cap len m M bx (Nk ++ [xk]) (W1.setCell ⟨pw, 2, none⟩ v') (upd ρk v'.ownBlock 3) v' xk ∧ W1.cell? ⟨pw, 2, none⟩ = some vk ∧ W1.frozen? ⟨pw, 2, none⟩ = false := by
  have hb : ∀ b, v'.ownBlock = some b → vk.ownBlock = some b ∨ W.heap.size ≤ b := fun b e => by
    rcases hat with h1 | h1
    · exact .inl (h1.symm.trans e)
    · rw [h1] at e
      injection e with e
      exact .inr (by omega)
  have hs := h.turn.size
  have pne : some pw ≠ vk.ownBlock := fun e => by
    have h1 := h.wk.nrole pw e.symm
    have h2 := h.wk.prole
    omega
  have sp := hg.block pw h.wk.plt pne
  have b4 : ρk bx = 4 := by rw [h.agree bx h.blt, h.b4]
  have bne : some bx ≠ vk.ownBlock := fun e => by
    have h1 := h.wk.nrole bx e.symm
    omega
  have hbp : bx ≠ pw := fun e => by
    have h2 := h.wk.prole
    rw [← e] at h2
    omega
  refine ⟨⟨h.wk.note hok hg ho hb, ?_, fun k hk => ?_, ?_, h.b4, h.blt⟩, (World.cell?_of_block (w := W) (a := ⟨pw, 2, none⟩) sp).trans h.wk.c2, (World.frozen?_of_block (w := W) (a := ⟨pw, 2, none⟩) sp).trans (h.wk.pfree 2)⟩
  · refine (h.turn.grown hg (fun k e => ?_)).setCell ?_ _ _
    · rcases Nat.lt_or_ge k w1.heap.size with h1 | h1
      · right
        rw [← h.agree k h1, h.wk.nrole k e]
        decide
      · exact .inl h1
    · rcases Nat.lt_or_ge pw w1.heap.size with h1 | h1
      · right
        rw [← h.agree pw h1, h.wk.prole]
        decide
      · exact .inl h1
  · rw [← h.agree k hk]
    exact upd_old (fun b e => (hb b e).imp (h.wk.nrole b) id) k (by omega)
  · refine h.box.turn (by simpa [World.setCell] using hg.size) ?_
    rw [Below.heap_setCell _ _ _ bx hbp]
    exact hg.block bx h.box.lt bne
end
theorem NoteOk.at_ {x : NoteD} (h : NoteOk x) {z : Int} (hz : In64 z) : NoteOk (noteAt x z) := ⟨h.kind, hz, h.src, h.dst, h.name, h.old, h.new⟩
theorem all_in {m : Int} {F : List Core} (hr : rightF m F = true) {n : Nat} (hn : n < F.length) : ∀ z ∈ allI F (n : Int), ∃ t : Nat, z = t ∧ t < F.length := ordB_in (sh := true) hr hn
set_option maxHeartbeats 8000000 in
set_option maxRecDepth 100000 in
theorem mtell_any (w : World) (h : Wk ρ w pw g cap len m M v N) (hr : rightF m (coreL M) = true) (hs : smallF M) (n : Nat) (hn : n < len) (x : NoteD) (hx : NoteOk x) (hN : N.length ≤ 100000000) :
    Calls Tryz.prog 87 #[ptrV pw, .int .i64 n, noteV x] w (WkPost ρ w pw g cap len m fun M' N' => M' = M ∧ N' = N ++ tellN (coreL M) n x) := by
  have HL : Hid ((coreL M).length = len) := Lib.hid (by rw [coreL_len, h.hlen])
  have hl1k : len ≤ 1000 := by rw [← h.hlen]; exact hs.1
  have CF : Hid (∀ W, NodeRow W (some ⟨g, 0, none⟩) len cap M → Calls Tryz.prog 59 #[.slice (some ⟨g, 0, none⟩) len cap, .int .i64 n] W (OrdNew W (allI (coreL M) n))) := Lib.hid (fun W h1 => wfull_any _ _ _ m _ n W h1 hs hr hn)
  have HA : Hid (∀ z ∈ allI (coreL M) n, ∃ t : Nat, z = t ∧ t < len) := Lib.hid (fun z hz => by
    obtain ⟨t, h1, h2⟩ := all_in hr (by rw [HL.out]; exact hn) z hz
    exact ⟨t, h1, by rw [← HL.out]; exact h2⟩)
  have HAL : Hid ((allI (coreL M) n).length ≤ 1000) := Lib.hid (Nat.le_trans (allI_len hr (by rw [HL.out]; exact hn)) (by rw [HL.out]; exact hl1k))
  have HX := Lib.hid hx
  have HN := Lib.hid hN
  have HF := Lib.hid h.fresh
  have hbx : w.heap.size < (w.alloc (noteB x)).heap.size := by simp
  obtain ⟨w0, hw0, WK0, BX0, hlt0⟩ : ∃ w0, w.alloc (noteB x) = w0 ∧ Hid (Wk (upd ρ (some w.heap.size) 4) w0 pw g cap len m M v N) ∧ Hid (TBox w0 w.heap.size x) ∧ Below w.heap.size w w0 := by
    have hb : Below w.heap.size w (w.alloc (noteB x)) := (Below.refl _ _).alloc (Nat.le_refl _) _
    refine ⟨_, rfl, Lib.hid ((h.keep hb).mark hbx (h.fresh _ (Nat.le_refl _)) (fun z hz b' off he hp e => ?_)), Lib.hid (TBox.new w x), hb⟩
    have := attr_block_lt (h.aok z hz) he hp
    omega
  have HW0 := Lib.hid hw0
  have HB0 := Lib.hid hlt0
  have hlt1 : w.heap.size < w0.heap.size := by rw [← hw0]; exact hbx
  have p0 := WK0.out.c0
  clear h hr hs hx hN hbx hw0 hlt0
  go_enter Tryz.func87, Tryz.ntmps87
  go_upto_region 1 with fail
  rw [HW0.out]
  go_wp2_with (go_at_call 59; (with_reducible refine (CF.out _ WK0.out.row).mono ?_); rintro e w1 ⟨ra, rl, rc, rfl, hrl, hb, hrn⟩; have LR := Lib.hid hrl; have LN := Lib.hid hrn; have WK1 := Lib.hid (WK0.out.keep hb); have BX1 := Lib.hid (BX0.out.keep hb); have HB1 := Lib.hid hb; clear hb hrl hrn p0)
  have T0 : Hid (TellIn (upd ρ (some w.heap.size) 4) w1 pw g cap len m M w.heap.size N w1 (upd ρ (some w.heap.size) 4) v x) := Lib.hid ⟨WK1.out, Turn.refl _ _, fun _ _ => rfl, BX1.out, by unfold upd; rw [if_pos rfl], BX1.out.lt⟩
  have hrl := LR.out.hlen
  have HRL := Lib.hid hrl
  have hrl1k : rl ≤ 1000 := by rw [← hrl]; exact HAL.out
  have LR0 : Hid (∀ b off, ra = some ⟨b, off, none⟩ → 0 < rl → upd ρ (some w.heap.size) 4 b = 0) := Lib.hid (fun b off he hp => by
    have h1 := LN.out b off he
    unfold upd
    rw [if_neg (fun e => by injection e with e; omega)]
    exact HF.out b (by omega))
  clear hrl
  go_loopw [16] (fun i wr => ∃ (k : Nat) (ρk : Nat → Nat) (vk : Value) (xk : NoteD) (Nk : List NoteD), k ≤ rl ∧ i = .int .i64 k ∧ Nk.length ≤ 100000000 + k ∧ Hid (Nk = N ++ toldN (coreL M) (allI (coreL M) n) x k) ∧ Hid (∃ z0, xk = noteAt x z0) ∧ Hid (TellIn (upd ρ (some w.heap.size) 4) w1 pw g cap len m M w.heap.size Nk wr ρk vk xk)) (fun i _ => rl - (intOf i).toNat)
  case atStart => exact ⟨0, _, v, x, N, Nat.zero_le _, rfl, by have := HN.out; omega, Lib.hid (by simp [toldN]), Lib.hid ⟨x.node, rfl⟩, T0⟩
  case round =>
    obtain ⟨k, ρk, vk, xk, Nk, hk, rfl, hNk, HNK, HXK, TI⟩ := hrel
    by_cases hlt : k < rl
    · obtain ⟨bp, op, z, hpa, hbp, hz, hcz, hin⟩ := (TI.out.turn.introw LR.out LR0.out).get hlt
      obtain ⟨q, rfl, hql⟩ := HA.out z (List.mem_of_getElem? hz)
      have HST := Lib.hid (toldN_step (F := coreL M) (x := x) hz)
      have HIN := Lib.hid hin
      obtain ⟨y, hy⟩ : ∃ y, M[q]? = some y := ⟨_, List.getElem?_eq_getElem (by rw [TI.out.wk.hlen]; exact hql)⟩
      have HKY : Hid (kindK (coreL M) (q : Int) = y.core.kind) := Lib.hid (kindK_at (coreL_get hy))
      have p0 := TI.out.wk.c0
      have yk := (TI.out.wk.at_ hy).c0
      subst hpa
      have hk64 : (k : Int) + 1 ≤ 9223372036854775807 := by omega
      clear hz hin hy
      by_cases hk1 : y.core.kind = 1
      · have e1 : (y.core.kind == 1) = true := by rw [hk1]; rfl
        have HS2 : Hid (toldN (coreL M) (allI (coreL M) n) x (k + 1) = toldN (coreL M) (allI (coreL M) n) x k ++ [noteAt x (q : Int)]) := Lib.hid (by rw [HST.out, HKY.out, hk1]; rfl)
        have b1 := TI.out.box.c 1 _ rfl
        have f1 := TI.out.box.f 1
        clear hk1
        go_upto_region 6 with fail
        have TI2 := Lib.hid (TI.out.at_ (q : Int))
        obtain ⟨wa, hwa⟩ : ∃ wa, wr.setCell ⟨w.heap.size, 1, none⟩ (.int .i64 (q : Int)) = wa := ⟨_, rfl⟩
        obtain ⟨z0, rfl⟩ := HXK.out
        rw [hwa] at TI2 ⊢
        obtain ⟨xq, hxq⟩ : ∃ xq, noteAt (noteAt x z0) (q : Int) = xq := ⟨_, rfl⟩
        have HXQ : Hid (noteAt x (q : Int) = xq) := Lib.hid hxq
        rw [hxq] at TI2
        have OKQ : Hid (NoteOk xq) := Lib.hid (by rw [← hxq]; exact HX.out.at_ HIN.out)
        clear hwa hxq b1 f1 p0 yk TI HXK
        have n0 := TI2.out.box.c 0 _ rfl
        have n1 := TI2.out.box.c 1 _ rfl
        have n2 := TI2.out.box.c 2 _ rfl
        have n3 := TI2.out.box.c 3 _ rfl
        have n4 := TI2.out.box.c 4 _ rfl
        have n5 := TI2.out.box.c 5 _ rfl
        have n6 := TI2.out.box.c 6 _ rfl
        have n7 := TI2.out.box.c 7 _ rfl
        have n8 := TI2.out.box.c 8 _ rfl
        have p2 := TI2.out.wk.c2
        have AL : Hid (∀ o : Obj, Below wa.heap.size wa (wa.alloc o).drew) := Lib.hid (fun o => ((Below.refl _ _).alloc (Nat.le_refl _) o).drew)
        have p2a := fun o => (TI2.out.wk.keep (AL.out o)).c2
        obtain ⟨i0, hi0, hq0, hq1, hq2⟩ := info_parts note_info
        have ho63 : xq.old.size ≤ 9223372036854775807 := by have := OKQ.out.old; unfold maxLen at this; omega
        go_region_law (go_loud (refine step_append_rows rfl (.tmp 36) (.tmp 38) 38 rfl 71 i0 _ 9 88 Tryz.underlying38 hi0 hq0 hq1 hq2 rfl (by decide) 0 vk Nk.length Nk [xq] rfl (own_below TI2.out.wk.nown (AL.out _)) _ 1 1 rfl (note_one wa xq).drew (fun x _ => encO_one x) (by unfold maxLen; omega) (by omega) (Nat.zero_le _) (fun h => by cases h) ?_; intro v5 w5 hown5 hg5 hat5; obtain ⟨g5, cap5, rfl⟩ := own_some hown5 (Nat.succ_pos _); obtain ⟨t5, c5, f5⟩ := (TI2.out.keep (AL.out _)).more OKQ.out hown5 hg5 hat5; have T5 := Lib.hid t5; clear hown5 hg5 hat5 t5))
        all_goals
          go_wp2
          go_roundw
          case rel => exact ⟨k + 1, _, _, xq, _, by omega, by go_num, by rw [List.length_append]; simp; omega, Lib.hid (by rw [HS2.out, HNK.out, HXQ.out, List.append_assoc]), Lib.hid ⟨q, HXQ.out.symm⟩, T5⟩
          case measure => simp [intOf]; omega
      · have e1 : (y.core.kind == 1) = false := beq_eq_false_iff_ne.2 hk1
        have HS2 : Hid (toldN (coreL M) (allI (coreL M) n) x (k + 1) = toldN (coreL M) (allI (coreL M) n) x k) := Lib.hid (by rw [HST.out, HKY.out, e1]; simp)
        clear hk1
        go_wp2
        go_roundw
        case rel => exact ⟨k + 1, ρk, vk, xk, Nk, by omega, by go_num, by omega, Lib.hid (by rw [HS2.out, HNK.out]), HXK, TI⟩
        case measure => simp [intOf]; omega
    · have hkk : k = rl := by omega
      subst hkk
      have HT : Hid (toldN (coreL M) (allI (coreL M) n) x k = tellN (coreL M) n x) := Lib.hid (toldN_all (by rw [HRL.out]; exact Nat.le_refl _))
      go_wp2
      have hs01 := HB1.out.size
      have hs00 := HB0.out.size
      refine bodyPost_ret (v := .tuple #[]) (by simp [results, Tryz.results87]) rfl ⟨rfl, ρk, M, vk, Nk, TI.out.wk, ?_, fun j hj => ?_, rfl, by rw [HNK.out, HT.out]⟩
      · refine (Turn.of_below (ρ := ρ) (HB0.out.trans (HB1.out.mono hs00))).trans (ρ1 := upd ρ (some w.heap.size) 4) (fun j hj => ?_) TI.out.turn
        unfold upd
        rw [if_neg (fun e => by injection e with e; omega)]
      · rw [TI.out.agree j (by omega)]
        unfold upd
        rw [if_neg (fun e => by injection e with e; omega)]
end
end Go.Proofs.YtkfmengdffpcnaaGreatDoor
namespace Go.Proofs.YtkfmengdffpcnaaGreatDoor
open Go.RowKit
section
variable {ρ : Nat → Nat} {pw g cap len : Nat} {m : Int} {M : List NodeD} {v : Value} {N : List NoteD}
theorem erase_filter {l : List Int} {z : Int} {i : Nat} (hn : l.Nodup) (hi : l[i]? = some z) : l.eraseIdx i = l.filter (fun y => y != z) := by
  obtain ⟨hl, he⟩ := List.getElem?_eq_some_iff.1 hi
  have h1 : l.idxOf z = i := by rw [← he]; exact hn.idxOf_getElem i hl
  rw [← hn.erase_eq_filter, List.erase_eq_eraseIdx_of_idxOf h1]
theorem core_set2 {M : List NodeD} {n p : Nat} {x y : NodeD} {a : Option Addr} {l c : Nat} {ks : List Int} {q : Int} (hx : M[n]? = some x) (hy : M[p]? = some y) (hnp : n ≠ p) :
    Edit (coreL M) (coreL ((M.set p (withK y a l c ks)).set n (withP x q))) (fun j c => if j = n then q else c.parent) (fun j c => if j = p then ks else c.kids) (fun _ c => c.doc) := by
  refine ⟨by unfold coreL; simp, fun j z hz => ?_⟩
  obtain ⟨u, hu, rfl⟩ : ∃ u, M[j]? = some u ∧ u.core = z := by
    unfold coreL at hz
    rw [List.getElem?_map] at hz
    cases hm : M[j]? with
    | none => rw [hm] at hz; cases hz
    | some u => rw [hm] at hz; exact ⟨u, rfl, Option.some.inj hz⟩
  have hjl := (List.getElem?_eq_some_iff.1 hu).1
  unfold coreL
  rw [List.getElem?_map]
  by_cases e : j = n
  · subst e
    obtain rfl : x = u := Option.some.inj (hx.symm.trans hu)
    rw [List.getElem?_set_self (by rw [List.length_set]; exact hjl), if_pos rfl, if_neg hnp]
    rfl
  · rw [List.getElem?_set_ne (fun e2 => e e2.symm), if_neg e]
    by_cases e2 : j = p
    · subst e2
      obtain rfl : y = u := Option.some.inj (hy.symm.trans hu)
      rw [List.getElem?_set_self hjl, if_pos rfl]
      rfl
    · rw [List.getElem?_set_ne (fun e3 => e2 e3.symm), if_neg e2, hu]
      rfl
theorem mv0 : In64 0 := ⟨by decide, by decide⟩
theorem emp_le : (⟨#[]⟩ : ByteArray).size ≤ maxLen := by decide
theorem noteOk_note (k : Int) (hk : In64 k) : NoteOk (note k) := ⟨hk, mv0, mv0, mv0, emp_le, emp_le, emp_le⟩
theorem in64_nat {n : Nat} (h : n ≤ 1000) : In64 (n : Int) := ⟨by omega, by omega⟩
theorem out_par (h : rightF m (coreL M) = true) {n : Nat} {x : NodeD} (hx : M[n]? = some x) (hp : x.core.parent ≠ -1) : ∃ (p : Nat) (y : NodeD) (i : Nat), x.core.parent = p ∧ M[p]? = some y ∧ n ≠ p ∧ findZ y.core.kids n = i ∧ y.core.kids[i]? = some (n : Int) ∧ y.core.kids.Nodup := by
  obtain ⟨p, h1, h2, ho⟩ := mvOut_out h (coreL_get hx) hp
  rw [coreL_len] at h2
  have hy : M[p]? = some M[p] := List.getElem?_eq_getElem h2
  obtain ⟨hnp, _⟩ := out_made h hx hy h1 (a := none) (l := 0) (c := 0)
  have N := right_node h (coreL_get hx)
  rcases N.par with e | ⟨_, d, h3, _, h5⟩
  · exact absurd e hp
  · rw [h1, getC_nat, coreL_get hy] at h3
    rw [← Option.some.inj h3] at h5
    obtain ⟨i, hi1, hi2⟩ := find_at h5
    exact ⟨p, M[p], i, h1, hy, hnp, hi1, hi2, (right_node h (coreL_get hy)).once⟩
set_option maxHeartbeats 8000000 in
set_option maxRecDepth 100000 in
theorem mgoOut_any (w : World) (h : Wk ρ w pw g cap len m M v N) (hr : rightF m (coreL M) = true) (hs : smallF M) (n : Nat) (hn : n < len) (hp : parentK (coreL M) n ≠ -1) (hN : N.length ≤ 90000000) :
    Calls Tryz.prog 55 #[ptrV pw, .int .i64 n] w (WkPost ρ w pw g cap len m fun M' N' => (coreL M', N') = outS (coreL M, N) n ∧ smallF M' ∧ rightF m (coreL M') = true) := by
  have HL : Hid ((coreL M).length = len) := Lib.hid (by rw [coreL_len, h.hlen])
  have hl1k : len ≤ 1000 := by rw [← h.hlen]; exact hs.1
  obtain ⟨x, hx⟩ : ∃ x, M[n]? = some x := ⟨_, List.getElem?_eq_getElem (by rw [h.hlen]; exact hn)⟩
  rw [parentK_at (coreL_get hx)] at hp
  obtain ⟨p, y, i, hpp, hy, hnp, hfi, hi, hnd⟩ := out_par hr hx hp
  have hpl : p < len := by rw [← h.hlen]; exact (List.getElem?_eq_some_iff.1 hy).1
  have hkl : y.core.kids.length = y.kN := (h.kidsRow hy).hlen
  have hik : i < y.kN := by rw [← hkl]; exact (List.getElem?_eq_some_iff.1 hi).1
  have hk400 : y.kN ≤ 400 := by rw [← hkl]; exact right_kids hr (coreL_get hy)
  obtain ⟨gk, ck, hgk⟩ := own_some (h.kown p y hy) (by omega)
  have CC : Hid (Calls Tryz.prog 84 #[ptrV pw, .int .i64 n] w fun e w' => e = .returned (.bool (connF (coreL M) n)) ∧ Below w.heap.size w w') := Lib.hid (mconn_any w h hr n hn)
  have CX : Hid (∀ W, Below w.heap.size w W → Calls Tryz.prog 85 #[.slice y.kA y.kN y.kC, .int .i64 n] W fun e w' => e = .returned (.int .i64 i) ∧ W = w') := Lib.hid (fun W hb => by
    rw [← hfi]
    exact index_any _ _ _ _ _ W ((h.kidsRow hy).below hb))
  have CD : Hid (∀ W, Below w.heap.size w W → Calls Tryz.prog 86 #[.slice y.kA y.kN y.kC, .int .i64 i, .int .i64 ((i : Int) + 1)] W fun e w' => e = .returned (.slice (some ⟨gk, 0, none⟩) (y.kN - 1) ck) ∧ w'.ownsRow 0 3 1 (.slice (some ⟨gk, 0, none⟩) (y.kN - 1) ck) (y.kN - 1) ((y.core.kids.eraseIdx i).flatMap encZ) ∧ W.grownBy w' (some gk)) := Lib.hid (fun W hb => by
    have ho := (h.keep hb).kown p y hy
    rw [hgk] at ho ⊢
    exact deleteI_any W 0 gk y.kN ck y.core.kids i ho hik)
  -- what comes of it
  obtain ⟨ks, hks⟩ : ∃ ks, y.core.kids.eraseIdx i = ks := ⟨_, rfl⟩
  have HKS : Hid (ks = y.core.kids.filter (fun z => z != (n : Int))) := Lib.hid (by rw [← hks]; exact erase_filter hnd hi)
  rw [hks] at CD
  have HED := Lib.hid (core_set2 (a := some ⟨gk, 0, none⟩) (l := y.kN - 1) (c := ck) (ks := ks) (q := -1) hx hy hnp)
  obtain ⟨M2, hM2⟩ : ∃ M2, (M.set p (withK y (some ⟨gk, 0, none⟩) (y.kN - 1) ck ks)).set n (withP x (-1)) = M2 := ⟨_, rfl⟩
  rw [hM2] at HED
  have HEQ : Hid (coreL M2 = mvOut (coreL M) n) := Lib.hid (by
    refine (HED.out.cong (fun j c hc => ⟨rfl, ?_, rfl⟩)).eq
    rw [parentK_at (coreL_get hx), hpp]
    by_cases e : j = p
    · subst e
      rw [coreL_get hy] at hc
      rw [if_pos rfl, if_pos rfl, ← Option.some.inj hc, HKS.out]
    · rw [if_neg e, if_neg (by omega)])
  have HRR : Hid (rightF m (coreL M2) = true) := Lib.hid (by
    obtain ⟨p', _, _, ho⟩ := mvOut_out hr (coreL_get hx) hp
    rw [HEQ.out]
    exact ho.rightG)
  have HSM : Hid (smallF M2) := Lib.hid (small_edit hs HED.out HRR.out)
  have HINK : Hid (∀ z ∈ ks, In64 z) := Lib.hid (fun z hz => by
    rw [HKS.out] at hz
    exact (h.fld y (List.mem_of_getElem? hy)).kids z (List.mem_filter.1 hz).1)
  have HOS : Hid (outS (coreL M, N) n = (coreL M2, if connF (coreL M) n then N ++ tellN (coreL M) n (note 2) else N)) := Lib.hid (by
    unfold outS
    rw [if_neg (by rw [parentK_at (coreL_get hx)]; exact hp), HEQ.out])
  have HXN : Hid (M.set p (withK y (some ⟨gk, 0, none⟩) (y.kN - 1) ck ks) = M.set p (withK y (some ⟨gk, 0, none⟩) (y.kN - 1) ck ks) ∧ (M.set p (withK y (some ⟨gk, 0, none⟩) (y.kN - 1) ck ks))[n]? = some x) := Lib.hid ⟨rfl, by rw [List.getElem?_set_ne (fun e => hnp e.symm)]; exact hx⟩
  have HM2 := Lib.hid hM2
  have HTN : Hid (tellN (coreL M2) n (note 2) = tellN (coreL M) n (note 2)) := Lib.hid (by rw [HEQ.out]; exact tellN_out hr (coreL_get hx) hp _)
  obtain ⟨b, hb⟩ : ∃ b, connF (coreL M) n = b := ⟨_, rfl⟩
  rw [hb] at CC HOS
  have HW := Lib.hid h
  have HX := Lib.hid hx
  have HY := Lib.hid hy
  have HGK : Hid (Value.ownBlock (.slice y.kA y.kN y.kC) = some gk) := Lib.hid (by rw [hgk]; rfl)
  have HN := Lib.hid hN
  have HPP := Lib.hid hpp
  have hl64 : (len : Int) ≤ 9223372036854775807 := by omega
  clear h hr hs hx hp hpp hy hfi hi hnd hkl hgk hks hM2 hb
  go_enter Tryz.func55, Tryz.ntmps55
  go_upto_region 1 with (go_at_call 84; (with_reducible refine CC.out.mono ?_); rintro e w1 ⟨rfl, hb⟩; have HB1 := Lib.hid hb; clear hb)
  have W1 := Lib.hid (HW.out.keep HB1.out)
  have p0 := W1.out.c0
  go_upto_region 2 with fail
  have E0 := Ext.cell W1.out.c0 W1.out.plt
  have x5 := (W1.out.at_ HX.out).c5
  rw [HPP.out] at x5
  have E5 := Ext.cell x5 W1.out.glt
  refine wp_region_ext (by kernel_rfl) (by kernel_rfl) ?_
  repeat (go_big_quiet_step (fail))
  refine wpQuiet_nil ?_
  intro w3 hw'
  obtain ⟨⟨w4, hb4⟩, hw''⟩ := hw'
  dsimp only at hw''
  subst hw''
  have HB2 := Lib.hid (HB1.out.trans (hb4.mono HB1.out.size))
  clear E0 E5 x5 p0 hb4
  have W2 := Lib.hid (HW.out.keep HB2.out)
  have y6 := (W2.out.at_ HY.out).c6
  have KN := Lib.hid (show In64 (i : Int) from in64_nat (by omega))
  have hi64 : (i : Int) + 1 ≤ 9223372036854775807 := by omega
  go_upto_if 48 with (first
    | (go_at_call 85; (with_reducible refine (CX.out _ HB2.out).mono ?_); rintro e w5 ⟨rfl, rfl⟩)
    | (go_at_call 86; (with_reducible refine (CD.out _ HB2.out).mono ?_); rintro e w6 ⟨rfl, hown, hgr⟩; have HO6 := Lib.hid hown; have HG6 := Lib.hid hgr; have MID := Lib.hid (W2.out.mid (row := some gk) hgr (fun b e => by injection e with e; rw [← e, W2.out.krole p y gk HY.out HGK.out]; omega)); have f6 := MID.out.gfree (p * 10 + 6); have f5 := MID.out.gfree (n * 10 + 5); have c6 := MID.out.cells p y 6 _ HY.out rfl; have c5 := MID.out.cells n x 5 _ HX.out rfl; have hne : n * 10 + 5 ≠ p * 10 + 6 := (by omega); clear hown hgr y6))
  have W7 := W2.out.setK HY.out (by rw [HGK.out]; exact HG6.out) HO6.out (fun b e => .inl (by rw [HGK.out]; exact e)) HINK.out
  have W8 := W7.setP HXN.out.2 inM1
  rw [HM2.out] at W8
  have hgk0 : ρ gk = p + 6 := W2.out.krole p y gk HY.out HGK.out
  have T8 : Turn ρ w ((w6.setCell ⟨g, p * 10 + 6, none⟩ (.slice (some ⟨gk, 0, none⟩) (y.kN - 1) ck)).setCell ⟨g, n * 10 + 5, none⟩ (.int .i64 (-1))) := (((Turn.of_below HB2.out).grown HG6.out (fun k e => by injection e with e; right; rw [← e, hgk0]; omega)).setCell (.inr (by rw [W2.out.grole]; decide)) _ _).setCell (.inr (by rw [W2.out.grole]; decide)) _ _
  have A8 : ∀ k, upd ρ (some gk) (p + 6) k = ρ k := fun k => by
    unfold upd
    by_cases e : some gk = some k
    · rw [if_pos e]
      injection e with e
      rw [← e, hgk0]
    · rw [if_neg e]
  have W8 := Lib.hid W8
  have T8 := Lib.hid T8
  have A8 := Lib.hid A8
  clear W7 c6 c5 f6 f5 hne hgk0
  obtain ⟨w8, hw8⟩ : ∃ w8, (w6.setCell ⟨g, p * 10 + 6, none⟩ (.slice (some ⟨gk, 0, none⟩) (y.kN - 1) ck)).setCell ⟨g, n * 10 + 5, none⟩ (.int .i64 (-1)) = w8 := ⟨_, rfl⟩
  rw [hw8] at W8 T8 ⊢
  clear hw8
  cases b with
  | false =>
    go_wp2
    refine bodyPost_ret (v := .tuple #[]) (by simp [results, Tryz.results55]) rfl ⟨rfl, _, M2, v, N, W8.out, T8.out, fun k _ => A8.out k, by rw [HOS.out]; rfl, HSM.out, HRR.out⟩
  | true =>
    have CT := Lib.hid (mtell_any w8 W8.out HRR.out HSM.out n hn (note 2) (noteOk_note 2 ⟨by decide, by decide⟩) (by have := HN.out; omega))
    go_wp2_with (go_at_call 87; (with_reducible refine CT.out.mono ?_); rintro e w9 ⟨rfl, ρ9, M9, v9, N9, W9, T9, A9, rfl, rfl⟩)
    refine bodyPost_ret (v := .tuple #[]) (by simp [results, Tryz.results55]) rfl ⟨rfl, ρ9, M9, v9, _, W9, T8.out.trans (fun k _ => A8.out k) T9, fun k hk => ?_, by rw [HOS.out, HTN.out]; rfl, HSM.out, HRR.out⟩
    exact (A9 k (Nat.lt_of_lt_of_le hk T8.out.size)).trans (A8.out k)
end
end Go.Proofs.YtkfmengdffpcnaaGreatDoor
