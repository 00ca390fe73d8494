/- Texts joined in build order: MoveTell MoveMath2 MoveOut MoveStand OwnerSmall StepWp. -/
import Derived.Test.YtnjoimedilonnaaB29
import Derived.Test.YtnjoimedilonnaaB28
import Derived.Test.YtnjoimedilonnaaB27
import Derived.Deep.RegionLaw
import Derived.Deep.DeepCutAuto
import Derived.Test.YtnjoimedilonnaaB04
import Derived.Deep.RegionWith
import Derived.Test.YtnjoimedilonnaaB10
import Derived.Test.YtnjoimedilonnaaB09
import Derived.BigRegion
namespace Go.Proofs.Ytnjoimedilonnaa
open Go.RowKit
abbrev ptrV (b : Nat) : Value := .pointer (some ⟨b, 0, none⟩)
section
variable {ρ : Nat → Nat} {pw g cap len : Nat} {m : Int} {M : List NodeD} {v : Value} {N : List NoteD}
abbrev noteB (x : NoteD) : Obj := .cells #[.int .i64 x.kind, .int .i64 x.node, .int .i64 x.src, .int .i64 x.dst, .string x.name, .bool x.had, .bool x.has, .string x.old, .string x.new] 143
structure TBox (W : World) (b : Nat) (x : NoteD) : Prop where
  lt : b < W.heap.size
  c : ∀ j u, (encO x)[j]? = some u → W.cell? ⟨b, j, none⟩ = some u
  f : ∀ j, W.frozen? ⟨b, j, none⟩ = false
theorem TBox.new (W : World) (x : NoteD) : TBox (W.alloc (noteB x)) W.heap.size x :=
  ⟨by simp, fun j u hu => by rw [cell_of_row (W.alloc (noteB x)) W.heap.size j _ 143 (0, 0) (heap_alloc_new W _)]; simpa [encO] using hu, fun j => row_free (heap_alloc_new W (noteB x)) j⟩
theorem TBox.keep {W W2 : World} {b : Nat} {x : NoteD} (h : TBox W b x) (hb : Below W.heap.size W W2) : TBox W2 b x :=
  ⟨Nat.lt_of_lt_of_le h.lt hb.size, fun j u hu => (hb.cell (p := ⟨b, j, none⟩) h.lt).trans (h.c j u hu), fun j => (hb.frozen (p := ⟨b, j, none⟩) h.lt).trans (h.f j)⟩
theorem TBox.at_ {W : World} {b : Nat} {x : NoteD} (h : TBox W b x) (z : Int) : TBox (W.setCell ⟨b, 1, none⟩ (.int .i64 z)) b (noteAt x z) := by
  refine ⟨by simpa [World.setCell] using h.lt, fun j u hu => ?_, fun j => by rw [World.frozen?_setCell]; exact h.f j⟩
  by_cases e : j = 1
  · subst e
    have hu : some (Value.int .i64 z) = some u := hu
    rw [← Option.some.inj hu]
    exact World.cell?_setCell_same _ _ _ (h.c 1 _ rfl)
  · rw [World.cell?_setCell_other _ _ _ _ (fun e' => by injection e' with _ e'; omega)]
    refine h.c j u ?_
    rw [show encO (noteAt x z) = (encO x).set 1 (.int .i64 z) from rfl, List.getElem?_set_ne (fun e2 => e e2.symm)] at hu
    exact hu
theorem TBox.turn {W W2 : World} {b : Nat} {x : NoteD} (h : TBox W b x) (hs : W.heap.size ≤ W2.heap.size) (hb : W2.heap[b]? = W.heap[b]?) : TBox W2 b x :=
  ⟨Nat.lt_of_lt_of_le h.lt hs, fun j u hu => (World.cell?_of_block (w := W) (a := ⟨b, j, none⟩) hb).trans (h.c j u hu), fun j => (World.frozen?_of_block (w := W) (a := ⟨b, j, none⟩) hb).trans (h.f j)⟩
def WkPost (ρ : Nat → Nat) (w : World) (pw g cap len : Nat) (m : Int) (Q : List NodeD → List NoteD → Prop) (e : Ending) (w' : World) : Prop :=
  e = .returned (.tuple #[]) ∧ ∃ ρ' M' v' N', Wk ρ' w' pw g cap len m M' v' N' ∧ Turn ρ w w' ∧ (∀ k, k < w.heap.size → ρ' k = ρ k) ∧ Q M' N'
theorem own_some {w : World} {base : Nat} {e : TypeId} {size n : Nat} {v : Value} {xs : List Value} (h : w.ownsRow base e size v n xs) (hn : 0 < n) : ∃ g cap, v = .slice (some ⟨g, 0, none⟩) n cap := by
  rcases h.2 with ⟨_, h0⟩ | ⟨g, cap, cur, hv, _⟩
  · omega
  · exact ⟨g, cap, hv⟩
structure TellIn (ρ1 : Nat → Nat) (w1 : World) (pw g cap len : Nat) (m : Int) (M : List NodeD) (bx : Nat) (Nk : List NoteD) (wr : World) (ρk : Nat → Nat) (vk : Value) (xk : NoteD) : Prop where
  wk : Wk ρk wr pw g cap len m M vk Nk
  turn : Turn ρ1 w1 wr
  agree : ∀ k, k < w1.heap.size → ρk k = ρ1 k
  box : TBox wr bx xk
  b4 : ρ1 bx = 4
  blt : bx < w1.heap.size
section
variable {ρ1 ρk : Nat → Nat} {w1 wr W W1 : World} {bx : Nat} {Nk : List NoteD} {vk v' : Value} {xk : NoteD}
theorem TellIn.keep (h : TellIn ρ1 w1 pw g cap len m M bx Nk wr ρk vk xk) (hb : Below wr.heap.size wr W) : TellIn ρ1 w1 pw g cap len m M bx Nk W ρk vk xk :=
  ⟨h.wk.keep hb, h.turn.keep hb, h.agree, h.box.keep hb, h.b4, h.blt⟩
theorem TellIn.at_ (h : TellIn ρ1 w1 pw g cap len m M bx Nk wr ρk vk xk) (z : Int) : TellIn ρ1 w1 pw g cap len m M bx Nk (wr.setCell ⟨bx, 1, none⟩ (.int .i64 z)) ρk vk (noteAt xk z) :=
  ⟨h.wk.other (by rw [h.agree bx h.blt, h.b4]) _ _, h.turn.setCell (.inr (by rw [h.b4]; decide)) _ _, h.agree, h.box.at_ z, h.b4, h.blt⟩
theorem TellIn.more (h : TellIn ρ1 w1 pw g cap len m M bx Nk W ρk vk xk) (hok : NoteOk xk) (ho : W1.ownsRow 0 143 9 v' (Nk.length + 1) ((Nk ++ [xk]).flatMap encO)) (hg : W.grownBy W1 vk.ownBlock) (hat : v'.ownBlock = vk.ownBlock ∨ v'.ownBlock = some W.heap.size) :
    TellIn ρ1 w1 pw g cap len m M bx (Nk ++ [xk]) (W1.setCell ⟨pw, 2, none⟩ v') (upd ρk v'.ownBlock 3) v' xk ∧ W1.cell? ⟨pw, 2, none⟩ = some vk ∧ W1.frozen? ⟨pw, 2, none⟩ = false := by
  have hb : ∀ b, v'.ownBlock = some b → vk.ownBlock = some b ∨ W.heap.size ≤ b := fun b e => by
    rcases hat with h1 | h1
    · exact .inl (h1.symm.trans e)
    · rw [h1] at e
      injection e with e
      exact .inr (by omega)
  have hs := h.turn.size
  have pne : some pw ≠ vk.ownBlock := fun e => by
    have h1 := h.wk.nrole pw e.symm
    have h2 := h.wk.prole
    omega
  have sp := hg.block pw h.wk.plt pne
  have b4 : ρk bx = 4 := by rw [h.agree bx h.blt, h.b4]
  have bne : some bx ≠ vk.ownBlock := fun e => by
    have h1 := h.wk.nrole bx e.symm
    omega
  have hbp : bx ≠ pw := fun e => by
    have h2 := h.wk.prole
    rw [← e] at h2
    omega
  refine ⟨⟨h.wk.note hok hg ho hb, ?_, fun k hk => ?_, ?_, h.b4, h.blt⟩, (World.cell?_of_block (w := W) (a := ⟨pw, 2, none⟩) sp).trans h.wk.c2, (World.frozen?_of_block (w := W) (a := ⟨pw, 2, none⟩) sp).trans (h.wk.pfree 2)⟩
  · refine (h.turn.grown hg (fun k e => ?_)).setCell ?_ _ _
    · rcases Nat.lt_or_ge k w1.heap.size with h1 | h1
      · right
        rw [← h.agree k h1, h.wk.nrole k e]
        decide
      · exact .inl h1
    · rcases Nat.lt_or_ge pw w1.heap.size with h1 | h1
      · right
        rw [← h.agree pw h1, h.wk.prole]
        decide
      · exact .inl h1
  · rw [← h.agree k hk]
    exact upd_old (fun b e => (hb b e).imp (h.wk.nrole b) id) k (by omega)
  · refine h.box.turn (by simpa [World.setCell] using hg.size) ?_
    rw [Below.heap_setCell _ _ _ bx hbp]
    exact hg.block bx h.box.lt bne
end
theorem NoteOk.at_ {x : NoteD} (h : NoteOk x) {z : Int} (hz : In64 z) : NoteOk (noteAt x z) := ⟨h.kind, hz, h.src, h.dst, h.name, h.old, h.new⟩
end
end Go.Proofs.Ytnjoimedilonnaa
namespace Go.Proofs.Ytnjoimedilonnaa
open Go.RowKit
section
variable {m : Int} {F G : List Core} {P : Nat → Core → Int} {K : Nat → Core → List Int} {D : Nat → Core → Int}
end
end Go.Proofs.Ytnjoimedilonnaa
namespace Go.Proofs.Ytnjoimedilonnaa
open Go.RowKit
section
variable {ρ : Nat → Nat} {pw g cap len : Nat} {m : Int} {M : List NodeD} {v : Value} {N : List NoteD}
theorem core_set2 {M : List NodeD} {n p : Nat} {x y : NodeD} {a : Option Addr} {l c : Nat} {ks : List Int} {q : Int} (hx : M[n]? = some x) (hy : M[p]? = some y) (hnp : n ≠ p) :
    Edit (coreL M) (coreL ((M.set p (withK y a l c ks)).set n (withP x q))) (fun j c => if j = n then q else c.parent) (fun j c => if j = p then ks else c.kids) (fun _ c => c.doc) := by
  refine ⟨by unfold coreL; simp, fun j z hz => ?_⟩
  obtain ⟨u, hu, rfl⟩ : ∃ u, M[j]? = some u ∧ u.core = z := by
    unfold coreL at hz
    rw [List.getElem?_map] at hz
    cases hm : M[j]? with
    | none => rw [hm] at hz; cases hz
    | some u => rw [hm] at hz; exact ⟨u, rfl, Option.some.inj hz⟩
  have hjl := (List.getElem?_eq_some_iff.1 hu).1
  unfold coreL
  rw [List.getElem?_map]
  by_cases e : j = n
  · subst e
    obtain rfl : x = u := Option.some.inj (hx.symm.trans hu)
    rw [List.getElem?_set_self (by rw [List.length_set]; exact hjl), if_pos rfl, if_neg hnp]
    rfl
  · rw [List.getElem?_set_ne (fun e2 => e e2.symm), if_neg e]
    by_cases e2 : j = p
    · subst e2
      obtain rfl : y = u := Option.some.inj (hy.symm.trans hu)
      rw [List.getElem?_set_self hjl, if_pos rfl]
      rfl
    · rw [List.getElem?_set_ne (fun e3 => e2 e3.symm), if_neg e2, hu]
      rfl
theorem in64_nat {n : Nat} (h : n ≤ 1000) : In64 (n : Int) := ⟨by omega, by omega⟩
end
end Go.Proofs.Ytnjoimedilonnaa
namespace Go.Proofs.Ytnjoimedilonnaa
open Go.RowKit
section
variable {ρ : Nat → Nat} {pw g cap len : Nat} {m : Int} {M : List NodeD} {v : Value} {N : List NoteD}
def insAt (l : List Int) (b : Int) : Nat := if b = -1 then l.length else findN l b
theorem insAt_le (l : List Int) (b : Int) (hb : b = -1 ∨ b ∈ l) : insAt l b ≤ l.length := by
  unfold insAt
  by_cases e : b = -1
  · rw [if_pos e]; exact Nat.le_refl _
  · rw [if_neg e]; exact Nat.le_of_lt (findN_mem (hb.resolve_left e))
theorem insB_eq (l : List Int) (b n : Int) : l.take (insAt l b) ++ n :: l.drop (insAt l b) = insB l b n := by
  unfold insAt insB
  by_cases e : b = -1
  · rw [if_pos e, if_pos e, List.take_of_length_le (Nat.le_refl _), List.drop_eq_nil_of_le (Nat.le_refl _)]
  · rw [if_neg e, if_neg e]
set_option maxHeartbeats 8000000 in
set_option maxRecDepth 100000 in
theorem mstandP_any (w : World) (h : Wk ρ w pw g cap len m M v N) (hs : smallF M) (n p : Nat) (x y : NodeD) (hx : M[n]? = some x) (hy : M[p]? = some y) (hnp : n ≠ p) (b : Int) (hb : b = -1 ∨ b ∈ y.core.kids) :
    Calls Try.prog 74 #[ptrV pw, .int .i64 n, .int .i64 p, .int .i64 b] w (WkPost ρ w pw g cap len m fun M' N' => (∃ a c, M' = (M.set p (withK y a (y.kN + 1) c (insB y.core.kids b n))).set n (withP x p)) ∧ N' = N) := by
  have hl1k : len ≤ 1000 := by rw [← h.hlen]; exact hs.1
  have hn : n < len := by rw [← h.hlen]; exact (List.getElem?_eq_some_iff.1 hx).1
  have hpl : p < len := by rw [← h.hlen]; exact (List.getElem?_eq_some_iff.1 hy).1
  have hkl : y.core.kids.length = y.kN := (h.kidsRow hy).hlen
  have hk1k : y.kN ≤ 1000 := by rw [← hkl]; exact (hs.2 y (List.mem_of_getElem? hy)).1
  obtain ⟨i, hi⟩ : ∃ i, insAt y.core.kids b = i := ⟨_, rfl⟩
  have hil : i ≤ y.kN := by rw [← hkl, ← hi]; exact insAt_le _ _ hb
  have hnn : In64 (n : Int) := in64_nat (by omega)
  have hpp : In64 (p : Int) := in64_nat (by omega)
  have CX : Hid (b ≠ -1 → Calls Try.prog 34 #[.slice y.kA y.kN y.kC, .int .i64 b] w fun e w' => e = .returned (.int .i64 i) ∧ w = w') := Lib.hid (fun hne => by
    have h1 := findZ_mem (hb.resolve_left hne)
    have h2 : insAt y.core.kids b = findN y.core.kids b := by unfold insAt; rw [if_neg hne]
    have h3 : findZ y.core.kids b = (i : Int) := by rw [h1, ← h2, hi]
    rw [← h3]
    exact index_any _ _ _ _ _ w (h.kidsRow hy))
  have hIL : b = -1 → i = y.kN := fun e => by rw [← hi, ← hkl]; unfold insAt; rw [if_pos e]
  obtain ⟨WI, hWI, WK2, HBI, HCELL⟩ : ∃ WI, (w.alloc (.cells #[.int .i64 (n : Int)] 3)).drew = WI ∧ Hid (Wk ρ WI pw g cap len m M v N) ∧ Hid (Below w.heap.size w WI) ∧ Hid (WI.heap[w.heap.size]? = some (.cells #[.int .i64 (n : Int)] 3 (0, 0))) := by
    have hb2 : Below w.heap.size w (w.alloc (.cells #[.int .i64 (n : Int)] 3)).drew := ((Below.refl _ _).alloc (Nat.le_refl _) _).drew
    exact ⟨_, rfl, Lib.hid (h.keep hb2), Lib.hid hb2, Lib.hid (heap_alloc_new w _)⟩
  have CI : Hid (Calls Try.prog 81 #[.slice y.kA y.kN y.kC, .int .i64 i, .slice (some ⟨w.heap.size, 0, none⟩) 1 1] WI (InsPost 0 (.slice y.kA y.kN y.kC) y.kN (insB y.core.kids b n) WI)) := Lib.hid (by
    rw [← insB_eq, hi]
    exact insertI_any WI 0 y.kN i _ y.core.kids n w.heap.size (Nat.zero_le _) (WK2.out.kown p y hy) hil (by omega) HCELL.out (fun e => by
      have := own_block_lt (h.kown p y hy) e
      omega))
  have HKR : Hid (∀ b', Value.ownBlock (.slice y.kA y.kN y.kC) = some b' → ρ b' = p + 6) := Lib.hid (fun b' e => h.krole p y b' hy e)
  have HINK : Hid (∀ z ∈ insB y.core.kids b n, In64 z) := Lib.hid (fun z hz => by
    have hk := (h.fld y (List.mem_of_getElem? hy)).kids
    rw [← insB_eq] at hz
    rcases List.mem_append.1 hz with hz | hz
    · exact hk z (List.mem_of_mem_take hz)
    · rcases List.mem_cons.1 hz with rfl | hz
      · exact hnn
      · exact hk z (List.mem_of_mem_drop hz))
  have HW := Lib.hid h
  have HX := Lib.hid hx
  have HY := Lib.hid hy
  have HP64 := Lib.hid hpp
  have HWI := Lib.hid hWI
  have p0 := h.c0
  have y6 := (h.at_ hy).c6
  have p0a := fun o => (h.keep (below_box w o)).c0
  have y6a := fun o => ((h.keep (below_box w o)).at_ hy).c6
  have hl64 : (len : Int) ≤ 9223372036854775807 := by omega
  have hkn64 : (y.kN : Int) ≤ 9223372036854775807 := by omega
  clear h hs hx hy hkl hi hb hnn hpp hWI
  go_enter Try.func74, Try.ntmps74
  go_upto_if 23 with fail
  go_cut [9] (fun c wx => wx = w ∧ c = .int .i64 i)
  case first =>
    by_cases he : b = -1
    · have e1 : (b != -1) = false := by rw [he]; rfl
      have e2 := hIL he
      clear he
      go_wp2
      go_meet
      exact ⟨rfl, by rw [e2]⟩
    · have e1 : (b != -1) = true := bne_iff_ne.2 he
      have CX := CX.out he
      clear he
      go_wp2_with (go_at_call 34; (with_reducible refine CX.mono ?_); rintro e w3 ⟨rfl, rfl⟩)
      go_meet
      exact ⟨rfl, rfl⟩
  case rest =>
    obtain ⟨rfl, rfl⟩ := hcut
    go_upto_region 4 with fail
    go_region_with (go_at_call 81; rw [HWI.out]; (refine CI.out.mono ?_); rintro e w6 ⟨v6, rfl, ho6, hg6, hb6⟩; obtain ⟨g6, cap6, rfl⟩ := own_some ho6 (Nat.succ_pos _); have MID := WK2.out.mid hg6 (fun b' e => by rw [HKR.out b' e]; omega); have p0 := MID.c0; have f6 := MID.gfree (p * 10 + 6); have f5 := MID.gfree (n * 10 + 5); have c6 := MID.cells p y 6 _ HY.out rfl; have c5 := MID.cells n x 5 _ HX.out rfl; have hne : n * 10 + 5 ≠ p * 10 + 6 := (by omega); have HO6 := Lib.hid ho6; have HG6 := Lib.hid hg6; have HB6 := Lib.hid hb6; clear ho6 hg6 hb6 MID)
    all_goals go_wp2
    all_goals
      have W7 := WK2.out.setK HY.out HG6.out HO6.out HB6.out HINK.out
      have hxn : (M.set p (withK y (some ⟨g6, 0, none⟩) (y.kN + 1) cap6 (insB y.core.kids b n)))[n]? = some x := by rw [List.getElem?_set_ne (fun e => hnp e.symm)]; exact HX.out
      have W8 := W7.setP hxn HP64.out
      have hsz := HBI.out.size
      have T8 := (((Turn.of_below (ρ := ρ) HBI.out).grown HG6.out (fun k e => .inr (by rw [HKR.out k e]; omega))).setCell (b := g) (.inr (by rw [WK2.out.grole]; decide)) (p * 10 + 6) (.slice (some ⟨g6, 0, none⟩) (y.kN + 1) cap6)).setCell (b := g) (.inr (by rw [WK2.out.grole]; decide)) (n * 10 + 5) (.int .i64 (p : Int))
      exact bodyPost_ret (v := .tuple #[]) (by simp [results, Try.results74]) rfl ⟨rfl, _, _, v, N, W8, T8, upd_old (fun k e => (HB6.out k e).imp (HKR.out k) (fun h => Nat.le_trans hsz h)), ⟨_, _, rfl⟩, rfl⟩
theorem stand_core {n p : Nat} {x y : NodeD} (hx : M[n]? = some x) (hy : M[p]? = some y) (hnp : n ≠ p) {b : Int} {a : Option Addr} {l c : Nat} : coreL ((M.set p (withK y a l c (insB y.core.kids b n))).set n (withP x p)) = mvIn (coreL M) n p b := by
  refine ((core_set2 hx hy hnp).cong (fun j c hc => ⟨rfl, ?_, rfl⟩)).eq
  by_cases e : j = p
  · subst e
    rw [coreL_get hy] at hc
    rw [if_pos rfl, if_pos rfl, ← Option.some.inj hc]
  · rw [if_neg e, if_neg e]
end
end Go.Proofs.Ytnjoimedilonnaa
namespace Go.Proofs.Ytnjoimedilonnaa
open Go.RowKit Go.Maps Go.WideMaps
abbrev natL (t : List Nat) : List Int := t.map Int.ofNat
theorem natL_get {t : List Nat} {k : Nat} {z : Int} (h : (natL t)[k]? = some z) : ∃ i : Nat, t[k]? = some i ∧ z = i := by
  unfold natL at h
  rw [List.getElem?_map] at h
  cases hi : t[k]? with
  | none => rw [hi] at h; cases h
  | some i => rw [hi] at h; exact ⟨i, rfl, (Option.some.inj h).symm⟩
theorem IntRow.stay {W V : World} {a : Option Addr} {len cap : Nat} {l : List Int} (h : IntRow W a len cap l) {r : Option Nat} (hg : W.grownBy V r) (hne : ∀ b o, a = some ⟨b, o, none⟩ → some b ≠ r) : IntRow V a len cap l := by
  refine ⟨⟨h.row.hlen, h.row.hcap, h.row.hmax, h.row.henc, ?_⟩, h.inb, h.hnil⟩
  rcases h.row.cells with h0 | ⟨b, off, ha, hlt, hc⟩
  · exact .inl h0
  · refine .inr ⟨b, off, ha, Nat.lt_of_lt_of_le hlt hg.size, fun i x j v hx hv => ?_⟩
    rw [World.cell?_of_block (w := W) (hg.block b hlt (hne b off ha))]
    exact hc i x j v hx hv
end Go.Proofs.Ytnjoimedilonnaa
namespace Go.Proofs.Ytnjoimedilonnaa
theorem step_wpS {P : Program} {ops : Array Oper} {o : Oper} {a : Act} {w : World} {K : Act → World → Prop} {Q : Exit → Act → World → Prop} {E : Prop} (hg : o.guard = none) (h : Oper.wp P o a w K Q) : if Region.wanted o (yielded ops a.tmps) = true then Oper.wp P o a w K Q else E := by
  have hw : Region.wanted o (yielded ops a.tmps) = true := by simp [Region.wanted, hg]
  rw [if_pos hw]
  exact h
end Go.Proofs.Ytnjoimedilonnaa
