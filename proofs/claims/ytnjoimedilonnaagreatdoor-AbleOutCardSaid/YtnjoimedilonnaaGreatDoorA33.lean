/- Texts joined in build order: ChangeAdd Reader ReaderQuo. -/
import Derived.Test.YtnjoimedilonnaaGreatDoorA31
import Derived.Test.YtnjoimedilonnaaGreatDoorA20
import Derived.Test.YtnjoimedilonnaaGreatDoorA18
import Derived.Test.YtnjoimedilonnaaGreatDoorA28
namespace Go.Proofs.YtnjoimedilonnaaGreatDoor
open Go.RowKit
def addR (ρ : Nat → Nat) (g g2 : Nat) : Nat → Nat := fun b => if b = g2 then 2 else if b = g then 5 else ρ b
section
variable {ρ : Nat → Nat} {W W1 : World} {pw g cap len : Nat} {m : Int} {M : List NodeD} {v : Value} {N : List NoteD}
theorem addR_other {g2 b : Nat} (h1 : b ≠ g2) (h2 : b ≠ g) : addR ρ g g2 b = ρ b := by unfold addR; rw [if_neg h1, if_neg h2]
theorem addR_on {g2 b : Nat} (h : ρ b ≠ 0) : addR ρ g g2 b ≠ 0 := by
  unfold addR
  split
  · decide
  · split
    · decide
    · exact h
theorem Wk.add (h : Wk ρ W pw g cap len m M v N) {x : NodeD} {g2 cap2 : Nat} (hx : NodeOk W x) (hka : x.kA = none) (hks : x.core.kids = []) (har : ∀ b off, x.aA = some ⟨b, off, none⟩ → 0 < x.aN → ρ b = 0 ∧ Aft ρ b)
    (hg : W.grownBy W1 (some g)) (ho : W1.ownsRow 0 35 10 (.slice (some ⟨g2, 0, none⟩) (len + 1) cap2) (len + 1) ((M ++ [x]).flatMap encN)) (hat : g2 = g ∨ g2 = W.heap.size) :
    Wk (addR ρ g g2) (W1.setCell ⟨pw, 0, none⟩ (.slice (some ⟨g2, 0, none⟩) (len + 1) cap2)) pw g2 cap2 (len + 1) m (M ++ [x]) v N := by
  have hkn : x.kN = 0 := by have := hx.kids.hlen; rw [hks] at this; exact this.symm
  have hkc : x.kC = 0 := hx.kids.hnil hka
  have two : ∀ b, b < W.heap.size → ρ b ≠ 2 → b ≠ g2 ∧ b ≠ g := fun b hb h2 => by
    have hne : b ≠ g := fun e => h2 (by rw [e]; exact h.grole)
    exact ⟨by rcases hat with e | e <;> omega, hne⟩
  have rol : ∀ b, b < W.heap.size → ρ b ≠ 2 → addR ρ g g2 b = ρ b := fun b hb h2 => addR_other (two b hb h2).1 (two b hb h2).2
  have g2lt : g2 < W1.heap.size := own_block_lt ho rfl
  have pne : pw ≠ g2 ∧ pw ≠ g := two pw h.plt (by rw [h.prole]; decide)
  have same : ∀ b, b < W.heap.size → ρ b ≠ 2 → ρ b ≠ 1 → (W1.setCell ⟨pw, 0, none⟩ (.slice (some ⟨g2, 0, none⟩) (len + 1) cap2)).heap[b]? = W.heap[b]? := fun b hb h2 h1 =>
    (Below.heap_setCell _ _ _ b (fun e => h1 (by have e : b = pw := e; rw [e]; exact h.prole))).trans (hg.block b hb (fun e => (two b hb h2).2 (by injection e)))
  have cel : ∀ b o, b < W.heap.size → ρ b ≠ 2 → ρ b ≠ 1 → (W1.setCell ⟨pw, 0, none⟩ (.slice (some ⟨g2, 0, none⟩) (len + 1) cap2)).cell? ⟨b, o, none⟩ = W.cell? ⟨b, o, none⟩ := fun b o hb h2 h1 => World.cell?_of_block (w := W) (a := ⟨b, o, none⟩) (same b hb h2 h1)
  have sp := hg.block pw h.plt (fun e => pne.2 (by injection e))
  have pc : ∀ o, W1.cell? ⟨pw, o, none⟩ = W.cell? ⟨pw, o, none⟩ := fun o => World.cell?_of_block (w := W) (a := ⟨pw, o, none⟩) sp
  have hsz : W.heap.size ≤ (W1.setCell ⟨pw, 0, none⟩ (.slice (some ⟨g2, 0, none⟩) (len + 1) cap2)).heap.size := by simpa [World.setCell] using hg.size
  have ho2 := own_boxCell (o := 0) ho (g := pw) (fun e => by
    have e : some g2 = some pw := e
    injection e with e
    exact pne.1 e.symm) (.slice (some ⟨g2, 0, none⟩) (len + 1) cap2)
  have hl2 : (M ++ [x]).length = len + 1 := by rw [List.length_append, h.hlen]; rfl
  obtain ⟨a3, c3, e3, hr, _⟩ := SRow.of_own (fun z _ => encN_len z) hl2 ho2
  injection e3 with e4 _ e5
  subst e4 e5
  have arow : ∀ {a : Option Addr} {n c : Nat} {l : AL}, AttrRow W a n c l → (∀ b off, a = some ⟨b, off, none⟩ → 0 < n → ρ b = 0) → AttrRow (W1.setCell ⟨pw, 0, none⟩ (.slice (some ⟨g2, 0, none⟩) (len + 1) cap2)) a n c l := fun hr h0 =>
    ⟨hr.row.keep hsz (fun b off he hp o => cel b o (attr_block_lt hr he hp) (by rw [h0 b off he hp]; decide) (by rw [h0 b off he hp]; decide)), hr.small, hr.hnil⟩
  have getM : ∀ {i : Nat} {z : NodeD}, (M ++ [x])[i]? = some z → (M[i]? = some z) ∨ (i = len ∧ z = x) := fun {i z} hz => by
    by_cases hi : i < len
    · rw [List.getElem?_append_left (by rw [h.hlen]; exact hi)] at hz
      exact .inl hz
    · rw [List.getElem?_append_right (by rw [h.hlen]; omega), h.hlen] at hz
      have := (List.getElem?_eq_some_iff.1 hz).1
      simp at this
      have hi : i = len := by omega
      subst hi
      rw [Nat.sub_self] at hz
      exact .inr ⟨rfl, (Option.some.inj hz).symm⟩
  refine ⟨hl2, hr.hcap, hr.hmax, fun i z j u hz hu => ?_, fun o => own_free ho2 o, by simpa [World.setCell] using g2lt, fun i z hz => ?_, fun i z b hz hb => ?_, fun z hz => ?_, fun z hz b off he hp => ?_, fun z hz => ?_,
    World.cell?_setCell_same _ _ _ ((pc 0).trans h.c0), (World.cell?_setCell_other _ _ _ _ (fun e => by injection e with _ e; omega)).trans ((pc 1).trans h.c1), (World.cell?_setCell_other _ _ _ _ (fun e => by injection e with _ e; omega)).trans ((pc 2).trans h.c2),
    fun o => by rw [World.frozen?_setCell]; exact (World.frozen?_of_block (w := W) (a := ⟨pw, o, none⟩) sp).trans (h.pfree o), Nat.lt_of_lt_of_le h.plt hsz,
    own_same h.nown (fun b hb => same b (own_block_lt h.nown hb) (by rw [h.nrole b hb]; decide) (by rw [h.nrole b hb]; decide)), fun b hb => by rw [rol b (own_block_lt h.nown hb) (by rw [h.nrole b hb]; decide)]; exact h.nrole b hb, h.nok,
    by rw [addR_other pne.1 pne.2]; exact h.prole, by unfold addR; rw [if_pos rfl], fun b hb => ?_, ho2⟩
  · rcases hr.cells with h0 | ⟨b, off, ha, _, hc⟩
    · omega
    · injection ha with ha
      injection ha with e1 e2
      subst e1 e2
      have := hc i z j u hz hu
      rwa [Nat.zero_add] at this
  · rcases getM hz with hz | ⟨rfl, rfl⟩
    · exact own_same (h.kown i z hz) (fun b hb => same b (own_block_lt (h.kown i z hz) hb) (by rw [h.krole i z b hz hb]; omega) (by rw [h.krole i z b hz hb]; omega))
    · rw [hka, hkn, hkc, hks]
      exact World.ownsRow_nil _ _ _ _
  · rcases getM hz with hz | ⟨rfl, rfl⟩
    · have hlt := own_block_lt (h.kown i z hz) hb
      rw [rol b hlt (by rw [h.krole i z b hz hb]; omega)]
      exact h.krole i z b hz hb
    · rw [hka] at hb
      cases hb
  · rcases List.mem_append.1 hz with hz | hz
    · exact arow (h.aok z hz) (fun b off he hp => (h.arole z hz b off he hp).1)
    · rw [List.mem_singleton.1 hz]
      exact arow hx.attrs (fun b off he hp => (har b off he hp).1)
  · have key : ∀ {y : NodeD}, AttrRow W y.aA y.aN y.aC y.core.attrs → y.aA = some ⟨b, off, none⟩ → 0 < y.aN → (ρ b = 0 ∧ Aft ρ b) → addR ρ g g2 b = 0 ∧ Aft (addR ρ g g2) b := fun hr he hp h1 => by
      have hlt := attr_block_lt hr he hp
      exact ⟨(rol b hlt (by rw [h1.1]; decide)).trans h1.1, h1.2.turn hlt (fun k _ h2 => addR_on h2)⟩
    rcases List.mem_append.1 hz with hz | hz
    · exact key (h.aok z hz) he hp (h.arole z hz b off he hp)
    · rw [List.mem_singleton.1 hz] at he hp
      exact key hx.attrs he hp (har b off he hp)
  · rcases List.mem_append.1 hz with hz | hz
    · exact h.fld z hz
    · rw [List.mem_singleton.1 hz]
      exact ⟨hx.name, hx.is, hx.data, hx.kind, hx.parent, hx.host, hx.under, hx.doc, hx.kids.inb⟩
  · have hb3 : W1.heap.size ≤ b := by simpa [World.setCell] using hb
    have h1 := hg.size
    have h2 := h.glt
    rw [addR_other (by omega) (by omega)]
    exact h.fresh b (by omega)
def AddPost (ρ : Nat → Nat) (w : World) (pw g len : Nat) (m : Int) (M : List NodeD) (v : Value) (N : List NoteD) (c : Core) (e : Ending) (w' : World) : Prop :=
  e = .returned (.int .i64 (len : Int)) ∧ ∃ (g2 cap2 : Nat) (y : NodeD), y.core = c ∧ Wk (addR ρ g g2) w' pw g2 cap2 (len + 1) m (M ++ [y]) v N ∧ Turn ρ w w' ∧ (g2 = g ∨ w.heap.size ≤ g2) ∧ ∀ (i : Nat) x j u, M[i]? = some x → (encN x)[j]? = some u → w'.cell? ⟨g, i * 10 + j, none⟩ = some u
theorem NBox.one {w : World} {x : NodeD} (h : NodeOk w x) : NBox w (w.alloc (nodB x)) w.heap.size x := by
  have c : ∀ (j : Nat), (w.alloc (nodB x)).cell? ⟨w.heap.size, j, none⟩ = (#[.int .i64 x.core.kind, .string x.core.name, .string x.core.is, .string x.core.data, .slice x.aA x.aN x.aC, .int .i64 x.core.parent, .slice x.kA x.kN x.kC, .int .i64 x.core.host, .int .i64 x.core.under, .int .i64 x.core.doc] : Array Value)[j]? := fun j => cell_of_row _ w.heap.size j _ 35 (0, 0) (heap_alloc_new _ _)
  exact ⟨by simp, c 0, c 1, c 2, c 3, c 4, c 5, c 6, c 7, c 8, c 9, h.below (below_box w _)⟩
theorem Wk.addDone {w V : World} (h : Wk ρ w pw g cap len m M v N) (hb : Below w.heap.size w V) {c : Core} {y : NodeD} (hy : NodeOk V y) (hyc : y.core = aloneC c len) (hyk : y.kA = none) (hya : ∀ b off, y.aA = some ⟨b, off, none⟩ → w.heap.size ≤ b) {g2 cap2 : Nat}
    (ho : W1.ownsRow 0 35 10 (.slice (some ⟨g2, 0, none⟩) (len + 1) cap2) (len + 1) (M.flatMap encN ++ encN y)) (hold : W1.ownsRow 0 35 10 (.slice (some ⟨g, 0, none⟩) len cap) len (M.flatMap encN))
    (hg : V.grownBy W1 (Value.ownBlock (.slice (some ⟨g, 0, none⟩) len cap))) (hat : Value.ownBlock (.slice (some ⟨g, 0, none⟩) len cap) = some g2 ∨ g2 = V.heap.size) :
    AddPost ρ w pw g len m M v N (aloneC c len) (.returned (.int .i64 (len : Int))) (W1.setCell ⟨pw, 0, none⟩ (.slice (some ⟨g2, 0, none⟩) (len + 1) cap2)) := by
  have hg : V.grownBy W1 (some g) := hg
  have hat : g2 = g ∨ g2 = V.heap.size := hat.imp (fun e => by have e : some g = some g2 := e; injection e with e; exact e.symm) id
  have hV := h.keep hb
  have hw := hb.size
  have ho : W1.ownsRow 0 35 10 (.slice (some ⟨g2, 0, none⟩) (len + 1) cap2) (len + 1) ((M ++ [y]).flatMap encN) := by
    rw [List.flatMap_append, List.flatMap_cons, List.flatMap_nil, List.append_nil]
    exact ho
  refine ⟨rfl, g2, cap2, y, hyc, hV.add hy hyk (by rw [hyc]; rfl) (fun b off e _ => ?_) hg ho hat, ?_, hat.imp id (fun e => by omega), fun i x j u hx hu => ?_⟩
  · have h1 := hya b off e
    have h2 := h.plt
    exact ⟨h.fresh b h1, pw, by rw [h.prole]; decide, by omega⟩
  · exact ((Turn.of_below hb).grown hg (fun k e => .inr (by injection e with e; rw [← e, h.grole]; decide))).setCell (.inr (by rw [h.prole]; decide)) _ _
  · obtain ⟨a3, c3, e3, hr, _⟩ := SRow.of_own (fun z _ => encN_len z) h.hlen hold
    injection e3 with e4 _ _
    subst e4
    have hi : i < len := by rw [← h.hlen]; exact (List.getElem?_eq_some_iff.1 hx).1
    rcases hr.cells with h0 | ⟨b, off, ha, _, hc⟩
    · omega
    · injection ha with ha
      injection ha with e1 e2
      subst e1 e2
      have := hc i x j u hx hu
      rw [Nat.zero_add] at this
      refine (World.cell?_setCell_other _ _ _ _ (fun e => ?_)).trans this
      injection e with e _
      have h1 := h.prole
      have h2 := h.grole
      rw [e] at h1
      omega
set_option maxHeartbeats 8000000 in
set_option maxRecDepth 100000 in
theorem madd_any (w : World) (h : Wk ρ w pw g cap len m M v N) (hl1k : len ≤ 1000) (x : NodeD) (hx : NodeOk w x) (hsx : smallX x) :
    Calls Tryz.prog 122 #[ptrV pw, nodVal x] w (AddPost ρ w pw g len m M v N (aloneC x.core len)) := by
  have CA : Hid (∀ W, NodeOk W x → Calls Tryz.prog 68 #[nodVal x, .int .i64 len] W (AlonePost W x.core len)) := Lib.hid (fun W h => alone_any x len W h ⟨by omega, by omega⟩ hsx.1)
  have hxd : x.core.data.size ≤ 9223372036854775807 := hx.data
  have HW := Lib.hid h
  obtain ⟨w0, hw0, WK, NB, HB0⟩ : ∃ w0, w.alloc (nodB x) = w0 ∧ Hid (Wk ρ w0 pw g cap len m M v N) ∧ Hid (NBox w w0 w.heap.size x) ∧ Hid (Below w.heap.size w w0) := ⟨_, rfl, Lib.hid (h.keep (below_box _ _)), Lib.hid (NBox.one hx), Lib.hid (below_box _ _)⟩
  have HW0 := Lib.hid hw0
  have d0 := WK.out.c0
  have hl64 : (len : Int) + 1 ≤ 9223372036854775807 := by omega
  obtain ⟨i0, hi0, hz0, hz1, hz2⟩ := info_parts node_info
  clear h hx hsx hw0
  go_enter Tryz.func122, Tryz.ntmps122
  go_upto_region 1 with fail
  rw [HW0.out]
  go_upto_region 2 with fail
  obtain ⟨-, x0, x1, x2, x3, x4, x5, x6, x7, x8, x9, -⟩ := NB.out
  go_region_law (first
    | (refine step_wpS rfl ?_; (go_simp; go_at_call 68; (refine (CA.out _ (NB.out.ok.below (Below.refl _ _).drew)).mono ?_); intro e w3 hp; obtain ⟨y, rfl, hyc, hyo, hb, hya, hyk⟩ := hp; have hb := (Below.refl _ _).drew.trans hb; have HY := Lib.hid hyo; have HYC := Lib.hid hyc; have HYA := Lib.hid hya; have HYK := Lib.hid hyk; have WK := Lib.hid (WK.out.keep hb); have d0 := WK.out.c0; have d0a := fun o => (WK.out.keep (below_box w3 o)).c0; have WK1 := Lib.hid (WK.out.keep (below_box w3 (nodB y))); have HY1 := Lib.hid (HY.out.below (below_box w3 (nodB y))); have HBV := Lib.hid (HB0.out.trans ((hb.trans ((below_box w3 (nodB y)).mono hb.size)).mono HB0.out.size)); have NW := Lib.hid (World.news_of_block (heap_alloc_new w3 (nodB y))); clear hb hyo hyc hya hyk))
    | (refine step_append_keep rfl (.tmp 17) (.tmp 21) 22 rfl 0 35 i0 _ 10 136 Tryz.underlying22 hi0 hz0 hz1 hz2 rfl (by decide) _ len (M.flatMap encN) rfl WK1.out.gown ⟨w3.heap.size, 0, none⟩ 1 1 (encN y) rfl rfl NW.out (encN_one y) (by decide) (by unfold maxLen; omega) (by omega) (Nat.zero_le _) ?_; intro g2 cap2 w4 hown1 hold hgrow hat hlt; have AD := Lib.hid (HW.out.addDone HBV.out HY1.out HYC.out HYK.out (fun b off e => Nat.le_trans HB0.out.size (HYA.out b off e)) hown1 hold hgrow hat); have sp := hgrow.block pw WK1.out.plt (fun e => (by have e : some pw = some g := e; injection e with e; have h1 := WK1.out.prole; have h2 := WK1.out.grole; rw [e] at h1; omega)); have d0 := (World.cell?_of_block (a := ⟨pw, 0, none⟩) sp).trans WK1.out.c0; have df := (World.frozen?_of_block (a := ⟨pw, 0, none⟩) sp).trans (WK1.out.pfree 0); clear hown1 hold hgrow hat hlt sp))
  all_goals go_wp2
  all_goals
    go_ret
    exact AD.out
end
end Go.Proofs.YtnjoimedilonnaaGreatDoor
namespace Go.Proofs.YtnjoimedilonnaaGreatDoor
open Go.RowKit
structure Gone (pr : Nat) (ρ ρ' : Nat → Nat) (w w' : World) : Prop where
  os : w'.os = w.os
  tape : w'.tape = w.tape
  output : w'.output = w.output
  size : w.heap.size ≤ w'.heap.size
  quiet : ∀ b, b < w.heap.size → b ≠ pr → (ρ b = 0 ∨ ρ b = 5) → w'.heap[b]? = w.heap[b]?
  old : ∀ b, b < w.heap.size → (ρ b = 0 ∨ ρ b = 5) → ρ' b = ρ b
theorem Gone.trans {pr : Nat} {ρ ρ1 ρ2 : Nat → Nat} {a b c : World} (h : Gone pr ρ ρ1 a b) (k : Gone pr ρ1 ρ2 b c) : Gone pr ρ ρ2 a c :=
  ⟨k.os.trans h.os, k.tape.trans h.tape, k.output.trans h.output, Nat.le_trans h.size k.size, fun i hi hne h0 => (k.quiet i (Nat.lt_of_lt_of_le hi h.size) hne (by rw [h.old i hi h0]; exact h0)).trans (h.quiet i hi hne h0), fun i hi h0 => (k.old i (Nat.lt_of_lt_of_le hi h.size) (by rw [h.old i hi h0]; exact h0)).trans (h.old i hi h0)⟩
theorem Gone.of_below {pr : Nat} {ρ : Nat → Nat} {w w' : World} (h : Below w.heap.size w w') : Gone pr ρ ρ w w' := ⟨h.os, h.tape, h.output, h.size, fun b hb _ _ => h.block b hb, fun _ _ _ => rfl⟩
theorem Gone.refl (pr : Nat) (ρ : Nat → Nat) (w : World) : Gone pr ρ ρ w w := Gone.of_below (Below.refl _ _)
theorem Gone.of_turn {pr : Nat} {ρ ρ' : Nat → Nat} {w w' : World} (h : Turn ρ w w') (ho : ∀ b, b < w.heap.size → (ρ b = 0 ∨ ρ b = 5) → ρ' b = ρ b) : Gone pr ρ ρ' w w' := ⟨h.os, h.tape, h.output, h.size, fun b hb _ h0 => h.quiet b hb h0, ho⟩
theorem Gone.rest {pr : Nat} {ρ ρ' : Nat → Nat} {w w' : World} (h : Gone pr ρ ρ' w w') (o : Nat) (u : Value) : Gone pr ρ ρ' w (w'.setCell ⟨pr, o, none⟩ u) :=
  ⟨h.os, h.tape, h.output, by simpa [World.setCell] using h.size, fun b hb hne h0 => (Below.heap_setCell _ _ _ b hne).trans (h.quiet b hb hne h0), h.old⟩
theorem Gone.cell {pr : Nat} {ρ ρ' : Nat → Nat} {w w' : World} (h : Gone pr ρ ρ' w w') {b o : Nat} (hb : b < w.heap.size) (hne : b ≠ pr) (h0 : ρ b = 0 ∨ ρ b = 5) : w'.cell? ⟨b, o, none⟩ = w.cell? ⟨b, o, none⟩ := World.cell?_of_block (w := w) (a := ⟨b, o, none⟩) (h.quiet b hb hne h0)
theorem Gone.frozen {pr : Nat} {ρ ρ' : Nat → Nat} {w w' : World} (h : Gone pr ρ ρ' w w') {b o : Nat} (hb : b < w.heap.size) (hne : b ≠ pr) (h0 : ρ b = 0 ∨ ρ b = 5) : w'.frozen? ⟨b, o, none⟩ = w.frozen? ⟨b, o, none⟩ := World.frozen?_of_block (w := w) (a := ⟨b, o, none⟩) (h.quiet b hb hne h0)
structure Rd (ρ : Nat → Nat) (W : World) (pr pw g cap len : Nat) (m : Int) (M : List NodeD) (v : Value) (N : List NoteD) (l : BL) (doc : Int) : Prop where
  wk : Wk ρ W pw g cap len m M v N
  r0 : W.cell? ⟨pr, 0, none⟩ = some (ptrV pw)
  r1 : W.cell? ⟨pr, 1, none⟩ = some (.string (strB l))
  r2 : W.cell? ⟨pr, 2, none⟩ = some (.int .i64 doc)
  rf : ∀ o, W.frozen? ⟨pr, o, none⟩ = false
  rlt : pr < W.heap.size
  role : ρ pr = 5
  small : smallF M
  hdoc : In64 doc
section
variable {ρ : Nat → Nat} {W W2 : World} {pr pw g cap len : Nat} {m : Int} {M : List NodeD} {v : Value} {N : List NoteD} {l l2 : BL} {doc : Int}
theorem Rd.keep (h : Rd ρ W pr pw g cap len m M v N l doc) (hb : Below W.heap.size W W2) : Rd ρ W2 pr pw g cap len m M v N l doc :=
  ⟨h.wk.keep hb, (hb.cell (p := ⟨pr, 0, none⟩) h.rlt).trans h.r0, (hb.cell (p := ⟨pr, 1, none⟩) h.rlt).trans h.r1, (hb.cell (p := ⟨pr, 2, none⟩) h.rlt).trans h.r2, fun o => (hb.frozen (p := ⟨pr, o, none⟩) h.rlt).trans (h.rf o), Nat.lt_of_lt_of_le h.rlt hb.size, h.role, h.small, h.hdoc⟩
theorem Rd.rest (h : Rd ρ W pr pw g cap len m M v N l doc) (l2 : BL) : Rd ρ (W.setCell ⟨pr, 1, none⟩ (.string (strB l2))) pr pw g cap len m M v N l2 doc :=
  ⟨h.wk.otherR (.inr h.role) 1 _, (World.cell?_setCell_other _ _ _ _ (fun e => by injection e with _ e; omega)).trans h.r0, World.cell?_setCell_same _ _ _ h.r1, (World.cell?_setCell_other _ _ _ _ (fun e => by injection e with _ e; omega)).trans h.r2, fun o => by rw [World.frozen?_setCell]; exact h.rf o, by simpa [World.setCell] using h.rlt, h.role, h.small, h.hdoc⟩
def StepPost (ρ : Nat → Nat) (w : World) (pr pw g cap len : Nat) (m : Int) (M : List NodeD) (v : Value) (N : List NoteD) (l2 : BL) (doc : Int) (u : Value) (e : Ending) (w' : World) : Prop :=
  e = .returned u ∧ Rd ρ w' pr pw g cap len m M v N l2 doc ∧ Gone pr ρ ρ w w'
theorem skipM_some {l p l2 : BL} (h : skipM l p = some l2) : Lib.hasPrefix l p = true ∧ Lib.trimPrefix l p = l2 := by
  unfold skipM at h
  by_cases hp : p.isPrefixOf l = true
  · rw [if_pos hp] at h
    have : Lib.hasPrefix l p = true := hp
    refine ⟨this, ?_⟩
    unfold Lib.trimPrefix
    rw [if_pos this]
    exact Option.some.inj h
  · rw [if_neg hp] at h
    cases h
theorem skipM_none {l p : BL} (h : skipM l p = none) : Lib.hasPrefix l p = false ∧ Lib.trimPrefix l p = l := by
  unfold skipM at h
  by_cases hp : p.isPrefixOf l = true
  · rw [if_pos hp] at h
    cases h
  · have : Lib.hasPrefix l p = false := Bool.eq_false_iff.2 hp
    refine ⟨this, ?_⟩
    unfold Lib.trimPrefix
    rw [if_neg (by rw [this]; decide)]
set_option maxHeartbeats 1000000 in
set_option maxRecDepth 100000 in
theorem skip_core (w : World) (h : Rd ρ w pr pw g cap len m M v N l doc) (p : BL) :
    Calls Tryz.prog 106 #[ptrV pr, .string ⟨p.toArray⟩] w (StepPost ρ w pr pw g cap len m M v N (Lib.trimPrefix l p) doc (.bool (Lib.hasPrefix l p))) := by
  have CP : Hid (Calls Tryz.prog 118 #[.string (strB l), .string ⟨p.toArray⟩] w fun e w' => e = .returned (.tuple #[.string (strB (Lib.trimPrefix l p)), .bool (Lib.hasPrefix l p)]) ∧ w' = w) := Lib.hid (cutPrefix_any (strB l) ⟨p.toArray⟩ w)
  have HR := Lib.hid (h.rest (Lib.trimPrefix l p))
  have HF := Lib.hid ((Gone.refl pr ρ w).rest 1 (.string (strB (Lib.trimPrefix l p))))
  obtain ⟨S, hS⟩ : ∃ S, strB l = S := ⟨_, rfl⟩
  obtain ⟨T, hT⟩ : ∃ T, strB (Lib.trimPrefix l p) = T := ⟨_, rfl⟩
  obtain ⟨q, hq⟩ : ∃ q, Lib.hasPrefix l p = q := ⟨_, rfl⟩
  have r1 := h.r1
  rw [hS] at CP r1
  rw [hT, hq] at CP
  rw [hT] at HR HF
  rw [hq]
  have rf := h.rf 1
  clear h hS hT hq
  go_enter Tryz.func106, Tryz.ntmps106
  go_wp2_with (go_at_call 118; (with_reducible refine CP.out.mono ?_); rintro e w' ⟨rfl, rfl⟩)
  go_ret
  exact ⟨rfl, HR.out, HF.out⟩
theorem skip_hit (w : World) (h : Rd ρ w pr pw g cap len m M v N l doc) (p : BL) (hs : skipM l p = some l2) :
    Calls Tryz.prog 106 #[ptrV pr, .string ⟨p.toArray⟩] w (StepPost ρ w pr pw g cap len m M v N l2 doc (.bool true)) := by
  have := skip_core w h p
  rwa [(skipM_some hs).1, (skipM_some hs).2] at this
theorem skip_miss (w : World) (h : Rd ρ w pr pw g cap len m M v N l doc) (p : BL) (hs : skipM l p = none) :
    Calls Tryz.prog 106 #[ptrV pr, .string ⟨p.toArray⟩] w (StepPost ρ w pr pw g cap len m M v N l doc (.bool false)) := by
  have := skip_core w h p
  rwa [(skipM_none hs).1, (skipM_none hs).2] at this
theorem strB_upto (l : BL) (k : Nat) : (strB l).extract 0 k = strB (l.take k) := by
  apply ByteArray.ext
  simp [strB, ByteArray.data_extract]
theorem strB_from (l : BL) (k : Nat) : (strB l).extract k (strB l).size = strB (l.drop k) := by
  apply ByteArray.ext
  rw [strB_size]
  simp [strB, ByteArray.data_extract, List.take_of_length_le]
theorem indexAny_lt (cs : BL) : ∀ l : BL, Lib.indexAny l cs < (l.length : Int)
  | [] => by simp [Lib.indexAny]
  | b :: r => by
    have ih := indexAny_lt cs r
    have hl : ((b :: r).length : Int) = (r.length : Int) + 1 := by simp
    by_cases h1 : cs.contains b = true
    · rw [Lib.indexAny, if_pos h1, hl]; omega
    · by_cases h2 : (Lib.indexAny r cs == -1) = true
      · rw [Lib.indexAny, if_neg h1, if_pos h2, hl]; omega
      · rw [Lib.indexAny, if_neg h1, if_neg h2, hl]; omega
set_option maxHeartbeats 2000000 in
set_option maxRecDepth 100000 in
theorem word_any (w : World) (h : Rd ρ w pr pw g cap len m M v N l doc) {n : BL} (hw : wordM l = some (n, l2)) :
    Calls Tryz.prog 119 #[ptrV pr] w (StepPost ρ w pr pw g cap len m M v N l2 doc (.string (strB n))) := by
  unfold wordM at hw
  by_cases ho : okM l = true
  · rw [if_pos ho] at hw
    have hw := Option.some.inj hw
    injection hw with hn hl2
    subst hn hl2
    unfold okM at ho
    simp only [Bool.and_eq_true, decide_eq_true_eq, List.all_eq_true] at ho
    obtain ⟨hlen, hasc⟩ := ho
    obtain ⟨z, hz⟩ : ∃ z, Lib.indexAny l [33, 32, 61, 62] = z := ⟨_, rfl⟩
    obtain ⟨k, hk⟩ : ∃ k, endM l = k := ⟨_, rfl⟩
    have hzk : z.toNat = k := by rw [← hk, ← hz]; rfl
    have hkl : k ≤ l.length := by
      have := indexAny_lt [33, 32, 61, 62] l
      rw [hz] at this
      omega
    have CI : Hid (Calls Tryz.prog 128 #[.string (strB l), .string ⟨#[33, 32, 61, 62]⟩] w fun e w' => e = .returned (.int .i64 z) ∧ Below w.heap.size w w') := Lib.hid (by
      have := indexAny_any (strB l) (strB [33, 32, 61, 62]) w (by rw [strB_size]; omega) (by decide) (fun j b hb => hasc b (List.mem_of_getElem? hb)) (fun j b hb => by
        have hb : ([33, 32, 61, 62] : BL)[j]? = some b := hb
        have := List.mem_of_getElem? hb
        simp at this
        rcases this with rfl | rfl | rfl | rfl <;> decide)
      rw [strB_data, strB_data, hz] at this
      exact this)
    have HK : Hid (∀ W, Below w.heap.size w W → Rd ρ W pr pw g cap len m M v N l doc) := Lib.hid (fun W hb => h.keep hb)
    have HU : Hid ((strB l).extract 0 k = strB (l.take k)) := Lib.hid (strB_upto l k)
    have HD : Hid ((strB l).extract k l.length = strB (l.drop k)) := Lib.hid (by have := strB_from l k; rwa [strB_size] at this)
    obtain ⟨S, hS⟩ : ∃ S, strB l = S := ⟨_, rfl⟩
    have hsz : S.size = l.length := by rw [← hS, strB_size]
    have r1 := h.r1
    rw [hS] at CI r1 HU HD
    have HS := Lib.hid hS
    have HKE := Lib.hid hk
    have hk0 : ((k : Int)).toNat = k := rfl
    have hks : (k : Int) ≤ (S.size : Int) := by rw [hsz]; omega
    rw [hk]
    have hplt := h.rlt
    clear h hS hk hz hasc hlen
    have hmx : (max z 0).toNat = k := by omega
    have hm0 : 0 ≤ max z 0 ∧ max z 0 ≤ (S.size : Int) := by omega
    have HMX := Lib.hid hmx
    clear hmx hzk hkl hk0 hks
    obtain ⟨q, hq⟩ : ∃ q, max z 0 = q := ⟨_, rfl⟩
    have HQ := Lib.hid hq
    rw [hq] at hm0
    clear hq
    go_enter Tryz.func119, Tryz.ntmps119
    go_upto_region 2 with (go_at_call 128; (with_reducible refine CI.out.mono ?_); rintro e w1 ⟨rfl, hb⟩; have HB := Lib.hid hb; have r1 := (HK.out _ hb).r1; rw [HS.out] at r1; have rf := (HK.out _ hb).rf 1; clear hb)
    rw [HQ.out]
    obtain ⟨hm0, hm1⟩ := hm0
    go_wp2
    go_ret
    have e1 : q.toNat = k := by rw [← HQ.out]; exact HMX.out
    refine ⟨?_, ?_, ?_⟩
    · show Ending.returned (Value.string (S.extract 0 q.toNat)) = _
      rw [e1, HU.out]
    · rw [e1, HD.out]
      exact (HK.out _ HB.out).rest _
    · exact (Gone.of_below HB.out).rest 1 _
  · rw [if_neg ho] at hw
    cases hw
end
end Go.Proofs.YtnjoimedilonnaaGreatDoor
namespace Go.Proofs.YtnjoimedilonnaaGreatDoor
open Go.RowKit
theorem below_both {B : Nat} {a b : World} (h : Below B a b) (p : Addr) (u : Value) : Below B (a.setCell p u) (b.setCell p u) := by
  refine ⟨h.os, h.tape, h.output, by simpa [World.setCell] using h.size, fun k hk => ?_⟩
  simp only [World.setCell, Array.getElem?_modify, h.block k hk]
theorem builder_far {T e : TypeId} {B b : Nat} {bs : List Value} {w : World} (h : Lib.IsBuilder T e B b bs w) {q : Nat} (hq : q < B) (o : Nat) (u : Value) : Lib.IsBuilder T e B b bs (w.setCell ⟨q, o, none⟩ u) := by
  have key : ∀ p, Lib.BuilderAt T e B b p bs w → Lib.BuilderAt T e B b p bs (w.setCell ⟨q, o, none⟩ u) := fun p ⟨hB, v, hb, hown, hne⟩ =>
    ⟨hB, v, (Below.heap_setCell _ _ _ b (fun e => by have e : b = q := e; omega)).trans hb, own_same hown (fun k hk => Below.heap_setCell _ _ _ k (fun e => by have e : k = q := e; have := (hown.lt k hk).1; omega)), hne⟩
  exact h.imp (key _) (key _)
theorem qM_34 (acc r : BL) : qM acc (34 :: r) = some (acc, r) := by
  rw [qM.eq_def]
  dsimp only
  rw [if_pos rfl]
theorem qM_92 (acc r : BL) (c : UInt8) : qM acc (92 :: c :: r) = if c = 34 ∨ c = 92 then qM (acc ++ [c]) r else none := by
  rw [qM.eq_def]
  dsimp only
  rw [if_neg (by decide), if_pos rfl]
theorem qM_92nil (acc : BL) : qM acc [92] = none := by
  rw [qM.eq_def]
  dsimp only
  rw [if_neg (by decide), if_pos rfl]
theorem qM_other {acc r : BL} {b : UInt8} (h1 : b ≠ 34) (h2 : b ≠ 92) : qM acc (b :: r) = qM (acc ++ [b]) r := by
  rw [qM.eq_def]
  dsimp only
  rw [if_neg h1, if_neg h2]
theorem byteCells_add (l : BL) (x : UInt8) : Lib.byteCells l ++ [.int .u8 x.toNat] = Lib.byteCells (l ++ [x]) := by simp [Lib.byteCells]
theorem qM_cons {acc : BL} {l1 : BL} {i : Nat} {r : BL × BL} (h : qM acc (l1.drop i) = some r) : ∃ x, l1[i]? = some x ∧ l1.drop i = x :: l1.drop (i + 1) := by
  rcases Nat.lt_or_ge i l1.length with hi | hi
  · exact ⟨l1[i], List.getElem?_eq_getElem hi, List.drop_eq_getElem_cons hi⟩
  · rw [List.drop_eq_nil_of_le hi] at h
    cases h
section
variable {ρ : Nat → Nat} {pr pw g cap len : Nat} {m : Int} {M : List NodeD} {v : Value} {N : List NoteD} {l l2 : BL} {doc : Int}
set_option maxHeartbeats 4000000 in
set_option maxRecDepth 100000 in
theorem quoted_any (w : World) (h : Rd ρ w pr pw g cap len m M v N l doc) {s : BL} (hq : quoM l = some (s, l2)) :
    Calls Tryz.prog 110 #[ptrV pr] w (StepPost ρ w pr pw g cap len m M v N l2 doc (.tuple #[.string (strB s), .bool true])) := by
  unfold quoM at hq
  by_cases hl : l.length ≤ 100000
  case neg => rw [if_neg hl] at hq; cases hq
  rw [if_pos hl] at hq
  cases hs : skipM l [34] with
  | none => rw [hs] at hq; cases hq
  | some l1 =>
  rw [hs] at hq
  have hq : qM [] l1 = some (s, l2) := hq
  have hl1 : l1.length ≤ 100000 := by
    have := (skipM_some hs).2
    have h2 := Lib.trimPrefix_le l [34]
    rw [this] at h2
    omega
  have CS : Hid (Calls Tryz.prog 106 #[ptrV pr, .string ⟨#[34]⟩] w (StepPost ρ w pr pw g cap len m M v N l1 doc (.bool true))) := Lib.hid (skip_hit w h [34] hs)
  have HQ := Lib.hid hq
  have hplt := h.rlt
  clear h hq hs hl
  go_enter Tryz.func110, Tryz.ntmps110
  go_upto_region 3 with (go_at_call 106; (with_reducible refine CS.out.mono ?_); rintro e w1 ⟨rfl, hR, hG⟩; have HR := Lib.hid hR; have HG := Lib.hid hG; clear hR hG)
  go_upto_region 4 with fail
  have IB0 := Lib.hid (Lib.fresh_isBuilder bdT 5 w1)
  have hb0 : Below w1.heap.size w1 (w1.alloc (.cells #[.pointer none, .slice none 0 0] bdT)) := below_box w1 _
  have HB0 := Lib.hid hb0
  have hpl1 : pr < w1.heap.size := HR.out.rlt
  obtain ⟨S, hS⟩ : ∃ S, strB l1 = S := ⟨_, rfl⟩
  have hsz : S.size = l1.length := by rw [← hS, strB_size]
  have hszI : (S.size : Int) = (l1.length : Int) := by rw [hsz]
  have HSX : Hid (∀ (i : Nat) (hi : i < S.size) x, l1[i]? = some x → S[i]'hi = x) := Lib.hid (fun i hi x hx => by
    subst hS
    have h1 : l1[i]? = some ((strB l1)[i]'hi) := Lib.data_getElem? (strB l1) i hi
    rw [hx] at h1
    exact (Option.some.inj h1).symm)
  have HR1 : Hid (∀ W, Below w1.heap.size w1 W → W.cell? ⟨pr, 1, none⟩ = some (.string S)) := Lib.hid (fun W hb => by rw [← hS]; exact (HR.out.keep hb).r1)
  have HRF : Hid (∀ W, Below w1.heap.size w1 W → W.frozen? ⟨pr, 1, none⟩ = false) := Lib.hid (fun W hb => (HR.out.keep hb).rf 1)
  have HDR : Hid (∀ k, S.extract k l1.length = strB (l1.drop k)) := Lib.hid (fun k => by rw [← hS]; have := strB_from l1 k; rwa [strB_size] at this)
  clear hS hb0
  obtain ⟨w2, hw2⟩ : ∃ w2, w1.alloc (.cells #[.pointer none, .slice none 0 0] bdT) = w2 := ⟨_, rfl⟩
  obtain ⟨bb, hbb⟩ : ∃ bb, w1.heap.size = bb := ⟨_, rfl⟩
  rw [hw2] at IB0 HB0 ⊢
  rw [hbb] at IB0 HB0 HR1 HRF hpl1 ⊢
  have HBB := Lib.hid hbb
  clear hw2 hbb
  go_wp2
  go_loopw [5] (fun iv wr => ∃ (i : Nat) (acc : BL), iv = .int .i64 i ∧ acc.length ≤ i ∧ Hid (Lib.IsBuilder bdT 5 bb bb (Lib.byteCells acc) wr) ∧ Hid (Below bb w1 wr) ∧ Hid (qM acc (l1.drop i) = some (s, l2))) (fun iv _ => l1.length - (intOf iv).toNat)
  case atStart => exact ⟨0, [], rfl, Nat.le_refl _, IB0, HB0, HQ⟩
  case round =>
    obtain ⟨i, acc, rfl, hai, IB, HB, HQI⟩ := hrel
    obtain ⟨x, hx, hdr⟩ := qM_cons HQI.out
    have hil : i < l1.length := (List.getElem?_eq_some_iff.1 hx).1
    have hiS : i < S.size := by omega
    have hiz : (i : Int) < (S.size : Int) := by omega
    have hi64 : (i : Int) + 2 ≤ 9223372036854775807 := by omega
    have hxs := HSX.out i hiS x hx
    have r1 := HR1.out _ HB.out
    have rf := HRF.out _ HB.out
    have hBw : bb ≤ wr.heap.size := by have := HB.out.size; have := HBB.out; omega
    have HQJ := Lib.hid (show qM acc (x :: l1.drop (i + 1)) = some (s, l2) by rw [← hdr]; exact HQI.out)
    have HX := Lib.hid hx
    clear hx hdr
    by_cases h34 : x = 34
    · have e34 : ((x.toNat : Int) == 34) = true := by rw [h34]; rfl
      have hqe := HQJ.out
      rw [h34, qM_34] at hqe
      have hqe := Option.some.inj hqe
      injection hqe with hs2 hl2
      have HE := Lib.hid (show acc = s ∧ l1.drop (i + 1) = l2 from ⟨hs2, hl2⟩)
      have CB : Hid (∀ u, Calls Tryz.prog 123 #[.pointer (some ⟨bb, 0, none⟩)] (wr.setCell ⟨pr, 1, none⟩ u) fun e w' => e = .returned (.string (strB acc)) ∧ Below bb (wr.setCell ⟨pr, 1, none⟩ u) w') := Lib.hid (fun u => bString_any bb bb acc _ (builder_far IB.out hpl1 1 u) (by simpa [World.setCell] using hBw))
      clear hs2 hl2 h34 hqe
      go_wp2_with (go_at_call 123; (with_reducible refine (CB.out _).mono ?_); rintro e w3 ⟨rfl, hb⟩; have HB3 := Lib.hid hb; clear hb)
      go_ret2
      refine ⟨?_, ?_, ?_⟩
      · show Ending.returned (Value.tuple #[Value.string (strB acc), Value.bool true]) = _
        rw [HE.out.1]
      · have hb := HB3.out
        rw [HDR.out, HE.out.2] at hb
        have hb2 := (below_both HB.out ⟨pr, 1, none⟩ (.string (strB l2))).trans hb
        exact (HR.out.rest l2).keep (by rw [show (w1.setCell ⟨pr, 1, none⟩ (.string (strB l2))).heap.size = bb by simpa [World.setCell] using HBB.out]; exact hb2)
      · have hb := HB3.out
        rw [HDR.out, HE.out.2] at hb
        have hb2 := (below_both HB.out ⟨pr, 1, none⟩ (.string (strB l2))).trans hb
        exact (HG.out.rest 1 _).trans (Gone.of_below (by rw [show (w1.setCell ⟨pr, 1, none⟩ (.string (strB l2))).heap.size = bb by simpa [World.setCell] using HBB.out]; exact hb2))
    · have e34 : ((x.toNat : Int) == 34) = false := beq_eq_false_iff_ne.2 (fun e => h34 (by
        have e : x.toNat = 34 := by omega
        exact UInt8.toNat_inj.1 e))
      have hacl : acc.length + 1 ≤ 140737488355328 := by omega
      by_cases h92 : x = 92
      · have e92 : ((x.toNat : Int) == 92) = true := by rw [h92]; rfl
        obtain ⟨c, hc, hc2, HQ2⟩ : ∃ c, l1[i + 1]? = some c ∧ (c = 34 ∨ c = 92) ∧ Hid (qM (acc ++ [c]) (l1.drop (i + 2)) = some (s, l2)) := by
          have hq := HQJ.out
          rw [h92] at hq
          rcases Nat.lt_or_ge (i + 1) l1.length with hi | hi
          · rw [List.drop_eq_getElem_cons hi, qM_92] at hq
            by_cases hc : l1[i + 1] = 34 ∨ l1[i + 1] = 92
            · rw [if_pos hc] at hq
              exact ⟨l1[i + 1], List.getElem?_eq_getElem hi, hc, Lib.hid hq⟩
            · rw [if_neg hc] at hq
              cases hq
          · rw [List.drop_eq_nil_of_le hi, qM_92nil] at hq
            cases hq
        have hi1 : i + 1 < l1.length := (List.getElem?_eq_some_iff.1 hc).1
        have hiS1 : i + 1 < S.size := by omega
        have hcs := HSX.out (i + 1) hiS1 c hc
        have hne1 : ((i : Int) + 1 == (l1.length : Int)) = false := beq_eq_false_iff_ne.2 (by omega)
        have CB : Hid (Calls Tryz.prog 124 #[.pointer (some ⟨bb, 0, none⟩), .int .u8 (c.toNat : Int)] wr fun e w' => e = .returned .nilIface ∧ Lib.IsBuilder bdT 5 bb bb (Lib.byteCells (acc ++ [c])) w' ∧ Below bb wr w') := Lib.hid ((bWriteByte_any bb bb (Lib.byteCells acc) (c.toNat : Int) wr IB.out (by rw [Lib.byteCells_length]; exact hacl) hBw).mono (fun e w' ⟨h1, h2, h3⟩ => ⟨h1, .inr (by rwa [byteCells_add] at h2), h3⟩))
        have HRND : Hid (∀ w', Lib.IsBuilder bdT 5 bb bb (Lib.byteCells (acc ++ [c])) w' → Below bb wr w' → ∃ (i' : Nat) (acc' : BL), Value.int .i64 ((i : Int) + 1 + 1) = .int .i64 i' ∧ acc'.length ≤ i' ∧ Hid (Lib.IsBuilder bdT 5 bb bb (Lib.byteCells acc') w') ∧ Hid (Below bb w1 w') ∧ Hid (qM acc' (l1.drop i') = some (s, l2))) := Lib.hid (fun w' h1 h2 => ⟨i + 2, acc ++ [c], by congr 1, by simp; omega, Lib.hid h1, Lib.hid (HB.out.trans h2), HQ2⟩)
        clear h34 h92 hc hacl
        rcases hc2 with hc2 | hc2
        · have f34 : ((c.toNat : Int) != 34) = false := by rw [hc2]; rfl
          clear hc2
          go_wp2_with (go_at_call 124; (with_reducible refine CB.out.mono ?_); rintro e w3 ⟨rfl, hib, hb⟩; have HN := Lib.hid (HRND.out _ hib hb); clear hib hb)
          go_roundw
          case rel => exact HN.out
          case measure => simp [intOf]; omega
        · have f34 : ((c.toNat : Int) != 34) = true := by rw [hc2]; rfl
          have f92 : ((c.toNat : Int) != 92) = false := by rw [hc2]; rfl
          clear hc2
          go_wp2_with (go_at_call 124; (with_reducible refine CB.out.mono ?_); rintro e w3 ⟨rfl, hib, hb⟩; have HN := Lib.hid (HRND.out _ hib hb); clear hib hb)
          go_roundw
          case rel => exact HN.out
          case measure => simp [intOf]; omega
      · have e92 : ((x.toNat : Int) == 92) = false := beq_eq_false_iff_ne.2 (fun e => h92 (by
          have e : x.toNat = 92 := by omega
          exact UInt8.toNat_inj.1 e))
        have HQ2 := HQJ.out
        rw [qM_other h34 h92] at HQ2
        have HQ2 := Lib.hid HQ2
        have CB : Hid (Calls Tryz.prog 124 #[.pointer (some ⟨bb, 0, none⟩), .int .u8 (x.toNat : Int)] wr fun e w' => e = .returned .nilIface ∧ Lib.IsBuilder bdT 5 bb bb (Lib.byteCells (acc ++ [x])) w' ∧ Below bb wr w') := Lib.hid ((bWriteByte_any bb bb (Lib.byteCells acc) (x.toNat : Int) wr IB.out (by rw [Lib.byteCells_length]; exact hacl) hBw).mono (fun e w' ⟨h1, h2, h3⟩ => ⟨h1, .inr (by rwa [byteCells_add] at h2), h3⟩))
        have HRND : Hid (∀ w', Lib.IsBuilder bdT 5 bb bb (Lib.byteCells (acc ++ [x])) w' → Below bb wr w' → ∃ (i' : Nat) (acc' : BL), Value.int .i64 ((i : Int) + 1) = .int .i64 i' ∧ acc'.length ≤ i' ∧ Hid (Lib.IsBuilder bdT 5 bb bb (Lib.byteCells acc') w') ∧ Hid (Below bb w1 w') ∧ Hid (qM acc' (l1.drop i') = some (s, l2))) := Lib.hid (fun w' h1 h2 => ⟨i + 1, acc ++ [x], by congr 1, by simp; omega, Lib.hid h1, Lib.hid (HB.out.trans h2), HQ2⟩)
        clear h34 h92 hacl
        go_wp2_with (go_at_call 124; (with_reducible refine CB.out.mono ?_); rintro e w3 ⟨rfl, hib, hb⟩; have HN := Lib.hid (HRND.out _ hib hb); clear hib hb)
        go_roundw
        case rel => exact HN.out
        case measure => simp [intOf]; omega
end
end Go.Proofs.YtnjoimedilonnaaGreatDoor
