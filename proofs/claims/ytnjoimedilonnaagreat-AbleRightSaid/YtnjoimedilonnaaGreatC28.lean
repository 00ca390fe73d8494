/- Texts joined in build order: MoveWk MoveMath MoveTell MoveMath2 MoveOut MoveStand OwnerFn OwnerAll Ref13Value. -/
import Derived.Test.YtnjoimedilonnaaGreatC27
import Derived.Test.YtnjoimedilonnaaGreatC26
import Derived.Test.YtnjoimedilonnaaGreatC23
import Derived.Deep.RegionLaw
import Derived.Deep.DeepCutAuto
import Derived.Test.YtnjoimedilonnaaGreatC09
import Derived.Test.YtnjoimedilonnaaGreatC05
import Derived.Deep.RegionWith
import Derived.Deep.RegionHeld3
import Derived.Test.YtnjoimedilonnaaGreatC12
namespace Go.Proofs.YtnjoimedilonnaaGreat
open Go.RowKit
structure NoteD where
  kind : Int
  node : Int
  src : Int
  dst : Int
  name : ByteArray
  had : Bool
  has : Bool
  old : ByteArray
  new : ByteArray
deriving DecidableEq
def encO (x : NoteD) : List Value := [.int .i64 x.kind, .int .i64 x.node, .int .i64 x.src, .int .i64 x.dst, .string x.name, .bool x.had, .bool x.has, .string x.old, .string x.new]
structure NoteOk (x : NoteD) : Prop where
  kind : In64 x.kind
  node : In64 x.node
  src : In64 x.src
  dst : In64 x.dst
  name : x.name.size ≤ maxLen
  old : x.old.size ≤ maxLen
  new : x.new.size ≤ maxLen
structure FldOk (x : NodeD) : Prop where
  name : x.core.name.size ≤ maxLen
  is : x.core.is.size ≤ maxLen
  data : x.core.data.size ≤ maxLen
  kind : In64 x.core.kind
  parent : In64 x.core.parent
  host : In64 x.core.host
  under : In64 x.core.under
  doc : In64 x.core.doc
  kids : ∀ z ∈ x.core.kids, In64 z
structure Turn (ρ : Nat → Nat) (W W2 : World) : Prop where
  os : W2.os = W.os
  tape : W2.tape = W.tape
  output : W2.output = W.output
  size : W.heap.size ≤ W2.heap.size
  quiet : ∀ k, k < W.heap.size → (ρ k = 0 ∨ ρ k = 5) → W2.heap[k]? = W.heap[k]?
theorem Turn.block {ρ : Nat → Nat} {W W2 : World} (h : Turn ρ W W2) : ∀ k, k < W.heap.size → ρ k = 0 → W2.heap[k]? = W.heap[k]? := fun k hk h0 => h.quiet k hk (.inl h0)
theorem Turn.refl (ρ : Nat → Nat) (W : World) : Turn ρ W W := ⟨rfl, rfl, rfl, Nat.le_refl _, fun _ _ _ => rfl⟩
theorem Turn.transQ {ρ ρ1 : Nat → Nat} {a b c : World} (h : Turn ρ a b) (he : ∀ k, k < a.heap.size → (ρ k = 0 ∨ ρ k = 5) → (ρ1 k = 0 ∨ ρ1 k = 5)) (k : Turn ρ1 b c) : Turn ρ a c :=
  ⟨k.os.trans h.os, k.tape.trans h.tape, k.output.trans h.output, Nat.le_trans h.size k.size, fun i hi h0 => (k.quiet i (Nat.lt_of_lt_of_le hi h.size) (he i hi h0)).trans (h.quiet i hi h0)⟩
theorem Turn.trans {ρ ρ1 : Nat → Nat} {a b c : World} (h : Turn ρ a b) (he : ∀ k, k < a.heap.size → ρ1 k = ρ k) (k : Turn ρ1 b c) : Turn ρ a c := h.transQ (fun i hi h0 => by rw [he i hi]; exact h0) k
theorem Turn.below {ρ : Nat → Nat} {W W2 : World} {B : Nat} (h : Turn ρ W W2) (hB : B ≤ W.heap.size) (h0 : ∀ k, k < B → ρ k = 0) : Below B W W2 := ⟨h.os, h.tape, h.output, h.size, fun k hk => h.block k (by omega) (h0 k hk)⟩
theorem Turn.of_below {ρ : Nat → Nat} {W W2 : World} (h : Below W.heap.size W W2) : Turn ρ W W2 := ⟨h.os, h.tape, h.output, h.size, fun k hk _ => h.block k hk⟩
theorem Turn.setCell {ρ : Nat → Nat} {W W2 : World} (h : Turn ρ W W2) {b : Nat} (hb : W.heap.size ≤ b ∨ (ρ b ≠ 0 ∧ ρ b ≠ 5)) (o : Nat) (u : Value) : Turn ρ W (W2.setCell ⟨b, o, none⟩ u) :=
  ⟨h.os, h.tape, h.output, by simpa [World.setCell] using h.size, fun k hk h0 => (Below.heap_setCell _ _ _ k (fun e => by
    have e : k = b := e
    rcases hb with hb | hb
    · omega
    · rw [← e] at hb; exact h0.elim hb.1 hb.2)).trans (h.quiet k hk h0)⟩
theorem Turn.keep {ρ : Nat → Nat} {a b c : World} (h : Turn ρ a b) (k : Below b.heap.size b c) : Turn ρ a c := h.trans (ρ1 := ρ) (fun _ _ => rfl) (Turn.of_below k)
theorem Turn.grown {ρ : Nat → Nat} {a b c : World} {row : Option Nat} (h : Turn ρ a b) (k : b.grownBy c row) (hr : ∀ k, row = some k → a.heap.size ≤ k ∨ (ρ k ≠ 0 ∧ ρ k ≠ 5)) : Turn ρ a c :=
  ⟨k.os.trans h.os, k.tape.trans h.tape, k.output.trans h.output, Nat.le_trans h.size k.size, fun i hi h0 => (k.block i (Nat.lt_of_lt_of_le hi h.size) (fun e => by
    rcases hr i e.symm with h1 | h1
    · omega
    · exact h0.elim h1.1 h1.2)).trans (h.quiet i hi h0)⟩
theorem Turn.cell {ρ : Nat → Nat} {W W2 : World} (h : Turn ρ W W2) {b o : Nat} (hb : b < W.heap.size) (h0 : ρ b = 0) : W2.cell? ⟨b, o, none⟩ = W.cell? ⟨b, o, none⟩ := World.cell?_of_block (w := W) (a := ⟨b, o, none⟩) (h.block b hb h0)
theorem Turn.frozen {ρ : Nat → Nat} {W W2 : World} (h : Turn ρ W W2) {b o : Nat} (hb : b < W.heap.size) (h0 : ρ b = 0) : W2.frozen? ⟨b, o, none⟩ = W.frozen? ⟨b, o, none⟩ := World.frozen?_of_block (w := W) (a := ⟨b, o, none⟩) (h.block b hb h0)
def upd (ρ : Nat → Nat) (o : Option Nat) (r : Nat) : Nat → Nat := fun b => if o = some b then r else ρ b
theorem upd_old {ρ : Nat → Nat} {o : Option Nat} {r n : Nat} (h : ∀ b, o = some b → ρ b = r ∨ n ≤ b) : ∀ k, k < n → upd ρ o r k = ρ k := by
  intro k hk
  unfold upd
  by_cases e : o = some k
  · rw [if_pos e]
    rcases h k e with h | h
    · exact h.symm
    · omega
  · rw [if_neg e]
def Aft (ρ : Nat → Nat) (b : Nat) : Prop := ∃ g0, ρ g0 ≠ 0 ∧ g0 < b
theorem Aft.turn {ρ ρ' : Nat → Nat} {b n : Nat} (h : Aft ρ b) (hb : b < n) (he : ∀ k, k < n → ρ k ≠ 0 → ρ' k ≠ 0) : Aft ρ' b := by
  obtain ⟨g0, h1, h2⟩ := h
  exact ⟨g0, he g0 (by omega) h1, h2⟩
structure Wk (ρ : Nat → Nat) (W : World) (pw g cap len : Nat) (m : Int) (M : List NodeD) (v : Value) (N : List NoteD) : Prop where
  hlen : M.length = len
  hcap : len ≤ cap
  hmax : cap ≤ maxLen
  cells : ∀ (i : Nat) x j u, M[i]? = some x → (encN x)[j]? = some u → W.cell? ⟨g, i * 10 + j, none⟩ = some u
  gfree : ∀ o, W.frozen? ⟨g, o, none⟩ = false
  glt : g < W.heap.size
  kown : ∀ (i : Nat) x, M[i]? = some x → W.ownsRow 0 3 1 (.slice x.kA x.kN x.kC) x.kN (x.core.kids.flatMap encZ)
  krole : ∀ (i : Nat) x b, M[i]? = some x → Value.ownBlock (.slice x.kA x.kN x.kC) = some b → ρ b = i + 6
  aok : ∀ x ∈ M, AttrRow W x.aA x.aN x.aC x.core.attrs
  arole : ∀ x ∈ M, ∀ b off, x.aA = some ⟨b, off, none⟩ → 0 < x.aN → ρ b = 0 ∧ Aft ρ b
  fld : ∀ x ∈ M, FldOk x
  c0 : W.cell? ⟨pw, 0, none⟩ = some (.slice (some ⟨g, 0, none⟩) len cap)
  c1 : W.cell? ⟨pw, 1, none⟩ = some (.int .i64 m)
  c2 : W.cell? ⟨pw, 2, none⟩ = some v
  pfree : ∀ o, W.frozen? ⟨pw, o, none⟩ = false
  plt : pw < W.heap.size
  nown : W.ownsRow 0 144 9 v N.length (N.flatMap encO)
  nrole : ∀ b, v.ownBlock = some b → ρ b = 3
  nok : ∀ x ∈ N, NoteOk x
  prole : ρ pw = 1
  grole : ρ g = 2
  fresh : ∀ b, W.heap.size ≤ b → ρ b = 0
  gown : W.ownsRow 0 37 10 (.slice (some ⟨g, 0, none⟩) len cap) len (M.flatMap encN)
section
variable {ρ : Nat → Nat} {W W1 W2 : World} {pw g cap len : Nat} {m : Int} {M : List NodeD} {v : Value} {N : List NoteD}
theorem own_same {w w2 : World} {base : Nat} {e : TypeId} {size n : Nat} {u : Value} {xs : List Value} (h : w.ownsRow base e size u n xs) (hb : ∀ b, u.ownBlock = some b → w2.heap[b]? = w.heap[b]?) : w2.ownsRow base e size u n xs := by
  refine ⟨h.1, ?_⟩
  rcases h.2 with h0 | ⟨g, cap, cur, hv, hlo, hg, h3⟩
  · exact .inl h0
  · exact .inr ⟨g, cap, cur, hv, hlo, (hb g (by rw [hv]; rfl)).trans hg, h3⟩
theorem own_block_lt {w : World} {base : Nat} {e : TypeId} {size n : Nat} {u : Value} {xs : List Value} (h : w.ownsRow base e size u n xs) {b : Nat} (hb : u.ownBlock = some b) : b < w.heap.size := (h.lt b hb).2
theorem Wk.kidsRow (h : Wk ρ W pw g cap len m M v N) {i : Nat} {x : NodeD} (hx : M[i]? = some x) : IntRow W x.kA x.kN x.kC x.core.kids := by
  have ho := h.kown i x hx
  have hl : x.core.kids.length = x.kN := by have := ho.1; rw [flat_len (fun z _ => encZ_len z)] at this; omega
  obtain ⟨a, c, he, hr, _⟩ := IntRow.of_own_new hl ho (h.fld x (List.mem_of_getElem? hx)).kids
  injection he with e1 e2 e3
  rw [e1, e3]
  exact hr
theorem Wk.ok (h : Wk ρ W pw g cap len m M v N) {x : NodeD} (hx : x ∈ M) : NodeOk W x := by
  obtain ⟨i, hi⟩ := List.getElem?_of_mem hx
  have f := h.fld x hx
  exact ⟨h.aok x hx, h.kidsRow hi, f.name, f.is, f.data, f.kind, f.parent, f.host, f.under, f.doc⟩
theorem Wk.row (h : Wk ρ W pw g cap len m M v N) : NodeRow W (some ⟨g, 0, none⟩) len cap M :=
  ⟨⟨h.hlen, h.hcap, h.hmax, fun x _ => encN_len x, .inr ⟨g, 0, rfl, h.glt, fun i x j u hx hu => by rw [Nat.zero_add]; exact h.cells i x j u hx hu⟩⟩, fun x hx => h.ok hx, fun e => by cases e⟩
theorem Wk.at_ (h : Wk ρ W pw g cap len m M v N) {k : Nat} {x : NodeD} (hk : M[k]? = some x) : NodeAt W g (k * 10) x :=
  ⟨h.cells k x 0 _ hk rfl, h.cells k x 1 _ hk rfl, h.cells k x 2 _ hk rfl, h.cells k x 3 _ hk rfl, h.cells k x 4 _ hk rfl, h.cells k x 5 _ hk rfl, h.cells k x 6 _ hk rfl, h.cells k x 7 _ hk rfl, h.cells k x 8 _ hk rfl, h.cells k x 9 _ hk rfl⟩
theorem attr_block_lt {a : Option Addr} {n c : Nat} {l : AL} (hr : AttrRow W a n c l) {b off : Nat} (he : a = some ⟨b, off, none⟩) (hp : 0 < n) : b < W.heap.size := by
  rcases hr.row.cells with e0 | ⟨b2, off2, ha2, hlt, _⟩
  · omega
  · rw [he] at ha2
    injection ha2 with ha2
    injection ha2 with e1
    omega
theorem Wk.keep (h : Wk ρ W pw g cap len m M v N) (hb : Below W.heap.size W W2) : Wk ρ W2 pw g cap len m M v N where
  hlen := h.hlen
  hcap := h.hcap
  hmax := h.hmax
  cells i x j u hx hu := (hb.cell (p := ⟨g, i * 10 + j, none⟩) h.glt).trans (h.cells i x j u hx hu)
  gfree o := (hb.frozen (p := ⟨g, o, none⟩) h.glt).trans (h.gfree o)
  glt := Nat.lt_of_lt_of_le h.glt hb.size
  kown i x hx := own_below (h.kown i x hx) hb
  krole := h.krole
  aok x hx := (h.aok x hx).below hb
  arole := h.arole
  fld := h.fld
  c0 := (hb.cell (p := ⟨pw, 0, none⟩) h.plt).trans h.c0
  c1 := (hb.cell (p := ⟨pw, 1, none⟩) h.plt).trans h.c1
  c2 := (hb.cell (p := ⟨pw, 2, none⟩) h.plt).trans h.c2
  pfree o := (hb.frozen (p := ⟨pw, o, none⟩) h.plt).trans (h.pfree o)
  plt := Nat.lt_of_lt_of_le h.plt hb.size
  nown := own_below h.nown hb
  nrole := h.nrole
  nok := h.nok
  prole := h.prole
  grole := h.grole
  fresh b hb2 := h.fresh b (Nat.le_trans hb.size hb2)
  gown := own_below h.gown hb
theorem Wk.markR (h : Wk ρ W pw g cap len m M v N) {b : Nat} (r : Nat) (hb : b < W.heap.size) (h0 : ρ b = 0) (ha : ∀ x ∈ M, ∀ b' off, x.aA = some ⟨b', off, none⟩ → 0 < x.aN → b' ≠ b) : Wk (upd ρ (some b) r) W pw g cap len m M v N where
  hlen := h.hlen
  hcap := h.hcap
  hmax := h.hmax
  cells := h.cells
  gfree := h.gfree
  glt := h.glt
  kown := h.kown
  krole i x b' hx hb' := by
    unfold upd
    have := h.krole i x b' hx hb'
    rw [if_neg (fun e => by injection e with e; rw [e] at h0; omega)]
    exact this
  aok := h.aok
  arole x hx b' off e hp := by
    have h1 := h.arole x hx b' off e hp
    refine ⟨?_, h1.2.turn (attr_block_lt (h.aok x hx) e hp) (fun k _ h2 => ?_)⟩
    · unfold upd
      rw [if_neg (fun e2 => by injection e2 with e2; exact ha x hx b' off e hp e2.symm)]
      exact h1.1
    · unfold upd
      rw [if_neg (fun e2 => by injection e2 with e2; rw [e2] at h0; omega)]
      exact h2
  fld := h.fld
  c0 := h.c0
  c1 := h.c1
  c2 := h.c2
  pfree := h.pfree
  plt := h.plt
  nown := h.nown
  nrole b' hb' := by
    unfold upd
    have := h.nrole b' hb'
    rw [if_neg (fun e => by injection e with e; rw [e] at h0; omega)]
    exact this
  nok := h.nok
  prole := by
    unfold upd
    have := h.prole
    rw [if_neg (fun e => by injection e with e; rw [e] at h0; omega)]
    exact this
  grole := by
    unfold upd
    have := h.grole
    rw [if_neg (fun e => by injection e with e; rw [e] at h0; omega)]
    exact this
  fresh b' hb' := by
    unfold upd
    rw [if_neg (fun e => by injection e with e; omega)]
    exact h.fresh b' hb'
  gown := h.gown
theorem Wk.mark (h : Wk ρ W pw g cap len m M v N) {b : Nat} (hb : b < W.heap.size) (h0 : ρ b = 0) (ha : ∀ x ∈ M, ∀ b' off, x.aA = some ⟨b', off, none⟩ → 0 < x.aN → b' ≠ b) : Wk (upd ρ (some b) 4) W pw g cap len m M v N := h.markR 4 hb h0 ha
theorem Wk.otherR (h : Wk ρ W pw g cap len m M v N) {b : Nat} (h4 : ρ b = 4 ∨ ρ b = 5) (o : Nat) (u : Value) : Wk ρ (W.setCell ⟨b, o, none⟩ u) pw g cap len m M v N where
  hlen := h.hlen
  hcap := h.hcap
  hmax := h.hmax
  cells i x j u' hx hu := (World.cell?_setCell_other _ _ _ _ (fun e => by injection e with e _; have := h.grole; rw [← e] at this; omega)).trans (h.cells i x j u' hx hu)
  gfree o := by rw [World.frozen?_setCell]; exact h.gfree o
  glt := by simpa [World.setCell] using h.glt
  kown i x hx := own_same (h.kown i x hx) (fun b' hb' => Below.heap_setCell _ _ _ b' (fun e => by have e : b' = b := e; have := h.krole i x b' hx hb'; rw [e] at this; omega))
  krole := h.krole
  aok x hx := ⟨(h.aok x hx).row.keep (by simp [World.setCell]) (fun b' off he hp o' => World.cell?_setCell_other _ _ _ _ (fun e => by injection e with e _; have := (h.arole x hx b' off he hp).1; rw [← e] at this; omega)), (h.aok x hx).small, (h.aok x hx).hnil⟩
  arole := h.arole
  fld := h.fld
  c0 := (World.cell?_setCell_other _ _ _ _ (fun e => by injection e with e _; have := h.prole; rw [← e] at this; omega)).trans h.c0
  c1 := (World.cell?_setCell_other _ _ _ _ (fun e => by injection e with e _; have := h.prole; rw [← e] at this; omega)).trans h.c1
  c2 := (World.cell?_setCell_other _ _ _ _ (fun e => by injection e with e _; have := h.prole; rw [← e] at this; omega)).trans h.c2
  pfree o := by rw [World.frozen?_setCell]; exact h.pfree o
  plt := by simpa [World.setCell] using h.plt
  nown := own_same h.nown (fun b' hb' => Below.heap_setCell _ _ _ b' (fun e => by have e : b' = b := e; have := h.nrole b' hb'; rw [e] at this; omega))
  nrole := h.nrole
  nok := h.nok
  prole := h.prole
  grole := h.grole
  fresh b' hb' := h.fresh b' (by simpa [World.setCell] using hb')
  gown := own_same h.gown (fun b' hb' => Below.heap_setCell _ _ _ b' (fun e => by
    have e : b' = b := e
    have hb' : some g = some b' := hb'
    injection hb' with e2
    have := h.grole
    rw [e2, e] at this
    omega))
theorem Wk.other (h : Wk ρ W pw g cap len m M v N) {b : Nat} (h4 : ρ b = 4) (o : Nat) (u : Value) : Wk ρ (W.setCell ⟨b, o, none⟩ u) pw g cap len m M v N := h.otherR (.inl h4) o u
theorem Wk.setG (h : Wk ρ W pw g cap len m M v N) {k j : Nat} {x y : NodeD} {u : Value} (hk : M[k]? = some x) (hj : j < 10) (he : encN y = (encN x).set j u) (hkid : y.kA = x.kA ∧ y.kN = x.kN ∧ y.kC = x.kC ∧ y.core.kids = x.core.kids)
    (ha : AttrRow W y.aA y.aN y.aC y.core.attrs) (har : ∀ b off, y.aA = some ⟨b, off, none⟩ → 0 < y.aN → ρ b = 0 ∧ Aft ρ b) (hf : FldOk y) : Wk ρ (W.setCell ⟨g, k * 10 + j, none⟩ u) pw g cap len m (M.set k y) v N := by
  obtain ⟨hkl, _⟩ := List.getElem?_eq_some_iff.1 hk
  have gne : ∀ b o, ρ b ≠ 2 → (W.setCell ⟨g, k * 10 + j, none⟩ u).cell? ⟨b, o, none⟩ = W.cell? ⟨b, o, none⟩ := fun b o hb => World.cell?_setCell_other _ _ _ _ (fun e => by injection e with e _; exact hb (by rw [← e]; exact h.grole))
  have bne : ∀ b, ρ b ≠ 2 → (W.setCell ⟨g, k * 10 + j, none⟩ u).heap[b]? = W.heap[b]? := fun b hb => Below.heap_setCell _ _ _ b (fun e => hb (by have e : b = g := e; rw [e]; exact h.grole))
  have arow : ∀ {a : Option Addr} {n c : Nat} {l : AL}, AttrRow W a n c l → (∀ b off, a = some ⟨b, off, none⟩ → 0 < n → ρ b = 0 ∧ Aft ρ b) → AttrRow (W.setCell ⟨g, k * 10 + j, none⟩ u) a n c l := fun hr h0 => ⟨hr.row.keep (by simp [World.setCell]) (fun b off he hp o' => gne b o' (by rw [(h0 b off he hp).1]; decide)), hr.small, hr.hnil⟩
  have getM : ∀ {i : Nat} {z : NodeD}, (M.set k y)[i]? = some z → (i = k ∧ z = y) ∨ (i ≠ k ∧ M[i]? = some z) := fun {i z} hz => by
    by_cases e : i = k
    · subst e
      rw [List.getElem?_set_self hkl] at hz
      exact .inl ⟨rfl, (Option.some.inj hz).symm⟩
    · rw [List.getElem?_set_ne (fun e2 => e e2.symm)] at hz
      exact .inr ⟨e, hz⟩
  refine ⟨by rw [List.length_set]; exact h.hlen, h.hcap, h.hmax, fun i z j' u' hz hu => ?_, fun o => by rw [World.frozen?_setCell]; exact h.gfree o, by simpa [World.setCell] using h.glt, fun i z hz => ?_, fun i z b hz hb => ?_, fun z hz => ?_, fun z hz => ?_, fun z hz => ?_,
    (gne _ _ (by rw [h.prole]; decide)).trans h.c0, (gne _ _ (by rw [h.prole]; decide)).trans h.c1, (gne _ _ (by rw [h.prole]; decide)).trans h.c2, fun o => by rw [World.frozen?_setCell]; exact h.pfree o, by simpa [World.setCell] using h.plt,
    own_same h.nown (fun b hb => bne b (by rw [h.nrole b hb]; decide)), h.nrole, h.nok, h.prole, h.grole, fun b hb => h.fresh b (by simpa [World.setCell] using hb), ?_⟩
  · have hj' : j' < 10 := by have := (List.getElem?_eq_some_iff.1 hu).1; rwa [encN_len] at this
    rcases getM hz with ⟨rfl, rfl⟩ | ⟨hne, hz⟩
    · rw [he] at hu
      by_cases ej : j = j'
      · subst ej
        rw [List.getElem?_set_self (by rw [encN_len]; exact hj)] at hu
        rw [← Option.some.inj hu]
        obtain ⟨v0, hv0⟩ : ∃ v0, (encN x)[j]? = some v0 := ⟨_, List.getElem?_eq_getElem (by rw [encN_len]; exact hj)⟩
        exact World.cell?_setCell_same _ _ _ (h.cells _ x j v0 hk hv0)
      · rw [List.getElem?_set_ne ej] at hu
        rw [World.cell?_setCell_other _ _ _ _ (fun e' => by injection e' with _ e'; omega)]
        exact h.cells _ x j' u' hk hu
    · rw [World.cell?_setCell_other _ _ _ _ (fun e' => by injection e' with _ e'; omega)]
      exact h.cells i z j' u' hz hu
  · have key : ∀ (i : Nat) (z : NodeD), M[i]? = some z → (W.setCell ⟨g, k * 10 + j, none⟩ u).ownsRow 0 3 1 (.slice z.kA z.kN z.kC) z.kN (z.core.kids.flatMap encZ) := fun i z hz => own_same (h.kown i z hz) (fun b hb => bne b (by rw [h.krole i z b hz hb]; omega))
    rcases getM hz with ⟨rfl, rfl⟩ | ⟨_, hz⟩
    · rw [hkid.1, hkid.2.1, hkid.2.2.1, hkid.2.2.2]
      exact key _ x hk
    · exact key i z hz
  · rcases getM hz with ⟨rfl, rfl⟩ | ⟨_, hz⟩
    · rw [hkid.1, hkid.2.1, hkid.2.2.1] at hb
      exact h.krole _ x b hk hb
    · exact h.krole i z b hz hb
  · rcases List.mem_or_eq_of_mem_set hz with hz | rfl
    · exact arow (h.aok z hz) (h.arole z hz)
    · exact arow ha har
  · rcases List.mem_or_eq_of_mem_set hz with hz | rfl
    · exact h.arole z hz
    · exact har
  · rcases List.mem_or_eq_of_mem_set hz with hz | rfl
    · exact h.fld z hz
    · exact hf
  · have hl := h.hlen
    have := own_setCell h.gown (j := k * 10 + j) (by omega) u
    rwa [flat_set (fun z _ => encN_len z) hk he hj] at this
theorem Wk.setP (h : Wk ρ W pw g cap len m M v N) {k : Nat} {x : NodeD} (hk : M[k]? = some x) {p : Int} (hp : In64 p) : Wk ρ (W.setCell ⟨g, k * 10 + 5, none⟩ (.int .i64 p)) pw g cap len m (M.set k (withP x p)) v N := by
  have hm := List.mem_of_getElem? hk
  have f := h.fld x hm
  exact h.setG hk (by omega) rfl ⟨rfl, rfl, rfl, rfl⟩ (h.aok x hm) (h.arole x hm) ⟨f.name, f.is, f.data, f.kind, hp, f.host, f.under, f.doc, f.kids⟩
structure Mid (ρ : Nat → Nat) (W1 : World) (pw g cap len : Nat) (m : Int) (M : List NodeD) (v : Value) (N : List NoteD) : Prop where
  cells : ∀ (i : Nat) x j u, M[i]? = some x → (encN x)[j]? = some u → W1.cell? ⟨g, i * 10 + j, none⟩ = some u
  gfree : ∀ o, W1.frozen? ⟨g, o, none⟩ = false
  c0 : W1.cell? ⟨pw, 0, none⟩ = some (.slice (some ⟨g, 0, none⟩) len cap)
theorem Wk.mid (h : Wk ρ W pw g cap len m M v N) {row : Option Nat} (hg : W.grownBy W1 row) (hr : ∀ b, row = some b → 6 ≤ ρ b) : Mid ρ W1 pw g cap len m M v N := by
  have same : ∀ b, b < W.heap.size → ρ b < 6 → W1.heap[b]? = W.heap[b]? := fun b hb h5 => hg.block b hb (fun e => by have := hr b e.symm; omega)
  have sg := same g h.glt (by rw [h.grole]; decide)
  exact ⟨fun i x j u hx hu => (World.cell?_of_block (w := W) (a := ⟨g, i * 10 + j, none⟩) sg).trans (h.cells i x j u hx hu), fun o => (World.frozen?_of_block (w := W) (a := ⟨g, o, none⟩) sg).trans (h.gfree o), (World.cell?_of_block (w := W) (a := ⟨pw, 0, none⟩) (same pw h.plt (by rw [h.prole]; decide))).trans h.c0⟩
theorem Wk.setK (h : Wk ρ W pw g cap len m M v N) {k : Nat} {x : NodeD} (hk : M[k]? = some x) (hg : W.grownBy W1 (Value.ownBlock (.slice x.kA x.kN x.kC))) {a : Option Addr} {n c : Nat} {l : List Int} (ho : W1.ownsRow 0 3 1 (.slice a n c) n (l.flatMap encZ))
    (hb : ∀ b, Value.ownBlock (.slice a n c) = some b → Value.ownBlock (.slice x.kA x.kN x.kC) = some b ∨ W.heap.size ≤ b) (hl : ∀ z ∈ l, In64 z) :
    Wk (upd ρ (Value.ownBlock (.slice a n c)) (k + 6)) (W1.setCell ⟨g, k * 10 + 6, none⟩ (.slice a n c)) pw g cap len m (M.set k (withK x a n c l)) v N := by
  obtain ⟨hkl, _⟩ := List.getElem?_eq_some_iff.1 hk
  have hm := List.mem_of_getElem? hk
  have rold : ∀ b, Value.ownBlock (.slice x.kA x.kN x.kC) = some b → ρ b = k + 6 := fun b hb => h.krole k x b hk hb
  have same1 : ∀ b, b < W.heap.size → ρ b ≠ k + 6 → W1.heap[b]? = W.heap[b]? := fun b hb1 h5 => hg.block b hb1 (fun e => h5 (rold b e.symm))
  have same : ∀ b, b < W.heap.size → ρ b ≠ k + 6 → ρ b ≠ 2 → (W1.setCell ⟨g, k * 10 + 6, none⟩ (.slice a n c)).heap[b]? = W.heap[b]? := fun b hb1 h5 h2 => (Below.heap_setCell _ _ _ b (fun e => h2 (by have e : b = g := e; rw [e]; exact h.grole))).trans (same1 b hb1 h5)
  have cel : ∀ b o, b < W.heap.size → ρ b ≠ k + 6 → ρ b ≠ 2 → (W1.setCell ⟨g, k * 10 + 6, none⟩ (.slice a n c)).cell? ⟨b, o, none⟩ = W.cell? ⟨b, o, none⟩ := fun b o h1 h2 h3 => World.cell?_of_block (w := W) (a := ⟨b, o, none⟩) (same b h1 h2 h3)
  have mid := h.mid hg (fun b hb => by rw [rold b hb]; omega)
  have old := upd_old (ρ := ρ) (o := Value.ownBlock (.slice a n c)) (r := k + 6) (n := W.heap.size) (fun b hb2 => (hb b hb2).imp (rold b) id)
  have hsz : W.heap.size ≤ (W1.setCell ⟨g, k * 10 + 6, none⟩ (.slice a n c)).heap.size := by simpa [World.setCell] using hg.size
  have nb : ∀ b, Value.ownBlock (.slice a n c) = some b → b < W1.heap.size ∧ b ≠ g := fun b hb2 => ⟨own_block_lt ho hb2, fun e => by
    rcases hb b hb2 with h1 | h1
    · have := rold b h1
      rw [e, h.grole] at this
      omega
    · have := h.glt
      omega⟩
  have getM : ∀ {i : Nat} {z : NodeD}, (M.set k (withK x a n c l))[i]? = some z → (i = k ∧ z = withK x a n c l) ∨ (i ≠ k ∧ M[i]? = some z) := fun {i z} hz => by
    by_cases e : i = k
    · subst e
      rw [List.getElem?_set_self hkl] at hz
      exact .inl ⟨rfl, (Option.some.inj hz).symm⟩
    · rw [List.getElem?_set_ne (fun e2 => e e2.symm)] at hz
      exact .inr ⟨e, hz⟩
  have arow : ∀ {a' : Option Addr} {n' c' : Nat} {l' : AL}, AttrRow W a' n' c' l' → (∀ b off, a' = some ⟨b, off, none⟩ → 0 < n' → ρ b = 0 ∧ Aft ρ b) → AttrRow (W1.setCell ⟨g, k * 10 + 6, none⟩ (.slice a n c)) a' n' c' l' := fun {a' n' c' l'} hr h0 => ⟨hr.row.keep hsz (fun b off he hp o' => by
    have hlt : b < W.heap.size := by
      rcases hr.row.cells with e0 | ⟨b2, off2, ha2, hlt, _⟩
      · omega
      · rw [he] at ha2
        injection ha2 with ha2
        injection ha2 with e1
        omega
    exact cel b o' hlt (by rw [(h0 b off he hp).1]; omega) (by rw [(h0 b off he hp).1]; decide)), hr.small, hr.hnil⟩
  have f := h.fld x hm
  have p3 : ρ pw ≠ k + 6 ∧ ρ pw ≠ 2 := by rw [h.prole]; omega
  refine ⟨by rw [List.length_set]; exact h.hlen, h.hcap, h.hmax, fun i z j' u' hz hu => ?_, fun o => by rw [World.frozen?_setCell]; exact mid.gfree o, Nat.lt_of_lt_of_le h.glt hsz, fun i z hz => ?_, fun i z b hz hb2 => ?_, fun z hz => ?_, fun z hz b off he hp => ?_, fun z hz => ?_,
    (cel _ _ h.plt p3.1 p3.2).trans h.c0, (cel _ _ h.plt p3.1 p3.2).trans h.c1, (cel _ _ h.plt p3.1 p3.2).trans h.c2, fun o => (World.frozen?_of_block (w := W) (a := ⟨pw, o, none⟩) (same pw h.plt p3.1 p3.2)).trans (h.pfree o), Nat.lt_of_lt_of_le h.plt hsz,
    own_same h.nown (fun b hb2 => same b (own_block_lt h.nown hb2) (by rw [h.nrole b hb2]; omega) (by rw [h.nrole b hb2]; decide)), fun b hb2 => by rw [old b (own_block_lt h.nown hb2)]; exact h.nrole b hb2, h.nok, by rw [old pw h.plt]; exact h.prole, by rw [old g h.glt]; exact h.grole, fun b hb2 => ?_, ?_⟩
  · have hj' : j' < 10 := by have := (List.getElem?_eq_some_iff.1 hu).1; rwa [encN_len] at this
    rcases getM hz with ⟨rfl, rfl⟩ | ⟨hne, hz⟩
    · by_cases ej : j' = 6
      · subst ej
        have hu : some (Value.slice a n c) = some u' := hu
        rw [← Option.some.inj hu]
        exact World.cell?_setCell_same _ _ _ (mid.cells i x 6 _ hk rfl)
      · rw [World.cell?_setCell_other _ _ _ _ (fun e' => by injection e' with _ e'; omega)]
        refine mid.cells i x j' u' hk ?_
        rw [show encN (withK x a n c l) = (encN x).set 6 (.slice a n c) from rfl, List.getElem?_set_ne (fun e => ej e.symm)] at hu
        exact hu
    · rw [World.cell?_setCell_other _ _ _ _ (fun e' => by injection e' with _ e'; omega)]
      exact mid.cells i z j' u' hz hu
  · rcases getM hz with ⟨rfl, rfl⟩ | ⟨hne, hz⟩
    · exact own_same ho (fun b hb2 => Below.heap_setCell _ _ _ b (nb b hb2).2)
    · refine own_same (h.kown i z hz) (fun b hb2 => same b (own_block_lt (h.kown i z hz) hb2) ?_ ?_)
      · rw [h.krole i z b hz hb2]; omega
      · rw [h.krole i z b hz hb2]; omega
  · rcases getM hz with ⟨rfl, rfl⟩ | ⟨hne, hz⟩
    · have hb2 : Value.ownBlock (.slice a n c) = some b := hb2
      unfold upd
      rw [if_pos hb2]
    · rw [old b (own_block_lt (h.kown i z hz) hb2)]
      exact h.krole i z b hz hb2
  · rcases List.mem_or_eq_of_mem_set hz with hz | rfl
    · exact arow (h.aok z hz) (h.arole z hz)
    · exact arow (h.aok x hm) (h.arole x hm)
  · have key : ∀ z ∈ M, z.aA = some ⟨b, off, none⟩ → 0 < z.aN → upd ρ (Value.ownBlock (.slice a n c)) (k + 6) b = 0 ∧ Aft (upd ρ (Value.ownBlock (.slice a n c)) (k + 6)) b := fun z hz he hp => by
      have hlt : b < W.heap.size := by
        rcases (h.aok z hz).row.cells with e0 | ⟨b2, off2, ha2, hlt, _⟩
        · omega
        · rw [he] at ha2
          injection ha2 with ha2
          injection ha2 with e1
          omega
      have h1 := h.arole z hz b off he hp
      exact ⟨(old b hlt).trans h1.1, h1.2.turn hlt (fun k' hk' h2 => by rw [old k' hk']; exact h2)⟩
    rcases List.mem_or_eq_of_mem_set hz with hz | rfl
    · exact key z hz he hp
    · exact key x hm he hp
  · rcases List.mem_or_eq_of_mem_set hz with hz | rfl
    · exact h.fld z hz
    · exact ⟨f.name, f.is, f.data, f.kind, f.parent, f.host, f.under, f.doc, hl⟩
  · have hb3 : W1.heap.size ≤ b := by simpa [World.setCell] using hb2
    unfold upd
    rw [if_neg (fun e => by have := (nb b e).1; omega)]
    exact h.fresh b (Nat.le_trans hg.size hb3)
  · have hl := h.hlen
    have h1 := own_same (w2 := W1) h.gown (fun b hb2 => by
      have hb2 : some g = some b := hb2
      injection hb2 with e2
      rw [← e2]
      exact same1 g h.glt (by rw [h.grole]; omega))
    have := own_setCell h1 (j := k * 10 + 6) (by omega) (.slice a n c)
    rwa [flat_set (fun z _ => encN_len z) hk (y := withK x a n c l) rfl (by decide)] at this
theorem Wk.note (h : Wk ρ W pw g cap len m M v N) {x : NoteD} (hx : NoteOk x) {v' : Value} (hg : W.grownBy W1 v.ownBlock) (ho : W1.ownsRow 0 144 9 v' (N.length + 1) ((N ++ [x]).flatMap encO)) (hb : ∀ b, v'.ownBlock = some b → v.ownBlock = some b ∨ W.heap.size ≤ b) :
    Wk (upd ρ v'.ownBlock 3) (W1.setCell ⟨pw, 2, none⟩ v') pw g cap len m M v' (N ++ [x]) := by
  have same1 : ∀ b, b < W.heap.size → ρ b ≠ 3 → W1.heap[b]? = W.heap[b]? := fun b hb1 h5 => hg.block b hb1 (fun e => h5 (h.nrole b e.symm))
  have same : ∀ b, b < W.heap.size → ρ b ≠ 3 → ρ b ≠ 1 → (W1.setCell ⟨pw, 2, none⟩ v').heap[b]? = W.heap[b]? := fun b hb1 h5 h2 => (Below.heap_setCell _ _ _ b (fun e => h2 (by have e : b = pw := e; rw [e]; exact h.prole))).trans (same1 b hb1 h5)
  have cel : ∀ b o, b < W.heap.size → ρ b ≠ 3 → ρ b ≠ 1 → (W1.setCell ⟨pw, 2, none⟩ v').cell? ⟨b, o, none⟩ = W.cell? ⟨b, o, none⟩ := fun b o h1 h2 h3 => World.cell?_of_block (w := W) (a := ⟨b, o, none⟩) (same b h1 h2 h3)
  have sp := same1 pw h.plt (by rw [h.prole]; decide)
  have pc : ∀ o, W1.cell? ⟨pw, o, none⟩ = W.cell? ⟨pw, o, none⟩ := fun o => World.cell?_of_block (w := W) (a := ⟨pw, o, none⟩) sp
  have old := upd_old (ρ := ρ) (o := v'.ownBlock) (r := 3) (n := W.heap.size) (fun b hb2 => (hb b hb2).imp (h.nrole b) id)
  have hsz : W.heap.size ≤ (W1.setCell ⟨pw, 2, none⟩ v').heap.size := by simpa [World.setCell] using hg.size
  have nb : ∀ b, v'.ownBlock = some b → b < W1.heap.size ∧ b ≠ pw := fun b hb2 => ⟨own_block_lt ho hb2, fun e => by
    rcases hb b hb2 with h1 | h1
    · have := h.nrole b h1
      rw [e, h.prole] at this
      omega
    · have := h.plt
      omega⟩
  have g3 : ρ g ≠ 3 ∧ ρ g ≠ 1 := by rw [h.grole]; decide
  refine ⟨h.hlen, h.hcap, h.hmax, fun i z j' u' hz hu => (cel _ _ h.glt g3.1 g3.2).trans (h.cells i z j' u' hz hu), fun o => (World.frozen?_of_block (w := W) (a := ⟨g, o, none⟩) (same g h.glt g3.1 g3.2)).trans (h.gfree o), Nat.lt_of_lt_of_le h.glt hsz,
    fun i z hz => own_same (h.kown i z hz) (fun b hb2 => same b (own_block_lt (h.kown i z hz) hb2) (by rw [h.krole i z b hz hb2]; omega) (by rw [h.krole i z b hz hb2]; omega)), fun i z b hz hb2 => by rw [old b (own_block_lt (h.kown i z hz) hb2)]; exact h.krole i z b hz hb2,
    fun z hz => ⟨(h.aok z hz).row.keep hsz (fun b off he hp o' => ?_), (h.aok z hz).small, (h.aok z hz).hnil⟩, fun z hz b off he hp => ?_, h.fld,
    (World.cell?_setCell_other _ _ _ _ (fun e => by injection e with _ e; omega)).trans ((pc 0).trans h.c0), (World.cell?_setCell_other _ _ _ _ (fun e => by injection e with _ e; omega)).trans ((pc 1).trans h.c1), World.cell?_setCell_same _ _ _ ((pc 2).trans h.c2),
    fun o => by rw [World.frozen?_setCell]; exact (World.frozen?_of_block (w := W) (a := ⟨pw, o, none⟩) sp).trans (h.pfree o), Nat.lt_of_lt_of_le h.plt hsz, by rw [List.length_append]; exact own_same ho (fun b hb2 => Below.heap_setCell _ _ _ b (nb b hb2).2), fun b hb2 => by unfold upd; rw [if_pos hb2],
    fun z hz => by rcases List.mem_append.1 hz with hz | hz; exact h.nok z hz; rw [List.mem_singleton.1 hz]; exact hx, by rw [old pw h.plt]; exact h.prole, by rw [old g h.glt]; exact h.grole, fun b hb2 => ?_, own_same h.gown (fun b hb2 => by
      have hb2 : some g = some b := hb2
      injection hb2 with e2
      rw [← e2]
      exact same g h.glt g3.1 g3.2)⟩
  · have hlt := attr_block_lt (h.aok z hz) he hp
    exact cel b o' hlt (by rw [(h.arole z hz b off he hp).1]; decide) (by rw [(h.arole z hz b off he hp).1]; decide)
  · have h1 := h.arole z hz b off he hp
    have hlt := attr_block_lt (h.aok z hz) he hp
    exact ⟨(old b hlt).trans h1.1, h1.2.turn hlt (fun k' hk' h2 => by rw [old k' hk']; exact h2)⟩
  · have hb3 : W1.heap.size ≤ b := by simpa [World.setCell] using hb2
    unfold upd
    rw [if_neg (fun e => by have := (nb b e).1; omega)]
    exact h.fresh b (Nat.le_trans hg.size hb3)
end
end Go.Proofs.YtnjoimedilonnaaGreat
namespace Go.Proofs.YtnjoimedilonnaaGreat
open Go.RowKit
def edF (F : List Core) (P : Nat → Core → Int) (K : Nat → Core → List Int) (D : Nat → Core → Int) : List Core := F.mapIdx fun j c => edC c (P j c) (K j c) (D j c)
theorem edF_edit (F : List Core) (P : Nat → Core → Int) (K : Nat → Core → List Int) (D : Nat → Core → Int) : Edit F (edF F P K D) P K D :=
  ⟨by unfold edF; simp, fun j c hc => by unfold edF; rw [List.getElem?_mapIdx, hc]; rfl⟩
section
variable {F G : List Core} {P P' : Nat → Core → Int} {K K' : Nat → Core → List Int} {D D' : Nat → Core → Int}
theorem Edit.eq (h : Edit F G P K D) : G = edF F P K D := by
  apply List.ext_getElem?
  intro i
  by_cases hi : i < F.length
  · have hc : F[i]? = some F[i] := List.getElem?_eq_getElem hi
    rw [h.at_ i _ hc, (edF_edit F P K D).at_ i _ hc]
  · rw [List.getElem?_eq_none (by rw [h.len]; omega), List.getElem?_eq_none (by rw [(edF_edit F P K D).len]; omega)]
theorem Edit.cong (h : Edit F G P K D) (hh : ∀ (j : Nat) c, F[j]? = some c → P j c = P' j c ∧ K j c = K' j c ∧ D j c = D' j c) : Edit F G P' K' D' :=
  ⟨h.len, fun j c hc => by obtain ⟨e1, e2, e3⟩ := hh j c hc; rw [h.at_ j c hc, e1, e2, e3]⟩
end
def mvOut (F : List Core) (n : Nat) : List Core := edF F (fun j c => if j = n then -1 else c.parent) (fun j c => if (j : Int) = parentK F n then c.kids.filter (fun z => z != (n : Int)) else c.kids) (fun _ c => c.doc)
def mvDoc (F : List Core) (n : Nat) (d : Int) : List Core := edF F (fun _ c => c.parent) (fun _ c => c.kids) (fun j c => if (j : Int) ∈ allI F n then d else c.doc)
def insB (l : List Int) (b n : Int) : List Int := if b = -1 then l ++ [n] else l.take (findN l b) ++ n :: l.drop (findN l b)
def mvIn (F : List Core) (n p : Nat) (b : Int) : List Core := edF F (fun j c => if j = n then (p : Int) else c.parent) (fun j c => if j = p then insB c.kids b n else c.kids) (fun _ c => c.doc)
abbrev note (k : Int) : NoteD := ⟨k, 0, 0, 0, ⟨#[]⟩, false, false, ⟨#[]⟩, ⟨#[]⟩⟩
def noteAt (x : NoteD) (z : Int) : NoteD := ⟨x.kind, z, x.src, x.dst, x.name, x.had, x.has, x.old, x.new⟩
def docK (F : List Core) (n : Int) : Int := match getC F n with | some x => x.doc | none => 0
section
variable {m : Int} {F G : List Core}
theorem docK_at {n : Nat} {x : Core} (hx : F[n]? = some x) : docK F (n : Int) = x.doc := by unfold docK; rw [getC_nat, hx]
theorem mvOut_out (h : rightF m F = true) {n : Nat} {x : Core} (hx : F[n]? = some x) (hp : x.parent ≠ -1) : ∃ p : Nat, x.parent = p ∧ p < F.length ∧ Out m F (mvOut F n) n p x := by
  obtain ⟨p, h1, h2, _⟩ := right_par h hx hp
  refine ⟨p, h1, h2, h, hx, h1, (edF_edit F _ _ _).cong (fun j c hc => ⟨rfl, ?_, rfl⟩)⟩
  rw [parentK_at hx, h1]
  by_cases e : j = p
  · rw [if_pos e, if_pos (by omega)]
  · rw [if_neg e, if_neg (by omega)]
theorem mem_all (h : rightF m F = true) {n j : Nat} (hn : n < F.length) (hj : j < F.length) : (j : Int) ∈ allI F n ↔ holdsT (parS F) n j := by
  rw [mem_allI, Int.toNat_natCast]
  exact (treeS h).mem_ord _ _ hn (by omega) j hj
theorem doc_up (h : rightF m F = true) {j q : Nat} (hj : j < F.length) (hq : parS F j = some q) : docK F j = docK F q := by
  have hc : F[j]? = some F[j] := List.getElem?_eq_getElem hj
  have N := right_node h hc
  obtain ⟨hn, hql⟩ := parS_next h hj hq
  have hcq : F[q]? = some F[q] := List.getElem?_eq_getElem hql
  rw [docK_at hc, docK_at hcq]
  rw [nextUp_at hc] at hn
  by_cases hp : F[j].parent = -1
  · have hn : F[j].host = (q : Int) := by
      have : (if F[j].parent = -1 then F[j].host else F[j].parent) = (q : Int) := hn
      rwa [if_pos hp] at this
    have hk : F[j].kind = 4 := by
      by_cases e : F[j].kind = 4
      · exact e
      · have := N.free e
        omega
    obtain ⟨d, h1, _, _, h4⟩ := N.host hk
    rw [hn, getC_nat, hcq] at h1
    rw [Option.some.inj h1]
    exact h4.symm
  · have hn : F[j].parent = (q : Int) := by
      have : (if F[j].parent = -1 then F[j].host else F[j].parent) = (q : Int) := hn
      rwa [if_neg hp] at this
    rcases N.par with e | ⟨_, d, h1, _, h3⟩
    · exact absurd e hp
    · rw [hn, getC_nat, hcq] at h1
      obtain rfl := Option.some.inj h1
      obtain ⟨c, h4, _, _, h6⟩ := (right_node h hcq).kids _ h3
      rw [getC_nat, hc] at h4
      rw [Option.some.inj h4]
      exact h6
theorem doc_over (h : rightF m F = true) {a : Nat} : ∀ (k b : Nat), b < F.length → upN (parS F) k b = some a → docK F b = docK F a
  | 0, b, _, hu => by rw [Option.some.inj hu]
  | k + 1, b, hb, hu => by
    unfold upN at hu
    cases hq : parS F b with
    | none => rw [hq] at hu; cases hu
    | some q =>
      rw [hq] at hu
      rw [doc_up h hb hq]
      exact doc_over h k q (parS_next h hb hq).2 hu
theorem doc_all (h : rightF m F = true) {n j : Nat} (hn : n < F.length) (hj : (j : Int) ∈ allI F n) (hjl : j < F.length) : docK F j = docK F n := by
  obtain ⟨k, hk⟩ := (mem_all h hn hjl).1 hj
  exact doc_over h k j hjl hk
structure Taken (m : Int) (F G : List Core) (n : Nat) (d : Int) : Prop where
  right : rightF m F = true
  lt : n < F.length
  top : parS F n = none
  kind : kindK F n ≠ 0
  doc : ∃ c, getC F d = some c ∧ c.kind = 0
  ed : Edit F G (fun _ c => c.parent) (fun _ c => c.kids) (fun j c => if (j : Int) ∈ allI F n then d else c.doc)
section
variable {n : Nat} {d : Int}
theorem Taken.up (h : Taken m F G n d) {j q : Nat} (hj : j < F.length) (hq : parS F j = some q) : (j : Int) ∈ allI F n ↔ (q : Int) ∈ allI F n := by
  have hql := (parS_next h.right hj hq).2
  rw [mem_all h.right h.lt hj, mem_all h.right h.lt hql]
  constructor
  · intro hh
    rcases holds_up hh with e | ⟨s, e1, e2⟩
    · rw [← e, h.top] at hq
      cases hq
    · rw [hq] at e1
      rw [Option.some.inj e1]
      exact e2
  · exact fun hh => holds_trans hh (holds_par hq)
theorem Taken.node (h : Taken m F G n d) {j : Nat} {y : Core} (hy : G[j]? = some y) : NodeP G j y := by
  obtain ⟨c, hc, rfl⟩ := h.ed.back hy
  have hjl := (List.getElem?_eq_some_iff.1 hc).1
  have N := right_node h.right hc
  refine ⟨N.kind, ?_, fun e => ?_, ?_, N.once, fun k hk => ?_, N.leaf, fun e => ?_, fun e => ?_, N.free, ?_, N.text⟩
  · show ∃ d', getC G (if (j : Int) ∈ allI F n then d else c.doc) = some d' ∧ d'.kind = 0
    split
    · obtain ⟨d', h1, h2⟩ := h.doc
      exact ⟨_, h.ed.getC h1, h2⟩
    · obtain ⟨d', h1, h2⟩ := N.doc
      exact ⟨_, h.ed.getC h1, h2⟩
  · show (if (j : Int) ∈ allI F n then d else c.doc) = (j : Int)
    have e : c.kind = 0 := e
    have hnm : ¬ (j : Int) ∈ allI F n := fun hm => by
      rcases holds_up ((mem_all h.right h.lt hjl).1 hm) with e1 | ⟨s, e1, _⟩
      · exact h.kind (by rw [e1, kindK_at hc]; exact e)
      · have hn := (parS_next h.right hjl e1).1
        rw [nextUp_at hc] at hn
        have hn2 : (if c.parent = -1 then c.host else c.parent) = (s : Int) := hn
        have hpar : c.parent = -1 := by
          rcases N.par with h3 | ⟨h3, _⟩
          · exact h3
          · omega
        rw [if_pos hpar, N.free (by omega)] at hn2
        omega
    rw [if_neg hnm]
    exact N.own e
  · rcases N.par with h1 | ⟨h1, q, h2, h3, h4⟩
    · exact .inl h1
    · exact .inr ⟨h1, _, h.ed.getC h2, h3, h4⟩
  · obtain ⟨c', h1, h2, h3, h4⟩ := N.kids k hk
    obtain ⟨g0, g1, g2⟩ := getC_some h1
    have hkn : ((k.toNat : Nat) : Int) = k := by omega
    refine ⟨_, h.ed.getC h1, h2, h3, ?_⟩
    show (if ((k.toNat : Nat) : Int) ∈ allI F n then d else c'.doc) = if (j : Int) ∈ allI F n then d else c.doc
    have hu := h.up g1 (parS_parent g2 h3)
    by_cases e : (j : Int) ∈ allI F n
    · rw [if_pos e, if_pos (hu.2 e)]
    · rw [if_neg e, if_neg (fun e2 => e (hu.1 e2)), h4]
  · obtain ⟨h1, h2⟩ := N.root e
    exact ⟨h1, fun k hk => by rw [h.ed.kindK]; exact h2 k hk⟩
  · obtain ⟨d', h1, h2, h3, h4⟩ := N.host e
    obtain ⟨g0, g1, g2⟩ := getC_some h1
    refine ⟨_, h.ed.getC h1, h2, h3, ?_⟩
    show (if ((c.host.toNat : Nat) : Int) ∈ allI F n then d else d'.doc) = if (j : Int) ∈ allI F n then d else c.doc
    have e4 : c.kind = 4 := e
    have hpar : c.parent = -1 := by
      rcases N.par with h5 | ⟨h5, _⟩
      · exact h5
      · omega
    have hu := h.up hjl (parS_host hc hpar (show c.host = ((c.host.toNat : Nat) : Int) by omega))
    by_cases e : (j : Int) ∈ allI F n
    · rw [if_pos e, if_pos (hu.1 e)]
    · rw [if_neg e, if_neg (fun e2 => e (hu.2 e2)), h4]
  · rcases N.under with h1 | ⟨h1, u, h2, h3, h4⟩
    · exact .inl h1
    · exact .inr ⟨h1, _, h.ed.getC h2, h3, h4⟩
theorem Taken.next (h : Taken m F G n d) (j : Nat) : nextUp G (j : Int) = nextUp F j := by
  by_cases hj : j < F.length
  · have hc : F[j]? = some F[j] := List.getElem?_eq_getElem hj
    rw [h.ed.next hc, nextUp_at hc]
    rfl
  · unfold nextUp
    rw [getC_nat, getC_nat, List.getElem?_eq_none (by rw [h.ed.len]; omega), List.getElem?_eq_none (by omega)]
theorem Taken.rightG (h : Taken m F G n d) : rightF m G = true := by
  obtain ⟨⟨h1, h2, h3, h4⟩, _, _⟩ := (rightF_iff m F).1 h.right
  refine right_of h1 h2 (by rw [h.ed.len]; exact h3) (h.ed.head h4) (fun i y hy => h.node hy) (rankF F) (fun i hi => ?_)
  rw [h.ed.len] at hi ⊢
  rw [h.next]
  exact rank_next h.right hi
end
end
end Go.Proofs.YtnjoimedilonnaaGreat
namespace Go.Proofs.YtnjoimedilonnaaGreat
open Go.RowKit
abbrev ptrV (b : Nat) : Value := .pointer (some ⟨b, 0, none⟩)
section
variable {ρ : Nat → Nat} {pw g cap len : Nat} {m : Int} {M : List NodeD} {v : Value} {N : List NoteD}
abbrev noteB (x : NoteD) : Obj := .cells #[.int .i64 x.kind, .int .i64 x.node, .int .i64 x.src, .int .i64 x.dst, .string x.name, .bool x.had, .bool x.has, .string x.old, .string x.new] 144
structure TBox (W : World) (b : Nat) (x : NoteD) : Prop where
  lt : b < W.heap.size
  c : ∀ j u, (encO x)[j]? = some u → W.cell? ⟨b, j, none⟩ = some u
  f : ∀ j, W.frozen? ⟨b, j, none⟩ = false
theorem TBox.new (W : World) (x : NoteD) : TBox (W.alloc (noteB x)) W.heap.size x :=
  ⟨by simp, fun j u hu => by rw [cell_of_row (W.alloc (noteB x)) W.heap.size j _ 144 (0, 0) (heap_alloc_new W _)]; simpa [encO] using hu, fun j => row_free (heap_alloc_new W (noteB x)) j⟩
theorem TBox.keep {W W2 : World} {b : Nat} {x : NoteD} (h : TBox W b x) (hb : Below W.heap.size W W2) : TBox W2 b x :=
  ⟨Nat.lt_of_lt_of_le h.lt hb.size, fun j u hu => (hb.cell (p := ⟨b, j, none⟩) h.lt).trans (h.c j u hu), fun j => (hb.frozen (p := ⟨b, j, none⟩) h.lt).trans (h.f j)⟩
theorem TBox.at_ {W : World} {b : Nat} {x : NoteD} (h : TBox W b x) (z : Int) : TBox (W.setCell ⟨b, 1, none⟩ (.int .i64 z)) b (noteAt x z) := by
  refine ⟨by simpa [World.setCell] using h.lt, fun j u hu => ?_, fun j => by rw [World.frozen?_setCell]; exact h.f j⟩
  by_cases e : j = 1
  · subst e
    have hu : some (Value.int .i64 z) = some u := hu
    rw [← Option.some.inj hu]
    exact World.cell?_setCell_same _ _ _ (h.c 1 _ rfl)
  · rw [World.cell?_setCell_other _ _ _ _ (fun e' => by injection e' with _ e'; omega)]
    refine h.c j u ?_
    rw [show encO (noteAt x z) = (encO x).set 1 (.int .i64 z) from rfl, List.getElem?_set_ne (fun e2 => e e2.symm)] at hu
    exact hu
theorem TBox.turn {W W2 : World} {b : Nat} {x : NoteD} (h : TBox W b x) (hs : W.heap.size ≤ W2.heap.size) (hb : W2.heap[b]? = W.heap[b]?) : TBox W2 b x :=
  ⟨Nat.lt_of_lt_of_le h.lt hs, fun j u hu => (World.cell?_of_block (w := W) (a := ⟨b, j, none⟩) hb).trans (h.c j u hu), fun j => (World.frozen?_of_block (w := W) (a := ⟨b, j, none⟩) hb).trans (h.f j)⟩
def WkPost (ρ : Nat → Nat) (w : World) (pw g cap len : Nat) (m : Int) (Q : List NodeD → List NoteD → Prop) (e : Ending) (w' : World) : Prop :=
  e = .returned (.tuple #[]) ∧ ∃ ρ' M' v' N', Wk ρ' w' pw g cap len m M' v' N' ∧ Turn ρ w w' ∧ (∀ k, k < w.heap.size → ρ' k = ρ k) ∧ Q M' N'
theorem own_some {w : World} {base : Nat} {e : TypeId} {size n : Nat} {v : Value} {xs : List Value} (h : w.ownsRow base e size v n xs) (hn : 0 < n) : ∃ g cap, v = .slice (some ⟨g, 0, none⟩) n cap := by
  rcases h.2 with ⟨_, h0⟩ | ⟨g, cap, cur, hv, _⟩
  · omega
  · exact ⟨g, cap, hv⟩
structure TellIn (ρ1 : Nat → Nat) (w1 : World) (pw g cap len : Nat) (m : Int) (M : List NodeD) (bx : Nat) (Nk : List NoteD) (wr : World) (ρk : Nat → Nat) (vk : Value) (xk : NoteD) : Prop where
  wk : Wk ρk wr pw g cap len m M vk Nk
  turn : Turn ρ1 w1 wr
  agree : ∀ k, k < w1.heap.size → ρk k = ρ1 k
  box : TBox wr bx xk
  b4 : ρ1 bx = 4
  blt : bx < w1.heap.size
section
variable {ρ1 ρk : Nat → Nat} {w1 wr W W1 : World} {bx : Nat} {Nk : List NoteD} {vk v' : Value} {xk : NoteD}
theorem TellIn.keep (h : TellIn ρ1 w1 pw g cap len m M bx Nk wr ρk vk xk) (hb : Below wr.heap.size wr W) : TellIn ρ1 w1 pw g cap len m M bx Nk W ρk vk xk :=
  ⟨h.wk.keep hb, h.turn.keep hb, h.agree, h.box.keep hb, h.b4, h.blt⟩
theorem TellIn.at_ (h : TellIn ρ1 w1 pw g cap len m M bx Nk wr ρk vk xk) (z : Int) : TellIn ρ1 w1 pw g cap len m M bx Nk (wr.setCell ⟨bx, 1, none⟩ (.int .i64 z)) ρk vk (noteAt xk z) :=
  ⟨h.wk.other (by rw [h.agree bx h.blt, h.b4]) _ _, h.turn.setCell (.inr (by rw [h.b4]; decide)) _ _, h.agree, h.box.at_ z, h.b4, h.blt⟩
theorem TellIn.more (h : TellIn ρ1 w1 pw g cap len m M bx Nk W ρk vk xk) (hok : NoteOk xk) (ho : W1.ownsRow 0 144 9 v' (Nk.length + 1) ((Nk ++ [xk]).flatMap encO)) (hg : W.grownBy W1 vk.ownBlock) (hat : v'.ownBlock = vk.ownBlock ∨ v'.ownBlock = some W.heap.size) :
    TellIn ρ1 w1 pw g cap len m M bx (Nk ++ [xk]) (W1.setCell ⟨pw, 2, none⟩ v') (upd ρk v'.ownBlock 3) v' xk ∧ W1.cell? ⟨pw, 2, none⟩ = some vk ∧ W1.frozen? ⟨pw, 2, none⟩ = false := by
  have hb : ∀ b, v'.ownBlock = some b → vk.ownBlock = some b ∨ W.heap.size ≤ b := fun b e => by
    rcases hat with h1 | h1
    · exact .inl (h1.symm.trans e)
    · rw [h1] at e
      injection e with e
      exact .inr (by omega)
  have hs := h.turn.size
  have pne : some pw ≠ vk.ownBlock := fun e => by
    have h1 := h.wk.nrole pw e.symm
    have h2 := h.wk.prole
    omega
  have sp := hg.block pw h.wk.plt pne
  have b4 : ρk bx = 4 := by rw [h.agree bx h.blt, h.b4]
  have bne : some bx ≠ vk.ownBlock := fun e => by
    have h1 := h.wk.nrole bx e.symm
    omega
  have hbp : bx ≠ pw := fun e => by
    have h2 := h.wk.prole
    rw [← e] at h2
    omega
  refine ⟨⟨h.wk.note hok hg ho hb, ?_, fun k hk => ?_, ?_, h.b4, h.blt⟩, (World.cell?_of_block (w := W) (a := ⟨pw, 2, none⟩) sp).trans h.wk.c2, (World.frozen?_of_block (w := W) (a := ⟨pw, 2, none⟩) sp).trans (h.wk.pfree 2)⟩
  · refine (h.turn.grown hg (fun k e => ?_)).setCell ?_ _ _
    · rcases Nat.lt_or_ge k w1.heap.size with h1 | h1
      · right
        rw [← h.agree k h1, h.wk.nrole k e]
        decide
      · exact .inl h1
    · rcases Nat.lt_or_ge pw w1.heap.size with h1 | h1
      · right
        rw [← h.agree pw h1, h.wk.prole]
        decide
      · exact .inl h1
  · rw [← h.agree k hk]
    exact upd_old (fun b e => (hb b e).imp (h.wk.nrole b) id) k (by omega)
  · refine h.box.turn (by simpa [World.setCell] using hg.size) ?_
    rw [Below.heap_setCell _ _ _ bx hbp]
    exact hg.block bx h.box.lt bne
end
theorem NoteOk.at_ {x : NoteD} (h : NoteOk x) {z : Int} (hz : In64 z) : NoteOk (noteAt x z) := ⟨h.kind, hz, h.src, h.dst, h.name, h.old, h.new⟩
end
end Go.Proofs.YtnjoimedilonnaaGreat
namespace Go.Proofs.YtnjoimedilonnaaGreat
open Go.RowKit
section
variable {m : Int} {F G : List Core} {P : Nat → Core → Int} {K : Nat → Core → List Int} {D : Nat → Core → Int}
end
end Go.Proofs.YtnjoimedilonnaaGreat
namespace Go.Proofs.YtnjoimedilonnaaGreat
open Go.RowKit
section
variable {ρ : Nat → Nat} {pw g cap len : Nat} {m : Int} {M : List NodeD} {v : Value} {N : List NoteD}
theorem core_set2 {M : List NodeD} {n p : Nat} {x y : NodeD} {a : Option Addr} {l c : Nat} {ks : List Int} {q : Int} (hx : M[n]? = some x) (hy : M[p]? = some y) (hnp : n ≠ p) :
    Edit (coreL M) (coreL ((M.set p (withK y a l c ks)).set n (withP x q))) (fun j c => if j = n then q else c.parent) (fun j c => if j = p then ks else c.kids) (fun _ c => c.doc) := by
  refine ⟨by unfold coreL; simp, fun j z hz => ?_⟩
  obtain ⟨u, hu, rfl⟩ : ∃ u, M[j]? = some u ∧ u.core = z := by
    unfold coreL at hz
    rw [List.getElem?_map] at hz
    cases hm : M[j]? with
    | none => rw [hm] at hz; cases hz
    | some u => rw [hm] at hz; exact ⟨u, rfl, Option.some.inj hz⟩
  have hjl := (List.getElem?_eq_some_iff.1 hu).1
  unfold coreL
  rw [List.getElem?_map]
  by_cases e : j = n
  · subst e
    obtain rfl : x = u := Option.some.inj (hx.symm.trans hu)
    rw [List.getElem?_set_self (by rw [List.length_set]; exact hjl), if_pos rfl, if_neg hnp]
    rfl
  · rw [List.getElem?_set_ne (fun e2 => e e2.symm), if_neg e]
    by_cases e2 : j = p
    · subst e2
      obtain rfl : y = u := Option.some.inj (hy.symm.trans hu)
      rw [List.getElem?_set_self hjl, if_pos rfl]
      rfl
    · rw [List.getElem?_set_ne (fun e3 => e2 e3.symm), if_neg e2, hu]
      rfl
theorem in64_nat {n : Nat} (h : n ≤ 1000) : In64 (n : Int) := ⟨by omega, by omega⟩
end
end Go.Proofs.YtnjoimedilonnaaGreat
namespace Go.Proofs.YtnjoimedilonnaaGreat
open Go.RowKit
section
variable {ρ : Nat → Nat} {pw g cap len : Nat} {m : Int} {M : List NodeD} {v : Value} {N : List NoteD}
def insAt (l : List Int) (b : Int) : Nat := if b = -1 then l.length else findN l b
theorem insAt_le (l : List Int) (b : Int) (hb : b = -1 ∨ b ∈ l) : insAt l b ≤ l.length := by
  unfold insAt
  by_cases e : b = -1
  · rw [if_pos e]; exact Nat.le_refl _
  · rw [if_neg e]; exact Nat.le_of_lt (findN_mem (hb.resolve_left e))
theorem insB_eq (l : List Int) (b n : Int) : l.take (insAt l b) ++ n :: l.drop (insAt l b) = insB l b n := by
  unfold insAt insB
  by_cases e : b = -1
  · rw [if_pos e, if_pos e, List.take_of_length_le (Nat.le_refl _), List.drop_eq_nil_of_le (Nat.le_refl _)]
  · rw [if_neg e, if_neg e]
set_option maxHeartbeats 8000000 in
set_option maxRecDepth 100000 in
theorem mstandP_any (w : World) (h : Wk ρ w pw g cap len m M v N) (hs : smallF M) (n p : Nat) (x y : NodeD) (hx : M[n]? = some x) (hy : M[p]? = some y) (hnp : n ≠ p) (b : Int) (hb : b = -1 ∨ b ∈ y.core.kids) :
    Calls Tryz.prog 81 #[ptrV pw, .int .i64 n, .int .i64 p, .int .i64 b] w (WkPost ρ w pw g cap len m fun M' N' => (∃ a c, M' = (M.set p (withK y a (y.kN + 1) c (insB y.core.kids b n))).set n (withP x p)) ∧ N' = N) := by
  have hl1k : len ≤ 1000 := by rw [← h.hlen]; exact hs.1
  have hn : n < len := by rw [← h.hlen]; exact (List.getElem?_eq_some_iff.1 hx).1
  have hpl : p < len := by rw [← h.hlen]; exact (List.getElem?_eq_some_iff.1 hy).1
  have hkl : y.core.kids.length = y.kN := (h.kidsRow hy).hlen
  have hk1k : y.kN ≤ 1000 := by rw [← hkl]; exact (hs.2 y (List.mem_of_getElem? hy)).1
  obtain ⟨i, hi⟩ : ∃ i, insAt y.core.kids b = i := ⟨_, rfl⟩
  have hil : i ≤ y.kN := by rw [← hkl, ← hi]; exact insAt_le _ _ hb
  have hnn : In64 (n : Int) := in64_nat (by omega)
  have hpp : In64 (p : Int) := in64_nat (by omega)
  have CX : Hid (b ≠ -1 → Calls Tryz.prog 35 #[.slice y.kA y.kN y.kC, .int .i64 b] w fun e w' => e = .returned (.int .i64 i) ∧ w = w') := Lib.hid (fun hne => by
    have h1 := findZ_mem (hb.resolve_left hne)
    have h2 : insAt y.core.kids b = findN y.core.kids b := by unfold insAt; rw [if_neg hne]
    have h3 : findZ y.core.kids b = (i : Int) := by rw [h1, ← h2, hi]
    rw [← h3]
    exact index_any _ _ _ _ _ w (h.kidsRow hy))
  have hIL : b = -1 → i = y.kN := fun e => by rw [← hi, ← hkl]; unfold insAt; rw [if_pos e]
  obtain ⟨WI, hWI, WK2, HBI, HCELL⟩ : ∃ WI, (w.alloc (.cells #[.int .i64 (n : Int)] 3)).drew = WI ∧ Hid (Wk ρ WI pw g cap len m M v N) ∧ Hid (Below w.heap.size w WI) ∧ Hid (WI.heap[w.heap.size]? = some (.cells #[.int .i64 (n : Int)] 3 (0, 0))) := by
    have hb2 : Below w.heap.size w (w.alloc (.cells #[.int .i64 (n : Int)] 3)).drew := ((Below.refl _ _).alloc (Nat.le_refl _) _).drew
    exact ⟨_, rfl, Lib.hid (h.keep hb2), Lib.hid hb2, Lib.hid (heap_alloc_new w _)⟩
  have CI : Hid (Calls Tryz.prog 91 #[.slice y.kA y.kN y.kC, .int .i64 i, .slice (some ⟨w.heap.size, 0, none⟩) 1 1] WI (InsPost 0 (.slice y.kA y.kN y.kC) y.kN (insB y.core.kids b n) WI)) := Lib.hid (by
    rw [← insB_eq, hi]
    exact insertI_any WI 0 y.kN i _ y.core.kids n w.heap.size (Nat.zero_le _) (WK2.out.kown p y hy) hil (by omega) HCELL.out (fun e => by
      have := own_block_lt (h.kown p y hy) e
      omega))
  have HKR : Hid (∀ b', Value.ownBlock (.slice y.kA y.kN y.kC) = some b' → ρ b' = p + 6) := Lib.hid (fun b' e => h.krole p y b' hy e)
  have HINK : Hid (∀ z ∈ insB y.core.kids b n, In64 z) := Lib.hid (fun z hz => by
    have hk := (h.fld y (List.mem_of_getElem? hy)).kids
    rw [← insB_eq] at hz
    rcases List.mem_append.1 hz with hz | hz
    · exact hk z (List.mem_of_mem_take hz)
    · rcases List.mem_cons.1 hz with rfl | hz
      · exact hnn
      · exact hk z (List.mem_of_mem_drop hz))
  have HW := Lib.hid h
  have HX := Lib.hid hx
  have HY := Lib.hid hy
  have HP64 := Lib.hid hpp
  have HWI := Lib.hid hWI
  have p0 := h.c0
  have y6 := (h.at_ hy).c6
  have p0a := fun o => (h.keep (below_box w o)).c0
  have y6a := fun o => ((h.keep (below_box w o)).at_ hy).c6
  have hl64 : (len : Int) ≤ 9223372036854775807 := by omega
  have hkn64 : (y.kN : Int) ≤ 9223372036854775807 := by omega
  clear h hs hx hy hkl hi hb hnn hpp hWI
  go_enter Tryz.func81, Tryz.ntmps81
  go_upto_if 23 with fail
  go_cut [9] (fun c wx => wx = w ∧ c = .int .i64 i)
  case first =>
    by_cases he : b = -1
    · have e1 : (b != -1) = false := by rw [he]; rfl
      have e2 := hIL he
      clear he
      go_wp2
      go_meet
      exact ⟨rfl, by rw [e2]⟩
    · have e1 : (b != -1) = true := bne_iff_ne.2 he
      have CX := CX.out he
      clear he
      go_wp2_with (go_at_call 35; (with_reducible refine CX.mono ?_); rintro e w3 ⟨rfl, rfl⟩)
      go_meet
      exact ⟨rfl, rfl⟩
  case rest =>
    obtain ⟨rfl, rfl⟩ := hcut
    go_upto_region 4 with fail
    go_region_with (go_at_call 91; rw [HWI.out]; (refine CI.out.mono ?_); rintro e w6 ⟨v6, rfl, ho6, hg6, hb6⟩; obtain ⟨g6, cap6, rfl⟩ := own_some ho6 (Nat.succ_pos _); have MID := WK2.out.mid hg6 (fun b' e => by rw [HKR.out b' e]; omega); have p0 := MID.c0; have f6 := MID.gfree (p * 10 + 6); have f5 := MID.gfree (n * 10 + 5); have c6 := MID.cells p y 6 _ HY.out rfl; have c5 := MID.cells n x 5 _ HX.out rfl; have hne : n * 10 + 5 ≠ p * 10 + 6 := (by omega); have HO6 := Lib.hid ho6; have HG6 := Lib.hid hg6; have HB6 := Lib.hid hb6; clear ho6 hg6 hb6 MID)
    all_goals go_wp2
    all_goals
      have W7 := WK2.out.setK HY.out HG6.out HO6.out HB6.out HINK.out
      have hxn : (M.set p (withK y (some ⟨g6, 0, none⟩) (y.kN + 1) cap6 (insB y.core.kids b n)))[n]? = some x := by rw [List.getElem?_set_ne (fun e => hnp e.symm)]; exact HX.out
      have W8 := W7.setP hxn HP64.out
      have hsz := HBI.out.size
      have T8 := (((Turn.of_below (ρ := ρ) HBI.out).grown HG6.out (fun k e => .inr (by rw [HKR.out k e]; omega))).setCell (b := g) (.inr (by rw [WK2.out.grole]; decide)) (p * 10 + 6) (.slice (some ⟨g6, 0, none⟩) (y.kN + 1) cap6)).setCell (b := g) (.inr (by rw [WK2.out.grole]; decide)) (n * 10 + 5) (.int .i64 (p : Int))
      exact bodyPost_ret (v := .tuple #[]) (by simp [results, Tryz.results81]) rfl ⟨rfl, _, _, v, N, W8, T8, upd_old (fun k e => (HB6.out k e).imp (HKR.out k) (fun h => Nat.le_trans hsz h)), ⟨_, _, rfl⟩, rfl⟩
theorem stand_core {n p : Nat} {x y : NodeD} (hx : M[n]? = some x) (hy : M[p]? = some y) (hnp : n ≠ p) {b : Int} {a : Option Addr} {l c : Nat} : coreL ((M.set p (withK y a l c (insB y.core.kids b n))).set n (withP x p)) = mvIn (coreL M) n p b := by
  refine ((core_set2 hx hy hnp).cong (fun j c hc => ⟨rfl, ?_, rfl⟩)).eq
  by_cases e : j = p
  · subst e
    rw [coreL_get hy] at hc
    rw [if_pos rfl, if_pos rfl, ← Option.some.inj hc]
  · rw [if_neg e, if_neg e]
end
end Go.Proofs.YtnjoimedilonnaaGreat
namespace Go.Proofs.YtnjoimedilonnaaGreat
open Go.RowKit Go.Maps Go.WideMaps
theorem grown_set13 {w W : World} {g : Nat} (h : w.grownBy W (some g)) (o : Nat) (u : Value) : w.grownBy (W.setCell ⟨g, o, none⟩ u) (some g) :=
  ⟨h.os, h.tape, h.output, by simpa [World.setCell] using h.size, fun k hk hne => (Below.heap_setCell _ _ _ k (fun e => hne (by rw [e]))).trans (h.block k hk hne)⟩
structure OwnAt (F : List Core) (w0 w3 W : World) (g len : Nat) (V0 : List Int) (t : List Nat) (k : Nat) (V : List Int) : Prop where
  below : Below w0.heap.size w0 W
  grown : w3.grownBy W (some g)
  row : ORow encI W g V
  hl : V.length = len
  at_ : ∀ i : Nat, V[i]? = if i ∈ t.take k then some (ownF F i) else V0[i]?
section
variable {F : List Core} {w0 w3 W X : World} {g len k : Nat} {V0 V : List Int} {t : List Nat}
theorem OwnAt.keep (h : OwnAt F w0 w3 W g len V0 t k V) (hb : Below W.heap.size W X) : OwnAt F w0 w3 X g len V0 t k V :=
  ⟨h.below.trans (hb.mono h.below.size), grown_then h.grown hb, h.row.keep hb, h.hl, h.at_⟩
theorem OwnAt.step (h : OwnAt F w0 w3 W g len V0 t k V) (hg : w0.heap.size ≤ g) {i : Nat} (hi : t[k]? = some i) (hil : i < len) {z : Int} (hz : ownF F i = z) : OwnAt F w0 w3 (W.setCell ⟨g, i, none⟩ (.int .i64 z)) g len V0 t (k + 1) (V.set i z) := by
  refine ⟨h.below.setCell (p := ⟨g, i, none⟩) hg _, grown_set13 h.grown _ _, h.row.set (by rw [h.hl]; exact hil) z, by rw [List.length_set]; exact h.hl, fun j => ?_⟩
  have hm : ∀ x, x ∈ t.take (k + 1) ↔ x ∈ t.take k ∨ x = i := fun x => by
    rw [List.take_add_one, hi]
    simp
  by_cases e : i = j
  · subst e
    rw [List.getElem?_set_self (by rw [h.hl]; exact hil), if_pos ((hm i).2 (.inr rfl)), hz]
  · rw [List.getElem?_set_ne e, h.at_ j]
    by_cases hj : j ∈ t.take k
    · rw [if_pos hj, if_pos ((hm j).2 (.inl hj))]
    · rw [if_neg hj, if_neg (fun h2 => by rcases (hm j).1 h2 with h2 | h2; exact hj h2; exact e h2.symm)]
end
theorem ordI_nat (F : List Core) (r : Nat) : ordI F (r : Int) = natL (ordF F r) := by unfold ordI natL; rw [Int.toNat_natCast]
end Go.Proofs.YtnjoimedilonnaaGreat
namespace Go.Proofs.YtnjoimedilonnaaGreat
open Go.RowKit Go.Maps Go.WideMaps
theorem ORow.stay {α : Type} {enc : α → Value} {w w' : World} {g : Nat} {L : List α} (h : ORow enc w g L) (hb : Below w.heap.size w w') : ORow enc w' g L := h.keep hb
end Go.Proofs.YtnjoimedilonnaaGreat
namespace Go.Proofs.YtnjoimedilonnaaGreat
open Go.RowKit
theorem right_attrs {m : Int} {F : List Core} (h : rightF m F = true) {n : Nat} {x : Core} (hx : F[n]? = some x) : rightA x.attrs = true := by
  have h1 := (nodeOk_iff.1 (((rightF_iff m F).1 h).2.1 n x hx)).2.2.2.2.2
  unfold textOk at h1
  by_cases hk : x.kind = 1
  · rw [if_pos hk] at h1
    simp only [Bool.and_eq_true] at h1
    exact h1.2
  · rw [if_neg hk] at h1
    simp only [Bool.and_eq_true, decide_eq_true_eq] at h1
    rw [List.length_eq_zero_iff.1 h1.1.2]
    rfl
theorem value_at {L : AL} {l : List UInt8} (h : rightA L = true) (hl : rightL l = true) (hs : smallL l = l) :
    (atL L l = -1 ∧ hasA L l = false ∧ valA L l = ⟨#[]⟩) ∨ ∃ (k : Nat) (x : ByteArray × ByteArray), atL L l = k ∧ L[k]? = some x ∧ hasA L l = true ∧ valA L l = x.2 := by
  have hp : placeA L l = atN L l := by unfold placeA; rw [hs]
  by_cases e : atN L l < L.length
  · have hh : hasA L l = true := by unfold hasA; rw [h, hl, hp, decide_eq_true e]; rfl
    refine .inr ⟨atN L l, L[atN L l], by unfold atL; rw [if_pos e], List.getElem?_eq_getElem e, hh, ?_⟩
    unfold valA
    rw [if_pos hh, hp, List.getElem?_eq_getElem e]
    rfl
  · have hh : hasA L l = false := by unfold hasA; rw [hp, decide_eq_false e, Bool.and_false]
    refine .inl ⟨by unfold atL; rw [if_neg e], hh, ?_⟩
    unfold valA
    rw [hh, if_neg Bool.false_ne_true]
    rfl
end Go.Proofs.YtnjoimedilonnaaGreat
