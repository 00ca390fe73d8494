/- For instarlaw09's DeskTells: what its memory holds at the head of a round; what is done opened. -/
import Derived.Test.YtapfhgimeohmgaaDeskWant
namespace Go.Proofs.Ytapfhgimeohmgaa
open Go.RowKit Go.Deep Go.ChangeShapes Go.WideShapes
theorem DefRow.same2 {w W : World} {a : Option Addr} {len cap : Nat} {L : List DefD} (h : DefRow w a len cap L) (hs : ∀ b off, a = some ⟨b, off, none⟩ → 0 < len → W.heap[b]? = w.heap[b]?) (hz : w.heap.size ≤ W.heap.size) : DefRow W a len cap L :=
  ⟨h.row.keep hz (fun b off e hp o => World.cell?_of_block (a := ⟨b, o, none⟩) (hs b off e hp)), h.ok, h.hnil⟩
theorem WaitRow.same2 {w W : World} {a : Option Addr} {len cap : Nat} {L : List WaitD} (h : WaitRow w a len cap L) (hs : ∀ b off, a = some ⟨b, off, none⟩ → 0 < len → W.heap[b]? = w.heap[b]?) (hz : w.heap.size ≤ W.heap.size) : WaitRow W a len cap L :=
  ⟨h.row.keep hz (fun b off e hp o => World.cell?_of_block (a := ⟨b, o, none⟩) (hs b off e hp)), h.ok, h.hnil⟩
theorem DefRow.block_lt {w : World} {b off len cap : Nat} {L : List DefD} (h : DefRow w (some ⟨b, off, none⟩) len cap L) (hp : 0 < len) : b < w.heap.size := by
  obtain ⟨b', off', x, e, hlt, _⟩ := h.get hp
  injection e with e
  injection e with e1 _
  omega
theorem WaitRow.block_lt {w : World} {b off len cap : Nat} {L : List WaitD} (h : WaitRow w (some ⟨b, off, none⟩) len cap L) (hp : 0 < len) : b < w.heap.size := by
  obtain ⟨b', off', x, e, hlt, _⟩ := h.get hp
  injection e with e
  injection e with e1 _
  omega
structure DoRow (W : World) (a : Option Addr) (len cap : Nat) (L : List DoD) : Prop where
  row : SRow encDo 3 W a len cap L
  ok : ∀ x ∈ L, okDo x
theorem DoRow.below {W V : World} {a : Option Addr} {len cap : Nat} {L : List DoD} (h : DoRow W a len cap L) (hb : Below W.heap.size W V) : DoRow V a len cap L := ⟨h.row.below hb, h.ok⟩
theorem DoRow.get {W : World} {a : Option Addr} {len cap : Nat} {L : List DoD} (h : DoRow W a len cap L) {k : Nat} (hk : k < len) :
    ∃ b off x, a = some ⟨b, off, none⟩ ∧ b < W.heap.size ∧ L[k]? = some x ∧ W.cell? ⟨b, off + k * 3, none⟩ = some (.int .u8 x.kind) ∧ W.cell? ⟨b, off + k * 3 + 1, none⟩ = some (.int .u8 x.name) ∧ W.cell? ⟨b, off + k * 3 + 2, none⟩ = some (.int .u8 x.cls) ∧ okDo x := by
  obtain ⟨b, off, x, ha, hlt, hg, _, hc⟩ := h.row.get hk
  exact ⟨b, off, x, ha, hlt, hg, hc 0 _ rfl, hc 1 _ rfl, hc 2 _ rfl, h.ok _ (List.mem_of_getElem? hg)⟩
set_option maxRecDepth 100000 in
theorem open_do9 {H : Type} {en : TypeId × Value → H} {W : World} (cs : List Value) (fuel : Nat) (d : DataW H) (p : List MemPlace) (hc : cs.length = 3)
    (h : DataW.trod en Try.prog W 0 (fun _ => true) true fuel 59 cs = some (d, p)) : ∃ x : DoD, cs = encDo x ∧ okDo x := by
  obtain ⟨xs, k, _, _, _, hxl, hff⟩ := DataW.trod_struct Try.underlying59 h
  have c5 : Try.prog.cellsOf 5 = 1 := by kernel_rfl
  match cs, hc, xs, hxl with
  | [v0, v1, v2], _, [y0, y1, y2], _ =>
    have g0 := hff 0 _ rfl
    have g1 := hff 1 _ rfl
    have g2 := hff 2 _ rfl
    simp [c5] at g0 g1 g2
    obtain ⟨n0, hn0, _, hw0⟩ := DataW.trod_int Try.underlying5 g0
    obtain ⟨n1, hn1, _, hw1⟩ := DataW.trod_int Try.underlying5 g1
    obtain ⟨n2, hn2, _, hw2⟩ := DataW.trod_int Try.underlying5 g2
    simp at hn0 hn1 hn2
    subst hn0 hn1 hn2
    exact ⟨⟨n0, n1, n2⟩, rfl, bounds_u8 hw0, bounds_u8 hw1, bounds_u8 hw2⟩
theorem open_dos {H : Type} {en : TypeId × Value → H} {W : World} {a : Option Addr} {len cap : Nat} {d : DataW H} {p : List MemPlace}
    (h : DataW.Trod en Try.prog W 0 (fun _ => true) true 54 (.slice a len cap) d p) : ∃ L, DoRow W a len cap L := by
  obtain ⟨L, h1, h2, _⟩ := open_rows encDo 3 okDo Try.underlying54 (te := 59) (by kernel_rfl) (by decide) open_do9 h
  exact ⟨L, h1, h2⟩
/-- What the law's memory holds: the desk, what is wanted, what is defined, what is used. -/
structure TellsAt (w W : World) (g : Nat) (da : Option Addr) (dl dc : Nat) (wa : Option Addr) (wl wc : Nat) (D : DeskD) (T : Nat → List Int) (df us : Nat → Bool) : Prop where
  k : KBox w W g da dl dc wa wl wc D
  t : Want w.heap.size W (g + 1) T
  f : Truths W (g + 2) 6 df
  u : Truths W (g + 3) 12 us
  offD : ∀ b off, da = some ⟨b, off, none⟩ → 0 < dl → Want.Off W (g + 1) b ∧ b < W.heap.size ∧ b ≠ g ∧ b ≠ g + 1 ∧ b ≠ g + 2 ∧ b ≠ g + 3
  offT : ∀ b off, wa = some ⟨b, off, none⟩ → 0 < wl → Want.Off W (g + 1) b ∧ b < W.heap.size ∧ b ≠ g ∧ b ≠ g + 1 ∧ b ≠ g + 2 ∧ b ≠ g + 3
  o3 : Want.Off W (g + 1) g
  o5 : Want.Off W (g + 1) (g + 2)
  o6 : Want.Off W (g + 1) (g + 3)
section
variable {w W V : World} {g : Nat} {da wa da' wa' : Option Addr} {dl dc wl wc dl' dc' wl' wc' : Nat} {D E : DeskD} {T : Nat → List Int} {df us : Nat → Bool}
theorem TellsAt.keep (h : TellsAt w W g da dl dc wa wl wc D T df us) (hb : Below W.heap.size W V) : TellsAt w V g da dl dc wa wl wc D T df us :=
  ⟨h.k.keep hb, h.t.keep hb, h.f.keep hb, h.u.keep hb, fun b off e hp => ⟨h.t.offKeep (h.offD b off e hp).1 hb, Nat.lt_of_lt_of_le (h.offD b off e hp).2.1 hb.size, (h.offD b off e hp).2.2⟩, fun b off e hp => ⟨h.t.offKeep (h.offT b off e hp).1 hb, Nat.lt_of_lt_of_le (h.offT b off e hp).2.1 hb.size, (h.offT b off e hp).2.2⟩, h.t.offKeep h.o3 hb, h.t.offKeep h.o5 hb, h.t.offKeep h.o6 hb⟩
theorem Want.far4 {base : Nat} {g g4 : Nat} {a b c d : Value} (h : Want base W g4 T) (hg : g ≠ g4) (ho : Want.Off W g4 g) : Want base (put4 W g a b c d) g4 T := by
  have h1 := h.far (o := 0) hg ho a
  have o1 := Want.farOff (W := W) (b := g) (o := 0) (u := a) hg ho
  have h2 := h1.far (o := 1) hg o1 b
  have o2 := Want.farOff (b := g) (o := 1) (u := b) hg o1
  have h3 := h2.far (o := 2) hg o2 c
  have o3 := Want.farOff (b := g) (o := 2) (u := c) hg o2
  exact h3.far (o := 3) hg o3 d
theorem Want.farOff4 {g g4 x : Nat} {a b c d : Value} (hg : g ≠ g4) (ho : Want.Off W g4 x) : Want.Off (put4 W g a b c d) g4 x :=
  Want.farOff hg (Want.farOff hg (Want.farOff hg (Want.farOff hg ho)))
/-- Another desk is taken over. -/
theorem TellsAt.take (h : TellsAt w W g da dl dc wa wl wc D T df us) (hd : DefRow W da' dl' dc' E.defs) (ht : WaitRow W wa' wl' wc' E.waits)
    (oD : ∀ b off, da' = some ⟨b, off, none⟩ → 0 < dl' → Want.Off W (g + 1) b ∧ b < W.heap.size ∧ b ≠ g ∧ b ≠ g + 1 ∧ b ≠ g + 2 ∧ b ≠ g + 3) (oT : ∀ b off, wa' = some ⟨b, off, none⟩ → 0 < wl' → Want.Off W (g + 1) b ∧ b < W.heap.size ∧ b ≠ g ∧ b ≠ g + 1 ∧ b ≠ g + 2 ∧ b ≠ g + 3) :
    TellsAt w (put4 W g (.slice da' dl' dc') (.slice wa' wl' wc') (.int .i64 E.next) (.bool E.busy)) g da' dl' dc' wa' wl' wc' E T df us := by
  have n1 : g ≠ g + 1 := by omega
  have hz : W.heap.size ≤ (put4 W g (.slice da' dl' dc') (.slice wa' wl' wc') (.int .i64 E.next) (.bool E.busy)).heap.size := by rw [put4_size]; exact Nat.le_refl _
  refine ⟨⟨(((h.k.bx.set0 _).set1 _).set2 _).set3 _, hd.same2 (fun b off e hp => put4_same (oD b off e hp).2.2.1) hz, ht.same2 (fun b off e hp => put4_same (oT b off e hp).2.2.1) hz, h.k.low, put4_below h.k.below h.k.low⟩, h.t.far4 n1 h.o3, h.f.same (put4_same (by omega)) hz, h.u.same (put4_same (by omega)) hz, fun b off e hp => ⟨Want.farOff4 n1 (oD b off e hp).1, by rw [put4_size]; exact (oD b off e hp).2.1, (oD b off e hp).2.2⟩, fun b off e hp => ⟨Want.farOff4 n1 (oT b off e hp).1, by rw [put4_size]; exact (oT b off e hp).2.1, (oT b off e hp).2.2⟩, Want.farOff4 n1 h.o3, Want.farOff4 n1 h.o5, Want.farOff4 n1 h.o6⟩
/-- A row of what is wanted is written. -/
theorem TellsAt.want (h : TellsAt w W g da dl dc wa wl wc D T df us) {k : Nat} (hk : k < 6) {v : Value} (hv : W.cell? ⟨g + 1, k, none⟩ = some v) {row : Option Nat} (hg : W.grownBy V row) (hrow : row = none ∨ row = v.ownBlock) {v' : Value} {t : List Int} (ho : V.ownsRow w.heap.size 3 1 v' t.length (t.flatMap encZ)) (hat : ∀ b, v'.ownBlock = some b → v.ownBlock = some b ∨ W.heap.size ≤ b) :
    TellsAt w (V.setCell ⟨g + 1, k, none⟩ v') g da dl dc wa wl wc D (fun j => if j = k then t else T j) df us := by
  have base : ∀ b, row = some b → w.heap.size ≤ b := fun b e => by
    rcases hrow with hr | hr
    · rw [hr] at e; cases e
    · obtain ⟨v0, h1, h2, _⟩ := h.t.row k hk
      rw [h1] at hv
      obtain rfl := Option.some.inj hv
      exact (h2.lt b (by rw [← hr, e])).1
  have offr : ∀ b, Want.Off W (g + 1) b → some b ≠ row := fun b hb e => by
    rcases hrow with hr | hr
    · rw [hr] at e; cases e
    · rw [hr] at e
      exact hb k v hk hv e.symm
  have same : ∀ b, b < W.heap.size → Want.Off W (g + 1) b → b ≠ g + 1 → (V.setCell ⟨g + 1, k, none⟩ v').heap[b]? = W.heap[b]? := fun b hb hof hne => (Below.heap_setCell _ _ _ b hne).trans (hg.block b hb (offr b hof))
  have hz : W.heap.size ≤ (V.setCell ⟨g + 1, k, none⟩ v').heap.size := by simp only [World.setCell, Array.size_modify]; exact hg.size
  have hl := h.k.bx.lt
  have po := fun {c : Nat} (ho : Want.Off W (g + 1) c) (hc : c < W.heap.size) => h.t.putOff hk hv hg hrow hat ho hc
  refine ⟨⟨h.k.bx.same (same g hl h.o3 (by omega)) hz, h.k.d.same2 (fun b off e hp => same b (h.offD b off e hp).2.1 (h.offD b off e hp).1 (h.offD b off e hp).2.2.2.1) hz, h.k.t.same2 (fun b off e hp => same b (h.offT b off e hp).2.1 (h.offT b off e hp).1 (h.offT b off e hp).2.2.2.1) hz, h.k.low, (h.k.below.grown hg h.k.below.size base).setCell (by have := h.k.low; show _ ≤ g + 1; omega) _⟩, h.t.put hk hv hg hrow ho hat, h.f.same (same _ h.f.lt h.o5 (by omega)) hz, h.u.same (same _ h.u.lt h.o6 (by omega)) hz, fun b off e hp => ⟨po (h.offD b off e hp).1 (h.offD b off e hp).2.1, Nat.lt_of_lt_of_le (h.offD b off e hp).2.1 hz, (h.offD b off e hp).2.2⟩, fun b off e hp => ⟨po (h.offT b off e hp).1 (h.offT b off e hp).2.1, Nat.lt_of_lt_of_le (h.offT b off e hp).2.1 hz, (h.offT b off e hp).2.2⟩, po h.o3 hl, po h.o5 h.f.lt, po h.o6 h.u.lt⟩
/-- A name is defined, a class is used. -/
theorem TellsAt.mark (h : TellsAt w W g da dl dc wa wl wc D T df us) {k c : Nat} (hk : k < 6) (hc : c < 12) :
    TellsAt w ((W.setCell ⟨g + 2, k, none⟩ (.bool true)).setCell ⟨g + 3, c, none⟩ (.bool true)) g da dl dc wa wl wc D T (fun j => if j = k then true else df j) (fun j => if j = c then true else us j) := by
  have same : ∀ b, b ≠ g + 2 → b ≠ g + 3 → ((W.setCell ⟨g + 2, k, none⟩ (.bool true)).setCell ⟨g + 3, c, none⟩ (.bool true)).heap[b]? = W.heap[b]? := fun b h1 h2 => (Below.heap_setCell _ _ _ b h2).trans (Below.heap_setCell _ _ _ b h1)
  have hsz : ((W.setCell ⟨g + 2, k, none⟩ (.bool true)).setCell ⟨g + 3, c, none⟩ (.bool true)).heap.size = W.heap.size := by simp [World.setCell]
  have hz : W.heap.size ≤ ((W.setCell ⟨g + 2, k, none⟩ (.bool true)).setCell ⟨g + 3, c, none⟩ (.bool true)).heap.size := by omega
  have n1 : g + 2 ≠ g + 1 := by omega
  have n2 : g + 3 ≠ g + 1 := by omega
  have off : ∀ {x : Nat}, Want.Off W (g + 1) x → Want.Off ((W.setCell ⟨g + 2, k, none⟩ (.bool true)).setCell ⟨g + 3, c, none⟩ (.bool true)) (g + 1) x := fun ho => Want.farOff n2 (Want.farOff n1 ho)
  refine ⟨⟨h.k.bx.same (same g (by omega) (by omega)) hz, h.k.d.same2 (fun b off e hp => same b (h.offD b off e hp).2.2.2.2.1 (h.offD b off e hp).2.2.2.2.2) hz, h.k.t.same2 (fun b off e hp => same b (h.offT b off e hp).2.2.2.2.1 (h.offT b off e hp).2.2.2.2.2) hz, h.k.low, (h.k.below.setCell (by have := h.k.low; show _ ≤ g + 2; omega) _).setCell (by have := h.k.low; show _ ≤ g + 3; omega) _⟩, (h.t.far n1 h.o5 _).far n2 (Want.farOff n1 h.o6) _, (h.f.set hk).far (by omega) _, (h.u.far (b := g + 2) (o := k) (by omega) _).set hc, fun b off' e hp => ⟨off (h.offD b off' e hp).1, by rw [hsz]; exact (h.offD b off' e hp).2.1, (h.offD b off' e hp).2.2⟩, fun b off' e hp => ⟨off (h.offT b off' e hp).1, by rw [hsz]; exact (h.offT b off' e hp).2.1, (h.offT b off' e hp).2.2⟩, off h.o3, off h.o5, off h.o6⟩
end
end Go.Proofs.Ytapfhgimeohmgaa
