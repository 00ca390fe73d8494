/- Texts joined in build order: WorkBegin MoveEnds MoveInsert WatchRow WatchClone. -/
import Derived.Test.YtbkhngoehoiccaaGreatD24
import Derived.Test.YtbkhngoehoiccaaGreatD25
import Derived.Test.YtbkhngoehoiccaaGreatD04
import Derived.Test.YtbkhngoehoiccaaGreatD03
import Derived.Lib.SliceRun
namespace Go.Proofs.YtbkhngoehoiccaaGreat
open Go.RowKit
theorem own_zero {w : World} {base : Nat} {e : TypeId} {size n : Nat} {v : Value} {xs : List Value} (h : w.ownsRow base e size v n xs) : w.ownsRow 0 e size v n xs := ⟨h.1, h.2.imp id (fun ⟨g, cap, cur, h1, _, h3⟩ => ⟨g, cap, cur, h1, Nat.zero_le _, h3⟩)⟩
structure Begun (w w' : World) (pw : Nat) (a2 : Option Addr) (len cap2 : Nat) (m : Int) (M : List NodeD) (F : List Core) : Prop where
  row : NodeRow w' a2 len cap2 M
  core : coreL M = F
  c0 : w'.cell? ⟨pw, 0, none⟩ = some (.slice a2 len cap2)
  c1 : w'.cell? ⟨pw, 1, none⟩ = some (.int .i64 m)
  c2 : w'.cell? ⟨pw, 2, none⟩ = some (.slice none 0 0)
  lt : pw < w'.heap.size
  plo : w.heap.size ≤ pw
  below : Below w.heap.size w w'
  new : ∀ x ∈ M, newLists w.heap.size x
  rlo : ∀ b off, a2 = some ⟨b, off, none⟩ → w.heap.size ≤ b
  wk : 0 < len → ∃ g ρ, a2 = some ⟨g, 0, none⟩ ∧ Wk ρ w' pw g cap2 len m M (.slice none 0 0) [] ∧ ∀ k, k < w.heap.size → ρ k = 0
theorem begun_of {w w1 : World} {n : Nat} {v : Value} {M : List NodeD} {F : List Core} {m : Int} (hC : Copy w.heap.size w w1 v n M F) (hN : ∀ x ∈ M, newLists w.heap.size x) (hK : ∀ g, v.ownBlock = some g → KidsOwn w.heap.size w1 g n M) :
    ∃ a2 cap2, v = .slice a2 n cap2 ∧ Begun w (w1.alloc (.cells #[.slice a2 n cap2, .int .i64 m, .slice none 0 0] 137)) w1.heap.size a2 n cap2 m M F := by
  obtain ⟨a2, cap2, hv, hr, hlo⟩ := hC.row
  have hb : Below w1.heap.size w1 (w1.alloc (.cells #[.slice a2 n cap2, .int .i64 m, .slice none 0 0] 137)) := below_box _ _
  have cell : ∀ j, (w1.alloc (.cells #[.slice a2 n cap2, .int .i64 m, .slice none 0 0] 137)).cell? ⟨w1.heap.size, j, none⟩ = (#[.slice a2 n cap2, .int .i64 m, .slice none 0 0] : Array Value)[j]? := fun j => cell_of_row _ w1.heap.size j _ 137 (0, 0) (heap_alloc_new w1 _)
  have hs := hC.below.size
  refine ⟨a2, cap2, hv, hr.below hb, hC.core, cell 0, cell 1, cell 2, by simp, hC.below.size, hC.below.trans (hb.mono hs), hN, fun b off e => (hlo b off e).1, fun h0 => ?_⟩
  obtain ⟨g, cap3, hg⟩ := own_some hC.own h0
  rw [hv] at hg
  injection hg with h1 h2 h3
  subst h1; subst h3
  have hKO := hK g (by rw [hv]; rfl)
  have hgl : w.heap.size ≤ g ∧ g < w1.heap.size := by
    have := hC.own.lt g (by rw [hv]; rfl)
    exact this
  have kl : ∀ (i : Nat) x b, M[i]? = some x → (kidV x).ownBlock = some b → w.heap.size ≤ b ∧ b < w1.heap.size ∧ b ≠ g := fun i x b hx hb2 => by
    have hi : i < n := by have := (List.getElem?_eq_some_iff.1 hx).1; rwa [hC.hl] at this
    exact ⟨(hKO.ne i x b hi hx hb2).2, own_block_lt (hKO.own i x hi hx) hb2, (hKO.ne i x b hi hx hb2).1⟩
  have il : ∀ (i : Nat) x, M[i]? = some x → i < n := fun i x hx => by have := (List.getElem?_eq_some_iff.1 hx).1; rwa [hC.hl] at this
  classical
  obtain ⟨κ, hκ1, hκ2⟩ : ∃ κ : Nat → Nat, (∀ (i : Nat) x b, M[i]? = some x → (kidV x).ownBlock = some b → κ b = i + 6) ∧ ∀ b, κ b ≠ 0 → ∃ (i : Nat) (x : NodeD), M[i]? = some x ∧ (kidV x).ownBlock = some b := by
    refine ⟨fun b => if h : ∃ i : Nat, ∃ x, M[i]? = some x ∧ (kidV x).ownBlock = some b then h.choose + 6 else 0, fun i x b hx hb2 => ?_, fun b hne => ?_⟩
    · have hex : ∃ i : Nat, ∃ x, M[i]? = some x ∧ (kidV x).ownBlock = some b := ⟨i, x, hx, hb2⟩
      simp only [dif_pos hex]
      obtain ⟨y, hy, hby⟩ := hex.choose_spec
      by_cases e : hex.choose = i
      · rw [e]
      · exact absurd rfl (hKO.kk _ _ y x b b (il _ _ hy) (il _ _ hx) hy hx e hby hb2)
    · by_cases hex : ∃ i : Nat, ∃ x, M[i]? = some x ∧ (kidV x).ownBlock = some b
      · exact hex
      · exact absurd (dif_neg hex) hne
  refine ⟨g, fun b => if b = w1.heap.size then 1 else if b = g then 2 else κ b, rfl, ?_, fun k hk => ?_⟩
  · have hH := hr.below hb
    have hsz : (w1.alloc (.cells #[.slice (some ⟨g, 0, none⟩) n cap2, .int .i64 m, .slice none 0 0] 137)).heap.size = w1.heap.size + 1 := by simp
    refine ⟨hC.hl, hr.row.hcap, hr.row.hmax, fun i x j u hx hu => ?_, fun o => ?_, by rw [hsz]; omega, fun i x hx => ?_, fun i x b hx hb2 => ?_, fun x hx => (hH.ok x hx).attrs, fun x hx b off e hp => ?_, fun x hx => ?_, cell 0, cell 1, cell 2, fun o => row_free (heap_alloc_new w1 _) o, by simp, World.ownsRow_nil _ _ _ _, (fun b e => by cases e), (fun x hx => by cases hx), if_pos rfl, ?_, fun b hb2 => ?_, ?_⟩
    · rcases hH.row.cells with h0' | ⟨b, off, ha, _, hc⟩
      · omega
      · injection ha with ha
        injection ha with e1 e2
        subst e1 e2
        have := hc i x j u hx hu
        rwa [Nat.zero_add] at this
    · rw [hv] at hC
      exact (hb.frozen (p := ⟨g, o, none⟩) hgl.2).trans (own_free hC.own o)
    · exact own_below (hKO.own i x (il i x hx) hx) hb
    · obtain ⟨h1, h2, h3⟩ := kl i x b hx hb2
      rw [if_neg (by omega), if_neg h3]
      exact hκ1 i x b hx hb2
    · obtain ⟨i, hi⟩ := List.getElem?_of_mem hx
      have h1 := hKO.alt i x b off (il i x hi) hi e hp
      have h2 := (hN x hx).1 b off e
      have h3 : b ≠ g := fun e2 => (hC.away g (.inr (by rw [hv]; rfl)) x hx).1 b off e hp e2
      refine ⟨?_, g, by show (if g = w1.heap.size then 1 else if g = g then 2 else κ g) ≠ 0; rw [if_neg (by omega), if_pos rfl]; decide, hKO.al i x b off (il i x hi) hi e hp⟩
      rw [if_neg (by omega), if_neg h3]
      by_cases h4 : κ b = 0
      · exact h4
      · obtain ⟨j, y, hy, hby⟩ := hκ2 b h4
        exact absurd rfl (hKO.ak i j x y b off b (il i x hi) (il j y hy) hi hy e hp hby)
    · have o := hH.ok x hx
      exact ⟨o.name, o.is, o.data, o.kind, o.parent, o.host, o.under, o.doc, o.kids.inb⟩
    · rw [if_neg (by omega), if_pos rfl]
    · rw [hsz] at hb2
      rw [if_neg (by omega), if_neg (by omega)]
      by_cases h4 : κ b = 0
      · exact h4
      · obtain ⟨j, y, hy, hby⟩ := hκ2 b h4
        have := (kl j y b hy hby).2.1
        omega
    · rw [hv] at hC
      exact own_zero (own_below hC.own hb)
  · show (if k = w1.heap.size then 1 else if k = g then 2 else κ k) = 0
    rw [if_neg (by omega), if_neg (by omega)]
    by_cases h4 : κ k = 0
    · exact h4
    · obtain ⟨j, y, hy, hby⟩ := hκ2 k h4
      have := (kl j y k hy hby).1
      omega
theorem Begun.upto {w w0 w' : World} {pw : Nat} {a2 : Option Addr} {len cap2 : Nat} {m : Int} {M : List NodeD} {F : List Core} (h : Begun w0 w' pw a2 len cap2 m M F) (hb : Below w.heap.size w w0) : Begun w w' pw a2 len cap2 m M F :=
  ⟨h.row, h.core, h.c0, h.c1, h.c2, h.lt, Nat.le_trans hb.size h.plo, hb.trans (h.below.mono hb.size), fun x hx => ⟨fun b off e => Nat.le_trans hb.size ((h.new x hx).1 b off e), fun b off e => Nat.le_trans hb.size ((h.new x hx).2 b off e)⟩, fun b off e => Nat.le_trans hb.size (h.rlo b off e), fun h0 => by
    obtain ⟨g, ρ, h1, h2, h3⟩ := h.wk h0
    exact ⟨g, ρ, h1, h2, fun k hk => h3 k (Nat.lt_of_lt_of_le hk hb.size)⟩⟩
theorem NodeRow.far {W : World} {a : Option Addr} {len cap q : Nat} {M : List NodeD} (h : NodeRow W a len cap M) (ha : ∀ b off, a = some ⟨b, off, none⟩ → b ≠ q) (hM : ∀ x ∈ M, NodeAway q x) (o : Nat) (u : Value) : NodeRow (W.setCell ⟨q, o, none⟩ u) a len cap M :=
  ⟨h.row.keep (by simp [World.setCell]) (fun b off he hp o' => World.cell?_setCell_other _ _ _ _ (fun e => by injection e with e _; exact ha b off he e.symm)), fun x hx => (h.ok x hx).setCell (hM x hx) u, h.hnil⟩
theorem Wk.stored1 {ρ : Nat → Nat} {W : World} {pw g cap len : Nat} {m : Int} {M : List NodeD} {v : Value} {N : List NoteD} (h : Wk ρ W pw g cap len m M v N) {b B : Nat} (hb : b < B) (hB : B ≤ W.heap.size) (h0 : ∀ k, k < B → ρ k = 0) (o : Nat) (u : Value) :
    Wk (upd ρ (some b) 4) (W.setCell ⟨b, o, none⟩ u) pw g cap len m M v N := by
  have hbg : b < g := by
    rcases Nat.lt_or_ge g B with h1 | h1
    · have := h0 g h1
      rw [h.grole] at this
      cases this
    · omega
  have hm := h.mark (b := b) (by omega) (h0 b hb) (fun x hx b' off he hp e => by
    obtain ⟨g0, h1, h2⟩ := (h.arole x hx b' off he hp).2
    have : ¬ g0 < B := fun h4 => h1 (h0 g0 h4)
    omega)
  have h4 : upd ρ (some b) 4 b = 4 := by unfold upd; rw [if_pos rfl]
  exact hm.other h4 o u
set_option maxHeartbeats 4000000 in
set_option maxRecDepth 100000 in
theorem cbegin_any (a : Option Addr) (len cap : Nat) (m : Int) (L : List NodeD) (w : World) (h : NodeRow w a len cap L) (hs : smallF L) :
    Calls Tryz.prog 100 #[forV a len cap m] w fun e w' => ∃ pw a2 cap2 M, e = .returned (ptrV pw) ∧ Begun w w' pw a2 len cap2 m M (coreL L) := by
  have BX := Lib.hid (Box.start (m := m) h)
  have CF : Hid (∀ W, NodeRow W a len cap L → Calls Tryz.prog 79 #[forV a len cap m] W (CopyOwn W len (coreL L) m)) := Lib.hid (fun W h1 => cloneOwn_any a len cap m L W h1 hs)
  have z0 := BX.out.c0
  have z1 := BX.out.c1
  clear h hs
  go_enter Tryz.func100, Tryz.ntmps100
  go_wp2_with (go_at_call 79; (with_reducible refine (CF.out _ BX.out.row).mono ?_); rintro e w1 ⟨v, M, rfl, hC, hN, hK⟩; obtain ⟨a2, cap2, rfl, hB⟩ := begun_of (m := m) hC hN hK; have HB := Lib.hid hB; clear hC hN hK hB)
  go_ret
  exact ⟨_, a2, cap2, M, rfl, HB.out.upto BX.out.below⟩
end Go.Proofs.YtbkhngoehoiccaaGreat
namespace Go.Proofs.YtbkhngoehoiccaaGreat
open Go.RowKit
structure Held (w w' : World) (pw wb : Nat) (a2 : Option Addr) (len cap2 : Nat) (m : Int) (M : List NodeD) (F : List Core) : Prop where
  row : NodeRow w' a2 len cap2 M
  core : coreL M = F
  c0 : w'.cell? ⟨pw, 0, none⟩ = some (.slice a2 len cap2)
  c1 : w'.cell? ⟨pw, 1, none⟩ = some (.int .i64 m)
  c2 : w'.cell? ⟨pw, 2, none⟩ = some (.slice none 0 0)
  lt : pw < w'.heap.size
  below : Below w.heap.size w w'
  new : ∀ x ∈ M, newLists w.heap.size x
  rlo : ∀ b off, a2 = some ⟨b, off, none⟩ → w.heap.size ≤ b
  wlt : wb < w'.heap.size
  wc : w'.cell? ⟨wb, 0, none⟩ = some (ptrV pw)
  wk : 0 < len → ∃ g ρ, a2 = some ⟨g, 0, none⟩ ∧ Wk ρ w' pw g cap2 len m M (.slice none 0 0) [] ∧ (∀ k, k < w.heap.size → ρ k = 0) ∧ ρ wb = 0
theorem Held.keep {w w' w2 : World} {pw wb : Nat} {a2 : Option Addr} {len cap2 : Nat} {m : Int} {M : List NodeD} {F : List Core} (h : Held w w' pw wb a2 len cap2 m M F) (hb : Below w'.heap.size w' w2) : Held w w2 pw wb a2 len cap2 m M F :=
  ⟨h.row.below hb, h.core, (hb.cell (p := ⟨pw, 0, none⟩) h.lt).trans h.c0, (hb.cell (p := ⟨pw, 1, none⟩) h.lt).trans h.c1, (hb.cell (p := ⟨pw, 2, none⟩) h.lt).trans h.c2, Nat.lt_of_lt_of_le h.lt hb.size, h.below.trans (hb.mono h.below.size), h.new, h.rlo, Nat.lt_of_lt_of_le h.wlt hb.size, (hb.cell (p := ⟨wb, 0, none⟩) h.wlt).trans h.wc, fun h0 => by
    obtain ⟨g, ρ, h1, h2, h3⟩ := h.wk h0
    exact ⟨g, ρ, h1, h2.keep hb, h3⟩⟩
end Go.Proofs.YtbkhngoehoiccaaGreat
namespace Go.Proofs.YtbkhngoehoiccaaGreat
open Go.RowKit
structure NoteRow (w : World) (a : Option Addr) (len cap : Nat) (N : List NoteD) : Prop where
  row : SRow encO 9 w a len cap N
  ok : ∀ x ∈ N, NoteOk x
  hnil : a = none → cap = 0
theorem NoteRow.below {w w' : World} {a : Option Addr} {len cap : Nat} {N : List NoteD} (h : NoteRow w a len cap N) (hb : Below w.heap.size w w') : NoteRow w' a len cap N := ⟨h.row.below hb, h.ok, h.hnil⟩
theorem NoteRow.nil (w : World) : NoteRow w none 0 0 [] := ⟨SRow.nil, (fun x hx => by cases hx), fun _ => rfl⟩
def MvNew (B : Nat) (a va : Option Addr) (M : List NodeD) : Prop := ∀ k, k < B → (∀ b off, a = some ⟨b, off, none⟩ → b ≠ k) ∧ (∀ x ∈ M, NodeAway k x) ∧ ∀ b off, va = some ⟨b, off, none⟩ → b ≠ k
theorem MvNew.mono {B C : Nat} {a va : Option Addr} {M : List NodeD} (h : MvNew B a va M) (hc : C ≤ B) : MvNew C a va M := fun k hk => h k (Nat.lt_of_lt_of_le hk hc)
section
variable {ρ : Nat → Nat} {W : World} {pw g cap len : Nat} {m : Int} {M : List NodeD} {v : Value} {N : List NoteD}
theorem Wk.news {B : Nat} {va : Option Addr} {vl vc : Nat} (h : Wk ρ W pw g cap len m M (.slice va vl vc) N) (h0 : ∀ k, k < B → ρ k = 0) : MvNew B (some ⟨g, 0, none⟩) va M := by
  refine fun k hk => ⟨fun b off e e2 => ?_, fun x hx => ⟨fun b off e hp e2 => ?_, fun b off e hp e2 => ?_⟩, fun b off e e2 => ?_⟩
  · injection e with e
    injection e with e3
    have h1 := h0 k hk
    rw [← e2, ← e3, h.grole] at h1
    cases h1
  · obtain ⟨g0, h1, h2⟩ := (h.arole x hx b off e hp).2
    exact h1 (h0 g0 (by omega))
  · obtain ⟨i, hi⟩ := List.getElem?_of_mem hx
    have h1 := h.kown i x hi
    obtain ⟨g2, c2, h2⟩ := own_some h1 hp
    have h3 := h.krole i x g2 hi (by rw [h2]; rfl)
    injection h2 with h4 _ _
    rw [e] at h4
    injection h4 with h4
    injection h4 with h5
    have h6 := h0 k hk
    rw [← e2, h5, h3] at h6
    omega
  · rcases h.nown.2 with ⟨hv, _⟩ | ⟨g2, c2, cur, hv, _⟩
    · injection hv with h1
      rw [e] at h1
      cases h1
    · have h3 := h.nrole g2 (by rw [hv]; rfl)
      injection hv with h4 _ _
      rw [e] at h4
      injection h4 with h4
      injection h4 with h5
      have h6 := h0 k hk
      rw [← e2, h5, h3] at h6
      cases h6
end
theorem stored2 {W : World} {b : Nat} {x y : Value} (h : Box2 W b x y) (u v : Value) : ((W.setCell ⟨b, 0, none⟩ u).setCell ⟨b, 1, none⟩ v).cell? ⟨b, 0, none⟩ = some u ∧ ((W.setCell ⟨b, 0, none⟩ u).setCell ⟨b, 1, none⟩ v).cell? ⟨b, 1, none⟩ = some v :=
  ⟨(World.cell?_setCell_other _ _ _ _ (fun e => by injection e with _ e; omega)).trans (World.cell?_setCell_same _ _ _ h.c0), World.cell?_setCell_same _ _ _ ((World.cell?_setCell_other _ _ _ _ (fun e => by injection e with _ e; omega)).trans h.c1)⟩
structure Two (w W : World) (a : Option Addr) (len cap : Nat) (m : Int) (L : List NodeD) : Prop where
  bx : Box w W w.heap.size a len cap m L (coreL L)
  rb : Box2 W (w.heap.size + 1) (.slice none 0 0) (.int .i64 0)
theorem Two.start {w : World} {a : Option Addr} {len cap : Nat} {m : Int} {L : List NodeD} (h : NodeRow w a len cap L) : Two w ((w.alloc (forB a len cap m)).alloc zeroFB) a len cap m L :=
  ⟨(Box.start h).keep (below_box _ _), Box2.newAt (by simp)⟩
theorem Two.keep {w W W2 : World} {a : Option Addr} {len cap : Nat} {m : Int} {L : List NodeD} (h : Two w W a len cap m L) (hb : Below W.heap.size W W2) : Two w W2 a len cap m L := ⟨h.bx.keep hb, h.rb.keep hb⟩
end Go.Proofs.YtbkhngoehoiccaaGreat
namespace Go.Proofs.YtbkhngoehoiccaaGreat
open Go.RowKit
structure OpD where
  kind : Int
  a : Int
  b : Int
  c : Int
  s : ByteArray
  t : ByteArray
  must : Bool
deriving DecidableEq
def encOpD (x : OpD) : List Value := [.int .i64 x.kind, .int .i64 x.a, .int .i64 x.b, .int .i64 x.c, .string x.s, .string x.t, .bool x.must]
theorem encOpD_len (x : OpD) : (encOpD x).length = 7 := rfl
theorem encOpD_one (x : OpD) : ∀ u ∈ encOpD x, u.oneCell' = true := by
  intro u hu
  simp [encOpD] at hu
  rcases hu with rfl | rfl | rfl | rfl | rfl | rfl | rfl <;> rfl
structure okOpD (x : OpD) : Prop where
  kind : In64 x.kind
  a : In64 x.a
  b : In64 x.b
  c : In64 x.c
  s : x.s.size ≤ maxLen
  t : x.t.size ≤ maxLen
abbrev OpRow := LRow encOpD 7 okOpD
def encStD (x : ByteArray) : List Value := [.string x]
theorem encStD_len (x : ByteArray) : (encStD x).length = 1 := rfl
theorem encStD_one (x : ByteArray) : ∀ u ∈ encStD x, u.oneCell' = true := by
  intro u hu
  simp [encStD] at hu
  rw [hu]
  rfl
def okStD (x : ByteArray) : Prop := x.size ≤ maxLen
abbrev StrRow := LRow encStD 1 okStD
theorem LRow.str {w : World} {a : Option Addr} {len cap : Nat} {L : List ByteArray} (h : LRow encStD 1 okStD w a len cap L) {k : Nat} (hk : k < len) : ∃ b off x, a = some ⟨b, off, none⟩ ∧ b < w.heap.size ∧ L[k]? = some x ∧ w.cell? ⟨b, off + k, none⟩ = some (.string x) ∧ x.size ≤ maxLen := by
  obtain ⟨b, off, x, ha, hlt, hg, _, hc⟩ := h.row.get hk
  have h0 := hc 0 _ rfl
  rw [Nat.mul_one, Nat.add_zero] at h0
  exact ⟨b, off, x, ha, hlt, hg, h0, h.ok _ (List.mem_of_getElem? hg)⟩
structure HookD where
  kind : Int
  a : Option Addr
  n : Nat
  c : Nat
  ops : List OpD
def encHkD (x : HookD) : List Value := [.int .i64 x.kind, .slice x.a x.n x.c]
theorem encHkD_len (x : HookD) : (encHkD x).length = 2 := rfl
theorem encHkD_one (x : HookD) : ∀ u ∈ encHkD x, u.oneCell' = true := by
  intro u hu
  simp [encHkD] at hu
  rcases hu with rfl | rfl <;> rfl
structure HookRow (w : World) (a : Option Addr) (len cap : Nat) (L : List HookD) : Prop where
  row : SRow encHkD 2 w a len cap L
  each : ∀ x ∈ L, In64 x.kind ∧ OpRow w x.a x.n x.c x.ops
  hnil : a = none → cap = 0
section
variable {w w' : World} {a : Option Addr} {len cap : Nat} {L : List HookD}
theorem HookRow.hlen (h : HookRow w a len cap L) : L.length = len := h.row.hlen
theorem HookRow.len64 (h : HookRow w a len cap L) : len ≤ 9223372036854775807 := h.row.len64
theorem HookRow.below (h : HookRow w a len cap L) (hb : Below w.heap.size w w') : HookRow w' a len cap L := ⟨h.row.below hb, fun x hx => ⟨(h.each x hx).1, (h.each x hx).2.below hb⟩, h.hnil⟩
theorem HookRow.nil : HookRow w none 0 0 [] := ⟨SRow.nil, fun x hx => (by cases hx), fun _ => rfl⟩
theorem HookRow.get (h : HookRow w a len cap L) {k : Nat} (hk : k < len) : ∃ b off x, a = some ⟨b, off, none⟩ ∧ b < w.heap.size ∧ L[k]? = some x ∧ w.cell? ⟨b, off + k * 2, none⟩ = some (.int .i64 x.kind) ∧ w.cell? ⟨b, off + k * 2 + 1, none⟩ = some (.slice x.a x.n x.c) ∧ In64 x.kind ∧ OpRow w x.a x.n x.c x.ops := by
  obtain ⟨b, off, x, ha, hlt, hg, _, hc⟩ := h.row.get hk
  have hm := h.each _ (List.mem_of_getElem? hg)
  exact ⟨b, off, x, ha, hlt, hg, hc 0 _ rfl, hc 1 _ rfl, hm.1, hm.2⟩
end
structure ClassC where
  form : Bool
  watch : List ByteArray
  peek : List OpD
  make : List OpD
  hooks : List (Int × List OpD)
deriving DecidableEq
structure ClassD where
  form : Bool
  wa : Option Addr
  wn : Nat
  wk : Nat
  watch : List ByteArray
  pa : Option Addr
  pn : Nat
  pk : Nat
  peek : List OpD
  ma : Option Addr
  mn : Nat
  mc : Nat
  make : List OpD
  ha : Option Addr
  hn : Nat
  hk : Nat
  hooks : List HookD
abbrev classVal (form : Bool) (wa : Option Addr) (wn wk : Nat) (pa : Option Addr) (pn pk : Nat) (ma : Option Addr) (mn mc : Nat) (ha : Option Addr) (hn hk : Nat) : Value := .agg #[.bool form, .slice wa wn wk, .slice pa pn pk, .slice ma mn mc, .slice ha hn hk]
abbrev ClassD.val (x : ClassD) : Value := classVal x.form x.wa x.wn x.wk x.pa x.pn x.pk x.ma x.mn x.mc x.ha x.hn x.hk
def encClD (x : ClassD) : List Value := [.bool x.form, .slice x.wa x.wn x.wk, .slice x.pa x.pn x.pk, .slice x.ma x.mn x.mc, .slice x.ha x.hn x.hk]
def coreH (l : List HookD) : List (Int × List OpD) := l.map (fun h => (h.kind, h.ops))
def ClassD.core (x : ClassD) : ClassC := ⟨x.form, x.watch, x.peek, x.make, coreH x.hooks⟩
structure ClassAt (w : World) (x : ClassD) : Prop where
  t : StrRow w x.wa x.wn x.wk x.watch
  p : OpRow w x.pa x.pn x.pk x.peek
  m : OpRow w x.ma x.mn x.mc x.make
  h : HookRow w x.ha x.hn x.hk x.hooks
theorem ClassAt.below {w w' : World} {x : ClassD} (h : ClassAt w x) (hb : Below w.heap.size w w') : ClassAt w' x := ⟨h.t.below hb, h.p.below hb, h.m.below hb, h.h.below hb⟩
def clsNone : ClassD := ⟨false, none, 0, 0, [], none, 0, 0, [], none, 0, 0, [], none, 0, 0, []⟩
theorem clsNone_at (w : World) : ClassAt w clsNone := ⟨LRow.nil, LRow.nil, LRow.nil, HookRow.nil⟩
structure ClsRow (w : World) (a : Option Addr) (len cap : Nat) (L : List ClassD) : Prop where
  row : SRow encClD 5 w a len cap L
  each : ∀ x ∈ L, ClassAt w x
  hnil : a = none → cap = 0
structure ClassCells (w : World) (b o : Nat) (x : ClassD) : Prop where
  c0 : w.cell? ⟨b, o, none⟩ = some (.bool x.form)
  c1 : w.cell? ⟨b, o + 1, none⟩ = some (.slice x.wa x.wn x.wk)
  c2 : w.cell? ⟨b, o + 2, none⟩ = some (.slice x.pa x.pn x.pk)
  c3 : w.cell? ⟨b, o + 3, none⟩ = some (.slice x.ma x.mn x.mc)
  c4 : w.cell? ⟨b, o + 4, none⟩ = some (.slice x.ha x.hn x.hk)
theorem ClassCells.keep {w w' : World} {b o : Nat} {x : ClassD} (h : ClassCells w b o x) (hlt : b < w.heap.size) (hb : Below w.heap.size w w') : ClassCells w' b o x := by
  have e : ∀ o', w'.cell? ⟨b, o', none⟩ = w.cell? ⟨b, o', none⟩ := fun o' => hb.cell (p := ⟨b, o', none⟩) hlt
  exact ⟨(e _).trans h.c0, (e _).trans h.c1, (e _).trans h.c2, (e _).trans h.c3, (e _).trans h.c4⟩
section
variable {w w' : World} {a : Option Addr} {len cap : Nat} {L : List ClassD}
theorem ClsRow.hlen (h : ClsRow w a len cap L) : L.length = len := h.row.hlen
theorem ClsRow.len64 (h : ClsRow w a len cap L) : len ≤ 9223372036854775807 := h.row.len64
theorem ClsRow.below (h : ClsRow w a len cap L) (hb : Below w.heap.size w w') : ClsRow w' a len cap L := ⟨h.row.below hb, fun x hx => (h.each x hx).below hb, h.hnil⟩
theorem ClsRow.nil : ClsRow w none 0 0 [] := ⟨SRow.nil, fun x hx => (by cases hx), fun _ => rfl⟩
theorem ClsRow.get (h : ClsRow w a len cap L) {k : Nat} (hk : k < len) : ∃ b off x, a = some ⟨b, off, none⟩ ∧ b < w.heap.size ∧ L[k]? = some x ∧ ClassCells w b (off + k * 5) x ∧ ClassAt w x := by
  obtain ⟨b, off, x, ha, hlt, hg, _, hc⟩ := h.row.get hk
  exact ⟨b, off, x, ha, hlt, hg, ⟨hc 0 _ rfl, hc 1 _ rfl, hc 2 _ rfl, hc 3 _ rfl, hc 4 _ rfl⟩, h.each _ (List.mem_of_getElem? hg)⟩
end
def coreCl (L : List ClassD) : List ClassC := L.map ClassD.core
theorem coreCl_get {L : List ClassD} {k : Nat} {x : ClassD} (h : L[k]? = some x) : (coreCl L)[k]? = some x.core := by unfold coreCl; rw [List.getElem?_map, h]; rfl
theorem coreCl_len (L : List ClassD) : (coreCl L).length = L.length := List.length_map _
structure StateD where
  phase : Int
  dfn : Int
  owner : Int
  barred : Bool
deriving DecidableEq
def encSta (x : StateD) : List Value := [.int .i64 x.phase, .int .i64 x.dfn, .int .i64 x.owner, .bool x.barred]
abbrev stateV (x : StateD) : Value := .agg #[.int .i64 x.phase, .int .i64 x.dfn, .int .i64 x.owner, .bool x.barred]
structure okSta (x : StateD) : Prop where
  phase : In64 x.phase
  dfn : In64 x.dfn
  owner : In64 x.owner
abbrev StaRow := LRow encSta 4 okSta
structure StateAt (w : World) (b o : Nat) (x : StateD) : Prop where
  c0 : w.cell? ⟨b, o, none⟩ = some (.int .i64 x.phase)
  c1 : w.cell? ⟨b, o + 1, none⟩ = some (.int .i64 x.dfn)
  c2 : w.cell? ⟨b, o + 2, none⟩ = some (.int .i64 x.owner)
  c3 : w.cell? ⟨b, o + 3, none⟩ = some (.bool x.barred)
theorem StateAt.keep {w w' : World} {b o : Nat} {x : StateD} (h : StateAt w b o x) (hlt : b < w.heap.size) (hb : Below w.heap.size w w') : StateAt w' b o x := by
  have e : ∀ o', w'.cell? ⟨b, o', none⟩ = w.cell? ⟨b, o', none⟩ := fun o' => hb.cell (p := ⟨b, o', none⟩) hlt
  exact ⟨(e _).trans h.c0, (e _).trans h.c1, (e _).trans h.c2, (e _).trans h.c3⟩
theorem LRow.sta {w : World} {a : Option Addr} {len cap : Nat} {L : List StateD} (h : LRow encSta 4 okSta w a len cap L) {k : Nat} (hk : k < len) : ∃ b off x, a = some ⟨b, off, none⟩ ∧ b < w.heap.size ∧ L[k]? = some x ∧ StateAt w b (off + k * 4) x ∧ okSta x := by
  obtain ⟨b, off, x, ha, hlt, hg, _, hc⟩ := h.row.get hk
  exact ⟨b, off, x, ha, hlt, hg, ⟨hc 0 _ rfl, hc 1 _ rfl, hc 2 _ rfl, hc 3 _ rfl⟩, h.ok _ (List.mem_of_getElem? hg)⟩
structure NoteAt (w : World) (b o : Nat) (x : NoteD) : Prop where
  c0 : w.cell? ⟨b, o, none⟩ = some (.int .i64 x.kind)
  c1 : w.cell? ⟨b, o + 1, none⟩ = some (.int .i64 x.node)
  c2 : w.cell? ⟨b, o + 2, none⟩ = some (.int .i64 x.src)
  c3 : w.cell? ⟨b, o + 3, none⟩ = some (.int .i64 x.dst)
  c4 : w.cell? ⟨b, o + 4, none⟩ = some (.string x.name)
  c5 : w.cell? ⟨b, o + 5, none⟩ = some (.bool x.had)
  c6 : w.cell? ⟨b, o + 6, none⟩ = some (.bool x.has)
  c7 : w.cell? ⟨b, o + 7, none⟩ = some (.string x.old)
  c8 : w.cell? ⟨b, o + 8, none⟩ = some (.string x.new)
theorem NoteAt.keep {w w' : World} {b o : Nat} {x : NoteD} (h : NoteAt w b o x) (hlt : b < w.heap.size) (hb : Below w.heap.size w w') : NoteAt w' b o x := by
  have e : ∀ o', w'.cell? ⟨b, o', none⟩ = w.cell? ⟨b, o', none⟩ := fun o' => hb.cell (p := ⟨b, o', none⟩) hlt
  exact ⟨(e _).trans h.c0, (e _).trans h.c1, (e _).trans h.c2, (e _).trans h.c3, (e _).trans h.c4, (e _).trans h.c5, (e _).trans h.c6, (e _).trans h.c7, (e _).trans h.c8⟩
theorem NoteRow.getN {w : World} {a : Option Addr} {len cap : Nat} {L : List NoteD} (h : NoteRow w a len cap L) {k : Nat} (hk : k < len) : ∃ b off x, a = some ⟨b, off, none⟩ ∧ b < w.heap.size ∧ L[k]? = some x ∧ NoteAt w b (off + k * 9) x ∧ NoteOk x := by
  obtain ⟨b, off, x, ha, hlt, hg, _, hc⟩ := h.row.get hk
  exact ⟨b, off, x, ha, hlt, hg, ⟨hc 0 _ rfl, hc 1 _ rfl, hc 2 _ rfl, hc 3 _ rfl, hc 4 _ rfl, hc 5 _ rfl, hc 6 _ rfl, hc 7 _ rfl, hc 8 _ rfl⟩, h.ok _ (List.mem_of_getElem? hg)⟩
theorem NoteRow.len64' {w : World} {a : Option Addr} {len cap : Nat} {L : List NoteD} (h : NoteRow w a len cap L) : len ≤ 9223372036854775807 := h.row.len64
structure SmallCl (x : ClassC) : Prop where
  w : x.watch.length ≤ 1000
  p : x.peek.length ≤ 1000
  m : x.make.length ≤ 1000
  h : x.hooks.length ≤ 1000
  d : ∀ y ∈ x.hooks, y.2.length ≤ 1000
def hearsC (c : ClassC) (kind : Int) : Bool := c.hooks.any (fun h => h.1 == kind)
def progC (c : ClassC) (kind : Int) : List OpD := ((c.hooks.find? (fun h => h.1 == kind)).map (·.2)).getD []
def watchesC (c : ClassC) (s : ByteArray) : Bool := c.watch.any (fun x => x.toList == s.toList) && hearsC c 4
def toldC (c : ClassC) (kind : Int) (s : ByteArray) : Bool :=
  if kind = 4 then watchesC c s else if kind = 1 ∨ kind = 2 ∨ kind = 3 then hearsC c kind else false
def classAtZ (s : StateD) (D : List DefD) (n : Nat) : Option Nat :=
  if 0 ≤ s.dfn ∧ s.dfn < (D.length : Int) then
    match D[s.dfn.toNat]? with
    | none => none
    | some d => if 0 ≤ d.cls ∧ d.cls < (n : Int) then some d.cls.toNat else none
  else none
def classZ (s : StateD) (D : List DefD) (L : List ClassC) : Option ClassC := (classAtZ s D L.length).bind (fun k => L[k]?)
def callT (x : NoteD) : TodoD := ⟨x.kind, 0, x.name, x.had, x.has, x.old, x.new, x.src, x.dst, false⟩
end Go.Proofs.YtbkhngoehoiccaaGreat
namespace Go.Proofs.YtbkhngoehoiccaaGreat
open Go.RowKit
theorem op_info : (Tryz.prog.info? 80).map (fun i => (i.zero, i.size, i.bytes)) = some (some (.agg #[.int .i64 0, .int .i64 0, .int .i64 0, .int .i64 0, .string ⟨#[]⟩, .string ⟨#[]⟩, .bool false]), 7, 72) := by kernel_rfl
theorem hook_info : (Tryz.prog.info? 82).map (fun i => (i.zero, i.size, i.bytes)) = some (some (.agg #[.int .i64 0, .slice none 0 0]), 2, 32) := by kernel_rfl
theorem str_info : (Tryz.prog.info? 9).map (fun i => (i.zero, i.size, i.bytes)) = some (some (.string ⟨#[]⟩), 1, 16) := by kernel_rfl
set_option maxHeartbeats 4000000 in
theorem cloneOp_any (a : Option Addr) (len cap : Nat) (L : List OpD) (w : World) (h : LRow encOpD 7 okOpD w a len cap L) (h40 : len ≤ 1000000) :
    Calls Tryz.prog 35 #[.slice a len cap] w (OwnP (α := OpD) encOpD 7 80 w L) := by
  obtain ⟨i0, hi0, hz0, hz1, hz2⟩ := info_parts11 op_info
  have HL := Lib.hid h.hlen
  have q22 : ∀ (w : World) (a : Option Addr) (n c n' c' : Nat), (binOp .eql 37 (.slice a n c) (.slice none n' c')).run Tryz.prog w = .ok (.bool a.isNone) w := fun w a n c n' c' => Lib.run_eql_slice_nil w _ _ a n c n' c' Tryz.underlying37
  rcases a with _ | ad
  · have hc : cap = 0 := h.hnil rfl
    have h0 : len = 0 := by have := h.row.hcap; omega
    have hLn : L = [] := List.eq_nil_of_length_eq_zero (by rw [h.hlen, h0])
    subst hc; subst h0; subst hLn
    clear h
    go_enter Tryz.func35, Tryz.ntmps35
    go_wp2
    go_ret
    exact own_p (World.ownsRow_nil _ _ _ _) (Below.refl _ _)
  · have H := Lib.hid h
    have HE := Lib.hid (own_empty (α := OpD) (enc := encOpD) (size := 7) w w.heap.size 80 (Nat.le_refl _))
    clear h
    go_enter Tryz.func35, Tryz.ntmps35
    go_wp2_with (first
      | (at_builtin
         refine wpList_append_rows rfl (.tmp 5) (.tmp 6) 37 rfl 80 i0 _ 7 72 Tryz.underlying37 hi0 hz0 hz1 hz2 rfl (by decide) w.heap.size _ 0 _ L rfl HE.out (some ad) len cap rfl (H.out.below ((Below.refl _ _).alloc (Nat.le_refl _) _)).row (fun x _ => encOpD_one x) (by unfold maxLen; omega) (by omega) (by simp) (fun h => by cases h) ?_
         intro v2 w2 hown2 hg2 hat2
         have HB2 := below_new (Below.refl _ _) hg2
         have HO2 := Lib.hid hown2
         clear hown2 hg2 hat2))
    go_ret
    refine own_p ?_ HB2
    have := HO2.out
    rw [HL.out]
    simpa using this
set_option maxHeartbeats 4000000 in
theorem cloneHk_any (a : Option Addr) (len cap : Nat) (L : List HookD) (w : World) (h : LRow encHkD 2 (fun _ => True) w a len cap L) (h40 : len ≤ 1000000) :
    Calls Tryz.prog 56 #[.slice a len cap] w (OwnP (α := HookD) encHkD 2 82 w L) := by
  obtain ⟨i0, hi0, hz0, hz1, hz2⟩ := info_parts11 hook_info
  have HL := Lib.hid h.hlen
  have q22 : ∀ (w : World) (a : Option Addr) (n c n' c' : Nat), (binOp .eql 38 (.slice a n c) (.slice none n' c')).run Tryz.prog w = .ok (.bool a.isNone) w := fun w a n c n' c' => Lib.run_eql_slice_nil w _ _ a n c n' c' Tryz.underlying38
  rcases a with _ | ad
  · have hc : cap = 0 := h.hnil rfl
    have h0 : len = 0 := by have := h.row.hcap; omega
    have hLn : L = [] := List.eq_nil_of_length_eq_zero (by rw [h.hlen, h0])
    subst hc; subst h0; subst hLn
    clear h
    go_enter Tryz.func56, Tryz.ntmps56
    go_wp2
    go_ret
    exact own_p (World.ownsRow_nil _ _ _ _) (Below.refl _ _)
  · have H := Lib.hid h
    have HE := Lib.hid (own_empty (α := HookD) (enc := encHkD) (size := 2) w w.heap.size 82 (Nat.le_refl _))
    clear h
    go_enter Tryz.func56, Tryz.ntmps56
    go_wp2_with (first
      | (at_builtin
         refine wpList_append_rows rfl (.tmp 5) (.tmp 6) 38 rfl 82 i0 _ 2 32 Tryz.underlying38 hi0 hz0 hz1 hz2 rfl (by decide) w.heap.size _ 0 _ L rfl HE.out (some ad) len cap rfl (H.out.below ((Below.refl _ _).alloc (Nat.le_refl _) _)).row (fun x _ => encHkD_one x) (by unfold maxLen; omega) (by omega) (by simp) (fun h => by cases h) ?_
         intro v2 w2 hown2 hg2 hat2
         have HB2 := below_new (Below.refl _ _) hg2
         have HO2 := Lib.hid hown2
         clear hown2 hg2 hat2))
    go_ret
    refine own_p ?_ HB2
    have := HO2.out
    rw [HL.out]
    simpa using this
set_option maxHeartbeats 4000000 in
theorem cloneStr_any (a : Option Addr) (len cap : Nat) (L : List ByteArray) (w : World) (h : LRow encStD 1 okStD w a len cap L) (h40 : len ≤ 1000000) :
    Calls Tryz.prog 57 #[.slice a len cap] w (OwnP (α := ByteArray) encStD 1 9 w L) := by
  obtain ⟨i0, hi0, hz0, hz1, hz2⟩ := info_parts11 str_info
  have HL := Lib.hid h.hlen
  have q22 : ∀ (w : World) (a : Option Addr) (n c n' c' : Nat), (binOp .eql 36 (.slice a n c) (.slice none n' c')).run Tryz.prog w = .ok (.bool a.isNone) w := fun w a n c n' c' => Lib.run_eql_slice_nil w _ _ a n c n' c' Tryz.underlying36
  rcases a with _ | ad
  · have hc : cap = 0 := h.hnil rfl
    have h0 : len = 0 := by have := h.row.hcap; omega
    have hLn : L = [] := List.eq_nil_of_length_eq_zero (by rw [h.hlen, h0])
    subst hc; subst h0; subst hLn
    clear h
    go_enter Tryz.func57, Tryz.ntmps57
    go_wp2
    go_ret
    exact own_p (World.ownsRow_nil _ _ _ _) (Below.refl _ _)
  · have H := Lib.hid h
    have HE := Lib.hid (own_empty (α := ByteArray) (enc := encStD) (size := 1) w w.heap.size 9 (Nat.le_refl _))
    clear h
    go_enter Tryz.func57, Tryz.ntmps57
    go_wp2_with (first
      | (at_builtin
         refine wpList_append_rows rfl (.tmp 5) (.tmp 6) 36 rfl 9 i0 _ 1 16 Tryz.underlying36 hi0 hz0 hz1 hz2 rfl (by decide) w.heap.size _ 0 _ L rfl HE.out (some ad) len cap rfl (H.out.below ((Below.refl _ _).alloc (Nat.le_refl _) _)).row (fun x _ => encStD_one x) (by unfold maxLen; omega) (by omega) (by simp) (fun h => by cases h) ?_
         intro v2 w2 hown2 hg2 hat2
         have HB2 := below_new (Below.refl _ _) hg2
         have HO2 := Lib.hid hown2
         clear hown2 hg2 hat2))
    go_ret
    refine own_p ?_ HB2
    have := HO2.out
    rw [HL.out]
    simpa using this
end Go.Proofs.YtbkhngoehoiccaaGreat
