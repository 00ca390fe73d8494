/- Texts joined in build order: OwnerRightMath WorkBegin MoveWhy MoveAs MoveParts MovePut MoveEnds MoveInsert MoveRemove MoveChange MoveSet MoveSetFn MoveUnset MoveToggle MoveAttrMath OwnerBackMath AbleMath AbleRiseMath AbleShutMath Ref3Tell. -/
import Derived.Test.YtnjoimedilonnaaGreatC27
import Derived.Test.YtnjoimedilonnaaGreatC39
import Derived.Test.YtnjoimedilonnaaGreatC28
import Derived.WalkKit
import Derived.LaidEql
import Derived.Stop.Asserts
import Derived.RowKitTokens
import Derived.Test.YtnjoimedilonnaaGreatC29
import Derived.Test.YtnjoimedilonnaaGreatC07
import Derived.Test.YtnjoimedilonnaaGreatC18
import Derived.Test.YtnjoimedilonnaaGreatC23
import Derived.Test.YtnjoimedilonnaaGreatC36
import Derived.Test.YtnjoimedilonnaaGreatC06
namespace Go.Proofs.YtnjoimedilonnaaGreat
open Go.RowKit
end Go.Proofs.YtnjoimedilonnaaGreat
namespace Go.Proofs.YtnjoimedilonnaaGreat
open Go.RowKit
theorem own_zero {w : World} {base : Nat} {e : TypeId} {size n : Nat} {v : Value} {xs : List Value} (h : w.ownsRow base e size v n xs) : w.ownsRow 0 e size v n xs := ⟨h.1, h.2.imp id (fun ⟨g, cap, cur, h1, _, h3⟩ => ⟨g, cap, cur, h1, Nat.zero_le _, h3⟩)⟩
structure Begun (w w' : World) (pw : Nat) (a2 : Option Addr) (len cap2 : Nat) (m : Int) (M : List NodeD) (F : List Core) : Prop where
  row : NodeRow w' a2 len cap2 M
  core : coreL M = F
  c0 : w'.cell? ⟨pw, 0, none⟩ = some (.slice a2 len cap2)
  c1 : w'.cell? ⟨pw, 1, none⟩ = some (.int .i64 m)
  c2 : w'.cell? ⟨pw, 2, none⟩ = some (.slice none 0 0)
  lt : pw < w'.heap.size
  plo : w.heap.size ≤ pw
  below : Below w.heap.size w w'
  new : ∀ x ∈ M, newLists w.heap.size x
  rlo : ∀ b off, a2 = some ⟨b, off, none⟩ → w.heap.size ≤ b
  wk : 0 < len → ∃ g ρ, a2 = some ⟨g, 0, none⟩ ∧ Wk ρ w' pw g cap2 len m M (.slice none 0 0) [] ∧ ∀ k, k < w.heap.size → ρ k = 0
theorem begun_of {w w1 : World} {n : Nat} {v : Value} {M : List NodeD} {F : List Core} {m : Int} (hC : Copy w.heap.size w w1 v n M F) (hN : ∀ x ∈ M, newLists w.heap.size x) (hK : ∀ g, v.ownBlock = some g → KidsOwn w.heap.size w1 g n M) :
    ∃ a2 cap2, v = .slice a2 n cap2 ∧ Begun w (w1.alloc (.cells #[.slice a2 n cap2, .int .i64 m, .slice none 0 0] 77)) w1.heap.size a2 n cap2 m M F := by
  obtain ⟨a2, cap2, hv, hr, hlo⟩ := hC.row
  have hb : Below w1.heap.size w1 (w1.alloc (.cells #[.slice a2 n cap2, .int .i64 m, .slice none 0 0] 77)) := below_box _ _
  have cell : ∀ j, (w1.alloc (.cells #[.slice a2 n cap2, .int .i64 m, .slice none 0 0] 77)).cell? ⟨w1.heap.size, j, none⟩ = (#[.slice a2 n cap2, .int .i64 m, .slice none 0 0] : Array Value)[j]? := fun j => cell_of_row _ w1.heap.size j _ 77 (0, 0) (heap_alloc_new w1 _)
  have hs := hC.below.size
  refine ⟨a2, cap2, hv, hr.below hb, hC.core, cell 0, cell 1, cell 2, by simp, hC.below.size, hC.below.trans (hb.mono hs), hN, fun b off e => (hlo b off e).1, fun h0 => ?_⟩
  obtain ⟨g, cap3, hg⟩ := own_some hC.own h0
  rw [hv] at hg
  injection hg with h1 h2 h3
  subst h1; subst h3
  have hKO := hK g (by rw [hv]; rfl)
  have hgl : w.heap.size ≤ g ∧ g < w1.heap.size := by
    have := hC.own.lt g (by rw [hv]; rfl)
    exact this
  have kl : ∀ (i : Nat) x b, M[i]? = some x → (kidV x).ownBlock = some b → w.heap.size ≤ b ∧ b < w1.heap.size ∧ b ≠ g := fun i x b hx hb2 => by
    have hi : i < n := by have := (List.getElem?_eq_some_iff.1 hx).1; rwa [hC.hl] at this
    exact ⟨(hKO.ne i x b hi hx hb2).2, own_block_lt (hKO.own i x hi hx) hb2, (hKO.ne i x b hi hx hb2).1⟩
  have il : ∀ (i : Nat) x, M[i]? = some x → i < n := fun i x hx => by have := (List.getElem?_eq_some_iff.1 hx).1; rwa [hC.hl] at this
  classical
  obtain ⟨κ, hκ1, hκ2⟩ : ∃ κ : Nat → Nat, (∀ (i : Nat) x b, M[i]? = some x → (kidV x).ownBlock = some b → κ b = i + 6) ∧ ∀ b, κ b ≠ 0 → ∃ (i : Nat) (x : NodeD), M[i]? = some x ∧ (kidV x).ownBlock = some b := by
    refine ⟨fun b => if h : ∃ i : Nat, ∃ x, M[i]? = some x ∧ (kidV x).ownBlock = some b then h.choose + 6 else 0, fun i x b hx hb2 => ?_, fun b hne => ?_⟩
    · have hex : ∃ i : Nat, ∃ x, M[i]? = some x ∧ (kidV x).ownBlock = some b := ⟨i, x, hx, hb2⟩
      simp only [dif_pos hex]
      obtain ⟨y, hy, hby⟩ := hex.choose_spec
      by_cases e : hex.choose = i
      · rw [e]
      · exact absurd rfl (hKO.kk _ _ y x b b (il _ _ hy) (il _ _ hx) hy hx e hby hb2)
    · by_cases hex : ∃ i : Nat, ∃ x, M[i]? = some x ∧ (kidV x).ownBlock = some b
      · exact hex
      · exact absurd (dif_neg hex) hne
  refine ⟨g, fun b => if b = w1.heap.size then 1 else if b = g then 2 else κ b, rfl, ?_, fun k hk => ?_⟩
  · have hH := hr.below hb
    have hsz : (w1.alloc (.cells #[.slice (some ⟨g, 0, none⟩) n cap2, .int .i64 m, .slice none 0 0] 77)).heap.size = w1.heap.size + 1 := by simp
    refine ⟨hC.hl, hr.row.hcap, hr.row.hmax, fun i x j u hx hu => ?_, fun o => ?_, by rw [hsz]; omega, fun i x hx => ?_, fun i x b hx hb2 => ?_, fun x hx => (hH.ok x hx).attrs, fun x hx b off e hp => ?_, fun x hx => ?_, cell 0, cell 1, cell 2, fun o => row_free (heap_alloc_new w1 _) o, by simp, World.ownsRow_nil _ _ _ _, (fun b e => by cases e), (fun x hx => by cases hx), if_pos rfl, ?_, fun b hb2 => ?_, ?_⟩
    · rcases hH.row.cells with h0' | ⟨b, off, ha, _, hc⟩
      · omega
      · injection ha with ha
        injection ha with e1 e2
        subst e1 e2
        have := hc i x j u hx hu
        rwa [Nat.zero_add] at this
    · rw [hv] at hC
      exact (hb.frozen (p := ⟨g, o, none⟩) hgl.2).trans (own_free hC.own o)
    · exact own_below (hKO.own i x (il i x hx) hx) hb
    · obtain ⟨h1, h2, h3⟩ := kl i x b hx hb2
      rw [if_neg (by omega), if_neg h3]
      exact hκ1 i x b hx hb2
    · obtain ⟨i, hi⟩ := List.getElem?_of_mem hx
      have h1 := hKO.alt i x b off (il i x hi) hi e hp
      have h2 := (hN x hx).1 b off e
      have h3 : b ≠ g := fun e2 => (hC.away g (.inr (by rw [hv]; rfl)) x hx).1 b off e hp e2
      refine ⟨?_, g, by show (if g = w1.heap.size then 1 else if g = g then 2 else κ g) ≠ 0; rw [if_neg (by omega), if_pos rfl]; decide, hKO.al i x b off (il i x hi) hi e hp⟩
      rw [if_neg (by omega), if_neg h3]
      by_cases h4 : κ b = 0
      · exact h4
      · obtain ⟨j, y, hy, hby⟩ := hκ2 b h4
        exact absurd rfl (hKO.ak i j x y b off b (il i x hi) (il j y hy) hi hy e hp hby)
    · have o := hH.ok x hx
      exact ⟨o.name, o.is, o.data, o.kind, o.parent, o.host, o.under, o.doc, o.kids.inb⟩
    · rw [if_neg (by omega), if_pos rfl]
    · rw [hsz] at hb2
      rw [if_neg (by omega), if_neg (by omega)]
      by_cases h4 : κ b = 0
      · exact h4
      · obtain ⟨j, y, hy, hby⟩ := hκ2 b h4
        have := (kl j y b hy hby).2.1
        omega
    · rw [hv] at hC
      exact own_zero (own_below hC.own hb)
  · show (if k = w1.heap.size then 1 else if k = g then 2 else κ k) = 0
    rw [if_neg (by omega), if_neg (by omega)]
    by_cases h4 : κ k = 0
    · exact h4
    · obtain ⟨j, y, hy, hby⟩ := hκ2 k h4
      have := (kl j y k hy hby).1
      omega
theorem Begun.upto {w w0 w' : World} {pw : Nat} {a2 : Option Addr} {len cap2 : Nat} {m : Int} {M : List NodeD} {F : List Core} (h : Begun w0 w' pw a2 len cap2 m M F) (hb : Below w.heap.size w w0) : Begun w w' pw a2 len cap2 m M F :=
  ⟨h.row, h.core, h.c0, h.c1, h.c2, h.lt, Nat.le_trans hb.size h.plo, hb.trans (h.below.mono hb.size), fun x hx => ⟨fun b off e => Nat.le_trans hb.size ((h.new x hx).1 b off e), fun b off e => Nat.le_trans hb.size ((h.new x hx).2 b off e)⟩, fun b off e => Nat.le_trans hb.size (h.rlo b off e), fun h0 => by
    obtain ⟨g, ρ, h1, h2, h3⟩ := h.wk h0
    exact ⟨g, ρ, h1, h2, fun k hk => h3 k (Nat.lt_of_lt_of_le hk hb.size)⟩⟩
theorem NodeRow.far {W : World} {a : Option Addr} {len cap q : Nat} {M : List NodeD} (h : NodeRow W a len cap M) (ha : ∀ b off, a = some ⟨b, off, none⟩ → b ≠ q) (hM : ∀ x ∈ M, NodeAway q x) (o : Nat) (u : Value) : NodeRow (W.setCell ⟨q, o, none⟩ u) a len cap M :=
  ⟨h.row.keep (by simp [World.setCell]) (fun b off he hp o' => World.cell?_setCell_other _ _ _ _ (fun e => by injection e with e _; exact ha b off he e.symm)), fun x hx => (h.ok x hx).setCell (hM x hx) u, h.hnil⟩
theorem Wk.stored1 {ρ : Nat → Nat} {W : World} {pw g cap len : Nat} {m : Int} {M : List NodeD} {v : Value} {N : List NoteD} (h : Wk ρ W pw g cap len m M v N) {b B : Nat} (hb : b < B) (hB : B ≤ W.heap.size) (h0 : ∀ k, k < B → ρ k = 0) (o : Nat) (u : Value) :
    Wk (upd ρ (some b) 4) (W.setCell ⟨b, o, none⟩ u) pw g cap len m M v N := by
  have hbg : b < g := by
    rcases Nat.lt_or_ge g B with h1 | h1
    · have := h0 g h1
      rw [h.grole] at this
      cases this
    · omega
  have hm := h.mark (b := b) (by omega) (h0 b hb) (fun x hx b' off he hp e => by
    obtain ⟨g0, h1, h2⟩ := (h.arole x hx b' off he hp).2
    have : ¬ g0 < B := fun h4 => h1 (h0 g0 h4)
    omega)
  have h4 : upd ρ (some b) 4 b = 4 := by unfold upd; rw [if_pos rfl]
  exact hm.other h4 o u
set_option maxHeartbeats 4000000 in
set_option maxRecDepth 100000 in
theorem cbegin_any (a : Option Addr) (len cap : Nat) (m : Int) (L : List NodeD) (w : World) (h : NodeRow w a len cap L) (hs : smallF L) :
    Calls Tryz.prog 51 #[forV a len cap m] w fun e w' => ∃ pw a2 cap2 M, e = .returned (ptrV pw) ∧ Begun w w' pw a2 len cap2 m M (coreL L) := by
  have BX := Lib.hid (Box.start (m := m) h)
  have CF : Hid (∀ W, NodeRow W a len cap L → Calls Tryz.prog 40 #[forV a len cap m] W (CopyOwn W len (coreL L) m)) := Lib.hid (fun W h1 => cloneOwn_any a len cap m L W h1 hs)
  have z0 := BX.out.c0
  have z1 := BX.out.c1
  clear h hs
  go_enter Tryz.func51, Tryz.ntmps51
  go_wp2_with (go_at_call 40; (with_reducible refine (CF.out _ BX.out.row).mono ?_); rintro e w1 ⟨v, M, rfl, hC, hN, hK⟩; obtain ⟨a2, cap2, rfl, hB⟩ := begun_of (m := m) hC hN hK; have HB := Lib.hid hB; clear hC hN hK hB)
  go_ret
  exact ⟨_, a2, cap2, M, rfl, HB.out.upto BX.out.below⟩
end Go.Proofs.YtnjoimedilonnaaGreat
namespace Go.Proofs.YtnjoimedilonnaaGreat
open Go.RowKit Go.Extern.Stop Go.Stop Go.Extern
abbrev hdl (t : Nat) : Value := .pointer (some ⟨1, t, none⟩)
end Go.Proofs.YtnjoimedilonnaaGreat
namespace Go.Proofs.YtnjoimedilonnaaGreat
open Go.RowKit Go.Extern.Stop Go.Stop Go.Extern
end Go.Proofs.YtnjoimedilonnaaGreat
namespace Go.Proofs.YtnjoimedilonnaaGreat
open Go.RowKit
end Go.Proofs.YtnjoimedilonnaaGreat
namespace Go.Proofs.YtnjoimedilonnaaGreat
open Go.RowKit
section
variable {m : Int}
end
section
variable {ρ : Nat → Nat} {pw g cap len : Nat} {m : Int} {M : List NodeD} {v : Value} {N : List NoteD}
end
end Go.Proofs.YtnjoimedilonnaaGreat
namespace Go.Proofs.YtnjoimedilonnaaGreat
open Go.RowKit
structure Held (w w' : World) (pw wb : Nat) (a2 : Option Addr) (len cap2 : Nat) (m : Int) (M : List NodeD) (F : List Core) : Prop where
  row : NodeRow w' a2 len cap2 M
  core : coreL M = F
  c0 : w'.cell? ⟨pw, 0, none⟩ = some (.slice a2 len cap2)
  c1 : w'.cell? ⟨pw, 1, none⟩ = some (.int .i64 m)
  c2 : w'.cell? ⟨pw, 2, none⟩ = some (.slice none 0 0)
  lt : pw < w'.heap.size
  below : Below w.heap.size w w'
  new : ∀ x ∈ M, newLists w.heap.size x
  rlo : ∀ b off, a2 = some ⟨b, off, none⟩ → w.heap.size ≤ b
  wlt : wb < w'.heap.size
  wc : w'.cell? ⟨wb, 0, none⟩ = some (ptrV pw)
  wk : 0 < len → ∃ g ρ, a2 = some ⟨g, 0, none⟩ ∧ Wk ρ w' pw g cap2 len m M (.slice none 0 0) [] ∧ (∀ k, k < w.heap.size → ρ k = 0) ∧ ρ wb = 0
theorem Held.keep {w w' w2 : World} {pw wb : Nat} {a2 : Option Addr} {len cap2 : Nat} {m : Int} {M : List NodeD} {F : List Core} (h : Held w w' pw wb a2 len cap2 m M F) (hb : Below w'.heap.size w' w2) : Held w w2 pw wb a2 len cap2 m M F :=
  ⟨h.row.below hb, h.core, (hb.cell (p := ⟨pw, 0, none⟩) h.lt).trans h.c0, (hb.cell (p := ⟨pw, 1, none⟩) h.lt).trans h.c1, (hb.cell (p := ⟨pw, 2, none⟩) h.lt).trans h.c2, Nat.lt_of_lt_of_le h.lt hb.size, h.below.trans (hb.mono h.below.size), h.new, h.rlo, Nat.lt_of_lt_of_le h.wlt hb.size, (hb.cell (p := ⟨wb, 0, none⟩) h.wlt).trans h.wc, fun h0 => by
    obtain ⟨g, ρ, h1, h2, h3⟩ := h.wk h0
    exact ⟨g, ρ, h1, h2.keep hb, h3⟩⟩
end Go.Proofs.YtnjoimedilonnaaGreat
namespace Go.Proofs.YtnjoimedilonnaaGreat
open Go.RowKit
structure NoteRow (w : World) (a : Option Addr) (len cap : Nat) (N : List NoteD) : Prop where
  row : SRow encO 9 w a len cap N
  ok : ∀ x ∈ N, NoteOk x
  hnil : a = none → cap = 0
theorem NoteRow.below {w w' : World} {a : Option Addr} {len cap : Nat} {N : List NoteD} (h : NoteRow w a len cap N) (hb : Below w.heap.size w w') : NoteRow w' a len cap N := ⟨h.row.below hb, h.ok, h.hnil⟩
theorem NoteRow.nil (w : World) : NoteRow w none 0 0 [] := ⟨SRow.nil, (fun x hx => by cases hx), fun _ => rfl⟩
def MvNew (B : Nat) (a va : Option Addr) (M : List NodeD) : Prop := ∀ k, k < B → (∀ b off, a = some ⟨b, off, none⟩ → b ≠ k) ∧ (∀ x ∈ M, NodeAway k x) ∧ ∀ b off, va = some ⟨b, off, none⟩ → b ≠ k
theorem MvNew.mono {B C : Nat} {a va : Option Addr} {M : List NodeD} (h : MvNew B a va M) (hc : C ≤ B) : MvNew C a va M := fun k hk => h k (Nat.lt_of_lt_of_le hk hc)
section
variable {ρ : Nat → Nat} {W : World} {pw g cap len : Nat} {m : Int} {M : List NodeD} {v : Value} {N : List NoteD}
theorem Wk.news {B : Nat} {va : Option Addr} {vl vc : Nat} (h : Wk ρ W pw g cap len m M (.slice va vl vc) N) (h0 : ∀ k, k < B → ρ k = 0) : MvNew B (some ⟨g, 0, none⟩) va M := by
  refine fun k hk => ⟨fun b off e e2 => ?_, fun x hx => ⟨fun b off e hp e2 => ?_, fun b off e hp e2 => ?_⟩, fun b off e e2 => ?_⟩
  · injection e with e
    injection e with e3
    have h1 := h0 k hk
    rw [← e2, ← e3, h.grole] at h1
    cases h1
  · obtain ⟨g0, h1, h2⟩ := (h.arole x hx b off e hp).2
    exact h1 (h0 g0 (by omega))
  · obtain ⟨i, hi⟩ := List.getElem?_of_mem hx
    have h1 := h.kown i x hi
    obtain ⟨g2, c2, h2⟩ := own_some h1 hp
    have h3 := h.krole i x g2 hi (by rw [h2]; rfl)
    injection h2 with h4 _ _
    rw [e] at h4
    injection h4 with h4
    injection h4 with h5
    have h6 := h0 k hk
    rw [← e2, h5, h3] at h6
    omega
  · rcases h.nown.2 with ⟨hv, _⟩ | ⟨g2, c2, cur, hv, _⟩
    · injection hv with h1
      rw [e] at h1
      cases h1
    · have h3 := h.nrole g2 (by rw [hv]; rfl)
      injection hv with h4 _ _
      rw [e] at h4
      injection h4 with h4
      injection h4 with h5
      have h6 := h0 k hk
      rw [← e2, h5, h3] at h6
      cases h6
end
theorem stored2 {W : World} {b : Nat} {x y : Value} (h : Box2 W b x y) (u v : Value) : ((W.setCell ⟨b, 0, none⟩ u).setCell ⟨b, 1, none⟩ v).cell? ⟨b, 0, none⟩ = some u ∧ ((W.setCell ⟨b, 0, none⟩ u).setCell ⟨b, 1, none⟩ v).cell? ⟨b, 1, none⟩ = some v :=
  ⟨(World.cell?_setCell_other _ _ _ _ (fun e => by injection e with _ e; omega)).trans (World.cell?_setCell_same _ _ _ h.c0), World.cell?_setCell_same _ _ _ ((World.cell?_setCell_other _ _ _ _ (fun e => by injection e with _ e; omega)).trans h.c1)⟩
structure Two (w W : World) (a : Option Addr) (len cap : Nat) (m : Int) (L : List NodeD) : Prop where
  bx : Box w W w.heap.size a len cap m L (coreL L)
  rb : Box2 W (w.heap.size + 1) (.slice none 0 0) (.int .i64 0)
theorem Two.start {w : World} {a : Option Addr} {len cap : Nat} {m : Int} {L : List NodeD} (h : NodeRow w a len cap L) : Two w ((w.alloc (forB a len cap m)).alloc zeroFB) a len cap m L :=
  ⟨(Box.start h).keep (below_box _ _), Box2.newAt (by simp)⟩
theorem Two.keep {w W W2 : World} {a : Option Addr} {len cap : Nat} {m : Int} {L : List NodeD} (h : Two w W a len cap m L) (hb : Below W.heap.size W W2) : Two w W2 a len cap m L := ⟨h.bx.keep hb, h.rb.keep hb⟩
end Go.Proofs.YtnjoimedilonnaaGreat
namespace Go.Proofs.YtnjoimedilonnaaGreat
open Go.RowKit
end Go.Proofs.YtnjoimedilonnaaGreat
namespace Go.Proofs.YtnjoimedilonnaaGreat
open Go.RowKit
section
variable {ρ : Nat → Nat} {pw g cap len : Nat} {m : Int} {M : List NodeD} {v : Value} {N : List NoteD}
end
end Go.Proofs.YtnjoimedilonnaaGreat
namespace Go.Proofs.YtnjoimedilonnaaGreat
open Go.RowKit
end Go.Proofs.YtnjoimedilonnaaGreat
namespace Go.Proofs.YtnjoimedilonnaaGreat
open Go.RowKit
end Go.Proofs.YtnjoimedilonnaaGreat
namespace Go.Proofs.YtnjoimedilonnaaGreat
open Go.RowKit
end Go.Proofs.YtnjoimedilonnaaGreat
namespace Go.Proofs.YtnjoimedilonnaaGreat
open Go.RowKit
end Go.Proofs.YtnjoimedilonnaaGreat
namespace Go.Proofs.YtnjoimedilonnaaGreat
open Go.RowKit
structure Worn (c d : Core) : Prop where
  kind : d.kind = c.kind
  parent : d.parent = c.parent
  kids : d.kids = c.kids
  host : d.host = c.host
  under : d.under = c.under
  doc : d.doc = c.doc
theorem Worn.refl (c : Core) : Worn c c := ⟨rfl, rfl, rfl, rfl, rfl, rfl⟩
end Go.Proofs.YtnjoimedilonnaaGreat
namespace Go.Proofs.YtnjoimedilonnaaGreat
open Go.RowKit
end Go.Proofs.YtnjoimedilonnaaGreat
namespace Go.Proofs.YtnjoimedilonnaaGreat
open Go.RowKit
def disT : List UInt8 := [100, 105, 115, 97, 98, 108, 101, 100]
def fsetT : List UInt8 := [102, 105, 101, 108, 100, 115, 101, 116]
def legT : List UInt8 := [108, 101, 103, 101, 110, 100]
def nameK (F : List Core) (k : Int) : List UInt8 := match getC F k with | some x => x.name.toList | none => []
def fsetB (F : List Core) (i : Nat) : Bool := nameK F i == fsetT
def disB (F : List Core) (i : Nat) : Bool := match F[i]? with | some x => hasA x.attrs disT | none => false
def kidsZ (F : List Core) (i : Nat) : List Int := match F[i]? with | some x => x.kids | none => []
def legF (F : List Core) (i : Nat) : Int := match (kidsZ F i).find? (fun k => nameK F k == legT) with | some k => k | none => -1
def barsF (F : List Core) (p i : Nat) : Bool := fsetB F p && disB F p && decide (p ≠ i) && holdsF F p i && (decide (legF F p = -1) || !holdsF F (legF F p).toNat i)
def barF (F : List Core) (i : Nat) : Bool := decide (kindK F i = 1) && (disB F i || (List.range F.length).any (fun p => barsF F p i))
def barO (m : Int) (F : List Core) (n : Int) : Bool := thereF m F n && barF F n.toNat
def legO (m : Int) (F : List Core) (n : Int) : Int := if thereF m F n then legF F n.toNat else -1
def barL (F : List Core) : List Int := ((List.range F.length).filter (barF F)).map Int.ofNat
def allB (m : Int) (F : List Core) : List Int := if rightF m F then barL F else []
theorem disB_at {F : List Core} {i : Nat} {x : Core} (h : F[i]? = some x) : disB F i = hasA x.attrs disT := by unfold disB; rw [h]
theorem barO_nat {m : Int} {F : List Core} (h : rightF m F = true) {n : Nat} (hn : n < F.length) : barO m F n = barF F n := by unfold barO; rw [thereF_of h hn, Bool.true_and, Int.toNat_natCast]
theorem legO_nat {m : Int} {F : List Core} (h : rightF m F = true) {n : Nat} (hn : n < F.length) : legO m F n = legF F n := by unfold legO; rw [thereF_of h hn, if_pos rfl, Int.toNat_natCast]
theorem holdsF_iff {m : Int} {F : List Core} (h : rightF m F = true) {a b : Nat} (ha : a < F.length) (hb : b < F.length) : holdsF F a b = true ↔ holdsT (parF F) a b := by
  rw [← holdsZ_iff h ha hb]
  unfold holdsZ
  rw [thereF_of h ha, thereF_of h hb, Int.toNat_natCast, Int.toNat_natCast]
  rfl
theorem leg_is {m : Int} {F : List Core} (h : rightF m F = true) {p : Nat} (hp : p < F.length) : legF F p = -1 ∨ ∃ k : Nat, legF F p = k ∧ k < F.length ∧ parF F k = some p ∧ nameK F k = legT := by
  unfold legF
  cases hf : (kidsZ F p).find? (fun k => nameK F k == legT) with
  | none => exact .inl rfl
  | some z =>
    have hx : F[p]? = some F[p] := List.getElem?_eq_getElem hp
    have hm := List.mem_of_find?_eq_some hf
    have hn : (nameK F z == legT) = true := List.find?_some (p := fun k => nameK F k == legT) hf
    unfold kidsZ at hm
    rw [hx] at hm
    obtain ⟨u, h1, h2, h3, _⟩ := (right_node h hx).kids z hm
    obtain ⟨g1, g2, g3⟩ := getC_some h1
    refine .inr ⟨z.toNat, by show z = _; omega, g2, ?_, by rw [show ((z.toNat : Nat) : Int) = z by omega]; exact beq_iff_eq.1 hn⟩
    unfold parF
    rw [g3]
    dsimp only
    rw [h3, if_neg (by omega), Int.toNat_natCast]
end Go.Proofs.YtnjoimedilonnaaGreat
namespace Go.Proofs.YtnjoimedilonnaaGreat
open Go.RowKit
def barC (F : List Core) (i : Nat) : Nat := ((List.range i).filter (barF F)).length
theorem barC_step (F : List Core) (i : Nat) : barC F (i + 1) = barC F i + if barF F i then 1 else 0 := by
  unfold barC
  rw [List.range_succ, List.filter_append, List.length_append]
  congr 1
  cases h : barF F i with
  | true => rw [List.filter_cons, h]; rfl
  | false => rw [List.filter_cons, h]; rfl
theorem barC_yes {F : List Core} {i : Nat} (h : barF F i = true) : barC F (i + 1) = barC F i + 1 := by rw [barC_step, h, if_pos rfl]
theorem barC_no {F : List Core} {i : Nat} (h : barF F i = false) : barC F (i + 1) = barC F i := by rw [barC_step, h, if_neg Bool.false_ne_true]; rfl
theorem barC_len (F : List Core) : (barL F).length = barC F F.length := by unfold barL barC; rw [List.length_map]
theorem range_split {i n : Nat} (h : i ≤ n) : ∃ r, List.range n = List.range i ++ r := by
  obtain ⟨k, rfl⟩ : ∃ k, n = i + k := ⟨n - i, by omega⟩
  exact ⟨_, List.range_add⟩
theorem barC_at {F : List Core} {i : Nat} (hi : i < F.length) (hb : barF F i = true) : (barL F)[barC F i]? = some (i : Int) := by
  obtain ⟨r, hr⟩ := range_split (show i + 1 ≤ F.length by omega)
  unfold barL
  rw [hr, List.filter_append, List.range_succ, List.filter_append, List.getElem?_map]
  have h1 : List.filter (barF F) [i] = [i] := by rw [List.filter_cons, hb]; rfl
  rw [h1, List.append_assoc, List.getElem?_append_right (by unfold barC; exact Nat.le_refl _)]
  unfold barC
  rw [Nat.sub_self]
  rfl
end Go.Proofs.YtnjoimedilonnaaGreat
namespace Go.Proofs.YtnjoimedilonnaaGreat
open Go.RowKit
def shutB (F : List Core) (i : Nat) : Bool := (List.range F.length).any (fun p => barsF F p i)
theorem barF_shut (F : List Core) (i : Nat) : barF F i = (decide (kindK F i = 1) && (disB F i || shutB F i)) := rfl
theorem bars_iff {F : List Core} {p i : Nat} : barsF F p i = true ↔ fsetB F p = true ∧ disB F p = true ∧ p ≠ i ∧ holdsF F p i = true ∧ (legF F p = -1 ∨ holdsF F (legF F p).toNat i = false) := by
  unfold barsF
  simp only [Bool.and_eq_true, Bool.or_eq_true, decide_eq_true_eq, Bool.not_eq_true']
  constructor
  · rintro ⟨⟨⟨⟨h1, h2⟩, h3⟩, h4⟩, h5⟩; exact ⟨h1, h2, h3, h4, h5⟩
  · rintro ⟨h1, h2, h3, h4, h5⟩; exact ⟨⟨⟨⟨h1, h2⟩, h3⟩, h4⟩, h5⟩
theorem shut_iff {F : List Core} {i : Nat} : shutB F i = true ↔ ∃ p, p < F.length ∧ barsF F p i = true := by
  unfold shutB
  rw [List.any_eq_true]
  constructor
  · rintro ⟨p, h1, h2⟩; exact ⟨p, List.mem_range.1 h1, h2⟩
  · rintro ⟨p, h1, h2⟩; exact ⟨p, List.mem_range.2 h1, h2⟩
theorem shut_top {m : Int} {F : List Core} (h : rightF m F = true) {n : Nat} (hn : n < F.length) (hp : parF F n = none) : shutB F n = false := by
  cases hs : shutB F n with
  | false => rfl
  | true =>
    obtain ⟨p, h1, h2⟩ := shut_iff.1 hs
    obtain ⟨_, _, h3, h4, _⟩ := bars_iff.1 h2
    rcases holds_up ((holdsF_iff h h1 hn).1 h4) with e | ⟨q, e, _⟩
    · exact absurd e h3
    · rw [hp] at e; cases e
theorem shut_step {m : Int} {F : List Core} (h : rightF m F = true) {n k : Nat} (hk : k < F.length) (hp : parF F k = some n) : shutB F k = (shutB F n || (fsetB F n && disB F n && decide ((k : Int) ≠ legF F n))) := by
  have T := tree_of_right h
  obtain ⟨hn, hrk⟩ := par_lt h hk hp
  have hnk : n ≠ k := fun e => by subst e; omega
  have hup : ∀ q, holdsT (parF F) q n → holdsT (parF F) q k := fun q hq => holds_trans hq (holds_par hp)
  have hdn : ∀ q, holdsT (parF F) q k → q = k ∨ holdsT (parF F) q n := fun q hq => by
    rcases holds_up hq with e | ⟨r, e, h2⟩
    · exact .inl e
    · rw [hp] at e
      injection e with e
      rw [e]
      exact .inr h2
  have hkn : ¬ holdsT (parF F) k n := fun h1 => hnk (T.holds_anti hn hk (holds_par hp) h1)
  have fls : ∀ {a b : Nat}, a < F.length → b < F.length → (holdsF F a b = false ↔ ¬ holdsT (parF F) a b) := fun ha hb => by
    rw [← holdsF_iff h ha hb]; simp
  rw [Bool.eq_iff_iff, Bool.or_eq_true, shut_iff, shut_iff]
  simp only [Bool.and_eq_true, decide_eq_true_eq]
  constructor
  · rintro ⟨p, hpl, hb⟩
    obtain ⟨h1, h2, h3, h4, h5⟩ := bars_iff.1 hb
    have hh := (hdn p ((holdsF_iff h hpl hk).1 h4)).resolve_left h3
    by_cases e : p = n
    · subst e
      refine .inr ⟨⟨h1, h2⟩, fun e => ?_⟩
      rcases h5 with h5 | h5
      · omega
      · rw [← e, Int.toNat_natCast] at h5
        exact (fls hk hk).1 h5 (holds_refl k)
    · refine .inl ⟨p, hpl, bars_iff.2 ⟨h1, h2, e, (holdsF_iff h hpl hn).2 hh, ?_⟩⟩
      rcases leg_is h hpl with h6 | ⟨l, h6, h7, _, _⟩
      · exact .inl h6
      · rw [h6, Int.toNat_natCast] at h5 ⊢
        rcases h5 with h5 | h5
        · omega
        · exact .inr ((fls h7 hn).2 (fun h8 => (fls h7 hk).1 h5 (hup l h8)))
  · rintro (⟨p, hpl, hb⟩ | ⟨⟨h1, h2⟩, h3⟩)
    · obtain ⟨h1, h2, h3, h4, h5⟩ := bars_iff.1 hb
      have hh := (holdsF_iff h hpl hn).1 h4
      have hpk : p ≠ k := fun e => by subst e; exact hkn hh
      refine ⟨p, hpl, bars_iff.2 ⟨h1, h2, hpk, (holdsF_iff h hpl hk).2 (hup p hh), ?_⟩⟩
      rcases leg_is h hpl with h6 | ⟨l, h6, h7, h8, _⟩
      · exact .inl h6
      · rw [h6, Int.toNat_natCast] at h5 ⊢
        rcases h5 with h5 | h5
        · omega
        · refine .inr ((fls h7 hk).2 (fun h9 => ?_))
          rcases hdn l h9 with e | h10
          · subst e
            rw [hp] at h8
            injection h8 with h8
            exact h3 h8.symm
          · exact (fls h7 hn).1 h5 h10
    · refine ⟨n, hn, bars_iff.2 ⟨h1, h2, hnk, (holdsF_iff h hn hk).2 (holds_par hp), ?_⟩⟩
      rcases leg_is h hn with h6 | ⟨l, h6, h7, h8, _⟩
      · exact .inl h6
      · rw [h6, Int.toNat_natCast]
        refine .inr ((fls h7 hk).2 (fun h9 => ?_))
        rcases hdn l h9 with e | h10
        · exact h3 (by rw [h6, e])
        · have e := T.holds_anti hn h7 (holds_par h8) h10
          subst e
          have := (par_lt h h7 h8).2
          omega
def parIn (F : List Core) (t : List Nat) (i : Nat) : Bool := match parF F i with | some p => decide (p ∈ t) | none => false
theorem parIn_iff {F : List Core} {t : List Nat} {i : Nat} : parIn F t i = true ↔ ∃ p, parF F i = some p ∧ p ∈ t := by
  unfold parIn
  cases hp : parF F i with
  | none => simp
  | some p => simp
theorem kid_in {m : Int} {F : List Core} (h : rightF m F = true) {n : Nat} {x : Core} (hx : F[n]? = some x) {i : Nat} (hi : i < F.length) : (i : Int) ∈ x.kids ↔ parF F i = some n := by
  have T := tree_of_right h
  have hkf : kidsF F n = x.kids.map Int.toNat := by unfold kidsF; rw [hx]
  constructor
  · intro hm
    exact T.kid_par n i (by rw [hkf]; exact List.mem_map.2 ⟨i, hm, Int.toNat_natCast i⟩)
  · intro hp
    have := (T.par_kid n i hi hp).2
    rw [hkf] at this
    obtain ⟨z, hz, e⟩ := List.mem_map.1 this
    obtain ⟨u, h1, _⟩ := (right_node h hx).kids z hz
    have h0 := (getC_some h1).1
    have : z = (i : Int) := by omega
    rw [← this]
    exact hz
theorem tree_ahead {m : Int} {F : List Core} (h : rightF m F = true) {r k n : Nat} (hr : r < F.length) (hk : (ordF F r)[k]? = some n) : n = r ∨ parIn F ((ordF F r).take k) n = true := by
  have T := tree_of_right h
  cases k with
  | zero =>
    obtain ⟨rr, hrr⟩ := ordN_head (kids := kidsF F) (F.length + 1) r
    unfold ordF at hk
    rw [hrr] at hk
    exact .inl (by simpa using hk.symm)
  | succ k =>
    obtain ⟨j, p, hj, hp, hjp, _⟩ := T.ord_between (F.length + 1) r hr (by omega) (k + 1) n (by omega) hk
    refine .inr (parIn_iff.2 ⟨p, hp, ?_⟩)
    refine List.mem_of_getElem? (i := j) ?_
    rw [List.getElem?_take, if_pos hj]
    exact hjp
theorem parIn_step {F : List Core} {t : List Nat} {k n : Nat} (hk : t[k]? = some n) (i : Nat) : parIn F (t.take (k + 1)) i = (parIn F (t.take k) i || decide (parF F i = some n)) := by
  have hm : ∀ x, x ∈ t.take (k + 1) ↔ x ∈ t.take k ∨ x = n := fun x => by
    rw [List.take_add_one, hk]
    simp
  unfold parIn
  cases hp : parF F i with
  | none => simp
  | some p =>
    rw [Bool.eq_iff_iff]
    simp [hm]
theorem parIn_nil (F : List Core) (i : Nat) : parIn F [] i = false := by
  unfold parIn
  cases parF F i <;> simp
end Go.Proofs.YtnjoimedilonnaaGreat
namespace Go.Proofs.YtnjoimedilonnaaGreat
open Go.RowKit
def ordQ (F : List Core) (n : Nat) : List Int := (ordF F n).map Int.ofNat
set_option maxHeartbeats 4000000 in
set_option maxRecDepth 100000 in
theorem refholds_any (a : Option Addr) (len cap : Nat) (m : Int) (L : List NodeD) (hr : rightF m (coreL L) = true) (hs : L.length ≤ 1000) (x : Nat) (y : Int) (w : World) (h : NodeRow w a len cap L) (hx : x < len) :
    Calls Tryz.prog 21 #[forV a len cap m, .int .i64 x, .int .i64 y] w fun e w' => e = .returned (.bool (decide (0 < hasZ (ordQ (coreL L) x) y))) ∧ Below w.heap.size w w' := by
  have BX := Lib.hid (Box.start (m := m) h)
  have CO : Hid (∀ W, NodeRow W a len cap L → Calls Tryz.prog 37 #[forV a len cap m, .int .i64 x] W (OrdPost W (ordQ (coreL L) x))) := Lib.hid (fun W h => reforder_any a len cap m L hr hs x W h hx)
  have z0 := BX.out.c0
  have z1 := BX.out.c1
  clear h hr hx
  go_enter Tryz.func21, Tryz.ntmps21
  go_wp2_with (first
      | (go_at_call 37; refine (CO.out _ (by first | exact BX.out.row | exact BX.out.row.drew)).mono ?_; intro e w2 hp; obtain ⟨a2, n2, c2, rfl, hrow, hb⟩ := hp; have IR := Lib.hid hrow; have BX := Lib.hid (BX.out.keep hb); have z0 := BX.out.c0; have z1 := BX.out.c1; clear hrow hb)
      | (go_at_call 30; refine (refhas_any _ _ _ _ _ _ IR.out).mono ?_; rintro e w3 ⟨rfl, rfl⟩))
  go_ret
  exact ⟨rfl, BX.out.below⟩
end Go.Proofs.YtnjoimedilonnaaGreat
