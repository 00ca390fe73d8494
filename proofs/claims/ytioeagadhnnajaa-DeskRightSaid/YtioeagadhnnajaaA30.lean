/- Texts joined in build order: DeskDel. -/
import Derived.Test.YtioeagadhnnajaaA27
import Derived.Laws.IdiomCopy
/- slices.DeleteFunc of those who wait for a name. -/
namespace Go.Proofs.Ytioeagadhnnajaa
open Go.RowKit
/-- A row of those who wait in the block g, which may be written. -/
structure TRow (W : World) (g : Nat) (R : List WaitD) : Prop where
  lt : g < W.heap.size
  cell : ∀ k x, R[k]? = some x → W.cell? ⟨g, k * 2, none⟩ = some (.string x.name) ∧ W.cell? ⟨g, k * 2 + 1, none⟩ = some (.int .i64 x.ticket)
  free : ∀ j, W.frozen? ⟨g, j, none⟩ = false
theorem TRow.keep {W V : World} {g : Nat} {R : List WaitD} (h : TRow W g R) (hb : Below W.heap.size W V) : TRow V g R :=
  ⟨Nat.lt_of_lt_of_le h.lt hb.size, fun k x hx => ⟨(hb.cell (p := ⟨g, k * 2, none⟩) h.lt).trans (h.cell k x hx).1, (hb.cell (p := ⟨g, k * 2 + 1, none⟩) h.lt).trans (h.cell k x hx).2⟩, fun j => (World.frozen?_of_block (a := ⟨g, j, none⟩) (hb.block g h.lt)).trans (h.free j)⟩
theorem TRow.set {W : World} {g : Nat} {R : List WaitD} (h : TRow W g R) {k : Nat} {y : WaitD} (hk : R[k]? = some y) (n : ByteArray) (c : Int) : TRow ((W.setCell ⟨g, k * 2, none⟩ (.string n)).setCell ⟨g, k * 2 + 1, none⟩ (.int .i64 c)) g (R.set k ⟨n, c⟩) := by
  have hkl := (List.getElem?_eq_some_iff.1 hk).1
  obtain ⟨a, b⟩ := h.cell k y hk
  refine ⟨by simp only [World.setCell, Array.size_modify]; exact h.lt, fun j x hx => ?_, fun j => by rw [World.frozen?_setCell, World.frozen?_setCell]; exact h.free j⟩
  by_cases e : j = k
  · subst e
    rw [List.getElem?_set_self hkl] at hx
    obtain rfl := Option.some.inj hx
    constructor
    · rw [World.cell?_setCell_other _ _ _ _ (by intro e; injection e with _ e; omega)]
      exact World.cell?_setCell_same _ _ _ a
    · refine World.cell?_setCell_same _ _ _ (u := .int .i64 y.ticket) ?_
      rw [World.cell?_setCell_other _ _ _ _ (by intro e; injection e with _ e; omega)]
      exact b
  · rw [List.getElem?_set_ne (fun e2 => e e2.symm)] at hx
    obtain ⟨a2, b2⟩ := h.cell j x hx
    constructor
    · rw [World.cell?_setCell_other _ _ _ _ (by intro e; injection e with _ e; omega), World.cell?_setCell_other _ _ _ _ (by intro e; injection e with _ e; omega)]
      exact a2
    · rw [World.cell?_setCell_other _ _ _ _ (by intro e; injection e with _ e; omega), World.cell?_setCell_other _ _ _ _ (by intro e; injection e with _ e; omega)]
      exact b2
theorem TRow.row {W : World} {g cap : Nat} {R : List WaitD} (h : TRow W g R) {n : Nat} (hn : R.length = n) (hcap : n ≤ cap) (hmax : cap ≤ maxLen) (hs : ∀ x ∈ R, x.name.size ≤ maxLen ∧ In64 x.ticket) : WaitRow W (some ⟨g, 0, none⟩) n cap R := by
  refine ⟨⟨hn, hcap, hmax, fun x _ => encT_len x, .inr ⟨g, 0, rfl, h.lt, fun i x j v hx hv => ?_⟩⟩, hs, fun e => by cases e⟩
  obtain ⟨a, b⟩ := h.cell i x hx
  have hj : j < 2 := (List.getElem?_eq_some_iff.1 hv).1
  match j, hj with
  | 0, _ =>
    have : Value.string x.name = v := by simpa [encT9] using hv
    rw [← this, Nat.zero_add]; exact a
  | 1, _ =>
    have : Value.int .i64 x.ticket = v := by simpa [encT9] using hv
    rw [← this, Nat.zero_add]; exact b
theorem TRow.of_own {w : World} {base g n cap : Nat} {M : List WaitD} (h : w.ownsRow base 48 2 (.slice (some ⟨g, 0, none⟩) n cap) n (M.flatMap encT9)) : TRow w g M ∧ n ≤ cap ∧ cap ≤ maxLen := by
  rcases h.2 with ⟨hv, _⟩ | ⟨g', cap', cur, hv, _, hh, h1, h2, h3, h4⟩
  · cases hv
  injection hv with hv1 hv2 hv3
  injection hv1 with hv1
  injection hv1 with hv1
  subst hv1; subst hv3
  have hg : g < w.heap.size := by
    rcases Nat.lt_or_ge g w.heap.size with h | h
    · exact h
    · rw [Array.getElem?_eq_none h] at hh; cases hh
  refine ⟨⟨hg, fun k x hx => ?_, fun j => by simp [World.frozen?, hh]⟩, h1, h2⟩
  have hc := h.cells (g := g) rfl
  have e0 := (flat_get (fun x _ => encT_len x) hx (show 0 < 2 by decide)).trans (show (encT9 x)[0]? = some (.string x.name) from rfl)
  have e1 := (flat_get (fun x _ => encT_len x) hx (show 1 < 2 by decide)).trans (show (encT9 x)[1]? = some (.int .i64 x.ticket) from rfl)
  have a := hc _ _ e0
  have b := hc _ _ e1
  rw [Go.WideShapes.add_plain, Nat.zero_add] at a b
  exact ⟨a, b⟩
theorem grown_later {w W V : World} {r : Option Nat} (h : w.grownBy W r) (hb : Below W.heap.size W V) : w.grownBy V r :=
  ⟨hb.os.trans h.os, hb.tape.trans h.tape, hb.output.trans h.output, Nat.le_trans h.size hb.size, fun k hk hr => (hb.block k (Nat.lt_of_lt_of_le hk h.size)).trans (h.block k hk hr)⟩
theorem grown_set9 {w W : World} {g o : Nat} {u : Value} (h : w.grownBy W (some g)) : w.grownBy (W.setCell ⟨g, o, none⟩ u) (some g) :=
  ⟨h.os, h.tape, h.output, by simp only [World.setCell, Array.size_modify]; exact h.size, fun k hk hr => (Below.heap_setCell _ _ _ k (fun e => hr (by rw [e]))).trans (h.block k hk hr)⟩
theorem grown_sets {w : World} {g : Nat} : ∀ (vs : List Value) (o : Nat) (W : World), w.grownBy W (some g) → w.grownBy (W.setCells g o vs) (some g)
  | [], _, _, h => h
  | _ :: r, o, _, h => grown_sets r (o + 1) _ (grown_set9 h)
theorem sets_size (g : Nat) : ∀ (vs : List Value) (o : Nat) (w : World), (w.setCells g o vs).heap.size = w.heap.size
  | [], _, _ => rfl
  | v :: r, o, w => by
    show ((w.setCell ⟨g, o, none⟩ v).setCells g (o + 1) r).heap.size = _
    rw [sets_size g r]
    simp [World.setCell]
theorem TRow.cut {W : World} {g i : Nat} {R : List WaitD} (h : TRow W g R) (vs : List Value) : TRow (W.setCells g (i * 2) vs) g (R.take i) := by
  refine ⟨by rw [sets_size]; exact h.lt, fun k x hx => ?_, fun j => by rw [World.frozen?_setCells]; exact h.free j⟩
  rw [List.getElem?_take] at hx
  split at hx
  · rename_i hk
    obtain ⟨a, b⟩ := h.cell k x hx
    rw [World.cell?_setCells_out g _ _ _ _ (fun _ _ => .inl (show k * 2 < i * 2 by omega)), World.cell?_setCells_out g _ _ _ _ (fun _ _ => .inl (show k * 2 + 1 < i * 2 by omega))]
    exact ⟨a, b⟩
  · cases hx
/-- clear of a slice of those who wait. -/
theorem run_clear_waits (w : World) (ty : TypeId) (b o n c : Nat) (hn : 0 < n) (hc : ∀ j, j < n * 2 → (w.cell? ⟨b, o + j, none⟩).isSome = true) (hf : ∀ j, j < n * 2 → w.frozen? ⟨b, o + j, none⟩ = false) :
    ∃ vs, (Builtin.clear_ #[23] ty #[.slice (some ⟨b, o, none⟩) n c]).run Try.prog w = .ok (.tuple #[]) (w.setCells b o vs) := by
  refine ⟨(Builtin.zeroCells #[Value.string ⟨#[]⟩, .int .i64 0] n).toList, ?_⟩
  have hl : (Builtin.zeroCells #[Value.string ⟨#[]⟩, .int .i64 0] n).toList.length = n * 2 := by simp [Builtin.zeroCells]
  have hst := run_storeCells_cells (P := Try.prog) b o (Builtin.zeroCells #[Value.string ⟨#[]⟩, .int .i64 0] n).toList 0 w (fun j hj => by rw [hl] at hj; simpa using hc j hj) (fun j hj => by rw [hl] at hj; simpa using hf j hj) (by
    intro v hv'
    simp [Builtin.zeroCells] at hv'
    obtain ⟨i, hi, rfl⟩ := hv'
    have : i % 2 = 0 ∨ i % 2 = 1 := by omega
    rcases this with h | h <;> simp [h] <;> rfl)
  simp only [Nat.add_zero] at hst
  obtain ⟨m, rfl⟩ : ∃ m, n = m + 1 := ⟨n - 1, by omega⟩
  have hz2 : (Value.agg #[.string ⟨#[]⟩, .int .i64 0]).cells = #[Value.string ⟨#[]⟩, .int .i64 0] := by simp [Value.cells]
  simp [Builtin.clear_, run_underlying Try.underlying23, hz2, hst]
theorem rest_step {M : List WaitD} {k : Nat} {n : ByteArray} {c : Int} {s : List UInt8} (h : M[k]? = some ⟨n, c⟩) : restT (M.take (k + 1)) s = restT (M.take k) s ++ (if (n.toList == s) = true then [] else [⟨n, c⟩]) := by
  obtain ⟨hl, hg⟩ := List.getElem?_eq_some_iff.1 h
  unfold restT
  rw [List.take_succ_eq_append_getElem hl, List.filter_append, hg]
  cases hp : n.toList == s <;> simp [hp]
theorem rest_none {M : List WaitD} {s : List UInt8} (h : ∀ x ∈ M, isWait s x = false) : restT M s = M := by
  unfold restT
  refine List.filter_eq_self.2 fun x hx => ?_
  have := h x hx
  unfold isWait at this
  rw [this]
  rfl
def DelPost9 (w : World) (a : Option Addr) (row : Option Nat) (T : List WaitD) (e : Ending) (w' : World) : Prop := ∃ l c, e = .returned (.slice a l c) ∧ WaitRow w' a l c T ∧ w.grownBy w' row
set_option maxHeartbeats 4000000 in
set_option maxRecDepth 100000 in
theorem add1_any (s : ByteArray) (b : Nat) (n : ByteArray) (c : Int) (W : World) (hc2 : W.cell? ⟨b, 0, none⟩ = some (.string s)) (hb2 : b < W.heap.size) : Calls Try.prog 33 #[.agg #[.string n, .int .i64 c], .pointer (some ⟨b, 0, none⟩)] W fun e W' => e = .returned (.bool (n.toList == s.toList)) ∧ Below W.heap.size W W' := by
  obtain ⟨q, hq⟩ : ∃ q, (n.toList == s.toList) = q := ⟨_, rfl⟩
  go_enter Try.func33, Try.ntmps33
  go_wp2
  go_ret
  exact ⟨ret_bool (by first | exact hq | exact hq.symm | rfl), below_desk _ _⟩
set_option maxHeartbeats 8000000 in
set_option maxRecDepth 100000 in
theorem deletefunc_any (base : Nat) (wa : Option Addr) (wl wc : Nat) (M : List WaitD) (s : ByteArray) (b : Nat) (w : World) (hown : w.ownsRow base 48 2 (.slice wa wl wc) wl (M.flatMap encT9)) (ht : WaitRow w wa wl wc M) (hb : b < w.heap.size) (hc : w.cell? ⟨b, 0, none⟩ = some (.string s)) (hne : b < base) (h1 : wl ≤ 1000) :
    Calls Try.prog 32 #[.slice wa wl wc, .func (.func 33) #[] #[.pointer (some ⟨b, 0, none⟩)]] w (DelPost9 w wa (Value.ownBlock (.slice wa wl wc)) (restT M s.toList)) := by
  have eg : ∀ args w, (callFunc 33 args).run Try.prog w = .ok (.enter 33 args) w := enters_of Try.func33 (by kernel_rfl) rfl
  have HTN := Lib.hid ht.hlen
  have OKT := Lib.hid ht.ok
  have IX := indexT_any 33 #[.pointer (some ⟨b, 0, none⟩)] (isWait s.toList) eg wa wl wc M w ht (pred_add s b w hb hc)
  rcases firstZ_cases (isWait s.toList) M with ⟨e1, hn⟩ | ⟨f, y, e1, hf, hp, hbf⟩
  · rw [e1] at IX
    have HR : Hid (restT M s.toList = M) := Lib.hid (rest_none hn)
    have HH := Lib.hid ht
    clear hn e1 hown ht hc
    go_enter Try.func32, Try.ntmps32
    go_wp2_with (go_at_call 48; refine IX.mono ?_; rintro e w5 ⟨rfl, hb5⟩)
    go_ret
    exact ⟨_, _, rfl, by rw [HR.out]; exact HH.out.below hb5, grown_later (World.grownBy.refl w _) hb5⟩
  · rw [e1] at IX
    have hfl : f < wl := by have := (List.getElem?_eq_some_iff.1 hf).1; rw [HTN.out] at this; exact this
    obtain ⟨g, rfl⟩ : ∃ g, wa = some ⟨g, 0, none⟩ := by
      rcases hown.2 with ⟨hv, _⟩ | ⟨g, cap', cur, hv, _⟩
      · injection hv with _ hv2; omega
      · injection hv with hv; exact ⟨g, hv⟩
    obtain ⟨hT, hcap, hmax⟩ := TRow.of_own hown
    have hgb : base ≤ g := (hown.lt g rfl).1
    have hbg : b ≠ g := by omega
    have hcap64 : wc ≤ 9223372036854775807 := by unfold maxLen at hmax; omega
    have HMX := Lib.hid hmax
    have HT := Lib.hid hT
    have HC := Lib.hid hc
    have H0 : Hid (M.take f = restT (M.take (f + 1)) s.toList) := Lib.hid (by
      obtain ⟨n, c⟩ := y
      unfold isWait at hp
      dsimp only at hp
      rw [rest_step hf, hp, if_pos rfl, List.append_nil]
      refine (rest_none fun x hx => ?_).symm
      obtain ⟨j, hj⟩ := List.getElem?_of_mem hx
      rw [List.getElem?_take] at hj
      split at hj
      · rename_i hjf; exact hbf j x hjf hj
      · cases hj)
    have ef : ((f : Int) == -1) = false := beq_eq_false_iff_ne.2 (by omega)
    clear hown ht hc hf hp hbf e1 hT hmax hgb
    go_enter Try.func32, Try.ntmps32
    go_wp2_with (go_at_call 48; refine IX.mono ?_; rintro e w5 ⟨rfl, hb5⟩)
    go_loopw [5, 6] (fun iv jv wr => ∃ (i j : Nat) (R : List WaitD), iv = .int .i64 i ∧ jv = .int .i64 j ∧ i < j ∧ j ≤ wl ∧ Hid (TRow wr g R) ∧ Hid (R.length = wl) ∧ Hid (R.take i = restT (M.take j) s.toList) ∧ Hid (∀ k, j ≤ k → R[k]? = M[k]?) ∧ Hid (w.grownBy wr (some g)) ∧ Hid (∀ x ∈ R, x.name.size ≤ maxLen ∧ In64 x.ticket)) (fun _ j _ => wl - (intOf j).toNat)
    case atStart => exact ⟨f, f + 1, M, rfl, by go_num, by omega, by omega, Lib.hid (HT.out.keep hb5), HTN, H0, Lib.hid (fun k _ => rfl), Lib.hid (grown_later (World.grownBy.refl w _) hb5), OKT⟩
    case round =>
      obtain ⟨i, j, R, rfl, rfl, hij, hj, TR, RL, RT, RM, GB, OKR⟩ := hrel
      by_cases hlt : j < wl
      · obtain ⟨x, hx⟩ : ∃ x, R[j]? = some x := ⟨_, List.getElem?_eq_getElem (by rw [RL.out]; exact hlt)⟩
        have hxm : M[j]? = some x := by rw [← RM.out j (Nat.le_refl _)]; exact hx
        obtain ⟨y, hy⟩ : ∃ y, R[i]? = some y := ⟨_, List.getElem?_eq_getElem (by rw [RL.out]; omega)⟩
        obtain ⟨n, c⟩ := x
        have HX := Lib.hid hxm
        have HY := Lib.hid hy
        have HXR := Lib.hid hx
        obtain ⟨c0, c1⟩ := TR.out.cell j _ hx
        dsimp only at c0 c1
        clear hx hxm hy
        go_upto_region 8 with fail
        obtain ⟨W, hW, XX⟩ : ∃ W, wr.alloc (.cells #[.string n, .int .i64 c] 48) = W ∧ Hid (TBox9 W wr.heap.size n c) := ⟨_, rfl, Lib.hid (TBox9.new _ _ _)⟩
        rw [hW]
        have HBW : Hid (Below wr.heap.size wr W) := Lib.hid (by rw [← hW]; exact below_desk _ _)
        clear hW c0 c1
        have x0 := XX.out.c0
        have x1 := XX.out.c1
        have hcell : W.cell? ⟨b, 0, none⟩ = some (.string s) := ((World.cell?_of_block (a := ⟨b, 0, none⟩) ((grown_later GB.out HBW.out).block b hb (by intro e; injection e with e; exact hbg e)))).trans HC.out
        have hblt : b < W.heap.size := Nat.lt_of_lt_of_le hb (grown_later GB.out HBW.out).size
        have hcall := add1_any s b n c W hcell hblt
        clear hcell hblt
        obtain ⟨q, hq⟩ : ∃ q, (n.toList == s.toList) = q := ⟨_, rfl⟩
        rw [hq] at hcall
        cases q with
        | true =>
          have HS : Hid (R.take i = restT (M.take (j + 1)) s.toList) := Lib.hid (by rw [rest_step HX.out, hq, if_pos rfl, List.append_nil]; exact RT.out)
          clear hq
          go_wp2_with (go_at_fn 33; refine hcall.mono ?_; rintro e w6 ⟨rfl, hb6⟩)
          go_roundw
          case rel => exact ⟨i, j + 1, R, rfl, by go_num, by omega, by omega, Lib.hid ((TR.out.keep HBW.out).keep hb6), RL, HS, Lib.hid (fun k hk => RM.out k (by omega)), Lib.hid (grown_later (grown_later GB.out HBW.out) hb6), OKR⟩
          case measure => simp [intOf]; omega
        | false =>
          have HS : Hid ((R.set i ⟨n, c⟩).take (i + 1) = restT (M.take (j + 1)) s.toList) := Lib.hid (by
            rw [rest_step HX.out, hq, if_neg (by decide), ← RT.out]
            have hil : i < (R.set i ⟨n, c⟩).length := by rw [List.length_set, RL.out]; omega
            rw [List.take_succ_eq_append_getElem hil, List.take_set_of_le (Nat.le_refl _), List.getElem_set_self])
          clear hq
          go_wp2_with (go_at_fn 33; refine hcall.mono ?_; rintro e w6 ⟨rfl, hb6⟩; have T6 := Lib.hid ((TR.out.keep HBW.out).keep hb6); have X6 := Lib.hid (XX.out.keep hb6); have G6 := Lib.hid (grown_later (grown_later GB.out HBW.out) hb6); clear x0 x1 hb6; have x0 := X6.out.c0; have x1 := X6.out.c1; have y0 := (T6.out.cell i _ HY.out).1; have y1 := (T6.out.cell i _ HY.out).2; have f0 := T6.out.free (i * 2); have f1 := T6.out.free (i * 2 + 1))
          go_roundw
          case rel => exact ⟨i + 1, j + 1, R.set i ⟨n, c⟩, by go_num, by go_num, by omega, by omega, Lib.hid (T6.out.set HY.out n c), Lib.hid (by rw [List.length_set]; exact RL.out), HS, Lib.hid (fun k hk => by rw [List.getElem?_set_ne (by omega)]; exact RM.out k (by omega)), Lib.hid (grown_set9 (grown_set9 G6.out)), Lib.hid (fun x hx => by
            rcases List.mem_or_eq_of_mem_set hx with hx | rfl
            · exact OKR.out x hx
            · exact OKR.out _ (List.mem_of_getElem? HXR.out))⟩
          case measure => simp [intOf]; omega
      · have hje : j = wl := by omega
        subst hje
        have HE : Hid (R.take i = restT M s.toList) := Lib.hid (by
          have := RT.out
          rwa [List.take_of_length_le (l := M) (by rw [HTN.out]; exact Nat.le_refl _)] at this)
        obtain ⟨m, rfl⟩ : ∃ m, j = i + 1 + m := ⟨j - (i + 1), by omega⟩
        obtain ⟨vs, hcl⟩ := run_clear_waits wr 0 g (i * 2) (i + 1 + m - i) (wc - i) (by omega) (fun k hk => by
          have hkl : i + k / 2 < R.length := by rw [RL.out]; omega
          obtain ⟨a, b⟩ := TR.out.cell (i + k / 2) _ (List.getElem?_eq_getElem hkl)
          have h2 : k % 2 = 0 ∨ k % 2 = 1 := by omega
          rcases h2 with h2 | h2
          · rw [show i * 2 + k = (i + k / 2) * 2 by omega, a]; rfl
          · rw [show i * 2 + k = (i + k / 2) * 2 + 1 by omega, b]; rfl) (fun k _ => TR.out.free _)
        obtain ⟨W2, hW2⟩ : ∃ W2, wr.setCells g (i * 2) vs = W2 := ⟨_, rfl⟩
        have HTC : Hid (TRow W2 g (R.take i)) := Lib.hid (by rw [← hW2]; exact TR.out.cut vs)
        have HGC : Hid (w.grownBy W2 (some g)) := Lib.hid (by rw [← hW2]; exact grown_sets vs _ _ GB.out)
        rw [hW2] at hcl
        clear hW2
        have hii : i ≤ wc := by omega
        have hcm : ¬ wc = i := by omega
        have hcm2 : i ≤ i + 1 + m := by omega
        go_wp2
        go_ret
        refine ⟨_, _, rfl, ?_, HGC.out⟩
        rw [← HE.out]
        exact HTC.out.row (by rw [List.length_take, RL.out]; omega) (by omega) HMX.out (fun x hx => OKR.out x (List.mem_of_mem_take hx))
end Go.Proofs.Ytioeagadhnnajaa
