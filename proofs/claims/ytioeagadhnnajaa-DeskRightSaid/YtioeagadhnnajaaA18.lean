/- Texts joined in build order: DeskFns StepRows DeskEq ForestOpen OpenRows DeskOpen. -/
import Derived.Test.YtioeagadhnnajaaA16
import Derived.Test.YtioeagadhnnajaaA03
import Derived.Test.YtioeagadhnnajaaA02
import Derived.Test.YtioeagadhnnajaaChecked
import Derived.Test.YtioeagadhnnajaaA04
import Derived.WalkLawsBesides
import Derived.Lib.Hide
import Derived.Test.YtioeagadhnnajaaA10
import Derived.OpenShut
/- What is asked of package desk's functions: their contracts, as one property. -/
namespace Go.Proofs.Ytioeagadhnnajaa
open Go.RowKit
/-- What a slice points to is new. -/
def NewAt (W : World) (a : Option Addr) : Prop := ∀ b off, a = some ⟨b, off, none⟩ → W.heap.size ≤ b
/-- What Add hands back. -/
def AddPost9 (W : World) (R : DeskD × Int × List Int × Int) (e : Ending) (W' : World) : Prop :=
  ∃ da dl dc wa wl wc ta tl tc, e = .returned (.tuple #[deskV da dl dc wa wl wc R.1.next R.1.busy, .int .i64 R.2.1, .slice ta tl tc, .int .i64 R.2.2.2]) ∧ DefRow W' da dl dc R.1.defs ∧ WaitRow W' wa wl wc R.1.waits ∧ IntRow W' ta tl tc R.2.2.1 ∧ Below W.heap.size W W' ∧ NewAt W da ∧ NewAt W wa ∧ NewAt W ta
/-- What Await hands back. -/
def AwaitPost (W : World) (R : DeskD × Int × Int × Int) (e : Ending) (W' : World) : Prop :=
  ∃ da dl dc wa wl wc, e = .returned (.tuple #[deskV da dl dc wa wl wc R.1.next R.1.busy, .int .i64 R.2.1, .int .i64 R.2.2.1, .int .i64 R.2.2.2]) ∧ DefRow W' da dl dc R.1.defs ∧ WaitRow W' wa wl wc R.1.waits ∧ Below W.heap.size W W' ∧ NewAt W da ∧ NewAt W wa
def ifRight (D : DeskD) (z : Int) : Int := if rightK D = true then z else -1
structure DeskFns : Prop where
  right : ∀ (da : Option Addr) (dl dc : Nat) (wa : Option Addr) (wl wc : Nat) (nx : Int) (bz : Bool) (L : List DefD) (M : List WaitD) (W : World), DefRow W da dl dc L → WaitRow W wa wl wc M →
    Calls Try.prog 10 #[deskV da dl dc wa wl wc nx bz] W fun e W' => e = .returned (.bool (rightK ⟨L, M, nx, bz⟩)) ∧ Below W.heap.size W W'
  find : ∀ (da : Option Addr) (dl dc : Nat) (wa : Option Addr) (wl wc : Nat) (nx : Int) (bz : Bool) (L : List DefD) (M : List WaitD) (l s : ByteArray) (W : World), DefRow W da dl dc L → WaitRow W wa wl wc M → l.size ≤ maxLen → s.size ≤ maxLen →
    Calls Try.prog 7 #[deskV da dl dc wa wl wc nx bz, .string l, .string s] W fun e W' => e = .returned (.int .i64 (ifRight ⟨L, M, nx, bz⟩ (findZ2 L l.toList s.toList))) ∧ Below W.heap.size W W'
  named : ∀ (da : Option Addr) (dl dc : Nat) (wa : Option Addr) (wl wc : Nat) (nx : Int) (bz : Bool) (L : List DefD) (M : List WaitD) (s : ByteArray) (W : World), DefRow W da dl dc L → WaitRow W wa wl wc M → s.size ≤ maxLen →
    Calls Try.prog 8 #[deskV da dl dc wa wl wc nx bz, .string s] W fun e W' => e = .returned (.int .i64 (ifRight ⟨L, M, nx, bz⟩ (namedZ L s.toList))) ∧ Below W.heap.size W W'
  classed : ∀ (da : Option Addr) (dl dc : Nat) (wa : Option Addr) (wl wc : Nat) (nx : Int) (bz : Bool) (L : List DefD) (M : List WaitD) (c : Int) (W : World), DefRow W da dl dc L → WaitRow W wa wl wc M →
    Calls Try.prog 9 #[deskV da dl dc wa wl wc nx bz, .int .i64 c] W fun e W' => e = .returned (.int .i64 (ifRight ⟨L, M, nx, bz⟩ (classedZ L c))) ∧ Below W.heap.size W W'
  may : ∀ (da : Option Addr) (dl dc : Nat) (wa : Option Addr) (wl wc : Nat) (nx : Int) (bz : Bool) (L : List DefD) (M : List WaitD) (m : Int) (s base : ByteArray) (c : Int) (W : World), DefRow W da dl dc L → WaitRow W wa wl wc M → s.size ≤ maxLen → base.size ≤ maxLen →
    Calls Try.prog 16 #[deskV da dl dc wa wl wc nx bz, .int .i64 m, .string s, .string base, .int .i64 c] W fun e W' => e = .returned (.int .i64 (mayE ⟨L, M, nx, bz⟩ m s.toList base.toList c)) ∧ Below W.heap.size W W'
  add : ∀ (da : Option Addr) (dl dc : Nat) (wa : Option Addr) (wl wc : Nat) (nx : Int) (bz : Bool) (L : List DefD) (M : List WaitD) (m : Int) (s base : ByteArray) (c : Int) (W : World), DefRow W da dl dc L → WaitRow W wa wl wc M → s.size ≤ maxLen → base.size ≤ maxLen → In64 c → L.length ≤ 1000 → M.length ≤ 1000 →
    Calls Try.prog 14 #[deskV da dl dc wa wl wc nx bz, .int .i64 m, .string s, .string base, .int .i64 c] W (AddPost9 W (addR9 ⟨L, M, nx, bz⟩ m s base c))
  await : ∀ (da : Option Addr) (dl dc : Nat) (wa : Option Addr) (wl wc : Nat) (nx : Int) (bz : Bool) (L : List DefD) (M : List WaitD) (s : ByteArray) (W : World), DefRow W da dl dc L → WaitRow W wa wl wc M → s.size ≤ maxLen → In64 nx → L.length ≤ 1000 → M.length ≤ 1000 →
    Calls Try.prog 19 #[deskV da dl dc wa wl wc nx bz, .string s] W (AwaitPost W (awaitR ⟨L, M, nx, bz⟩ s))
end Go.Proofs.Ytioeagadhnnajaa
/- append of any slice onto one of the call's own, at a step of a region that draws its order. No program. -/
namespace Go.Proofs.Ytioeagadhnnajaa
open Go.RowKit
theorem step_append_rows {P : Program} {α : Type} {enc : α → List Value} {w : World} {ops : Array Oper} {o : Oper} {a : Act} {K : Act → World → Prop} {Q : Exit → Act → World → Prop} {E : Prop} (hgd : o.guard = none) (s x : Operand) (t : TypeId)
    (ho : o.op = .call { callee := .builtin .append, args := #[s, x], argTypes := #[t, t] })
    (e : TypeId) (i : TypeInfo) (z : Value) (size bytes : Nat) (ht : P.underlying t = some (.slice e)) (hi : P.info? e = some i) (hz : i.zero = some z)
    (hsize : i.size = size) (hby : i.bytes = bytes) (hzs : z.cells.size = size) (hsz : 0 < size) (base : Nat)
    (v : Value) (n : Nat) (L M : List α) (hs : a.eval s = v) (hown : w.ownsRow base e size v n (L.flatMap enc)) (ad : Option Addr) (m c : Nat) (hx : a.eval x = .slice ad m c) (hsrc : SRow enc size w ad m c M) (h1 : ∀ x ∈ M, ∀ u ∈ enc x, u.oneCell' = true)
    (h63 : n + m ≤ maxLen) (hbytes : (n + m) * bytes ≤ 140737488355328) (hbase : base ≤ w.heap.size) (hnil : ad = none → c = 0)
    (h : ∀ v' w', w'.ownsRow base e size v' (n + m) ((L ++ M).flatMap enc) → w.grownBy w' v.ownBlock → (v'.ownBlock = v.ownBlock ∨ v'.ownBlock = some w.heap.size) → K (a.put o.dst v') w') :
    if Region.wanted o (yielded ops a.tmps) = true then Oper.wp P o a w K Q else E := by
  have hw : Region.wanted o (yielded ops a.tmps) = true := by simp [Region.wanted, hgd]
  rw [if_pos hw]
  obtain ⟨v', w', hr, h2, h3, h4⟩ := run_append_rows (P := P) w t o.type e i z size bytes ht hi hz hsize hby hzs hsz base v n L M hown ad m c hsrc h1 h63 hbytes hbase hnil
  unfold Oper.wp execOp
  simp only [ho, resolve, invoke, builtin, Sem.run_bind, Sem.run_pure, Result.andThen_ok, List.map_toArray, List.map_cons, List.map_nil, hs, hx, hr]
  exact h v' w' h2 h3 h4
end Go.Proofs.Ytioeagadhnnajaa
/- '==' and '!=' on two definitions, on two who wait. -/
namespace Go.Proofs.Ytioeagadhnnajaa
open Go.RowKit
def sameD (n o : ByteArray) (c : Int) (n' o' : ByteArray) (c' : Int) : Bool := n.toList == n'.toList && o.toList == o'.toList && c == c'
def sameT (n : ByteArray) (c : Int) (n' : ByteArray) (c' : Int) : Bool := n.toList == n'.toList && c == c'
theorem sameD_eq {x y : DefD} : sameD x.name x.loc x.cls y.name y.loc y.cls = true ↔ x = y := by
  obtain ⟨n, o, c⟩ := x
  obtain ⟨n', o', c'⟩ := y
  unfold sameD
  simp only [Bool.and_eq_true, beq_iff_eq]
  constructor
  · rintro ⟨⟨h1, h2⟩, h3⟩
    rw [toList_inj h1, toList_inj h2, h3]
  · intro h
    injection h with h1 h2 h3
    rw [h1, h2, h3]
    exact ⟨⟨rfl, rfl⟩, rfl⟩
theorem sameT_eq {x y : WaitD} : sameT x.name x.ticket y.name y.ticket = true ↔ x = y := by
  obtain ⟨n, c⟩ := x
  obtain ⟨n', c'⟩ := y
  unfold sameT
  simp only [Bool.and_eq_true, beq_iff_eq]
  constructor
  · rintro ⟨h1, h3⟩
    rw [toList_inj h1, h3]
  · intro h
    injection h with h1 h3
    rw [h1, h3]
    exact ⟨rfl, rfl⟩
theorem def_fields : Try.prog.underlying 46 = some (.struct (Try.prog.fieldsOf 46)) := by
  unfold Program.fieldsOf
  rw [Try.underlying46]
theorem def_held : Try.prog.stoodInHeld 46 = false := by kernel_rfl
theorem def_guard : Try.prog.eqGuardType Try.prog.depth 46 = false := by kernel_rfl
theorem wait_fields : Try.prog.underlying 48 = some (.struct (Try.prog.fieldsOf 48)) := by
  unfold Program.fieldsOf
  rw [Try.underlying48]
theorem wait_held : Try.prog.stoodInHeld 48 = false := by kernel_rfl
theorem wait_guard : Try.prog.eqGuardType Try.prog.depth 48 = false := by kernel_rfl
theorem def_equal (n o : ByteArray) (c : Int) (n' o' : ByteArray) (c' : Int) (W : World) :
    (Op.equalIn 10000 46 (.agg #[.string n, .string o, .int .i64 c]) (.agg #[.string n', .string o', .int .i64 c'])).run Try.prog W = .ok (sameD n o c n' o' c') W := by
  have u9 := Try.underlying9
  have a9 := Try.isAgg9
  have z9 := Try.sizeOf9
  have u3 := Try.underlying3
  have a3 := Try.isAgg3
  have z3 := Try.sizeOf3
  rw [show (10000 : Nat) = 9999 + 1 from rfl, run_equalIn_agg W 9999 46 _ _ def_fields def_held]
  simp only [Program.fieldsOf, Try.underlying46]
  go_simp
  unfold sameD
  by_cases h1 : n.toList = n'.toList <;> by_cases h2 : o.toList = o'.toList <;> by_cases h3 : c = c' <;> simp [h1, h2, h3]
theorem wait_equal (n : ByteArray) (c : Int) (n' : ByteArray) (c' : Int) (W : World) :
    (Op.equalIn 10000 48 (.agg #[.string n, .int .i64 c]) (.agg #[.string n', .int .i64 c'])).run Try.prog W = .ok (sameT n c n' c') W := by
  have u9 := Try.underlying9
  have a9 := Try.isAgg9
  have z9 := Try.sizeOf9
  have u3 := Try.underlying3
  have a3 := Try.isAgg3
  have z3 := Try.sizeOf3
  rw [show (10000 : Nat) = 9999 + 1 from rfl, run_equalIn_agg W 9999 48 _ _ wait_fields wait_held]
  simp only [Program.fieldsOf, Try.underlying48]
  go_simp
  unfold sameT
  by_cases h1 : n.toList = n'.toList <;> by_cases h3 : c = c' <;> simp [h1, h3]
theorem def_neq (n o : ByteArray) (c : Int) (n' o' : ByteArray) (c' : Int) (W : World) :
    (binOp .neq 46 (.agg #[.string n, .string o, .int .i64 c]) (.agg #[.string n', .string o', .int .i64 c'])).run Try.prog W = .ok (.bool (!sameD n o c n' o' c')) W := by
  rw [run_neq_struct, def_equal]
  rfl
theorem def_eql (n o : ByteArray) (c : Int) (n' o' : ByteArray) (c' : Int) (W : World) :
    (binOp .eql 46 (.agg #[.string n, .string o, .int .i64 c]) (.agg #[.string n', .string o', .int .i64 c'])).run Try.prog W = .ok (.bool (sameD n o c n' o' c')) W := by
  rw [run_eql_struct, def_equal]
  rfl
theorem wait_neq (n : ByteArray) (c : Int) (n' : ByteArray) (c' : Int) (W : World) :
    (binOp .neq 48 (.agg #[.string n, .int .i64 c]) (.agg #[.string n', .int .i64 c'])).run Try.prog W = .ok (.bool (!sameT n c n' c')) W := by
  rw [run_neq_struct, wait_equal]
  rfl
end Go.Proofs.Ytioeagadhnnajaa
/- Arguments that are forests and nodes, opened. -/
namespace Go.Proofs.Ytioeagadhnnajaa
open Go.RowKit Go.Deep Go.ChangeShapes Go.WideShapes
theorem in64_of {z : Int} (h : (Lit.int .i64 z).wf = true) : In64 z := by
  exact bounds_i64 h
/-- A slice of numbers. -/
theorem open_introw {H : Type} {enc : TypeId × Value → H} {W : World} {a : Option Addr} {len cap : Nat} {d : DataW H} {p : List MemPlace}
    (h : DataW.Trod enc Try.prog W 0 (fun _ => true) true 31 (.slice a len cap) d p) : ∃ L, IntRow W a len cap L := by
  obtain ⟨fuel, hf⟩ := h
  rcases open_slice Try.underlying31 hf with ⟨hcs, _⟩ | ⟨ad, l, c, m, n, D, Pl, hcs, _, hl, hm, hmm, _, hi⟩
  · simp [Value.cells] at hcs
    obtain ⟨rfl, rfl, rfl⟩ := hcs
    exact ⟨[], SRow.nil, by simp, fun _ => rfl⟩
  · simp [Value.cells] at hcs
    obtain ⟨rfl, rfl, rfl⟩ := hcs
    have hml : len ≤ m := by rw [hmm]; simpa using hl
    have ce : Try.prog.cellsOf 3 = 1 := by kernel_rfl
    have each : ∀ i, i < len → ∃ x : Int, W.cell? (ad.add i) = some (.int .i64 x) ∧ In64 x := by
      intro i hil
      obtain ⟨cs', h1, h2⟩ := hi i (by omega)
      rw [ce] at h1
      obtain ⟨_, hlen, hcell⟩ := World.cells?_some h1
      match cs', hlen with
      | [v0], _ =>
        have e0 := hcell 0 (by omega)
        rw [add_add] at e0
        obtain ⟨n0, hn0, _, hw0⟩ := DataW.trod_int Try.underlying3 h2
        simp at hn0
        subst hn0
        exact ⟨n0, by simpa using e0, in64_of hw0⟩
    obtain ⟨q, hq⟩ : ∃ q : Nat → Int, ∀ i, i < len → W.cell? (ad.add i) = some (.int .i64 (q i)) ∧ In64 (q i) := by
      refine ⟨fun i => if h : i < len then (each i h).choose else 0, fun i hil => ?_⟩
      simp only [dif_pos hil]
      exact (each i hil).choose_spec
    refine ⟨(List.range len).map q, ⟨by simp, hl, hm, fun x _ => rfl, ?_⟩, ?_, fun h => by cases h⟩
    · rcases Nat.eq_zero_or_pos len with h0 | h0
      · exact .inl h0
      · obtain ⟨b, off, spot⟩ := ad
        have hc := (hq 0 h0).1
        have hspot : spot = none := by simpa [Addr.add] using World.cell?_spot hc
        subst hspot
        refine .inr ⟨b, off, rfl, ?_, ?_⟩
        · have := block_lt hc
          rwa [add_plain] at this
        · intro i x j v hx hv
          obtain ⟨hil, hgx⟩ := List.getElem?_eq_some_iff.1 hx
          have hil' : i < len := by simpa using hil
          simp at hgx
          obtain ⟨h1, _⟩ := hq i hil'
          rw [add_plain] at h1
          rw [hgx] at h1
          obtain ⟨hjl, hgv⟩ := List.getElem?_eq_some_iff.1 hv
          match j, hjl with
          | 0, _ => simp [encZ] at hgv; subst hgv; simpa using h1
    · intro x hx
      obtain ⟨i, hi1, rfl⟩ := List.mem_map.1 hx
      exact (hq i (List.mem_range.1 hi1)).2
theorem slice_cells {H : Type} {enc : TypeId × Value → H} {W : World} {t e : TypeId} {fuel : Nat} {v : Value} {x : DataW H × List MemPlace} (ht : Try.prog.underlying t = some (.slice e))
    (h : DataW.trod enc Try.prog W 0 (fun _ => true) true fuel t [v] = some x) : ∃ a n c, v = .slice a n c := by
  rcases open_slice ht h with ⟨hcs, _⟩ | ⟨ad, l, c, m, n, D, Pl, hcs, _⟩
  · exact ⟨none, 0, 0, by simpa using hcs⟩
  · exact ⟨some ad, l, c, by simpa using hcs⟩
end Go.Proofs.Ytioeagadhnnajaa
/- An argument that is a slice of structs, opened: for any struct that can be opened. -/
namespace Go.Proofs.Ytioeagadhnnajaa
open Go.RowKit Go.Deep Go.ChangeShapes Go.WideShapes
theorem open_rows {α : Type} (enc : α → List Value) (size : Nat) (ok : α → Prop) {ts te : TypeId} (hts : Try.prog.underlying ts = some (.slice te)) (ce : Try.prog.cellsOf te = size) (hpos : 0 < size)
    {H : Type} {en : TypeId × Value → H} {W : World} {a : Option Addr} {len cap : Nat} {d : DataW H} {p : List MemPlace}
    (one : ∀ (cs : List Value) (fuel : Nat) (d : DataW H) (p : List MemPlace), cs.length = size → DataW.trod en Try.prog W 0 (fun _ => true) true fuel te cs = some (d, p) → ∃ x, cs = enc x ∧ ok x)
    (h : DataW.Trod en Try.prog W 0 (fun _ => true) true ts (.slice a len cap) d p) : ∃ L, SRow enc size W a len cap L ∧ (∀ x ∈ L, ok x) ∧ (a = none → cap = 0) := by
  obtain ⟨fuel, hf⟩ := h
  rcases open_slice hts hf with ⟨hcs, _⟩ | ⟨ad, l, c, m, n, D, Pl, hcs, _, hl, hm, hmm, _, hi⟩
  · simp [Value.cells] at hcs
    obtain ⟨rfl, rfl, rfl⟩ := hcs
    exact ⟨[], SRow.nil, (fun x hx => by cases hx), fun _ => rfl⟩
  · simp [Value.cells] at hcs
    obtain ⟨rfl, rfl, rfl⟩ := hcs
    have hml : len ≤ m := by rw [hmm]; simpa using hl
    have each : ∀ i, i < len → ∃ x : α, ((enc x).length = size ∧ ok x) ∧ ∀ j v, (enc x)[j]? = some v → W.cell? (ad.add (i * size + j)) = some v := by
      intro i hil
      obtain ⟨cs', h1, h2⟩ := hi i (by omega)
      rw [ce] at h1
      obtain ⟨_, hlen, hcell⟩ := World.cells?_some h1
      obtain ⟨x, hx, hok⟩ := one _ _ _ _ hlen h2
      refine ⟨x, ⟨by rw [← hx, hlen], hok⟩, fun j v hv => ?_⟩
      have hj : j < size := by
        have := (List.getElem?_eq_some_iff.1 hv).1
        rwa [← hx, hlen] at this
      have e0 := hcell j hj
      rw [add_add, hx, hv] at e0
      exact e0
    rcases Nat.eq_zero_or_pos len with h0 | h0
    · subst h0
      exact ⟨[], ⟨rfl, hl, hm, (fun x hx => by cases hx), .inl rfl⟩, (fun x hx => by cases hx), fun e => by cases e⟩
    obtain ⟨q, hq⟩ : ∃ q : Nat → α, ∀ i, i < len → ((enc (q i)).length = size ∧ ok (q i)) ∧ ∀ j v, (enc (q i))[j]? = some v → W.cell? (ad.add (i * size + j)) = some v := by
      refine ⟨fun i => if h : i < len then (each i h).choose else (each 0 h0).choose, fun i hil => ?_⟩
      simp only [dif_pos hil]
      exact (each i hil).choose_spec
    refine ⟨(List.range len).map q, ⟨by simp, hl, hm, fun x hx => ?_, ?_⟩, ?_, fun h => by cases h⟩
    · obtain ⟨i, hi1, rfl⟩ := List.mem_map.1 hx
      exact (hq i (List.mem_range.1 hi1)).1.1
    · obtain ⟨b, off, spot⟩ := ad
      have hlen0 := (hq 0 h0).1.1
      have hc := (hq 0 h0).2 0 _ (List.getElem?_eq_getElem (by omega))
      have hspot : spot = none := by simpa [Addr.add] using World.cell?_spot hc
      subst hspot
      refine .inr ⟨b, off, rfl, ?_, ?_⟩
      · have := block_lt hc
        rwa [add_plain] at this
      · intro i x j v hx hv
        obtain ⟨hil, hgx⟩ := List.getElem?_eq_some_iff.1 hx
        have hil' : i < len := by simpa using hil
        simp at hgx
        have h1 := (hq i hil').2 j v (by rw [hgx]; exact hv)
        rw [add_plain] at h1
        simpa [Nat.add_assoc] using h1
    · intro x hx
      obtain ⟨i, hi1, rfl⟩ := List.mem_map.1 hx
      exact (hq i (List.mem_range.1 hi1)).1.2
end Go.Proofs.Ytioeagadhnnajaa
/- An argument that is a desk, opened. -/
namespace Go.Proofs.Ytioeagadhnnajaa
open Go.RowKit Go.Deep Go.ChangeShapes Go.WideShapes
set_option maxRecDepth 100000 in
theorem open_def {H : Type} {en : TypeId × Value → H} {W : World} (cs : List Value) (fuel : Nat) (d : DataW H) (p : List MemPlace) (hc : cs.length = 3)
    (h : DataW.trod en Try.prog W 0 (fun _ => true) true fuel 46 cs = some (d, p)) : ∃ x : DefD, cs = encD x ∧ (x.name.size ≤ maxLen ∧ x.loc.size ≤ maxLen ∧ In64 x.cls) := by
  obtain ⟨xs, k, _, _, _, hxl, hff⟩ := DataW.trod_struct Try.underlying46 h
  have c3 : Try.prog.cellsOf 3 = 1 := by kernel_rfl
  have c9 : Try.prog.cellsOf 9 = 1 := by kernel_rfl
  match cs, hc, xs, hxl with
  | [v0, v1, v2], _, [y0, y1, y2], _ =>
    have g0 := hff 0 _ rfl
    have g1 := hff 1 _ rfl
    have g2 := hff 2 _ rfl
    simp [c3, c9] at g0 g1 g2
    obtain ⟨s0, hs0, _, hl0⟩ := DataW.trod_string Try.underlying9 g0
    obtain ⟨s1, hs1, _, hl1⟩ := DataW.trod_string Try.underlying9 g1
    obtain ⟨n2, hn2, _, hw2⟩ := DataW.trod_int Try.underlying3 g2
    simp at hs0 hs1 hn2
    subst hs0 hs1 hn2
    exact ⟨⟨s0, s1, n2⟩, rfl, hl0, hl1, in64_of hw2⟩
set_option maxRecDepth 100000 in
theorem open_wait {H : Type} {en : TypeId × Value → H} {W : World} (cs : List Value) (fuel : Nat) (d : DataW H) (p : List MemPlace) (hc : cs.length = 2)
    (h : DataW.trod en Try.prog W 0 (fun _ => true) true fuel 48 cs = some (d, p)) : ∃ x : WaitD, cs = encT9 x ∧ (x.name.size ≤ maxLen ∧ In64 x.ticket) := by
  obtain ⟨xs, k, _, _, _, hxl, hff⟩ := DataW.trod_struct Try.underlying48 h
  have c3 : Try.prog.cellsOf 3 = 1 := by kernel_rfl
  have c9 : Try.prog.cellsOf 9 = 1 := by kernel_rfl
  match cs, hc, xs, hxl with
  | [v0, v1], _, [y0, y1], _ =>
    have g0 := hff 0 _ rfl
    have g1 := hff 1 _ rfl
    simp [c3, c9] at g0 g1
    obtain ⟨s0, hs0, _, hl0⟩ := DataW.trod_string Try.underlying9 g0
    obtain ⟨n1, hn1, _, hw1⟩ := DataW.trod_int Try.underlying3 g1
    simp at hs0 hn1
    subst hs0 hn1
    exact ⟨⟨s0, n1⟩, rfl, hl0, in64_of hw1⟩
theorem open_defs {H : Type} {en : TypeId × Value → H} {W : World} {a : Option Addr} {len cap : Nat} {d : DataW H} {p : List MemPlace}
    (h : DataW.Trod en Try.prog W 0 (fun _ => true) true 22 (.slice a len cap) d p) : ∃ L, DefRow W a len cap L := by
  obtain ⟨L, h1, h2, h3⟩ := open_rows encD 3 (fun x => x.name.size ≤ maxLen ∧ x.loc.size ≤ maxLen ∧ In64 x.cls) Try.underlying22 (te := 46) (by kernel_rfl) (by decide) open_def h
  exact ⟨L, h1, h2, h3⟩
theorem open_waits {H : Type} {en : TypeId × Value → H} {W : World} {a : Option Addr} {len cap : Nat} {d : DataW H} {p : List MemPlace}
    (h : DataW.Trod en Try.prog W 0 (fun _ => true) true 23 (.slice a len cap) d p) : ∃ L, WaitRow W a len cap L := by
  obtain ⟨L, h1, h2, h3⟩ := open_rows encT9 2 (fun x => x.name.size ≤ maxLen ∧ In64 x.ticket) Try.underlying23 (te := 48) (by kernel_rfl) (by decide) open_wait h
  exact ⟨L, h1, h2, h3⟩
set_option maxRecDepth 100000 in
/-- A desk, by value. -/
theorem open_desk {H : Type} {en : TypeId × Value → H} {W : World} {r : Reach} {b0 : Nat} {v : Value} {d : DataW H} {p : List MemPlace} (hv : Value.okWide Try.prog W r b0 25 v)
    (h : DataW.Trod en Try.prog W 0 (fun _ => true) true 25 v d p) : ∃ da dl dc wa wl wc nx bz defs waits, v = deskV da dl dc wa wl wc nx bz ∧ DeskAt W da dl dc wa wl wc ⟨defs, waits, nx, bz⟩ := by
  obtain ⟨cs, rfl, hsz⟩ := okWide_struct Try.underlying25 hv
  have hC : Try.prog.cellsOf 25 = 4 := by kernel_rfl
  have c3 : Try.prog.cellsOf 3 = 1 := by kernel_rfl
  have cb : Try.prog.cellsOf 4 = 1 := by kernel_rfl
  have cd : Try.prog.cellsOf 22 = 1 := by kernel_rfl
  have cw : Try.prog.cellsOf 23 = 1 := by kernel_rfl
  obtain ⟨l⟩ := cs
  match l, hsz.trans hC with
  | [v0, v1, v2, v3], _ =>
    obtain ⟨fuel, hf⟩ := h
    obtain ⟨xs, k, _, _, _, hxl, hff⟩ := DataW.trod_struct Try.underlying25 hf
    match xs, hxl with
    | [y0, y1, y2, y3], _ =>
      have g0 := hff 0 _ rfl
      have g1 := hff 1 _ rfl
      have g2 := hff 2 _ rfl
      have g3 := hff 3 _ rfl
      simp [c3, cb, cd, cw, Value.cells] at g0 g1 g2 g3
      obtain ⟨n2, hn2, _, hw2⟩ := DataW.trod_int Try.underlying3 g2
      obtain ⟨b3, hb3, _⟩ := DataW.trod_bool Try.underlying4 g3
      simp at hn2 hb3
      subst hn2 hb3
      obtain ⟨a0, l0, c0, rfl⟩ := slice_cells Try.underlying22 g0
      obtain ⟨a1, l1, c1, rfl⟩ := slice_cells Try.underlying23 g1
      obtain ⟨L, hL⟩ := open_defs (en := en) (W := W) (a := a0) (len := l0) (cap := c0) (d := y0.1) (p := y0.2) ⟨k, by simpa [Value.cells] using g0⟩
      obtain ⟨M, hM⟩ := open_waits (en := en) (W := W) (a := a1) (len := l1) (cap := c1) (d := y1.1) (p := y1.2) ⟨k, by simpa [Value.cells] using g1⟩
      exact ⟨a0, l0, c0, a1, l1, c1, n2, b3, L, M, rfl, hL, hM, in64_of hw2⟩
end Go.Proofs.Ytioeagadhnnajaa
