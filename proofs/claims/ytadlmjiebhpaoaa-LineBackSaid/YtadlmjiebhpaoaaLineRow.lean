/- Lines as data (what is still to be done to whom), and what lies behind them in memory. -/
import Derived.Test.YtadlmjiebhpaoaaForestRow
import Derived.Test.YtadlmjiebhpaoaaChecked
import Derived.WalkLawsBesides
import Derived.Lib.Hide
namespace Go.Proofs.Ytadlmjiebhpaoaa
open Go.RowKit
/-- Something that is still to be done. -/
structure TodoD where
  kind : Int
  dfn : Int
  name : ByteArray
  had : Bool
  has : Bool
  old : ByteArray
  new : ByteArray
  frm : Int
  to : Int
  on : Bool
deriving DecidableEq
def encTd (x : TodoD) : List Value := [.int .i64 x.kind, .int .i64 x.dfn, .string x.name, .bool x.had, .bool x.has, .string x.old, .string x.new, .int .i64 x.frm, .int .i64 x.to, .bool x.on]
theorem encTd_len (x : TodoD) : (encTd x).length = 10 := rfl
theorem encTd_one (x : TodoD) : ∀ u ∈ encTd x, u.oneCell' = true := by
  intro u hu
  simp [encTd] at hu
  rcases hu with rfl | rfl | rfl | rfl | rfl | rfl | rfl | rfl | rfl | rfl <;> rfl
structure okTd (x : TodoD) : Prop where
  kind : In64 x.kind
  dfn : In64 x.dfn
  name : x.name.size ≤ maxLen
  old : x.old.size ≤ maxLen
  new : x.new.size ≤ maxLen
  frm : In64 x.frm
  to : In64 x.to
/-- The value of a todo. -/
abbrev todoV (k d : Int) (nm : ByteArray) (hd hs : Bool) (od nw : ByteArray) (fr to : Int) (on : Bool) : Value := .agg #[.int .i64 k, .int .i64 d, .string nm, .bool hd, .bool hs, .string od, .string nw, .int .i64 fr, .int .i64 to, .bool on]
abbrev todoB (k d : Int) (nm : ByteArray) (hd hs : Bool) (od nw : ByteArray) (fr to : Int) (on : Bool) : Obj := .cells #[.int .i64 k, .int .i64 d, .string nm, .bool hd, .bool hs, .string od, .string nw, .int .i64 fr, .int .i64 to, .bool on] 28
abbrev TodoD.val (x : TodoD) : Value := todoV x.kind x.dfn x.name x.had x.has x.old x.new x.frm x.to x.on
abbrev TodoD.obj (x : TodoD) : Obj := todoB x.kind x.dfn x.name x.had x.has x.old x.new x.frm x.to x.on
def TodoD.zero : TodoD := ⟨0, 0, ⟨#[]⟩, false, false, ⟨#[]⟩, ⟨#[]⟩, 0, 0, false⟩
/-- What lies behind a slice: data, each as it may be; nil has no room. -/
structure LRow {α : Type} (enc : α → List Value) (size : Nat) (ok : α → Prop) (w : World) (a : Option Addr) (len cap : Nat) (L : List α) : Prop where
  row : SRow enc size w a len cap L
  ok : ∀ x ∈ L, ok x
  hnil : a = none → cap = 0
section
variable {α : Type} {enc : α → List Value} {size : Nat} {ok : α → Prop} {w w' : World} {a : Option Addr} {len cap : Nat} {L : List α}
theorem LRow.hlen (h : LRow enc size ok w a len cap L) : L.length = len := h.row.hlen
theorem LRow.len64 (h : LRow enc size ok w a len cap L) : len ≤ 9223372036854775807 := h.row.len64
theorem LRow.below (h : LRow enc size ok w a len cap L) (hb : Below w.heap.size w w') : LRow enc size ok w' a len cap L := ⟨h.row.below hb, h.ok, h.hnil⟩
theorem LRow.drewN (h : LRow enc size ok w a len cap L) (n : Nat) : LRow enc size ok (w.drewN n) a len cap L := ⟨h.row.drewN n, h.ok, h.hnil⟩
theorem LRow.drew (h : LRow enc size ok w a len cap L) : LRow enc size ok w.drew a len cap L := ⟨h.row.drew, h.ok, h.hnil⟩
theorem LRow.nil : LRow enc size ok w none 0 0 ([] : List α) := ⟨SRow.nil, fun x hx => (by cases hx), fun _ => rfl⟩
end
theorem LRow.int {w : World} {a : Option Addr} {len cap : Nat} {L : List Int} (h : LRow encZ 1 In64 w a len cap L) : IntRow w a len cap L := ⟨h.row, h.ok, h.hnil⟩
theorem IntRow.lrow {w : World} {a : Option Addr} {len cap : Nat} {L : List Int} (h : IntRow w a len cap L) : LRow encZ 1 In64 w a len cap L := ⟨h.row, h.inb, h.hnil⟩
abbrev TodoRow := LRow encTd 10 okTd
/-- One todo's ten cells. -/
structure TodoAt (w : World) (b o : Nat) (x : TodoD) : Prop where
  c0 : w.cell? ⟨b, o, none⟩ = some (.int .i64 x.kind)
  c1 : w.cell? ⟨b, o + 1, none⟩ = some (.int .i64 x.dfn)
  c2 : w.cell? ⟨b, o + 2, none⟩ = some (.string x.name)
  c3 : w.cell? ⟨b, o + 3, none⟩ = some (.bool x.had)
  c4 : w.cell? ⟨b, o + 4, none⟩ = some (.bool x.has)
  c5 : w.cell? ⟨b, o + 5, none⟩ = some (.string x.old)
  c6 : w.cell? ⟨b, o + 6, none⟩ = some (.string x.new)
  c7 : w.cell? ⟨b, o + 7, none⟩ = some (.int .i64 x.frm)
  c8 : w.cell? ⟨b, o + 8, none⟩ = some (.int .i64 x.to)
  c9 : w.cell? ⟨b, o + 9, none⟩ = some (.bool x.on)
theorem TodoAt.keep {w w' : World} {b o : Nat} {x : TodoD} (h : TodoAt w b o x) (hlt : b < w.heap.size) (hb : Below w.heap.size w w') : TodoAt w' b o x := by
  have e : ∀ o', w'.cell? ⟨b, o', none⟩ = w.cell? ⟨b, o', none⟩ := fun o' => hb.cell (p := ⟨b, o', none⟩) hlt
  exact ⟨(e _).trans h.c0, (e _).trans h.c1, (e _).trans h.c2, (e _).trans h.c3, (e _).trans h.c4, (e _).trans h.c5, (e _).trans h.c6, (e _).trans h.c7, (e _).trans h.c8, (e _).trans h.c9⟩
theorem LRow.todo {w : World} {a : Option Addr} {len cap : Nat} {L : List TodoD} (h : LRow encTd 10 okTd w a len cap L) {k : Nat} (hk : k < len) : ∃ b off x, a = some ⟨b, off, none⟩ ∧ b < w.heap.size ∧ L[k]? = some x ∧ TodoAt w b (off + k * 10) x ∧ okTd x := by
  obtain ⟨b, off, x, ha, hlt, hg, _, hc⟩ := h.row.get hk
  have h0 := hc 0 _ rfl
  rw [Nat.add_zero] at h0
  exact ⟨b, off, x, ha, hlt, hg, ⟨h0, hc 1 _ rfl, hc 2 _ rfl, hc 3 _ rfl, hc 4 _ rfl, hc 5 _ rfl, hc 6 _ rfl, hc 7 _ rfl, hc 8 _ rfl, hc 9 _ rfl⟩, h.ok _ (List.mem_of_getElem? hg)⟩
/-- A slice's header, and the list behind it. -/
structure Hd (α : Type) where
  a : Option Addr
  n : Nat
  c : Nat
  l : List α
def encH {α : Type} (x : Hd α) : List Value := [.slice x.a x.n x.c]
theorem encH_len {α : Type} (x : Hd α) : (encH x).length = 1 := rfl
theorem encH_one {α : Type} (x : Hd α) : ∀ u ∈ encH x, u.oneCell' = true := by
  intro u hu
  simp [encH] at hu
  rw [hu]
  rfl
def datL {α : Type} (T : List (Hd α)) : List (List α) := T.map (·.l)
/-- A slice of slices. -/
structure HRow {α : Type} (enc : α → List Value) (size : Nat) (ok : α → Prop) (w : World) (a : Option Addr) (len cap : Nat) (T : List (Hd α)) : Prop where
  row : SRow encH 1 w a len cap T
  each : ∀ x ∈ T, LRow enc size ok w x.a x.n x.c x.l
  hnil : a = none → cap = 0
section
variable {α : Type} {enc : α → List Value} {size : Nat} {ok : α → Prop} {w w' : World} {a : Option Addr} {len cap : Nat} {T : List (Hd α)}
theorem HRow.hlen (h : HRow enc size ok w a len cap T) : T.length = len := h.row.hlen
theorem HRow.dlen (h : HRow enc size ok w a len cap T) : (datL T).length = len := by unfold datL; rw [List.length_map]; exact h.hlen
theorem HRow.len64 (h : HRow enc size ok w a len cap T) : len ≤ 9223372036854775807 := h.row.len64
theorem HRow.below (h : HRow enc size ok w a len cap T) (hb : Below w.heap.size w w') : HRow enc size ok w' a len cap T := ⟨h.row.below hb, fun x hx => (h.each x hx).below hb, h.hnil⟩
theorem HRow.drewN (h : HRow enc size ok w a len cap T) (n : Nat) : HRow enc size ok (w.drewN n) a len cap T := ⟨h.row.drewN n, fun x hx => (h.each x hx).drewN n, h.hnil⟩
theorem HRow.drew (h : HRow enc size ok w a len cap T) : HRow enc size ok w.drew a len cap T := ⟨h.row.drew, fun x hx => (h.each x hx).drew, h.hnil⟩
theorem HRow.nil : HRow enc size ok w none 0 0 ([] : List (Hd α)) := ⟨SRow.nil, fun x hx => (by cases hx), fun _ => rfl⟩
theorem HRow.get (h : HRow enc size ok w a len cap T) {k : Nat} (hk : k < len) : ∃ b off x, a = some ⟨b, off, none⟩ ∧ b < w.heap.size ∧ T[k]? = some x ∧ w.cell? ⟨b, off + k, none⟩ = some (.slice x.a x.n x.c) ∧ LRow enc size ok w x.a x.n x.c x.l := by
  obtain ⟨b, off, x, ha, hlt, hg, _, hc⟩ := h.row.get hk
  have h0 := hc 0 _ rfl
  rw [Nat.mul_one, Nat.add_zero] at h0
  exact ⟨b, off, x, ha, hlt, hg, h0, h.each _ (List.mem_of_getElem? hg)⟩
theorem datL_get {k : Nat} {x : Hd α} (h : T[k]? = some x) : (datL T)[k]? = some x.l := by unfold datL; rw [List.getElem?_map, h]; rfl
end
abbrev TdsRow := HRow encTd 10 okTd
abbrev IssRow := HRow encZ 1 In64
/-- A line, as data. -/
structure LnD where
  td : List (List TodoD)
  st : List (List Int)
  bk : List Int
  bz : Bool
/-- A line by value: the three slices' headers, and what lies behind them. -/
structure LnV where
  ta : Option Addr
  tl : Nat
  tc : Nat
  sa : Option Addr
  sl : Nat
  sc : Nat
  ba : Option Addr
  bl : Nat
  bc : Nat
  bz : Bool
  T : List (Hd TodoD)
  S : List (Hd Int)
  B : List Int
abbrev lineV (ta : Option Addr) (tl tc : Nat) (sa : Option Addr) (sl sc : Nat) (ba : Option Addr) (bl bc : Nat) (bz : Bool) : Value := .agg #[.slice ta tl tc, .slice sa sl sc, .slice ba bl bc, .bool bz]
abbrev lineB (ta : Option Addr) (tl tc : Nat) (sa : Option Addr) (sl sc : Nat) (ba : Option Addr) (bl bc : Nat) (bz : Bool) : Obj := .cells #[.slice ta tl tc, .slice sa sl sc, .slice ba bl bc, .bool bz] 26
abbrev LnV.obj (v : LnV) : Obj := lineB v.ta v.tl v.tc v.sa v.sl v.sc v.ba v.bl v.bc v.bz
abbrev LnV.val (v : LnV) : Value := lineV v.ta v.tl v.tc v.sa v.sl v.sc v.ba v.bl v.bc v.bz
def LnV.dat (v : LnV) : LnD := ⟨datL v.T, datL v.S, v.B, v.bz⟩
/-- A line, in memory. -/
structure LineAt (w : World) (v : LnV) : Prop where
  t : TdsRow w v.ta v.tl v.tc v.T
  s : IssRow w v.sa v.sl v.sc v.S
  b : IntRow w v.ba v.bl v.bc v.B
theorem LineAt.below {w w' : World} {v : LnV} (h : LineAt w v) (hb : Below w.heap.size w w') : LineAt w' v := ⟨h.t.below hb, h.s.below hb, h.b.below hb⟩
theorem LineAt.drewN {w : World} {v : LnV} (h : LineAt w v) (n : Nat) : LineAt (w.drewN n) v := ⟨h.t.drewN n, h.s.drewN n, h.b.drewN n⟩
/-- All of a line lies at lo or above. -/
structure LineNew (lo : Nat) (v : LnV) : Prop where
  t : ∀ b o, v.ta = some ⟨b, o, none⟩ → lo ≤ b
  s : ∀ b o, v.sa = some ⟨b, o, none⟩ → lo ≤ b
  b : ∀ b o, v.ba = some ⟨b, o, none⟩ → lo ≤ b
  te : ∀ x ∈ v.T, ∀ b o, x.a = some ⟨b, o, none⟩ → lo ≤ b
  se : ∀ x ∈ v.S, ∀ b o, x.a = some ⟨b, o, none⟩ → lo ≤ b
/-- Few enough. -/
structure SmallL (D : LnD) : Prop where
  td : D.td.length ≤ 1000
  te : ∀ l ∈ D.td, l.length ≤ 1000
  st : D.st.length ≤ 1000
  se : ∀ l ∈ D.st, l.length ≤ 1000
  bk : D.bk.length ≤ 1000
/-- Is a number a node's? -/
def inB (m : Nat) (n : Int) : Bool := decide (0 ≤ n) && decide (n < (m : Int))
def right11 (D : LnD) : Bool := D.st.all (fun l => l.all (inB D.td.length)) && D.bk.all (inB D.td.length)
def emptyB {α : Type} (l : List α) : Bool := decide (l.length = 0)
/-- Is nothing to be done, and was nobody told? -/
def idle11 (D : LnD) : Bool := emptyB D.st && emptyB D.bk && !D.bz && D.td.all emptyB
def grow11 (D : LnD) : LnD := { D with td := D.td ++ [[]] }
def open11 (D : LnD) : LnD := { D with st := D.st ++ [[]] }
def getL {α : Type} (l : List (List α)) (k : Nat) : List α := l[k]?.getD []
/-- Something more is to be done to n. -/
def add11 (D : LnD) (n : Nat) (t : TodoD) : LnD × Bool :=
  if D.st.length = 0 then (⟨D.td.set n (getL D.td n ++ [t]), D.st, D.bk ++ [(n : Int)], true⟩, !D.bz)
  else (⟨D.td.set n (getL D.td n ++ [t]), D.st.set (D.st.length - 1) (getL D.st (D.st.length - 1) ++ [(n : Int)]), D.bk, D.bz⟩, false)
def shut11 (D : LnD) : LnD × List Int := ({ D with st := D.st.take (D.st.length - 1) }, getL D.st (D.st.length - 1))
def drop11 (D : LnD) (n : Nat) : LnD := { D with td := D.td.set n [] }
def tail11 (D : LnD) (n : Nat) : LnD := { D with td := D.td.set n ((getL D.td n).drop 1) }
def rest11 (D : LnD) : LnD := { D with bk := D.bk.drop 1 }
def calm11 (D : LnD) : LnD := { D with bz := false }
theorem right11_st {D : LnD} (h : right11 D = true) : D.st.all (fun l => l.all (inB D.td.length)) = true := by
  unfold right11 at h
  simp only [Bool.and_eq_true] at h
  exact h.1
theorem inB_iff {m : Nat} {n : Int} : inB m n = true ↔ 0 ≤ n ∧ n < (m : Int) := by
  unfold inB
  simp only [Bool.and_eq_true, decide_eq_true_eq]
end Go.Proofs.Ytadlmjiebhpaoaa
