/- Texts joined in build order: WatchRow WatchClone. -/
import Derived.Test.YtkfmengdffpcnaaGreatDoorA04
import Derived.Test.YtkfmengdffpcnaaGreatDoorA17
import Derived.Test.YtkfmengdffpcnaaGreatDoorA33
import Derived.Test.YtkfmengdffpcnaaGreatDoorA03
import Derived.Test.YtkfmengdffpcnaaGreatDoorA08
import Derived.Test.YtkfmengdffpcnaaGreatDoorA01
import Derived.Lib.SliceRun
namespace Go.Proofs.YtkfmengdffpcnaaGreatDoor
open Go.RowKit
structure OpD where
  kind : Int
  a : Int
  b : Int
  c : Int
  s : ByteArray
  t : ByteArray
  must : Bool
deriving DecidableEq
def encOpD (x : OpD) : List Value := [.int .i64 x.kind, .int .i64 x.a, .int .i64 x.b, .int .i64 x.c, .string x.s, .string x.t, .bool x.must]
theorem encOpD_len (x : OpD) : (encOpD x).length = 7 := rfl
theorem encOpD_one (x : OpD) : ∀ u ∈ encOpD x, u.oneCell' = true := by
  intro u hu
  simp [encOpD] at hu
  rcases hu with rfl | rfl | rfl | rfl | rfl | rfl | rfl <;> rfl
structure okOpD (x : OpD) : Prop where
  kind : In64 x.kind
  a : In64 x.a
  b : In64 x.b
  c : In64 x.c
  s : x.s.size ≤ maxLen
  t : x.t.size ≤ maxLen
abbrev OpRow := LRow encOpD 7 okOpD
def encStD (x : ByteArray) : List Value := [.string x]
theorem encStD_len (x : ByteArray) : (encStD x).length = 1 := rfl
theorem encStD_one (x : ByteArray) : ∀ u ∈ encStD x, u.oneCell' = true := by
  intro u hu
  simp [encStD] at hu
  rw [hu]
  rfl
def okStD (x : ByteArray) : Prop := x.size ≤ maxLen
abbrev StrRow := LRow encStD 1 okStD
theorem LRow.str {w : World} {a : Option Addr} {len cap : Nat} {L : List ByteArray} (h : LRow encStD 1 okStD w a len cap L) {k : Nat} (hk : k < len) : ∃ b off x, a = some ⟨b, off, none⟩ ∧ b < w.heap.size ∧ L[k]? = some x ∧ w.cell? ⟨b, off + k, none⟩ = some (.string x) ∧ x.size ≤ maxLen := by
  obtain ⟨b, off, x, ha, hlt, hg, _, hc⟩ := h.row.get hk
  have h0 := hc 0 _ rfl
  rw [Nat.mul_one, Nat.add_zero] at h0
  exact ⟨b, off, x, ha, hlt, hg, h0, h.ok _ (List.mem_of_getElem? hg)⟩
structure HookD where
  kind : Int
  a : Option Addr
  n : Nat
  c : Nat
  ops : List OpD
def encHkD (x : HookD) : List Value := [.int .i64 x.kind, .slice x.a x.n x.c]
theorem encHkD_len (x : HookD) : (encHkD x).length = 2 := rfl
theorem encHkD_one (x : HookD) : ∀ u ∈ encHkD x, u.oneCell' = true := by
  intro u hu
  simp [encHkD] at hu
  rcases hu with rfl | rfl <;> rfl
structure HookRow (w : World) (a : Option Addr) (len cap : Nat) (L : List HookD) : Prop where
  row : SRow encHkD 2 w a len cap L
  each : ∀ x ∈ L, In64 x.kind ∧ OpRow w x.a x.n x.c x.ops
  hnil : a = none → cap = 0
section
variable {w w' : World} {a : Option Addr} {len cap : Nat} {L : List HookD}
theorem HookRow.hlen (h : HookRow w a len cap L) : L.length = len := h.row.hlen
theorem HookRow.len64 (h : HookRow w a len cap L) : len ≤ 9223372036854775807 := h.row.len64
theorem HookRow.below (h : HookRow w a len cap L) (hb : Below w.heap.size w w') : HookRow w' a len cap L := ⟨h.row.below hb, fun x hx => ⟨(h.each x hx).1, (h.each x hx).2.below hb⟩, h.hnil⟩
theorem HookRow.nil : HookRow w none 0 0 [] := ⟨SRow.nil, fun x hx => (by cases hx), fun _ => rfl⟩
theorem HookRow.get (h : HookRow w a len cap L) {k : Nat} (hk : k < len) : ∃ b off x, a = some ⟨b, off, none⟩ ∧ b < w.heap.size ∧ L[k]? = some x ∧ w.cell? ⟨b, off + k * 2, none⟩ = some (.int .i64 x.kind) ∧ w.cell? ⟨b, off + k * 2 + 1, none⟩ = some (.slice x.a x.n x.c) ∧ In64 x.kind ∧ OpRow w x.a x.n x.c x.ops := by
  obtain ⟨b, off, x, ha, hlt, hg, _, hc⟩ := h.row.get hk
  have hm := h.each _ (List.mem_of_getElem? hg)
  exact ⟨b, off, x, ha, hlt, hg, hc 0 _ rfl, hc 1 _ rfl, hm.1, hm.2⟩
end
structure ClassC where
  form : Bool
  watch : List ByteArray
  peek : List OpD
  make : List OpD
  hooks : List (Int × List OpD)
deriving DecidableEq
structure ClassD where
  form : Bool
  wa : Option Addr
  wn : Nat
  wk : Nat
  watch : List ByteArray
  pa : Option Addr
  pn : Nat
  pk : Nat
  peek : List OpD
  ma : Option Addr
  mn : Nat
  mc : Nat
  make : List OpD
  ha : Option Addr
  hn : Nat
  hk : Nat
  hooks : List HookD
abbrev classVal (form : Bool) (wa : Option Addr) (wn wk : Nat) (pa : Option Addr) (pn pk : Nat) (ma : Option Addr) (mn mc : Nat) (ha : Option Addr) (hn hk : Nat) : Value := .agg #[.bool form, .slice wa wn wk, .slice pa pn pk, .slice ma mn mc, .slice ha hn hk]
abbrev ClassD.val (x : ClassD) : Value := classVal x.form x.wa x.wn x.wk x.pa x.pn x.pk x.ma x.mn x.mc x.ha x.hn x.hk
def encClD (x : ClassD) : List Value := [.bool x.form, .slice x.wa x.wn x.wk, .slice x.pa x.pn x.pk, .slice x.ma x.mn x.mc, .slice x.ha x.hn x.hk]
def coreH (l : List HookD) : List (Int × List OpD) := l.map (fun h => (h.kind, h.ops))
def ClassD.core (x : ClassD) : ClassC := ⟨x.form, x.watch, x.peek, x.make, coreH x.hooks⟩
structure ClassAt (w : World) (x : ClassD) : Prop where
  t : StrRow w x.wa x.wn x.wk x.watch
  p : OpRow w x.pa x.pn x.pk x.peek
  m : OpRow w x.ma x.mn x.mc x.make
  h : HookRow w x.ha x.hn x.hk x.hooks
theorem ClassAt.below {w w' : World} {x : ClassD} (h : ClassAt w x) (hb : Below w.heap.size w w') : ClassAt w' x := ⟨h.t.below hb, h.p.below hb, h.m.below hb, h.h.below hb⟩
def clsNone : ClassD := ⟨false, none, 0, 0, [], none, 0, 0, [], none, 0, 0, [], none, 0, 0, []⟩
theorem clsNone_at (w : World) : ClassAt w clsNone := ⟨LRow.nil, LRow.nil, LRow.nil, HookRow.nil⟩
structure ClsRow (w : World) (a : Option Addr) (len cap : Nat) (L : List ClassD) : Prop where
  row : SRow encClD 5 w a len cap L
  each : ∀ x ∈ L, ClassAt w x
  hnil : a = none → cap = 0
structure ClassCells (w : World) (b o : Nat) (x : ClassD) : Prop where
  c0 : w.cell? ⟨b, o, none⟩ = some (.bool x.form)
  c1 : w.cell? ⟨b, o + 1, none⟩ = some (.slice x.wa x.wn x.wk)
  c2 : w.cell? ⟨b, o + 2, none⟩ = some (.slice x.pa x.pn x.pk)
  c3 : w.cell? ⟨b, o + 3, none⟩ = some (.slice x.ma x.mn x.mc)
  c4 : w.cell? ⟨b, o + 4, none⟩ = some (.slice x.ha x.hn x.hk)
theorem ClassCells.keep {w w' : World} {b o : Nat} {x : ClassD} (h : ClassCells w b o x) (hlt : b < w.heap.size) (hb : Below w.heap.size w w') : ClassCells w' b o x := by
  have e : ∀ o', w'.cell? ⟨b, o', none⟩ = w.cell? ⟨b, o', none⟩ := fun o' => hb.cell (p := ⟨b, o', none⟩) hlt
  exact ⟨(e _).trans h.c0, (e _).trans h.c1, (e _).trans h.c2, (e _).trans h.c3, (e _).trans h.c4⟩
section
variable {w w' : World} {a : Option Addr} {len cap : Nat} {L : List ClassD}
theorem ClsRow.hlen (h : ClsRow w a len cap L) : L.length = len := h.row.hlen
theorem ClsRow.len64 (h : ClsRow w a len cap L) : len ≤ 9223372036854775807 := h.row.len64
theorem ClsRow.below (h : ClsRow w a len cap L) (hb : Below w.heap.size w w') : ClsRow w' a len cap L := ⟨h.row.below hb, fun x hx => (h.each x hx).below hb, h.hnil⟩
theorem ClsRow.nil : ClsRow w none 0 0 [] := ⟨SRow.nil, fun x hx => (by cases hx), fun _ => rfl⟩
theorem ClsRow.get (h : ClsRow w a len cap L) {k : Nat} (hk : k < len) : ∃ b off x, a = some ⟨b, off, none⟩ ∧ b < w.heap.size ∧ L[k]? = some x ∧ ClassCells w b (off + k * 5) x ∧ ClassAt w x := by
  obtain ⟨b, off, x, ha, hlt, hg, _, hc⟩ := h.row.get hk
  exact ⟨b, off, x, ha, hlt, hg, ⟨hc 0 _ rfl, hc 1 _ rfl, hc 2 _ rfl, hc 3 _ rfl, hc 4 _ rfl⟩, h.each _ (List.mem_of_getElem? hg)⟩
end
def coreCl (L : List ClassD) : List ClassC := L.map ClassD.core
theorem coreCl_get {L : List ClassD} {k : Nat} {x : ClassD} (h : L[k]? = some x) : (coreCl L)[k]? = some x.core := by unfold coreCl; rw [List.getElem?_map, h]; rfl
theorem coreCl_len (L : List ClassD) : (coreCl L).length = L.length := List.length_map _
structure StateD where
  phase : Int
  dfn : Int
  owner : Int
  barred : Bool
deriving DecidableEq
def encSta (x : StateD) : List Value := [.int .i64 x.phase, .int .i64 x.dfn, .int .i64 x.owner, .bool x.barred]
abbrev stateV (x : StateD) : Value := .agg #[.int .i64 x.phase, .int .i64 x.dfn, .int .i64 x.owner, .bool x.barred]
structure okSta (x : StateD) : Prop where
  phase : In64 x.phase
  dfn : In64 x.dfn
  owner : In64 x.owner
abbrev StaRow := LRow encSta 4 okSta
structure StateAt (w : World) (b o : Nat) (x : StateD) : Prop where
  c0 : w.cell? ⟨b, o, none⟩ = some (.int .i64 x.phase)
  c1 : w.cell? ⟨b, o + 1, none⟩ = some (.int .i64 x.dfn)
  c2 : w.cell? ⟨b, o + 2, none⟩ = some (.int .i64 x.owner)
  c3 : w.cell? ⟨b, o + 3, none⟩ = some (.bool x.barred)
theorem StateAt.keep {w w' : World} {b o : Nat} {x : StateD} (h : StateAt w b o x) (hlt : b < w.heap.size) (hb : Below w.heap.size w w') : StateAt w' b o x := by
  have e : ∀ o', w'.cell? ⟨b, o', none⟩ = w.cell? ⟨b, o', none⟩ := fun o' => hb.cell (p := ⟨b, o', none⟩) hlt
  exact ⟨(e _).trans h.c0, (e _).trans h.c1, (e _).trans h.c2, (e _).trans h.c3⟩
theorem LRow.sta {w : World} {a : Option Addr} {len cap : Nat} {L : List StateD} (h : LRow encSta 4 okSta w a len cap L) {k : Nat} (hk : k < len) : ∃ b off x, a = some ⟨b, off, none⟩ ∧ b < w.heap.size ∧ L[k]? = some x ∧ StateAt w b (off + k * 4) x ∧ okSta x := by
  obtain ⟨b, off, x, ha, hlt, hg, _, hc⟩ := h.row.get hk
  exact ⟨b, off, x, ha, hlt, hg, ⟨hc 0 _ rfl, hc 1 _ rfl, hc 2 _ rfl, hc 3 _ rfl⟩, h.ok _ (List.mem_of_getElem? hg)⟩
structure NoteAt (w : World) (b o : Nat) (x : NoteD) : Prop where
  c0 : w.cell? ⟨b, o, none⟩ = some (.int .i64 x.kind)
  c1 : w.cell? ⟨b, o + 1, none⟩ = some (.int .i64 x.node)
  c2 : w.cell? ⟨b, o + 2, none⟩ = some (.int .i64 x.src)
  c3 : w.cell? ⟨b, o + 3, none⟩ = some (.int .i64 x.dst)
  c4 : w.cell? ⟨b, o + 4, none⟩ = some (.string x.name)
  c5 : w.cell? ⟨b, o + 5, none⟩ = some (.bool x.had)
  c6 : w.cell? ⟨b, o + 6, none⟩ = some (.bool x.has)
  c7 : w.cell? ⟨b, o + 7, none⟩ = some (.string x.old)
  c8 : w.cell? ⟨b, o + 8, none⟩ = some (.string x.new)
theorem NoteAt.keep {w w' : World} {b o : Nat} {x : NoteD} (h : NoteAt w b o x) (hlt : b < w.heap.size) (hb : Below w.heap.size w w') : NoteAt w' b o x := by
  have e : ∀ o', w'.cell? ⟨b, o', none⟩ = w.cell? ⟨b, o', none⟩ := fun o' => hb.cell (p := ⟨b, o', none⟩) hlt
  exact ⟨(e _).trans h.c0, (e _).trans h.c1, (e _).trans h.c2, (e _).trans h.c3, (e _).trans h.c4, (e _).trans h.c5, (e _).trans h.c6, (e _).trans h.c7, (e _).trans h.c8⟩
theorem NoteRow.getN {w : World} {a : Option Addr} {len cap : Nat} {L : List NoteD} (h : NoteRow w a len cap L) {k : Nat} (hk : k < len) : ∃ b off x, a = some ⟨b, off, none⟩ ∧ b < w.heap.size ∧ L[k]? = some x ∧ NoteAt w b (off + k * 9) x ∧ NoteOk x := by
  obtain ⟨b, off, x, ha, hlt, hg, _, hc⟩ := h.row.get hk
  exact ⟨b, off, x, ha, hlt, hg, ⟨hc 0 _ rfl, hc 1 _ rfl, hc 2 _ rfl, hc 3 _ rfl, hc 4 _ rfl, hc 5 _ rfl, hc 6 _ rfl, hc 7 _ rfl, hc 8 _ rfl⟩, h.ok _ (List.mem_of_getElem? hg)⟩
structure SmallCl (x : ClassC) : Prop where
  w : x.watch.length ≤ 1000
  p : x.peek.length ≤ 1000
  m : x.make.length ≤ 1000
  h : x.hooks.length ≤ 1000
  d : ∀ y ∈ x.hooks, y.2.length ≤ 1000
def hearsC (c : ClassC) (kind : Int) : Bool := c.hooks.any (fun h => h.1 == kind)
def progC (c : ClassC) (kind : Int) : List OpD := ((c.hooks.find? (fun h => h.1 == kind)).map (·.2)).getD []
def watchesC (c : ClassC) (s : ByteArray) : Bool := c.watch.any (fun x => x.toList == s.toList) && hearsC c 4
def toldC (c : ClassC) (kind : Int) (s : ByteArray) : Bool :=
  if kind = 4 then watchesC c s else if kind = 1 ∨ kind = 2 ∨ kind = 3 then hearsC c kind else false
def classAtZ (s : StateD) (D : List DefD) (n : Nat) : Option Nat :=
  if 0 ≤ s.dfn ∧ s.dfn < (D.length : Int) then
    match D[s.dfn.toNat]? with
    | none => none
    | some d => if 0 ≤ d.cls ∧ d.cls < (n : Int) then some d.cls.toNat else none
  else none
def classZ (s : StateD) (D : List DefD) (L : List ClassC) : Option ClassC := (classAtZ s D L.length).bind (fun k => L[k]?)
def callT (x : NoteD) : TodoD := ⟨x.kind, 0, x.name, x.had, x.has, x.old, x.new, x.src, x.dst, false⟩
end Go.Proofs.YtkfmengdffpcnaaGreatDoor
namespace Go.Proofs.YtkfmengdffpcnaaGreatDoor
open Go.RowKit
theorem op_info : (Tryz.prog.info? 66).map (fun i => (i.zero, i.size, i.bytes)) = some (some (.agg #[.int .i64 0, .int .i64 0, .int .i64 0, .int .i64 0, .string ⟨#[]⟩, .string ⟨#[]⟩, .bool false]), 7, 72) := by kernel_rfl
theorem hook_info : (Tryz.prog.info? 68).map (fun i => (i.zero, i.size, i.bytes)) = some (some (.agg #[.int .i64 0, .slice none 0 0]), 2, 32) := by kernel_rfl
theorem str_info : (Tryz.prog.info? 9).map (fun i => (i.zero, i.size, i.bytes)) = some (some (.string ⟨#[]⟩), 1, 16) := by kernel_rfl
set_option maxHeartbeats 4000000 in
theorem cloneOp_any (a : Option Addr) (len cap : Nat) (L : List OpD) (w : World) (h : LRow encOpD 7 okOpD w a len cap L) (h40 : len ≤ 1000000) :
    Calls Tryz.prog 39 #[.slice a len cap] w (OwnP (α := OpD) encOpD 7 66 w L) := by
  obtain ⟨i0, hi0, hz0, hz1, hz2⟩ := info_parts11 op_info
  have HL := Lib.hid h.hlen
  have q22 : ∀ (w : World) (a : Option Addr) (n c n' c' : Nat), (binOp .eql 48 (.slice a n c) (.slice none n' c')).run Tryz.prog w = .ok (.bool a.isNone) w := fun w a n c n' c' => Lib.run_eql_slice_nil w _ _ a n c n' c' Tryz.underlying48
  rcases a with _ | ad
  · have hc : cap = 0 := h.hnil rfl
    have h0 : len = 0 := by have := h.row.hcap; omega
    have hLn : L = [] := List.eq_nil_of_length_eq_zero (by rw [h.hlen, h0])
    subst hc; subst h0; subst hLn
    clear h
    go_enter Tryz.func39, Tryz.ntmps39
    go_wp2
    go_ret
    exact own_p (World.ownsRow_nil _ _ _ _) (Below.refl _ _)
  · have H := Lib.hid h
    have HE := Lib.hid (own_empty (α := OpD) (enc := encOpD) (size := 7) w w.heap.size 66 (Nat.le_refl _))
    clear h
    go_enter Tryz.func39, Tryz.ntmps39
    go_wp2_with (first
      | (at_builtin
         refine wpList_append_rows rfl (.tmp 5) (.tmp 6) 48 rfl 66 i0 _ 7 72 Tryz.underlying48 hi0 hz0 hz1 hz2 rfl (by decide) w.heap.size _ 0 _ L rfl HE.out (some ad) len cap rfl (H.out.below ((Below.refl _ _).alloc (Nat.le_refl _) _)).row (fun x _ => encOpD_one x) (by unfold maxLen; omega) (by omega) (by simp) (fun h => by cases h) ?_
         intro v2 w2 hown2 hg2 hat2
         have HB2 := below_new (Below.refl _ _) hg2
         have HO2 := Lib.hid hown2
         clear hown2 hg2 hat2))
    go_ret
    refine own_p ?_ HB2
    have := HO2.out
    rw [HL.out]
    simpa using this
set_option maxHeartbeats 4000000 in
theorem cloneHk_any (a : Option Addr) (len cap : Nat) (L : List HookD) (w : World) (h : LRow encHkD 2 (fun _ => True) w a len cap L) (h40 : len ≤ 1000000) :
    Calls Tryz.prog 60 #[.slice a len cap] w (OwnP (α := HookD) encHkD 2 68 w L) := by
  obtain ⟨i0, hi0, hz0, hz1, hz2⟩ := info_parts11 hook_info
  have HL := Lib.hid h.hlen
  have q22 : ∀ (w : World) (a : Option Addr) (n c n' c' : Nat), (binOp .eql 49 (.slice a n c) (.slice none n' c')).run Tryz.prog w = .ok (.bool a.isNone) w := fun w a n c n' c' => Lib.run_eql_slice_nil w _ _ a n c n' c' Tryz.underlying49
  rcases a with _ | ad
  · have hc : cap = 0 := h.hnil rfl
    have h0 : len = 0 := by have := h.row.hcap; omega
    have hLn : L = [] := List.eq_nil_of_length_eq_zero (by rw [h.hlen, h0])
    subst hc; subst h0; subst hLn
    clear h
    go_enter Tryz.func60, Tryz.ntmps60
    go_wp2
    go_ret
    exact own_p (World.ownsRow_nil _ _ _ _) (Below.refl _ _)
  · have H := Lib.hid h
    have HE := Lib.hid (own_empty (α := HookD) (enc := encHkD) (size := 2) w w.heap.size 68 (Nat.le_refl _))
    clear h
    go_enter Tryz.func60, Tryz.ntmps60
    go_wp2_with (first
      | (at_builtin
         refine wpList_append_rows rfl (.tmp 5) (.tmp 6) 49 rfl 68 i0 _ 2 32 Tryz.underlying49 hi0 hz0 hz1 hz2 rfl (by decide) w.heap.size _ 0 _ L rfl HE.out (some ad) len cap rfl (H.out.below ((Below.refl _ _).alloc (Nat.le_refl _) _)).row (fun x _ => encHkD_one x) (by unfold maxLen; omega) (by omega) (by simp) (fun h => by cases h) ?_
         intro v2 w2 hown2 hg2 hat2
         have HB2 := below_new (Below.refl _ _) hg2
         have HO2 := Lib.hid hown2
         clear hown2 hg2 hat2))
    go_ret
    refine own_p ?_ HB2
    have := HO2.out
    rw [HL.out]
    simpa using this
set_option maxHeartbeats 4000000 in
theorem cloneStr_any (a : Option Addr) (len cap : Nat) (L : List ByteArray) (w : World) (h : LRow encStD 1 okStD w a len cap L) (h40 : len ≤ 1000000) :
    Calls Tryz.prog 61 #[.slice a len cap] w (OwnP (α := ByteArray) encStD 1 9 w L) := by
  obtain ⟨i0, hi0, hz0, hz1, hz2⟩ := info_parts11 str_info
  have HL := Lib.hid h.hlen
  have q22 : ∀ (w : World) (a : Option Addr) (n c n' c' : Nat), (binOp .eql 47 (.slice a n c) (.slice none n' c')).run Tryz.prog w = .ok (.bool a.isNone) w := fun w a n c n' c' => Lib.run_eql_slice_nil w _ _ a n c n' c' Tryz.underlying47
  rcases a with _ | ad
  · have hc : cap = 0 := h.hnil rfl
    have h0 : len = 0 := by have := h.row.hcap; omega
    have hLn : L = [] := List.eq_nil_of_length_eq_zero (by rw [h.hlen, h0])
    subst hc; subst h0; subst hLn
    clear h
    go_enter Tryz.func61, Tryz.ntmps61
    go_wp2
    go_ret
    exact own_p (World.ownsRow_nil _ _ _ _) (Below.refl _ _)
  · have H := Lib.hid h
    have HE := Lib.hid (own_empty (α := ByteArray) (enc := encStD) (size := 1) w w.heap.size 9 (Nat.le_refl _))
    clear h
    go_enter Tryz.func61, Tryz.ntmps61
    go_wp2_with (first
      | (at_builtin
         refine wpList_append_rows rfl (.tmp 5) (.tmp 6) 47 rfl 9 i0 _ 1 16 Tryz.underlying47 hi0 hz0 hz1 hz2 rfl (by decide) w.heap.size _ 0 _ L rfl HE.out (some ad) len cap rfl (H.out.below ((Below.refl _ _).alloc (Nat.le_refl _) _)).row (fun x _ => encStD_one x) (by unfold maxLen; omega) (by omega) (by simp) (fun h => by cases h) ?_
         intro v2 w2 hown2 hg2 hat2
         have HB2 := below_new (Below.refl _ _) hg2
         have HO2 := Lib.hid hown2
         clear hown2 hg2 hat2))
    go_ret
    refine own_p ?_ HB2
    have := HO2.out
    rw [HL.out]
    simpa using this
end Go.Proofs.YtkfmengdffpcnaaGreatDoor
