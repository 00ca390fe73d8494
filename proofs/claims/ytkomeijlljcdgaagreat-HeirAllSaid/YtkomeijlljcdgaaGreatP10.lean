/- Texts joined in build order: DeskPure DeskMath DeskMath2 Ref9Named. -/
import Derived.Test.YtkomeijlljcdgaaGreatP03
import Derived.Test.YtkomeijlljcdgaaGreatP01
import Derived.Test.YtkomeijlljcdgaaGreatP04
import Derived.Test.YtkomeijlljcdgaaGreatChecked
import Derived.WalkLawsBesides
import Derived.WalkSmall
import Derived.Lib.Hide
import Derived.Deep.QuietTactic
import Derived.BigQuiet
/- Desks as data: what package desk computes, said over lists of definitions and of who waits. No program. -/
namespace Go.Proofs.YtkomeijlljcdgaaGreat
open Go.RowKit
/-- The first place of what is so; the length: there is none. -/
def firstN {α : Type} (p : α → Bool) (L : List α) : Nat := L.findIdx p
def firstZ {α : Type} (p : α → Bool) (L : List α) : Int := if firstN p L < L.length then (firstN p L : Int) else -1
section
variable {α : Type} {p : α → Bool} {L : List α} {k : Nat} {x : α}
theorem first_le (p : α → Bool) (L : List α) : firstN p L ≤ L.length := List.findIdx_le_length
theorem first_step (h : k ≤ firstN p L) (hk : L[k]? = some x) (hx : p x = false) : k + 1 ≤ firstN p L := by
  obtain ⟨hl, hg⟩ := List.getElem?_eq_some_iff.1 hk
  by_cases e : k = firstN p L
  · have h1 : firstN p L < L.length := by omega
    have h2 : p (L[firstN p L]'h1) = true := List.findIdx_getElem (w := h1)
    have h3 : (L[firstN p L]'h1) = x := by
      rw [← hg]; congr 1; exact e.symm
    rw [h3, hx] at h2
    cases h2
  · omega
theorem first_here (h : k ≤ firstN p L) (hk : L[k]? = some x) (hx : p x = true) : firstN p L = k := by
  obtain ⟨hl, hg⟩ := List.getElem?_eq_some_iff.1 hk
  by_cases e : k < firstN p L
  · have := List.not_of_lt_findIdx e
    rw [hg, hx] at this
    cases this
  · omega
theorem firstZ_here (h : k ≤ firstN p L) (hk : L[k]? = some x) (hx : p x = true) : firstZ p L = (k : Int) := by
  have := first_here h hk hx
  obtain ⟨hl, hg⟩ := List.getElem?_eq_some_iff.1 hk
  unfold firstZ
  rw [this, if_pos hl]
theorem firstZ_none (h : k ≤ firstN p L) (hk : L.length ≤ k) : firstZ p L = -1 := by
  unfold firstZ
  rw [if_neg (by omega)]
theorem firstZ_cases (p : α → Bool) (L : List α) : (firstZ p L = -1 ∧ ∀ x ∈ L, p x = false) ∨ ∃ (k : Nat) (x : α), firstZ p L = (k : Int) ∧ L[k]? = some x ∧ p x = true ∧ ∀ (j : Nat) (y : α), j < k → L[j]? = some y → p y = false := by
  by_cases h : firstN p L < L.length
  · refine .inr ⟨firstN p L, L[firstN p L]'h, ?_, List.getElem?_eq_getElem h, List.findIdx_getElem (w := h), fun j y hj hy => ?_⟩
    · unfold firstZ; rw [if_pos h]
    · obtain ⟨hl, hg⟩ := List.getElem?_eq_some_iff.1 hy
      have := List.not_of_lt_findIdx hj
      rw [hg] at this
      simpa using this
  · refine .inl ⟨?_, fun x hx => ?_⟩
    · unfold firstZ; rw [if_neg h]
    · cases hp : p x with
      | false => rfl
      | true => exact absurd (List.findIdx_lt_length_of_exists ⟨x, hx, hp⟩) h
theorem firstZ_is (hk : L[k]? = some x) (hx : p x = true) (hb : ∀ j y, j < k → L[j]? = some y → p y = false) : firstZ p L = (k : Int) := by
  rcases firstZ_cases p L with ⟨_, h2⟩ | ⟨j, y, h1, h2, h3, h4⟩
  · rw [h2 x (List.mem_of_getElem? hk)] at hx; cases hx
  · rcases Nat.lt_trichotomy j k with h | h | h
    · rw [hb j y h h2] at h3; cases h3
    · rw [h1, h]
    · rw [h4 k x h hk] at hx; cases hx
theorem firstZ_no (h : ∀ x ∈ L, p x = false) : firstZ p L = -1 := by
  rcases firstZ_cases p L with ⟨h1, _⟩ | ⟨j, y, _, h2, h3, _⟩
  · exact h1
  · rw [h y (List.mem_of_getElem? h2)] at h3; cases h3
theorem firstZ_lt (p : α → Bool) (L : List α) : -1 ≤ firstZ p L ∧ firstZ p L < (L.length : Int) := by
  unfold firstZ
  split
  · omega
  · omega
theorem firstZ_ge (h : 0 ≤ firstZ p L) : ∃ (k : Nat) (x : α), firstZ p L = (k : Int) ∧ L[k]? = some x ∧ p x = true := by
  rcases firstZ_cases p L with ⟨h1, _⟩ | ⟨j, y, h1, h2, h3, _⟩
  · rw [h1] at h; omega
  · exact ⟨j, y, h1, h2, h3⟩
end
/-- A definition. -/
structure DefD where
  name : ByteArray
  loc : ByteArray
  cls : Int
/-- Somebody who waits. -/
structure WaitD where
  name : ByteArray
  ticket : Int
theorem DefD.ext_iff' {x y : DefD} : x = y ↔ x.name = y.name ∧ x.loc = y.loc ∧ x.cls = y.cls := by
  cases x; cases y; simp
def encD (x : DefD) : List Value := [.string x.name, .string x.loc, .int .i64 x.cls]
def encT9 (x : WaitD) : List Value := [.string x.name, .int .i64 x.ticket]
theorem encD_len (x : DefD) : (encD x).length = 3 := rfl
theorem encT_len (x : WaitD) : (encT9 x).length = 2 := rfl
theorem encD_one (x : DefD) : ∀ u ∈ encD x, u.oneCell' = true := by
  intro u hu
  simp [encD] at hu
  rcases hu with rfl | rfl | rfl <;> rfl
theorem encT_one (x : WaitD) : ∀ u ∈ encT9 x, u.oneCell' = true := by
  intro u hu
  simp [encT9] at hu
  rcases hu with rfl | rfl <;> rfl
structure DefRow (w : World) (a : Option Addr) (len cap : Nat) (L : List DefD) : Prop where
  row : SRow encD 3 w a len cap L
  ok : ∀ x ∈ L, x.name.size ≤ maxLen ∧ x.loc.size ≤ maxLen ∧ In64 x.cls
  hnil : a = none → cap = 0
structure WaitRow (w : World) (a : Option Addr) (len cap : Nat) (L : List WaitD) : Prop where
  row : SRow encT9 2 w a len cap L
  ok : ∀ x ∈ L, x.name.size ≤ maxLen ∧ In64 x.ticket
  hnil : a = none → cap = 0
section
variable {w w' : World} {a : Option Addr} {len cap : Nat}
theorem DefRow.hlen {L : List DefD} (h : DefRow w a len cap L) : L.length = len := h.row.hlen
theorem DefRow.len64 {L : List DefD} (h : DefRow w a len cap L) : len ≤ 9223372036854775807 := h.row.len64
theorem DefRow.below {L : List DefD} (h : DefRow w a len cap L) (hb : Below w.heap.size w w') : DefRow w' a len cap L := ⟨h.row.below hb, h.ok, h.hnil⟩
theorem DefRow.drewN {L : List DefD} (h : DefRow w a len cap L) (n : Nat) : DefRow (w.drewN n) a len cap L := ⟨h.row.drewN n, h.ok, h.hnil⟩
theorem DefRow.nil (w : World) : DefRow w none 0 0 [] := ⟨SRow.nil, (fun x hx => by cases hx), fun _ => rfl⟩
theorem DefRow.get {L : List DefD} (h : DefRow w a len cap L) {k : Nat} (hk : k < len) :
    ∃ b off x, a = some ⟨b, off, none⟩ ∧ b < w.heap.size ∧ L[k]? = some x ∧ w.cell? ⟨b, off + k * 3, none⟩ = some (.string x.name) ∧ w.cell? ⟨b, off + k * 3 + 1, none⟩ = some (.string x.loc) ∧ w.cell? ⟨b, off + k * 3 + 2, none⟩ = some (.int .i64 x.cls) ∧ (x.name.size ≤ maxLen ∧ x.loc.size ≤ maxLen ∧ In64 x.cls) := by
  obtain ⟨b, off, x, ha, hlt, hg, _, hc⟩ := h.row.get hk
  exact ⟨b, off, x, ha, hlt, hg, hc 0 _ rfl, hc 1 _ rfl, hc 2 _ rfl, h.ok _ (List.mem_of_getElem? hg)⟩
theorem WaitRow.hlen {L : List WaitD} (h : WaitRow w a len cap L) : L.length = len := h.row.hlen
theorem WaitRow.len64 {L : List WaitD} (h : WaitRow w a len cap L) : len ≤ 9223372036854775807 := h.row.len64
theorem WaitRow.below {L : List WaitD} (h : WaitRow w a len cap L) (hb : Below w.heap.size w w') : WaitRow w' a len cap L := ⟨h.row.below hb, h.ok, h.hnil⟩
theorem WaitRow.drewN {L : List WaitD} (h : WaitRow w a len cap L) (n : Nat) : WaitRow (w.drewN n) a len cap L := ⟨h.row.drewN n, h.ok, h.hnil⟩
theorem WaitRow.nil (w : World) : WaitRow w none 0 0 [] := ⟨SRow.nil, (fun x hx => by cases hx), fun _ => rfl⟩
theorem WaitRow.get {L : List WaitD} (h : WaitRow w a len cap L) {k : Nat} (hk : k < len) :
    ∃ b off x, a = some ⟨b, off, none⟩ ∧ b < w.heap.size ∧ L[k]? = some x ∧ w.cell? ⟨b, off + k * 2, none⟩ = some (.string x.name) ∧ w.cell? ⟨b, off + k * 2 + 1, none⟩ = some (.int .i64 x.ticket) ∧ (x.name.size ≤ maxLen ∧ In64 x.ticket) := by
  obtain ⟨b, off, x, ha, hlt, hg, _, hc⟩ := h.row.get hk
  exact ⟨b, off, x, ha, hlt, hg, hc 0 _ rfl, hc 1 _ rfl, h.ok _ (List.mem_of_getElem? hg)⟩
end
/-- A desk's value. -/
abbrev deskV (da : Option Addr) (dl dc : Nat) (wa : Option Addr) (wl wc : Nat) (nx : Int) (bz : Bool) : Value := .agg #[.slice da dl dc, .slice wa wl wc, .int .i64 nx, .bool bz]
/-- A desk as data. -/
structure DeskD where
  defs : List DefD
  waits : List WaitD
  next : Int
  busy : Bool
structure DeskAt (w : World) (da : Option Addr) (dl dc : Nat) (wa : Option Addr) (wl wc : Nat) (D : DeskD) : Prop where
  d : DefRow w da dl dc D.defs
  t : WaitRow w wa wl wc D.waits
  n : In64 D.next
section
variable {w w' : World} {da wa : Option Addr} {dl dc wl wc : Nat} {D : DeskD}
theorem DeskAt.below (h : DeskAt w da dl dc wa wl wc D) (hb : Below w.heap.size w w') : DeskAt w' da dl dc wa wl wc D := ⟨h.d.below hb, h.t.below hb, h.n⟩
theorem DeskAt.drewN (h : DeskAt w da dl dc wa wl wc D) (n : Nat) : DeskAt (w.drewN n) da dl dc wa wl wc D := ⟨h.d.drewN n, h.t.drewN n, h.n⟩
end
def isName (s : List UInt8) (x : DefD) : Bool := x.name.toList == s
def isCls (c : Int) (x : DefD) : Bool := x.cls == c
def namedZ (L : List DefD) (s : List UInt8) : Int := firstZ (isName s) L
def classedZ (L : List DefD) (c : Int) : Int := firstZ (isCls c) L
/-- May a definition stand at a place of the list? -/
def okD (L : List DefD) (i : Nat) (x : DefD) : Bool := customL x.name.toList && (x.loc.toList == x.name.toList || knownL x.loc.toList) && decide (0 ≤ x.cls) && decide (x.cls ≤ 11) && (namedZ L x.name.toList == (i : Int)) && (classedZ L x.cls == (i : Int))
def okT (L : List DefD) (last next : Int) (x : WaitD) : Bool := customL x.name.toList && (namedZ L x.name.toList == -1) && decide (last < x.ticket) && decide (x.ticket < next)
def defsOk (L : List DefD) : Nat → List DefD → Bool
  | _, [] => true
  | i, x :: r => okD L i x && defsOk L (i + 1) r
def waitsOk (L : List DefD) (next : Int) : Int → List WaitD → Bool
  | _, [] => true
  | last, x :: r => okT L last next x && waitsOk L next x.ticket r
def rightK (D : DeskD) : Bool := decide (0 ≤ D.next) && decide (D.next ≤ 100000) && defsOk D.defs 0 D.defs && waitsOk D.defs D.next (-1) D.waits
/-- The ticket ahead of a place. -/
def lastT (L : List WaitD) (k : Nat) : Int := match k with | 0 => -1 | k + 1 => (L[k]?.map (·.ticket)).getD (-1)
theorem defsOk_drop {L : List DefD} : ∀ {M : List DefD} {i : Nat}, defsOk L i M = true ↔ ∀ k x, M[k]? = some x → okD L (i + k) x = true
  | [], i => by simp [defsOk]
  | y :: r, i => by
    unfold defsOk
    rw [Bool.and_eq_true, defsOk_drop]
    constructor
    · rintro ⟨h1, h2⟩ k x hx
      cases k with
      | zero => simp at hx; subst hx; simpa using h1
      | succ k => have := h2 k x (by simpa using hx); rwa [show i + 1 + k = i + (k + 1) by omega] at this
    · intro h
      refine ⟨by simpa using h 0 y rfl, fun k x hx => ?_⟩
      have := h (k + 1) x (by simpa using hx)
      rwa [show i + 1 + k = i + (k + 1) by omega]
theorem defsOk_iff {L : List DefD} : defsOk L 0 L = true ↔ ∀ k x, L[k]? = some x → okD L k x = true := by
  rw [defsOk_drop]
  constructor
  · intro h k x hx; simpa using h k x hx
  · intro h k x hx; simpa using h k x hx
theorem waitsOk_iff {L : List DefD} {next : Int} : ∀ {M : List WaitD} {last : Int}, waitsOk L next last M = true ↔ ∀ k x, M[k]? = some x → okT L (match k with | 0 => last | k + 1 => lastT M (k + 1)) next x = true
  | [], last => by simp [waitsOk]
  | y :: r, last => by
    unfold waitsOk
    rw [Bool.and_eq_true, waitsOk_iff]
    constructor
    · rintro ⟨h1, h2⟩ k x hx
      cases k with
      | zero => simp at hx; subst hx; exact h1
      | succ k =>
        have := h2 k x (by simpa using hx)
        cases k with
        | zero => simpa [lastT] using this
        | succ k => simpa [lastT] using this
    · intro h
      refine ⟨h 0 y rfl, fun k x hx => ?_⟩
      have := h (k + 1) x (by simpa using hx)
      cases k with
      | zero => simpa [lastT] using this
      | succ k => simpa [lastT] using this
theorem waitsOk_all {L : List DefD} {next : Int} {M : List WaitD} : waitsOk L next (-1) M = true ↔ ∀ k x, M[k]? = some x → okT L (lastT M k) next x = true := by
  rw [waitsOk_iff]
  constructor
  · intro h k x hx
    have := h k x hx
    cases k <;> exact this
  · intro h k x hx
    have := h k x hx
    cases k <;> exact this
theorem okD_iff {L : List DefD} {i : Nat} {x : DefD} : okD L i x = true ↔ customL x.name.toList = true ∧ (x.loc.toList = x.name.toList ∨ knownL x.loc.toList = true) ∧ 0 ≤ x.cls ∧ x.cls ≤ 11 ∧ namedZ L x.name.toList = (i : Int) ∧ classedZ L x.cls = (i : Int) := by
  unfold okD
  simp only [Bool.and_eq_true, Bool.or_eq_true, beq_iff_eq, decide_eq_true_eq]
  constructor
  · rintro ⟨⟨⟨⟨⟨h1, h2⟩, h3⟩, h4⟩, h5⟩, h6⟩; exact ⟨h1, h2, h3, h4, h5, h6⟩
  · rintro ⟨h1, h2, h3, h4, h5, h6⟩; exact ⟨⟨⟨⟨⟨h1, h2⟩, h3⟩, h4⟩, h5⟩, h6⟩
theorem okT_iff {L : List DefD} {last next : Int} {x : WaitD} : okT L last next x = true ↔ customL x.name.toList = true ∧ namedZ L x.name.toList = -1 ∧ last < x.ticket ∧ x.ticket < next := by
  unfold okT
  simp only [Bool.and_eq_true, beq_iff_eq, decide_eq_true_eq]
  constructor
  · rintro ⟨⟨⟨h1, h2⟩, h3⟩, h4⟩; exact ⟨h1, h2, h3, h4⟩
  · rintro ⟨h1, h2, h3, h4⟩; exact ⟨⟨⟨h1, h2⟩, h3⟩, h4⟩
/-- A desk that is right, in parts. -/
structure RightK (D : DeskD) : Prop where
  n0 : 0 ≤ D.next
  n1 : D.next ≤ 100000
  d : ∀ (k : Nat) (x : DefD), D.defs[k]? = some x → customL x.name.toList = true ∧ (x.loc.toList = x.name.toList ∨ knownL x.loc.toList = true) ∧ 0 ≤ x.cls ∧ x.cls ≤ 11 ∧ namedZ D.defs x.name.toList = (k : Int) ∧ classedZ D.defs x.cls = (k : Int)
  t : ∀ (k : Nat) (x : WaitD), D.waits[k]? = some x → customL x.name.toList = true ∧ namedZ D.defs x.name.toList = -1 ∧ lastT D.waits k < x.ticket ∧ x.ticket < D.next
theorem rightK_iff {D : DeskD} : rightK D = true ↔ RightK D := by
  unfold rightK
  simp only [Bool.and_eq_true, decide_eq_true_eq, defsOk_iff, waitsOk_all, okD_iff, okT_iff]
  constructor
  · rintro ⟨⟨⟨h1, h2⟩, h3⟩, h4⟩; exact ⟨h1, h2, h3, h4⟩
  · rintro ⟨h1, h2, h3, h4⟩; exact ⟨⟨⟨h1, h2⟩, h3⟩, h4⟩
/-- For an element: its own name's definition, else that of its Is. -/
def isOwn (l : List UInt8) (x : DefD) : Bool := x.loc.toList == l && x.name.toList == l
def isIs (l s : List UInt8) (x : DefD) : Bool := x.loc.toList == l && x.name.toList == s
def findZ2 (L : List DefD) (l s : List UInt8) : Int := if 0 ≤ firstZ (isOwn l) L then firstZ (isOwn l) L else firstZ (isIs l s) L
def mayE (D : DeskD) (classes : Int) (s base : List UInt8) (c : Int) : Int :=
  if rightK D = false ∨ c < 0 ∨ classes ≤ c ∨ 11 < c then 1
  else if customL s = false then 4
  else if 0 ≤ namedZ D.defs s ∨ 0 ≤ classedZ D.defs c then 10
  else if base ≠ [] ∧ knownL base = false then 6
  else if D.busy = true then 7 else 0
def newDef (s base : ByteArray) (c : Int) : DefD := ⟨s, if base.toList = [] then s else base, c⟩
def toldZ (L : List WaitD) (s : List UInt8) : List Int := (L.filter (fun x => x.name.toList == s)).map (·.ticket)
def restT (L : List WaitD) (s : List UInt8) : List WaitD := L.filter (fun x => !(x.name.toList == s))
/-- What comes of defining, where it may be. -/
def addK (D : DeskD) (s base : ByteArray) (c : Int) : DeskD := ⟨D.defs ++ [newDef s base c], restT D.waits s.toList, D.next, false⟩
def addR9 (D : DeskD) (classes : Int) (s base : ByteArray) (c : Int) : DeskD × Int × List Int × Int :=
  if mayE D classes s.toList base.toList c = 0 then (addK D s base c, (D.defs.length : Int), toldZ D.waits s.toList, 0) else (D, -1, [], mayE D classes s.toList base.toList c)
def awaitE (D : DeskD) (s : List UInt8) : Int := if rightK D = false then 1 else if customL s = false then 4 else if 100000 ≤ D.next then 3 else 0
def awaitK (D : DeskD) (s : ByteArray) : DeskD := ⟨D.defs, if namedZ D.defs s.toList < 0 then D.waits ++ [⟨s, D.next⟩] else D.waits, D.next + 1, D.busy⟩
def awaitR (D : DeskD) (s : ByteArray) : DeskD × Int × Int × Int :=
  if awaitE D s.toList = 0 then (awaitK D s, D.next, namedZ D.defs s.toList, 0) else (D, -1, -1, awaitE D s.toList)
end Go.Proofs.YtkomeijlljcdgaaGreat
/- Desks that are right: whose definition is whose, and what comes of defining. No program. -/
namespace Go.Proofs.YtkomeijlljcdgaaGreat
open Go.RowKit
theorem firstZ_append {α : Type} {p : α → Bool} {L : List α} {x : α} : firstZ p (L ++ [x]) = if 0 ≤ firstZ p L then firstZ p L else if p x = true then (L.length : Int) else -1 := by
  rcases firstZ_cases p L with ⟨h1, h2⟩ | ⟨k, y, h1, h2, h3, h4⟩
  · rw [h1, if_neg (by decide)]
    cases hp : p x with
    | false =>
      rw [if_neg (by decide)]
      refine firstZ_no fun y hy => ?_
      rcases List.mem_append.1 hy with h | h
      · exact h2 y h
      · rw [List.mem_singleton.1 h, hp]
    | true =>
      rw [if_pos rfl]
      refine firstZ_is (x := x) (by simp) hp fun j y hj hy => ?_
      rw [List.getElem?_append_left hj] at hy
      exact h2 y (List.mem_of_getElem? hy)
  · obtain ⟨hl, _⟩ := List.getElem?_eq_some_iff.1 h2
    rw [h1, if_pos (by omega)]
    refine firstZ_is (x := y) (by rw [List.getElem?_append_left hl]; exact h2) h3 fun j z hj hz => ?_
    rw [List.getElem?_append_left (by omega)] at hz
    exact h4 j z hj hz
def fits (x : DefD) (l s : List UInt8) : Bool := x.loc.toList == l && (x.name.toList == l || x.name.toList == s)
theorem fits_iff {x : DefD} {l s : List UInt8} : fits x l s = true ↔ x.loc.toList = l ∧ (x.name.toList = l ∨ x.name.toList = s) := by
  unfold fits; simp
section
variable {D : DeskD} {l s : List UInt8} {i j : Nat} {x y : DefD}
theorem RightK.name_one (h : RightK D) (hx : D.defs[i]? = some x) (hy : D.defs[j]? = some y) (e : x.name.toList = y.name.toList) : i = j := by
  have h1 := (h.d i x hx).2.2.2.2.1
  have h2 := (h.d j y hy).2.2.2.2.1
  rw [e, h2] at h1
  omega
theorem RightK.cls_one (h : RightK D) (hx : D.defs[i]? = some x) (hy : D.defs[j]? = some y) (e : x.cls = y.cls) : i = j := by
  have h1 := (h.d i x hx).2.2.2.2.2
  have h2 := (h.d j y hy).2.2.2.2.2
  rw [e, h2] at h1
  omega
theorem isOwn_iff : isOwn l x = true ↔ x.loc.toList = l ∧ x.name.toList = l := by unfold isOwn; simp
theorem isIs_iff : isIs l s x = true ↔ x.loc.toList = l ∧ x.name.toList = s := by unfold isIs; simp
/-- Who is found is for the element, and who is for it is found. -/
theorem RightK.find_iff (h : RightK D) (hx : D.defs[i]? = some x) : findZ2 D.defs l s = (i : Int) ↔ fits x l s = true := by
  rw [fits_iff]
  unfold findZ2
  constructor
  · intro e
    split at e
    · rename_i h0
      obtain ⟨k, y, h1, h2, h3⟩ := firstZ_ge h0
      rw [h1] at e
      obtain rfl : k = i := by omega
      rw [hx] at h2
      injection h2 with h2
      subst h2
      obtain ⟨h4, h5⟩ := isOwn_iff.1 h3
      exact ⟨h4, .inl h5⟩
    · obtain ⟨k, y, h1, h2, h3⟩ := firstZ_ge (p := isIs l s) (L := D.defs) (by rw [e]; omega)
      rw [h1] at e
      obtain rfl : k = i := by omega
      rw [hx] at h2
      injection h2 with h2
      subst h2
      obtain ⟨h4, h5⟩ := isIs_iff.1 h3
      exact ⟨h4, .inr h5⟩
  · rintro ⟨h1, h2⟩
    by_cases h3 : x.name.toList = l
    · have h4 : firstZ (isOwn l) D.defs = (i : Int) := firstZ_is hx (isOwn_iff.2 ⟨h1, h3⟩) fun j y hj hy => by
        cases hp : isOwn l y with
        | false => rfl
        | true =>
          have := h.name_one hy hx (by rw [(isOwn_iff.1 hp).2, h3])
          omega
      rw [h4, if_pos (by omega)]
    · have h2' : x.name.toList = s := h2.resolve_left h3
      have hk : knownL l = true := by
        have := (h.d i x hx).2.1
        rw [h1] at this
        exact this.resolve_left (fun e => h3 e.symm)
      have h4 : firstZ (isOwn l) D.defs = -1 := firstZ_no fun y hy => by
        cases hp : isOwn l y with
        | false => rfl
        | true =>
          obtain ⟨k, hk2⟩ := List.getElem?_of_mem hy
          have h5 := (h.d k y hk2).1
          rw [(isOwn_iff.1 hp).2] at h5
          rw [custom_known h5] at hk
          cases hk
      rw [h4, if_neg (by decide)]
      exact firstZ_is hx (isIs_iff.2 ⟨h1, h2'⟩) fun j y hj hy => by
        cases hp : isIs l s y with
        | false => rfl
        | true =>
          have := h.name_one hy hx (by rw [(isIs_iff.1 hp).2, h2'])
          omega
theorem find_lt (L : List DefD) (l s : List UInt8) : -1 ≤ findZ2 L l s ∧ findZ2 L l s < (L.length : Int) := by
  unfold findZ2
  split
  · exact firstZ_lt _ _
  · exact firstZ_lt _ _
theorem RightK.find_eq (h : RightK D) (hx : D.defs[i]? = some x) : (findZ2 D.defs l s == (i : Int)) = fits x l s := by
  cases hf : fits x l s with
  | true => rw [(h.find_iff hx).2 hf]; simp
  | false =>
    refine beq_eq_false_iff_ne.2 fun e => ?_
    rw [(h.find_iff hx).1 e] at hf
    cases hf
theorem RightK.find_self (h : RightK D) (hx : D.defs[i]? = some x) : findZ2 D.defs x.loc.toList x.name.toList = (i : Int) := (h.find_iff hx).2 (fits_iff.2 ⟨rfl, .inr rfl⟩)
/-- An element named as the definition is: it is found only if that is its Local, too. -/
theorem RightK.find_name (h : RightK D) (hx : D.defs[i]? = some x) : (findZ2 D.defs x.name.toList s == (i : Int)) = (x.loc.toList == x.name.toList) := by
  rw [h.find_eq hx]
  unfold fits
  simp
/-- Nobody is found just if nobody is for it. -/
theorem RightK.find_none (h : RightK D) : findZ2 D.defs l s = -1 ↔ ∀ x ∈ D.defs, fits x l s = false := by
  constructor
  · intro e x hx
    obtain ⟨k, hk⟩ := List.getElem?_of_mem hx
    cases hf : fits x l s with
    | false => rfl
    | true => rw [(h.find_iff hk).2 hf] at e; omega
  · intro hn
    have h1 := find_lt D.defs l s
    by_cases h0 : findZ2 D.defs l s = -1
    · exact h0
    · obtain ⟨k, hk⟩ : ∃ k : Nat, findZ2 D.defs l s = k := ⟨(findZ2 D.defs l s).toNat, by omega⟩
      have hl : k < D.defs.length := by omega
      have := (h.find_iff (List.getElem?_eq_getElem hl)).1 hk
      rw [hn _ (List.getElem_mem hl)] at this
      cases this
end
/-- Tickets rise. -/
theorem asc_iff : ∀ {M : List WaitD} {last : Int}, (∀ (k : Nat) x, M[k]? = some x → (match k with | 0 => last | k + 1 => lastT M (k + 1)) < x.ticket) ↔ (∀ x ∈ M, last < x.ticket) ∧ M.Pairwise (fun x y => x.ticket < y.ticket)
  | [], last => by simp
  | y :: r, last => by
    have ih := @asc_iff r y.ticket
    rw [List.pairwise_cons]
    constructor
    · intro h
      have h0 := h 0 y rfl
      obtain ⟨h1, h2⟩ := ih.1 (fun k x hx => by
        have := h (k + 1) x (by simpa using hx)
        cases k with
        | zero => simpa [lastT] using this
        | succ k => simpa [lastT] using this)
      refine ⟨fun x hx => ?_, h1, h2⟩
      rcases List.mem_cons.1 hx with rfl | hx
      · exact h0
      · have := h1 x hx
        simp at h0
        omega
    · rintro ⟨h0, h1, h2⟩ k x hx
      cases k with
      | zero => simp at hx; subst hx; exact h0 _ (by simp)
      | succ k =>
        have := ih.2 ⟨h1, h2⟩ k x (by simpa using hx)
        cases k with
        | zero => simpa [lastT] using this
        | succ k => simpa [lastT] using this
theorem asc_all {M : List WaitD} : (∀ (k : Nat) x, M[k]? = some x → lastT M k < x.ticket) ↔ (∀ x ∈ M, -1 < x.ticket) ∧ M.Pairwise (fun x y => x.ticket < y.ticket) := by
  rw [← asc_iff]
  constructor
  · intro h k x hx
    have := h k x hx
    cases k <;> exact this
  · intro h k x hx
    have := h k x hx
    cases k <;> exact this
theorem RightK.asc {D : DeskD} (h : RightK D) : (∀ x ∈ D.waits, -1 < x.ticket) ∧ D.waits.Pairwise (fun x y => x.ticket < y.ticket) := asc_all.1 fun k x hx => (h.t k x hx).2.2.1
theorem RightK.wait {D : DeskD} (h : RightK D) {x : WaitD} (hx : x ∈ D.waits) : customL x.name.toList = true ∧ namedZ D.defs x.name.toList = -1 ∧ -1 < x.ticket ∧ x.ticket < D.next := by
  obtain ⟨k, hk⟩ := List.getElem?_of_mem hx
  have h1 := h.t k x hk
  exact ⟨h1.1, h1.2.1, h.asc.1 x hx, h1.2.2.2⟩
theorem RightK.of {D : DeskD} (n0 : 0 ≤ D.next) (n1 : D.next ≤ 100000) (d : ∀ (k : Nat) (x : DefD), D.defs[k]? = some x → customL x.name.toList = true ∧ (x.loc.toList = x.name.toList ∨ knownL x.loc.toList = true) ∧ 0 ≤ x.cls ∧ x.cls ≤ 11 ∧ namedZ D.defs x.name.toList = (k : Int) ∧ classedZ D.defs x.cls = (k : Int)) (t : ∀ x ∈ D.waits, customL x.name.toList = true ∧ namedZ D.defs x.name.toList = -1 ∧ -1 < x.ticket ∧ x.ticket < D.next) (hp : D.waits.Pairwise (fun x y => x.ticket < y.ticket)) : RightK D :=
  ⟨n0, n1, d, fun k x hx => by
    have hm := List.mem_of_getElem? hx
    obtain ⟨h1, h2, _, h4⟩ := t x hm
    exact ⟨h1, h2, asc_all.2 ⟨fun y hy => (t y hy).2.2.1, hp⟩ k x hx, h4⟩⟩
/-- What may be defined, in parts. -/
structure MayOk (D : DeskD) (classes : Int) (s base : List UInt8) (c : Int) : Prop where
  r : RightK D
  c0 : 0 ≤ c
  c1 : c < classes
  c2 : c ≤ 11
  cus : customL s = true
  nm : namedZ D.defs s = -1
  cl : classedZ D.defs c = -1
  bs : base = [] ∨ knownL base = true
  idle : D.busy = false
theorem may_ok9 {D : DeskD} {classes : Int} {s base : List UInt8} {c : Int} : mayE D classes s base c = 0 ↔ MayOk D classes s base c := by
  unfold mayE
  have hn := (firstZ_lt (isName s) D.defs).1
  have hc := (firstZ_lt (isCls c) D.defs).1
  constructor
  · intro h
    split at h
    · omega
    rename_i h1
    split at h
    · omega
    rename_i h2
    split at h
    · omega
    rename_i h3
    split at h
    · omega
    rename_i h4
    split at h
    · omega
    rename_i h5
    refine ⟨rightK_iff.1 (by cases hr : rightK D with | true => rfl | false => exact absurd (.inl hr) h1), by omega, by omega, by omega, by cases hr : customL s with | true => rfl | false => exact absurd hr h2, ?_, ?_, ?_, by cases hr : D.busy with | false => rfl | true => exact absurd hr h5⟩
    · unfold namedZ at *; omega
    · unfold classedZ at *; omega
    · by_cases hb : base = []
      · exact .inl hb
      · refine .inr ?_
        cases hr : knownL base with
        | true => rfl
        | false => exact absurd ⟨hb, hr⟩ h4
  · rintro ⟨r, c0, c1, c2, cus, nm, cl, bs, idle⟩
    have hr := rightK_iff.2 r
    have g1 : ¬ (rightK D = false ∨ c < 0 ∨ classes ≤ c ∨ 11 < c) := by
      rw [hr]
      rintro (h | h | h | h)
      · cases h
      · omega
      · omega
      · omega
    have g2 : ¬ (base ≠ [] ∧ knownL base = false) := by
      rintro ⟨h1, h2⟩
      rcases bs with h | h
      · exact h1 h
      · rw [h] at h2; cases h2
    rw [if_neg g1, if_neg (by rw [cus]; decide), if_neg (by rw [nm, cl]; omega), if_neg g2, if_neg (by rw [idle]; decide)]
section
variable {D : DeskD} {classes : Int} {s base : ByteArray} {c : Int}
theorem newDef_loc : (newDef s base c).loc.toList = if base.toList = [] then s.toList else base.toList := by
  unfold newDef
  dsimp only
  split <;> rfl
theorem named_add {n : List UInt8} : namedZ (addK D s base c).defs n = if 0 ≤ namedZ D.defs n then namedZ D.defs n else if s.toList = n then (D.defs.length : Int) else -1 := by
  unfold namedZ addK
  dsimp only
  rw [firstZ_append]
  unfold isName newDef
  simp only [beq_iff_eq]
theorem classed_add {n : Int} : classedZ (addK D s base c).defs n = if 0 ≤ classedZ D.defs n then classedZ D.defs n else if c = n then (D.defs.length : Int) else -1 := by
  unfold classedZ addK
  dsimp only
  rw [firstZ_append]
  unfold isCls newDef
  simp only [beq_iff_eq]
theorem MayOk.right (h : MayOk D classes s.toList base.toList c) : RightK (addK D s base c) := by
  refine RightK.of h.r.n0 h.r.n1 (fun k x hx => ?_) (fun x hx => ?_) ?_
  · by_cases hk : k < D.defs.length
    · unfold addK at hx
      dsimp only at hx
      rw [List.getElem?_append_left hk] at hx
      obtain ⟨h1, h2, h3, h4, h5, h6⟩ := h.r.d k x hx
      refine ⟨h1, h2, h3, h4, ?_, ?_⟩
      · rw [named_add, h5, if_pos (by omega)]
      · rw [classed_add, h6, if_pos (by omega)]
    · have hl : k = D.defs.length := by
        obtain ⟨hl, _⟩ := List.getElem?_eq_some_iff.1 hx
        unfold addK at hl
        simp at hl
        omega
      subst hl
      have hx' : x = newDef s base c := by
        unfold addK at hx
        simp at hx
        exact hx.symm
      subst hx'
      refine ⟨h.cus, ?_, h.c0, h.c2, ?_, ?_⟩
      · rw [newDef_loc]
        show (if base.toList = [] then s.toList else base.toList) = s.toList ∨ _
        by_cases hb : base.toList = []
        · exact .inl (if_pos hb)
        · rw [if_neg hb]
          exact .inr (h.bs.resolve_left hb)
      · rw [named_add]
        show (if 0 ≤ namedZ D.defs s.toList then _ else if s.toList = s.toList then _ else _) = _
        rw [h.nm, if_neg (by decide), if_pos rfl]
      · rw [classed_add]
        show (if 0 ≤ classedZ D.defs c then _ else if c = c then _ else _) = _
        rw [h.cl, if_neg (by decide), if_pos rfl]
  · unfold addK restT at hx
    dsimp only at hx
    obtain ⟨h1, h2⟩ := List.mem_filter.1 hx
    obtain ⟨h3, h4, h5, h6⟩ := h.r.wait h1
    refine ⟨h3, ?_, h5, h6⟩
    rw [named_add, h4, if_neg (by decide), if_neg (by intro e; rw [e] at h2; simp at h2)]
  · exact h.r.asc.2.filter _
theorem MayOk.again (h : MayOk D classes s.toList base.toList c) : mayE (addK D s base c) classes s.toList base.toList c = 10 := by
  unfold mayE
  rw [if_neg (by
    rw [rightK_iff.2 h.right]
    have := h.c0; have := h.c1; have := h.c2
    rintro (h | h | h | h)
    · cases h
    · omega
    · omega
    · omega), if_neg (by rw [h.cus]; decide), if_pos (.inl (by rw [named_add, h.nm, if_neg (by decide), if_pos rfl]; omega))]
theorem MayOk.other (h : MayOk D classes s.toList base.toList c) {o b : List UInt8} (ho : customL o = true) : mayE (addK D s base c) classes o b c = 10 := by
  unfold mayE
  rw [if_neg (by
    rw [rightK_iff.2 h.right]
    have := h.c0; have := h.c1; have := h.c2
    rintro (h | h | h | h)
    · cases h
    · omega
    · omega
    · omega), if_neg (by rw [ho]; decide), if_pos (.inr (by rw [classed_add, h.cl, if_neg (by decide), if_pos rfl]; omega))]
theorem add_defs_at (k : Nat) : (addK D s base c).defs[k]? = if k < D.defs.length then D.defs[k]? else if k = D.defs.length then some (newDef s base c) else none := by
  unfold addK
  dsimp only
  by_cases h : k < D.defs.length
  · rw [if_pos h, List.getElem?_append_left h]
  · rw [if_neg h, List.getElem?_append_right (by omega)]
    by_cases h2 : k = D.defs.length
    · subst h2; simp
    · rw [if_neg h2]
      rw [List.getElem?_eq_none (by simp; omega)]
/-- Who is found behind a definition: it, for whom it is; else who was found. -/
theorem MayOk.find_fits (h : MayOk D classes s.toList base.toList c) {l i : List UInt8} (hf : fits (newDef s base c) l i = true) : findZ2 D.defs l i = -1 ∧ findZ2 (addK D s base c).defs l i = (D.defs.length : Int) := by
  have h1 := (h.right.find_iff (i := D.defs.length) (x := newDef s base c) (l := l) (s := i) (by rw [add_defs_at, if_neg (by omega), if_pos rfl])).2 hf
  refine ⟨h.r.find_none.2 fun x hx => ?_, h1⟩
  obtain ⟨k, hk⟩ := List.getElem?_of_mem hx
  obtain ⟨hl, _⟩ := List.getElem?_eq_some_iff.1 hk
  cases hf2 : fits x l i with
  | false => rfl
  | true =>
    have := (h.right.find_iff (i := k) (x := x) (l := l) (s := i) (by rw [add_defs_at, if_pos hl]; exact hk)).2 hf2
    omega
theorem MayOk.find_not (h : MayOk D classes s.toList base.toList c) {l i : List UInt8} (hf : fits (newDef s base c) l i = false) : findZ2 (addK D s base c).defs l i = findZ2 D.defs l i := by
  have h1 := find_lt D.defs l i
  by_cases h0 : findZ2 D.defs l i = -1
  · rw [h0, h.right.find_none]
    intro x hx
    rcases List.mem_append.1 hx with hx | hx
    · exact h.r.find_none.1 h0 x hx
    · rw [List.mem_singleton.1 hx, hf]
  · obtain ⟨k, hk⟩ : ∃ k : Nat, findZ2 D.defs l i = k := ⟨(findZ2 D.defs l i).toNat, by omega⟩
    have hl : k < D.defs.length := by omega
    have hg := List.getElem?_eq_getElem hl
    rw [hk]
    exact (h.right.find_iff (by rw [add_defs_at, if_pos hl]; exact hg)).2 ((h.r.find_iff hg).1 hk)
end
theorem told_rest (L : List WaitD) (s : List UInt8) : (toldZ L s).length + (restT L s).length = L.length := by
  unfold toldZ restT
  rw [List.length_map]
  induction L with
  | nil => rfl
  | cons x r ih =>
    rw [List.filter_cons, List.filter_cons]
    cases h : x.name.toList == s
    · simp only [Bool.not_false, if_true, Bool.false_eq_true, if_false, List.length_cons]; omega
    · simp only [Bool.not_true, if_true, Bool.false_eq_true, if_false, List.length_cons]; omega
/-- A ticket that waits for the name is told once. -/
theorem told_once {L : List WaitD} {s : List UInt8} {x : WaitD} (hp : L.Pairwise (fun x y => x.ticket < y.ticket)) (hx : x ∈ L) (hs : x.name.toList = s) : hasZ (toldZ L s) x.ticket = 1 := by
  unfold hasZ toldZ
  induction L with
  | nil => cases hx
  | cons y r ih =>
    rw [List.pairwise_cons] at hp
    rcases List.mem_cons.1 hx with rfl | hx
    · rw [List.filter_cons, if_pos (by simpa using hs), List.map_cons, List.countP_cons, if_pos (by simp)]
      have : (((r.filter fun x => x.name.toList == s).map (·.ticket)).countP fun z => z == x.ticket) = 0 := by
        rw [List.countP_eq_zero]
        intro z hz
        obtain ⟨y, hy, rfl⟩ := List.mem_map.1 hz
        have := hp.1 y (List.mem_filter.1 hy).1
        simp
        omega
      omega
    · have h1 := hp.1 x hx
      rw [List.filter_cons]
      split
      · rw [List.map_cons, List.countP_cons, if_neg (by simp; omega)]
        exact ih hp.2 hx
      · exact ih hp.2 hx
theorem filter_at {α : Type} {p : α → Bool} : ∀ {L : List α} {k : Nat} {x : α}, L[k]? = some x → p x = true → (L.filter p)[((L.take k).filter p).length]? = some x
  | y :: r, 0, x, h, hp => by
    simp at h; subst h
    rw [List.filter_cons, if_pos hp]
    rfl
  | y :: r, k + 1, x, h, hp => by
    have ih := filter_at (L := r) (k := k) (by simpa using h) hp
    rw [List.take_succ_cons, List.filter_cons, List.filter_cons]
    split
    · simpa using ih
    · exact ih
theorem filter_step9 {α : Type} {p : α → Bool} {L : List α} {k : Nat} {x : α} (h : L[k]? = some x) : ((L.take (k + 1)).filter p).length = ((L.take k).filter p).length + if p x then 1 else 0 := by
  obtain ⟨hl, hg⟩ := List.getElem?_eq_some_iff.1 h
  rw [List.take_succ_eq_append_getElem hl, List.filter_append, List.length_append, hg]
  cases hp : p x <;> simp [hp]
end Go.Proofs.YtkomeijlljcdgaaGreat
/- Desks: two definitions in either order; what is waited for and defined, one behind the other. No program. -/
namespace Go.Proofs.YtkomeijlljcdgaaGreat
open Go.RowKit
section
variable {D : DeskD} {s t base other : ByteArray} {a b : Int}
/-- What may be defined behind another definition is what might be ahead of it. -/
theorem MayOk.swap {classes : Int} (h : MayOk D classes s.toList base.toList a) (hs : s.toList ≠ t.toList) (ha : a ≠ b) : mayE (addK D s base a) classes t.toList other.toList b = mayE D classes t.toList other.toList b := by
  have h1 : rightK (addK D s base a) = rightK D := by rw [rightK_iff.2 h.right, rightK_iff.2 h.r]
  have h2 : (0 ≤ namedZ (addK D s base a).defs t.toList) = (0 ≤ namedZ D.defs t.toList) := by
    rw [named_add]
    split
    · rfl
    · rename_i h0
      exact propext ⟨fun h => by omega, fun h => absurd h h0⟩
  have h3 : (0 ≤ classedZ (addK D s base a).defs b) = (0 ≤ classedZ D.defs b) := by
    rw [classed_add]
    split
    · rfl
    · rename_i h0
      exact propext ⟨fun h => by omega, fun h => absurd h h0⟩
  unfold mayE
  simp only [h1, h2, h3]
  rw [h.idle]
  rfl
theorem addR_may {classes : Int} (h : MayOk D classes s.toList base.toList a) : addR9 D classes s base a = (addK D s base a, (D.defs.length : Int), toldZ D.waits s.toList, 0) := by
  unfold addR9
  rw [if_pos (may_ok9.2 h)]
theorem addR_not {classes : Int} (h : mayE D classes s.toList base.toList a ≠ 0) : addR9 D classes s base a = (D, -1, [], mayE D classes s.toList base.toList a) := by
  unfold addR9
  rw [if_neg h]
theorem addR_err {classes : Int} : (addR9 D classes s base a).2.2.2 = mayE D classes s.toList base.toList a := by
  unfold addR9
  split
  · rename_i h; rw [h]
  · rfl
/-- The errors of two definitions in either order. -/
theorem order_err (hs : s.toList ≠ t.toList) (ha : a ≠ b) : mayE (addR9 D 12 s base a).1 12 t.toList other.toList b = mayE D 12 t.toList other.toList b := by
  by_cases h : mayE D 12 s.toList base.toList a = 0
  · rw [addR_may (may_ok9.1 h)]
    exact (may_ok9.1 h).swap hs ha
  · rw [addR_not h]
theorem told_other {L : List WaitD} {s t : List UInt8} (h : s ≠ t) : toldZ (restT L t) s = toldZ L s := by
  unfold toldZ restT
  rw [List.filter_filter]
  congr 1
  refine List.filter_congr fun x _ => ?_
  by_cases hx : x.name.toList = s
  · have : (x.name.toList == t) = false := beq_eq_false_iff_ne.2 (fun e => h (by rw [← hx, e]))
    rw [this, beq_iff_eq.2 hx]
    rfl
  · rw [beq_eq_false_iff_ne.2 hx]
    rfl
theorem told_same {L : List WaitD} {s : List UInt8} : toldZ (restT L s) s = [] := by
  unfold toldZ restT
  rw [List.filter_filter]
  rw [List.map_eq_nil_iff, List.filter_eq_nil_iff]
  intro x _
  cases h : x.name.toList == s <;> simp
/-- Who is found is of the same definition. -/
theorem order_find {E F : DeskD} (hE : RightK E) (hF : RightK F) (hm : ∀ x, x ∈ E.defs ↔ x ∈ F.defs) (l i : List UInt8) : (findZ2 E.defs l i = -1 ∧ findZ2 F.defs l i = -1) ∨ ∃ (j k : Nat) (x : DefD), findZ2 E.defs l i = (j : Int) ∧ findZ2 F.defs l i = (k : Int) ∧ E.defs[j]? = some x ∧ F.defs[k]? = some x := by
  by_cases h0 : findZ2 E.defs l i = -1
  · refine .inl ⟨h0, hF.find_none.2 fun x hx => ?_⟩
    exact hE.find_none.1 h0 x ((hm x).2 hx)
  · have h1 := find_lt E.defs l i
    obtain ⟨j, hj⟩ : ∃ k : Nat, findZ2 E.defs l i = k := ⟨(findZ2 E.defs l i).toNat, by omega⟩
    have hl : j < E.defs.length := by omega
    have hg := List.getElem?_eq_getElem hl
    have hf := (hE.find_iff hg).1 hj
    obtain ⟨k, hk⟩ := List.getElem?_of_mem ((hm _).1 (List.mem_of_getElem? hg))
    exact .inr ⟨j, k, _, hj, (hF.find_iff hk).2 hf, hg, hk⟩
theorem order_mem (x : DefD) : x ∈ (addK (addK D s base a) t other b).defs ↔ x ∈ (addK (addK D t other b) s base a).defs := by
  unfold addK
  simp only [List.mem_append, List.mem_singleton]
  constructor
  · rintro ((h | h) | h)
    · exact .inl (.inl h)
    · exact .inr h
    · exact .inl (.inr h)
  · rintro ((h | h) | h)
    · exact .inl (.inl h)
    · exact .inr h
    · exact .inl (.inr h)
end
section
variable {D : DeskD} {s : ByteArray}
theorem await_ok {s : List UInt8} : awaitE D s = 0 ↔ RightK D ∧ customL s = true ∧ D.next < 100000 := by
  unfold awaitE
  constructor
  · intro h
    split at h
    · omega
    rename_i h1
    split at h
    · omega
    rename_i h2
    split at h
    · omega
    rename_i h3
    exact ⟨rightK_iff.1 (by cases hr : rightK D with | true => rfl | false => exact absurd hr h1), by cases hr : customL s with | true => rfl | false => exact absurd hr h2, by omega⟩
  · rintro ⟨h1, h2, h3⟩
    rw [if_neg (by rw [rightK_iff.2 h1]; decide), if_neg (by rw [h2]; decide), if_neg (by omega)]
theorem await_right (h : RightK D) (hc : customL s.toList = true) (hn : D.next < 100000) : RightK (awaitK D s) := by
  have h0 := h.n0
  refine RightK.of (D := awaitK D s) ?_ ?_ h.d (fun x hx => ?_) ?_
  · show 0 ≤ D.next + 1; omega
  · show D.next + 1 ≤ 100000; omega
  · show _ ∧ namedZ D.defs _ = -1 ∧ _ ∧ _ < D.next + 1
    unfold awaitK at hx
    dsimp only at hx
    split at hx
    · rename_i hm
      rcases List.mem_append.1 hx with hx | hx
      · obtain ⟨h3, h4, h5, h6⟩ := h.wait hx
        exact ⟨h3, h4, h5, by omega⟩
      · rw [List.mem_singleton.1 hx]
        have := (firstZ_lt (isName s.toList) D.defs).1
        refine ⟨hc, ?_, by dsimp only; omega, by dsimp only; omega⟩
        show firstZ (isName s.toList) D.defs = -1
        unfold namedZ at hm
        omega
    · obtain ⟨h3, h4, h5, h6⟩ := h.wait hx
      exact ⟨h3, h4, h5, by omega⟩
  · unfold awaitK
    dsimp only
    split
    · rw [List.pairwise_append]
      refine ⟨h.asc.2, List.pairwise_singleton _ _, fun x hx y hy => ?_⟩
      rw [List.mem_singleton.1 hy]
      exact (h.wait hx).2.2.2
    · exact h.asc.2
theorem told_await (n : List UInt8) : toldZ (awaitK D s).waits n = if namedZ D.defs s.toList < 0 ∧ s.toList = n then toldZ D.waits n ++ [D.next] else toldZ D.waits n := by
  unfold awaitK
  dsimp only
  by_cases h : namedZ D.defs s.toList < 0
  · rw [if_pos h]
    unfold toldZ
    rw [List.filter_append, List.map_append]
    by_cases hn : s.toList = n
    · rw [if_pos ⟨h, hn⟩]
      congr 1
      rw [List.filter_cons, if_pos (by simpa using hn)]
      rfl
    · rw [if_neg (fun e => hn e.2), List.filter_cons, if_neg (by simpa using hn)]
      simp
  · rw [if_neg h, if_neg (fun e => h e.1)]
end
/-- The names that are waited for and defined. -/
def nmK (k : Nat) : List UInt8 := [120, 45, 97 + UInt8.ofNat k]
theorem nmK_one {j k : Nat} (hj : j < 6) (hk : k < 6) (h : nmK j = nmK k) : j = k := by
  have : ∀ j : Fin 6, ∀ k : Fin 6, nmK j = nmK k → j = k := by decide
  have := this ⟨j, hj⟩ ⟨k, hk⟩ h
  exact congrArg Fin.val this
theorem nmK_custom {k : Nat} (hk : k < 6) : customL (nmK k) = true := by
  have : ∀ k : Fin 6, customL (nmK k) = true := by decide
  exact this ⟨k, hk⟩
/-- Where what is waited for and defined has come to. -/
structure Tells (D : DeskD) (W : Nat → List Int) (df us : Nat → Bool) : Prop where
  r : RightK D
  idle : D.busy = false
  want : ∀ k, k < 6 → W k = toldZ D.waits (nmK k)
  dfd : ∀ k, k < 6 → df k = decide (0 ≤ namedZ D.defs (nmK k))
  usd : ∀ c : Nat, c < 12 → us c = decide (0 ≤ classedZ D.defs (c : Int))
  all : ∀ x ∈ D.waits, ∃ k, k < 6 ∧ x.name.toList = nmK k
theorem Tells.start : Tells ⟨[], [], 0, false⟩ (fun _ => []) (fun _ => false) (fun _ => false) := by
  refine ⟨rightK_iff.1 (by decide), rfl, fun k _ => rfl, fun k _ => ?_, fun c _ => ?_, fun x hx => by cases hx⟩
  · exact (decide_eq_false (by show ¬ 0 ≤ firstZ _ []; unfold firstZ; simp)).symm
  · exact (decide_eq_false (by show ¬ 0 ≤ firstZ _ []; unfold firstZ; simp)).symm
section
variable {D : DeskD} {W : Nat → List Int} {df us : Nat → Bool} {k : Nat} {s : ByteArray}
theorem Tells.await (h : Tells D W df us) (hk : k < 6) (hs : s.toList = nmK k) (hn : D.next < 100000) : Tells (awaitK D s) (fun j => if j = k ∧ df k = false then W j ++ [D.next] else W j) df us := by
  have hd := h.dfd k hk
  refine ⟨await_right h.r (by rw [hs]; exact nmK_custom hk) hn, h.idle, fun j hj => ?_, h.dfd, h.usd, fun x hx => ?_⟩
  · rw [told_await, ← h.want j hj, hs]
    by_cases hjk : j = k
    · subst hjk
      cases hf : df j with
      | false =>
        rw [hf] at hd
        have hd2 := of_decide_eq_false hd.symm
        rw [if_pos ⟨rfl, rfl⟩, if_pos ⟨by omega, rfl⟩]
      | true =>
        rw [hf] at hd
        have hd2 := of_decide_eq_true hd.symm
        rw [if_neg (by rintro ⟨_, h⟩; cases h), if_neg (by rintro ⟨h, _⟩; omega)]
    · rw [if_neg (fun e => hjk e.1), if_neg (fun e => hjk (nmK_one hk hj e.2).symm)]
  · unfold awaitK at hx
    dsimp only at hx
    split at hx
    · rcases List.mem_append.1 hx with hx | hx
      · exact h.all x hx
      · rw [List.mem_singleton.1 hx]
        exact ⟨k, hk, hs⟩
    · exact h.all x hx
/-- What may be defined of them. -/
theorem Tells.may (h : Tells D W df us) {c : Nat} (hk : k < 6) (hs : s.toList = nmK k) (hc : c < 12) : mayE D 12 s.toList [] (c : Int) = if df k = true ∨ us c = true then 10 else 0 := by
  unfold mayE
  rw [if_neg (by
    rw [rightK_iff.2 h.r]
    rintro (h | h | h | h)
    · cases h
    · omega
    · omega
    · omega), if_neg (by rw [hs, nmK_custom hk]; decide)]
  have h1 : (0 ≤ namedZ D.defs s.toList) = (df k = true) := by rw [hs, h.dfd k hk, decide_eq_true_eq]
  have h2 : (0 ≤ classedZ D.defs (c : Int)) = (us c = true) := by rw [h.usd c hc, decide_eq_true_eq]
  simp only [h1, h2]
  split
  · rfl
  · rw [if_neg (by rintro ⟨h, _⟩; exact h rfl), if_neg (by rw [h.idle]; decide)]
theorem Tells.add (h : Tells D W df us) {c : Nat} (hk : k < 6) (hs : s.toList = nmK k) (hc : c < 12) (hd : df k = false) (hu : us c = false) {e : ByteArray} (he : e.toList = []) : Tells (addK D s e (c : Int)) (fun j => if j = k then [] else W j) (fun j => if j = k then true else df j) (fun j => if j = c then true else us j) := by
  have hm : MayOk D 12 s.toList e.toList (c : Int) := may_ok9.1 (by rw [he, h.may hk hs hc, if_neg (by rw [hd, hu]; decide)])
  refine ⟨hm.right, rfl, fun j hj => ?_, fun j hj => ?_, fun j hj => ?_, fun x hx => ?_⟩
  · show _ = toldZ (restT D.waits s.toList) (nmK j)
    by_cases hjk : j = k
    · subst hjk
      rw [if_pos rfl, hs, told_same]
    · rw [if_neg hjk, hs, told_other (fun e => hjk (nmK_one hj hk e)), h.want j hj]
  · rw [named_add]
    by_cases hjk : j = k
    · subst hjk
      rw [if_pos rfl]
      refine (decide_eq_true ?_).symm
      split
      · rename_i h0; exact h0
      · omega
    · rw [if_neg hjk, h.dfd j hj]
      by_cases h0 : 0 ≤ namedZ D.defs (nmK j)
      · rw [if_pos h0]
      · rw [if_neg h0, if_neg (fun e => hjk (nmK_one hj hk (by rw [← e, hs]))), decide_eq_false h0]
        rfl
  · rw [classed_add]
    by_cases hjk : j = c
    · subst hjk
      rw [if_pos rfl]
      refine (decide_eq_true ?_).symm
      split
      · rename_i h0; exact h0
      · omega
    · rw [if_neg hjk, h.usd j hj]
      by_cases h0 : 0 ≤ classedZ D.defs (j : Int)
      · rw [if_pos h0]
      · rw [if_neg h0, if_neg (by omega), decide_eq_false h0]
        rfl
  · exact h.all x (List.mem_filter.1 hx).1
/-- All that wait are waited for by a name. -/
theorem sum_told : ∀ {L : List WaitD}, (∀ x ∈ L, ∃ k, k < 6 ∧ x.name.toList = nmK k) → (toldZ L (nmK 0)).length + (toldZ L (nmK 1)).length + (toldZ L (nmK 2)).length + (toldZ L (nmK 3)).length + (toldZ L (nmK 4)).length + (toldZ L (nmK 5)).length = L.length
  | [], _ => rfl
  | x :: r, h => by
    have ih := sum_told (L := r) (fun y hy => h y (by simp [hy]))
    obtain ⟨k, hk, hx⟩ := h x (by simp)
    have e : ∀ j, (toldZ (x :: r) (nmK j)).length = (if nmK k = nmK j then 1 else 0) + (toldZ r (nmK j)).length := by
      intro j
      unfold toldZ
      rw [List.filter_cons, hx]
      by_cases hj : nmK k = nmK j
      · rw [if_pos hj, if_pos (by simpa using hj)]
        simp only [List.map_cons, List.length_cons]; omega
      · rw [if_neg hj, if_neg (by simpa using hj)]
        omega
    have one : ∀ k : Fin 6, (if nmK k = nmK 0 then 1 else 0) + (if nmK k = nmK 1 then 1 else 0) + (if nmK k = nmK 2 then 1 else 0) + (if nmK k = nmK 3 then 1 else 0) + (if nmK k = nmK 4 then 1 else 0) + (if nmK k = nmK 5 then 1 else 0) = 1 := by decide
    have := one ⟨k, hk⟩
    dsimp only at this
    rw [e 0, e 1, e 2, e 3, e 4, e 5, List.length_cons]
    omega
end
end Go.Proofs.YtkomeijlljcdgaaGreat
/- instarref09's Named and Classed. -/
namespace Go.Proofs.YtkomeijlljcdgaaGreat
open Go.RowKit
/-- The block in which a desk by value is boxed. -/
abbrev deskB (da : Option Addr) (dl dc : Nat) (wa : Option Addr) (wl wc : Nat) (nx : Int) (bz : Bool) : Obj := .cells #[.slice da dl dc, .slice wa wl wc, .int .i64 nx, .bool bz] 28
theorem below_desk (w : World) (B : Obj) : Below w.heap.size w (w.alloc B) := (Below.refl _ _).alloc (Nat.le_refl _) B
set_option maxHeartbeats 4000000 in
set_option maxRecDepth 100000 in
theorem refnamed_any (da : Option Addr) (dl dc : Nat) (wa : Option Addr) (wl wc : Nat) (nx : Int) (bz : Bool) (L : List DefD) (s : ByteArray) (w : World) (h0 : DefRow w da dl dc L) :
    Calls Tryz.prog 35 #[deskV da dl dc wa wl wc nx bz, .string s] w fun e w' => e = .returned (.int .i64 (namedZ L s.toList)) ∧ Below w.heap.size w w' := by
  have hl := h0.len64
  have HLN := Lib.hid h0.hlen
  have h := h0.below (below_desk w (deskB da dl dc wa wl wc nx bz))
  clear h0
  go_enter Tryz.func35, Tryz.ntmps35
  go_wp2
  go_loop [5] (fun i => ∃ k : Nat, k ≤ dl ∧ i = .int .i64 k ∧ Hid (k ≤ firstN (isName s.toList) L)) (fun i => dl - (intOf i).toNat)
  case atStart => exact ⟨0, Nat.zero_le _, rfl, Lib.hid (Nat.zero_le _)⟩
  case round =>
    obtain ⟨k, hk, rfl, HA⟩ := hrel
    by_cases hlt : k < dl
    · obtain ⟨b, off, x, rfl, hb, hx, c0, -, -, -⟩ := h.get hlt
      have hb2 : b < w.heap.size + 1 := by simpa using hb
      have HX := Lib.hid hx
      clear hx
      obtain ⟨n, hn⟩ : ∃ n, x.name = n := ⟨_, rfl⟩
      rw [hn] at c0
      cases e1 : n.toList == s.toList with
      | true =>
        have HR : Hid (namedZ L s.toList = (k : Int)) := Lib.hid (firstZ_here HA.out HX.out (by unfold isName; rw [hn]; exact e1))
        go_wp2
        go_ret
        exact ⟨ret_int HR.out.symm, below_desk _ _⟩
      | false =>
        have HR : Hid (k + 1 ≤ firstN (isName s.toList) L) := Lib.hid (first_step HA.out HX.out (by unfold isName; rw [hn]; exact e1))
        go_wp2
        go_round
        case rel => exact ⟨k + 1, by omega, by go_num, HR⟩
        case measure => simp [intOf]; omega
    · have HR : Hid (namedZ L s.toList = -1) := Lib.hid (firstZ_none HA.out (by rw [HLN.out]; omega))
      go_wp2
      go_ret
      exact ⟨ret_int HR.out.symm, below_desk _ _⟩
set_option maxHeartbeats 4000000 in
set_option maxRecDepth 100000 in
theorem refclassed_any (da : Option Addr) (dl dc : Nat) (wa : Option Addr) (wl wc : Nat) (nx : Int) (bz : Bool) (L : List DefD) (c : Int) (w : World) (h0 : DefRow w da dl dc L) :
    Calls Tryz.prog 36 #[deskV da dl dc wa wl wc nx bz, .int .i64 c] w fun e w' => e = .returned (.int .i64 (classedZ L c)) ∧ Below w.heap.size w w' := by
  have hl := h0.len64
  have HLN := Lib.hid h0.hlen
  have h := h0.below (below_desk w (deskB da dl dc wa wl wc nx bz))
  clear h0
  go_enter Tryz.func36, Tryz.ntmps36
  go_wp2
  go_loop [5] (fun i => ∃ k : Nat, k ≤ dl ∧ i = .int .i64 k ∧ Hid (k ≤ firstN (isCls c) L)) (fun i => dl - (intOf i).toNat)
  case atStart => exact ⟨0, Nat.zero_le _, rfl, Lib.hid (Nat.zero_le _)⟩
  case round =>
    obtain ⟨k, hk, rfl, HA⟩ := hrel
    by_cases hlt : k < dl
    · obtain ⟨b, off, x, rfl, hb, hx, -, -, c2, -⟩ := h.get hlt
      have hb2 : b < w.heap.size + 1 := by simpa using hb
      have HX := Lib.hid hx
      clear hx
      obtain ⟨n, hn⟩ : ∃ n, x.cls = n := ⟨_, rfl⟩
      rw [hn] at c2
      cases e1 : n == c with
      | true =>
        have HR : Hid (classedZ L c = (k : Int)) := Lib.hid (firstZ_here HA.out HX.out (by unfold isCls; rw [hn]; exact e1))
        go_wp2
        go_ret
        exact ⟨ret_int HR.out.symm, below_desk _ _⟩
      | false =>
        have HR : Hid (k + 1 ≤ firstN (isCls c) L) := Lib.hid (first_step HA.out HX.out (by unfold isCls; rw [hn]; exact e1))
        go_wp2
        go_round
        case rel => exact ⟨k + 1, by omega, by go_num, HR⟩
        case measure => simp [intOf]; omega
    · have HR : Hid (classedZ L c = -1) := Lib.hid (firstZ_none HA.out (by rw [HLN.out]; omega))
      go_wp2
      go_ret
      exact ⟨ret_int HR.out.symm, below_desk _ _⟩
end Go.Proofs.YtkomeijlljcdgaaGreat
