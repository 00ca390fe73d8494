/- Texts joined in build order: DeskPure. -/
import Derived.Test.YtioeagadhnnajaaA03
import Derived.Test.YtioeagadhnnajaaA01
import Derived.Test.YtioeagadhnnajaaA02
/- Desks as data: what package desk computes, said over lists of definitions and of who waits. No program. -/
namespace Go.Proofs.Ytioeagadhnnajaa
open Go.RowKit
/-- The first place of what is so; the length: there is none. -/
def firstN {α : Type} (p : α → Bool) (L : List α) : Nat := L.findIdx p
def firstZ {α : Type} (p : α → Bool) (L : List α) : Int := if firstN p L < L.length then (firstN p L : Int) else -1
section
variable {α : Type} {p : α → Bool} {L : List α} {k : Nat} {x : α}
theorem first_le (p : α → Bool) (L : List α) : firstN p L ≤ L.length := List.findIdx_le_length
theorem first_step (h : k ≤ firstN p L) (hk : L[k]? = some x) (hx : p x = false) : k + 1 ≤ firstN p L := by
  obtain ⟨hl, hg⟩ := List.getElem?_eq_some_iff.1 hk
  by_cases e : k = firstN p L
  · have h1 : firstN p L < L.length := by omega
    have h2 : p (L[firstN p L]'h1) = true := List.findIdx_getElem (w := h1)
    have h3 : (L[firstN p L]'h1) = x := by
      rw [← hg]; congr 1; exact e.symm
    rw [h3, hx] at h2
    cases h2
  · omega
theorem first_here (h : k ≤ firstN p L) (hk : L[k]? = some x) (hx : p x = true) : firstN p L = k := by
  obtain ⟨hl, hg⟩ := List.getElem?_eq_some_iff.1 hk
  by_cases e : k < firstN p L
  · have := List.not_of_lt_findIdx e
    rw [hg, hx] at this
    cases this
  · omega
theorem firstZ_here (h : k ≤ firstN p L) (hk : L[k]? = some x) (hx : p x = true) : firstZ p L = (k : Int) := by
  have := first_here h hk hx
  obtain ⟨hl, hg⟩ := List.getElem?_eq_some_iff.1 hk
  unfold firstZ
  rw [this, if_pos hl]
theorem firstZ_none (h : k ≤ firstN p L) (hk : L.length ≤ k) : firstZ p L = -1 := by
  unfold firstZ
  rw [if_neg (by omega)]
theorem firstZ_cases (p : α → Bool) (L : List α) : (firstZ p L = -1 ∧ ∀ x ∈ L, p x = false) ∨ ∃ (k : Nat) (x : α), firstZ p L = (k : Int) ∧ L[k]? = some x ∧ p x = true ∧ ∀ (j : Nat) (y : α), j < k → L[j]? = some y → p y = false := by
  by_cases h : firstN p L < L.length
  · refine .inr ⟨firstN p L, L[firstN p L]'h, ?_, List.getElem?_eq_getElem h, List.findIdx_getElem (w := h), fun j y hj hy => ?_⟩
    · unfold firstZ; rw [if_pos h]
    · obtain ⟨hl, hg⟩ := List.getElem?_eq_some_iff.1 hy
      have := List.not_of_lt_findIdx hj
      rw [hg] at this
      simpa using this
  · refine .inl ⟨?_, fun x hx => ?_⟩
    · unfold firstZ; rw [if_neg h]
    · cases hp : p x with
      | false => rfl
      | true => exact absurd (List.findIdx_lt_length_of_exists ⟨x, hx, hp⟩) h
theorem firstZ_is (hk : L[k]? = some x) (hx : p x = true) (hb : ∀ j y, j < k → L[j]? = some y → p y = false) : firstZ p L = (k : Int) := by
  rcases firstZ_cases p L with ⟨_, h2⟩ | ⟨j, y, h1, h2, h3, h4⟩
  · rw [h2 x (List.mem_of_getElem? hk)] at hx; cases hx
  · rcases Nat.lt_trichotomy j k with h | h | h
    · rw [hb j y h h2] at h3; cases h3
    · rw [h1, h]
    · rw [h4 k x h hk] at hx; cases hx
theorem firstZ_no (h : ∀ x ∈ L, p x = false) : firstZ p L = -1 := by
  rcases firstZ_cases p L with ⟨h1, _⟩ | ⟨j, y, _, h2, h3, _⟩
  · exact h1
  · rw [h y (List.mem_of_getElem? h2)] at h3; cases h3
theorem firstZ_lt (p : α → Bool) (L : List α) : -1 ≤ firstZ p L ∧ firstZ p L < (L.length : Int) := by
  unfold firstZ
  split
  · omega
  · omega
theorem firstZ_ge (h : 0 ≤ firstZ p L) : ∃ (k : Nat) (x : α), firstZ p L = (k : Int) ∧ L[k]? = some x ∧ p x = true := by
  rcases firstZ_cases p L with ⟨h1, _⟩ | ⟨j, y, h1, h2, h3, _⟩
  · rw [h1] at h; omega
  · exact ⟨j, y, h1, h2, h3⟩
end
/-- A definition. -/
structure DefD where
  name : ByteArray
  loc : ByteArray
  cls : Int
/-- Somebody who waits. -/
structure WaitD where
  name : ByteArray
  ticket : Int
theorem DefD.ext_iff' {x y : DefD} : x = y ↔ x.name = y.name ∧ x.loc = y.loc ∧ x.cls = y.cls := by
  cases x; cases y; simp
def encD (x : DefD) : List Value := [.string x.name, .string x.loc, .int .i64 x.cls]
def encT9 (x : WaitD) : List Value := [.string x.name, .int .i64 x.ticket]
theorem encD_len (x : DefD) : (encD x).length = 3 := rfl
theorem encT_len (x : WaitD) : (encT9 x).length = 2 := rfl
theorem encD_one (x : DefD) : ∀ u ∈ encD x, u.oneCell' = true := by
  intro u hu
  simp [encD] at hu
  rcases hu with rfl | rfl | rfl <;> rfl
theorem encT_one (x : WaitD) : ∀ u ∈ encT9 x, u.oneCell' = true := by
  intro u hu
  simp [encT9] at hu
  rcases hu with rfl | rfl <;> rfl
structure DefRow (w : World) (a : Option Addr) (len cap : Nat) (L : List DefD) : Prop where
  row : SRow encD 3 w a len cap L
  ok : ∀ x ∈ L, x.name.size ≤ maxLen ∧ x.loc.size ≤ maxLen ∧ In64 x.cls
  hnil : a = none → cap = 0
structure WaitRow (w : World) (a : Option Addr) (len cap : Nat) (L : List WaitD) : Prop where
  row : SRow encT9 2 w a len cap L
  ok : ∀ x ∈ L, x.name.size ≤ maxLen ∧ In64 x.ticket
  hnil : a = none → cap = 0
section
variable {w w' : World} {a : Option Addr} {len cap : Nat}
theorem DefRow.hlen {L : List DefD} (h : DefRow w a len cap L) : L.length = len := h.row.hlen
theorem DefRow.len64 {L : List DefD} (h : DefRow w a len cap L) : len ≤ 9223372036854775807 := h.row.len64
theorem DefRow.below {L : List DefD} (h : DefRow w a len cap L) (hb : Below w.heap.size w w') : DefRow w' a len cap L := ⟨h.row.below hb, h.ok, h.hnil⟩
theorem DefRow.drewN {L : List DefD} (h : DefRow w a len cap L) (n : Nat) : DefRow (w.drewN n) a len cap L := ⟨h.row.drewN n, h.ok, h.hnil⟩
theorem DefRow.nil (w : World) : DefRow w none 0 0 [] := ⟨SRow.nil, (fun x hx => by cases hx), fun _ => rfl⟩
theorem DefRow.get {L : List DefD} (h : DefRow w a len cap L) {k : Nat} (hk : k < len) :
    ∃ b off x, a = some ⟨b, off, none⟩ ∧ b < w.heap.size ∧ L[k]? = some x ∧ w.cell? ⟨b, off + k * 3, none⟩ = some (.string x.name) ∧ w.cell? ⟨b, off + k * 3 + 1, none⟩ = some (.string x.loc) ∧ w.cell? ⟨b, off + k * 3 + 2, none⟩ = some (.int .i64 x.cls) ∧ (x.name.size ≤ maxLen ∧ x.loc.size ≤ maxLen ∧ In64 x.cls) := by
  obtain ⟨b, off, x, ha, hlt, hg, _, hc⟩ := h.row.get hk
  exact ⟨b, off, x, ha, hlt, hg, hc 0 _ rfl, hc 1 _ rfl, hc 2 _ rfl, h.ok _ (List.mem_of_getElem? hg)⟩
theorem WaitRow.hlen {L : List WaitD} (h : WaitRow w a len cap L) : L.length = len := h.row.hlen
theorem WaitRow.len64 {L : List WaitD} (h : WaitRow w a len cap L) : len ≤ 9223372036854775807 := h.row.len64
theorem WaitRow.below {L : List WaitD} (h : WaitRow w a len cap L) (hb : Below w.heap.size w w') : WaitRow w' a len cap L := ⟨h.row.below hb, h.ok, h.hnil⟩
theorem WaitRow.drewN {L : List WaitD} (h : WaitRow w a len cap L) (n : Nat) : WaitRow (w.drewN n) a len cap L := ⟨h.row.drewN n, h.ok, h.hnil⟩
theorem WaitRow.nil (w : World) : WaitRow w none 0 0 [] := ⟨SRow.nil, (fun x hx => by cases hx), fun _ => rfl⟩
theorem WaitRow.get {L : List WaitD} (h : WaitRow w a len cap L) {k : Nat} (hk : k < len) :
    ∃ b off x, a = some ⟨b, off, none⟩ ∧ b < w.heap.size ∧ L[k]? = some x ∧ w.cell? ⟨b, off + k * 2, none⟩ = some (.string x.name) ∧ w.cell? ⟨b, off + k * 2 + 1, none⟩ = some (.int .i64 x.ticket) ∧ (x.name.size ≤ maxLen ∧ In64 x.ticket) := by
  obtain ⟨b, off, x, ha, hlt, hg, _, hc⟩ := h.row.get hk
  exact ⟨b, off, x, ha, hlt, hg, hc 0 _ rfl, hc 1 _ rfl, h.ok _ (List.mem_of_getElem? hg)⟩
end
/-- A desk's value. -/
abbrev deskV (da : Option Addr) (dl dc : Nat) (wa : Option Addr) (wl wc : Nat) (nx : Int) (bz : Bool) : Value := .agg #[.slice da dl dc, .slice wa wl wc, .int .i64 nx, .bool bz]
/-- A desk as data. -/
structure DeskD where
  defs : List DefD
  waits : List WaitD
  next : Int
  busy : Bool
structure DeskAt (w : World) (da : Option Addr) (dl dc : Nat) (wa : Option Addr) (wl wc : Nat) (D : DeskD) : Prop where
  d : DefRow w da dl dc D.defs
  t : WaitRow w wa wl wc D.waits
  n : In64 D.next
section
variable {w w' : World} {da wa : Option Addr} {dl dc wl wc : Nat} {D : DeskD}
theorem DeskAt.below (h : DeskAt w da dl dc wa wl wc D) (hb : Below w.heap.size w w') : DeskAt w' da dl dc wa wl wc D := ⟨h.d.below hb, h.t.below hb, h.n⟩
theorem DeskAt.drewN (h : DeskAt w da dl dc wa wl wc D) (n : Nat) : DeskAt (w.drewN n) da dl dc wa wl wc D := ⟨h.d.drewN n, h.t.drewN n, h.n⟩
end
def isName (s : List UInt8) (x : DefD) : Bool := x.name.toList == s
def isCls (c : Int) (x : DefD) : Bool := x.cls == c
def namedZ (L : List DefD) (s : List UInt8) : Int := firstZ (isName s) L
def classedZ (L : List DefD) (c : Int) : Int := firstZ (isCls c) L
/-- May a definition stand at a place of the list? -/
def okD (L : List DefD) (i : Nat) (x : DefD) : Bool := customL x.name.toList && (x.loc.toList == x.name.toList || knownL x.loc.toList) && decide (0 ≤ x.cls) && decide (x.cls ≤ 11) && (namedZ L x.name.toList == (i : Int)) && (classedZ L x.cls == (i : Int))
def okT (L : List DefD) (last next : Int) (x : WaitD) : Bool := customL x.name.toList && (namedZ L x.name.toList == -1) && decide (last < x.ticket) && decide (x.ticket < next)
def defsOk (L : List DefD) : Nat → List DefD → Bool
  | _, [] => true
  | i, x :: r => okD L i x && defsOk L (i + 1) r
def waitsOk (L : List DefD) (next : Int) : Int → List WaitD → Bool
  | _, [] => true
  | last, x :: r => okT L last next x && waitsOk L next x.ticket r
def rightK (D : DeskD) : Bool := decide (0 ≤ D.next) && decide (D.next ≤ 100000) && defsOk D.defs 0 D.defs && waitsOk D.defs D.next (-1) D.waits
/-- The ticket ahead of a place. -/
def lastT (L : List WaitD) (k : Nat) : Int := match k with | 0 => -1 | k + 1 => (L[k]?.map (·.ticket)).getD (-1)
theorem defsOk_drop {L : List DefD} : ∀ {M : List DefD} {i : Nat}, defsOk L i M = true ↔ ∀ k x, M[k]? = some x → okD L (i + k) x = true
  | [], i => by simp [defsOk]
  | y :: r, i => by
    unfold defsOk
    rw [Bool.and_eq_true, defsOk_drop]
    constructor
    · rintro ⟨h1, h2⟩ k x hx
      cases k with
      | zero => simp at hx; subst hx; simpa using h1
      | succ k => have := h2 k x (by simpa using hx); rwa [show i + 1 + k = i + (k + 1) by omega] at this
    · intro h
      refine ⟨by simpa using h 0 y rfl, fun k x hx => ?_⟩
      have := h (k + 1) x (by simpa using hx)
      rwa [show i + 1 + k = i + (k + 1) by omega]
theorem defsOk_iff {L : List DefD} : defsOk L 0 L = true ↔ ∀ k x, L[k]? = some x → okD L k x = true := by
  rw [defsOk_drop]
  constructor
  · intro h k x hx; simpa using h k x hx
  · intro h k x hx; simpa using h k x hx
theorem waitsOk_iff {L : List DefD} {next : Int} : ∀ {M : List WaitD} {last : Int}, waitsOk L next last M = true ↔ ∀ k x, M[k]? = some x → okT L (match k with | 0 => last | k + 1 => lastT M (k + 1)) next x = true
  | [], last => by simp [waitsOk]
  | y :: r, last => by
    unfold waitsOk
    rw [Bool.and_eq_true, waitsOk_iff]
    constructor
    · rintro ⟨h1, h2⟩ k x hx
      cases k with
      | zero => simp at hx; subst hx; exact h1
      | succ k =>
        have := h2 k x (by simpa using hx)
        cases k with
        | zero => simpa [lastT] using this
        | succ k => simpa [lastT] using this
    · intro h
      refine ⟨h 0 y rfl, fun k x hx => ?_⟩
      have := h (k + 1) x (by simpa using hx)
      cases k with
      | zero => simpa [lastT] using this
      | succ k => simpa [lastT] using this
theorem waitsOk_all {L : List DefD} {next : Int} {M : List WaitD} : waitsOk L next (-1) M = true ↔ ∀ k x, M[k]? = some x → okT L (lastT M k) next x = true := by
  rw [waitsOk_iff]
  constructor
  · intro h k x hx
    have := h k x hx
    cases k <;> exact this
  · intro h k x hx
    have := h k x hx
    cases k <;> exact this
theorem okD_iff {L : List DefD} {i : Nat} {x : DefD} : okD L i x = true ↔ customL x.name.toList = true ∧ (x.loc.toList = x.name.toList ∨ knownL x.loc.toList = true) ∧ 0 ≤ x.cls ∧ x.cls ≤ 11 ∧ namedZ L x.name.toList = (i : Int) ∧ classedZ L x.cls = (i : Int) := by
  unfold okD
  simp only [Bool.and_eq_true, Bool.or_eq_true, beq_iff_eq, decide_eq_true_eq]
  constructor
  · rintro ⟨⟨⟨⟨⟨h1, h2⟩, h3⟩, h4⟩, h5⟩, h6⟩; exact ⟨h1, h2, h3, h4, h5, h6⟩
  · rintro ⟨h1, h2, h3, h4, h5, h6⟩; exact ⟨⟨⟨⟨⟨h1, h2⟩, h3⟩, h4⟩, h5⟩, h6⟩
theorem okT_iff {L : List DefD} {last next : Int} {x : WaitD} : okT L last next x = true ↔ customL x.name.toList = true ∧ namedZ L x.name.toList = -1 ∧ last < x.ticket ∧ x.ticket < next := by
  unfold okT
  simp only [Bool.and_eq_true, beq_iff_eq, decide_eq_true_eq]
  constructor
  · rintro ⟨⟨⟨h1, h2⟩, h3⟩, h4⟩; exact ⟨h1, h2, h3, h4⟩
  · rintro ⟨h1, h2, h3, h4⟩; exact ⟨⟨⟨h1, h2⟩, h3⟩, h4⟩
/-- A desk that is right, in parts. -/
structure RightK (D : DeskD) : Prop where
  n0 : 0 ≤ D.next
  n1 : D.next ≤ 100000
  d : ∀ (k : Nat) (x : DefD), D.defs[k]? = some x → customL x.name.toList = true ∧ (x.loc.toList = x.name.toList ∨ knownL x.loc.toList = true) ∧ 0 ≤ x.cls ∧ x.cls ≤ 11 ∧ namedZ D.defs x.name.toList = (k : Int) ∧ classedZ D.defs x.cls = (k : Int)
  t : ∀ (k : Nat) (x : WaitD), D.waits[k]? = some x → customL x.name.toList = true ∧ namedZ D.defs x.name.toList = -1 ∧ lastT D.waits k < x.ticket ∧ x.ticket < D.next
theorem rightK_iff {D : DeskD} : rightK D = true ↔ RightK D := by
  unfold rightK
  simp only [Bool.and_eq_true, decide_eq_true_eq, defsOk_iff, waitsOk_all, okD_iff, okT_iff]
  constructor
  · rintro ⟨⟨⟨h1, h2⟩, h3⟩, h4⟩; exact ⟨h1, h2, h3, h4⟩
  · rintro ⟨h1, h2, h3, h4⟩; exact ⟨⟨⟨h1, h2⟩, h3⟩, h4⟩
/-- For an element: its own name's definition, else that of its Is. -/
def isOwn (l : List UInt8) (x : DefD) : Bool := x.loc.toList == l && x.name.toList == l
def isIs (l s : List UInt8) (x : DefD) : Bool := x.loc.toList == l && x.name.toList == s
def findZ2 (L : List DefD) (l s : List UInt8) : Int := if 0 ≤ firstZ (isOwn l) L then firstZ (isOwn l) L else firstZ (isIs l s) L
def mayE (D : DeskD) (classes : Int) (s base : List UInt8) (c : Int) : Int :=
  if rightK D = false ∨ c < 0 ∨ classes ≤ c ∨ 11 < c then 1
  else if customL s = false then 4
  else if 0 ≤ namedZ D.defs s ∨ 0 ≤ classedZ D.defs c then 10
  else if base ≠ [] ∧ knownL base = false then 6
  else if D.busy = true then 7 else 0
def newDef (s base : ByteArray) (c : Int) : DefD := ⟨s, if base.toList = [] then s else base, c⟩
def toldZ (L : List WaitD) (s : List UInt8) : List Int := (L.filter (fun x => x.name.toList == s)).map (·.ticket)
def restT (L : List WaitD) (s : List UInt8) : List WaitD := L.filter (fun x => !(x.name.toList == s))
/-- What comes of defining, where it may be. -/
def addK (D : DeskD) (s base : ByteArray) (c : Int) : DeskD := ⟨D.defs ++ [newDef s base c], restT D.waits s.toList, D.next, false⟩
def addR9 (D : DeskD) (classes : Int) (s base : ByteArray) (c : Int) : DeskD × Int × List Int × Int :=
  if mayE D classes s.toList base.toList c = 0 then (addK D s base c, (D.defs.length : Int), toldZ D.waits s.toList, 0) else (D, -1, [], mayE D classes s.toList base.toList c)
def awaitE (D : DeskD) (s : List UInt8) : Int := if rightK D = false then 1 else if customL s = false then 4 else if 100000 ≤ D.next then 3 else 0
def awaitK (D : DeskD) (s : ByteArray) : DeskD := ⟨D.defs, if namedZ D.defs s.toList < 0 then D.waits ++ [⟨s, D.next⟩] else D.waits, D.next + 1, D.busy⟩
def awaitR (D : DeskD) (s : ByteArray) : DeskD × Int × Int × Int :=
  if awaitE D s.toList = 0 then (awaitK D s, D.next, namedZ D.defs s.toList, 0) else (D, -1, -1, awaitE D s.toList)
end Go.Proofs.Ytioeagadhnnajaa
