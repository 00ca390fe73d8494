/- Texts joined in build order: NameFacts AttrPure StepRows. -/
import Derived.Test.YtnjoimedilonnaaGreatC02
import Derived.Test.YtnjoimedilonnaaGreatC01
import Derived.WalkKit
import Derived.Below
import Derived.WalkSmall
namespace Go.Proofs.YtnjoimedilonnaaGreat
theorem smallB_nat (c : UInt8) : ((smallB c).toNat : Int) = if capI (c.toNat : Int) then (c.toNat : Int) + 32 else (c.toNat : Int) := by
  unfold smallB
  by_cases h : capI (c.toNat : Int) = true
  · have hb := of_decide_eq_true h
    rw [if_pos h, if_pos h, UInt8.toNat_add]
    have : (32 : UInt8).toNat = 32 := rfl
    rw [this]
    omega
  · rw [if_neg h, if_neg h]
theorem cap_small (c : UInt8) : capI ((smallB c).toNat : Int) = false := by
  rw [smallB_nat]
  by_cases h : capI (c.toNat : Int) = true
  · rw [if_pos h]
    have hb := of_decide_eq_true h
    unfold capI; simp; omega
  · rw [if_neg h]; simpa using h
theorem smallL_length (l : List UInt8) : (smallL l).length = l.length := by simp [smallL]
end Go.Proofs.YtnjoimedilonnaaGreat
namespace Go.Proofs.YtnjoimedilonnaaGreat
open Go.RowKit
abbrev AL := List (ByteArray × ByteArray)
def encA (x : ByteArray × ByteArray) : List Value := [.string x.1, .string x.2]
theorem encA_len (x : ByteArray × ByteArray) : (encA x).length = 2 := rfl
theorem encA_one (x : ByteArray × ByteArray) : ∀ u ∈ encA x, u.oneCell' = true := by
  intro u hu
  simp [encA] at hu
  rcases hu with rfl | rfl <;> rfl
structure AttrRow (w : World) (a : Option Addr) (len cap : Nat) (L : AL) : Prop where
  row : SRow encA 2 w a len cap L
  small : ∀ x ∈ L, x.1.size ≤ maxLen ∧ x.2.size ≤ maxLen
  hnil : a = none → cap = 0
theorem AttrRow.hlen {w : World} {a : Option Addr} {len cap : Nat} {L : AL} (h : AttrRow w a len cap L) : L.length = len := h.row.hlen
theorem AttrRow.below {w w' : World} {a : Option Addr} {len cap : Nat} {L : AL} (h : AttrRow w a len cap L) (hb : Below w.heap.size w w') : AttrRow w' a len cap L := ⟨h.row.below hb, h.small, h.hnil⟩
theorem AttrRow.drewN {w : World} {a : Option Addr} {len cap : Nat} {L : AL} (h : AttrRow w a len cap L) (n : Nat) : AttrRow (w.drewN n) a len cap L := ⟨h.row.drewN n, h.small, h.hnil⟩
theorem AttrRow.drew {w : World} {a : Option Addr} {len cap : Nat} {L : AL} (h : AttrRow w a len cap L) : AttrRow w.drew a len cap L := ⟨h.row.drew, h.small, h.hnil⟩
theorem AttrRow.get {w : World} {a : Option Addr} {len cap : Nat} {L : AL} (h : AttrRow w a len cap L) {k : Nat} (hk : k < len) :
    ∃ b off n v, a = some ⟨b, off, none⟩ ∧ b < w.heap.size ∧ L[k]? = some (n, v) ∧ w.cell? ⟨b, off + k * 2, none⟩ = some (.string n) ∧ w.cell? ⟨b, off + k * 2 + 1, none⟩ = some (.string v) ∧ n.size ≤ maxLen ∧ v.size ≤ maxLen := by
  obtain ⟨b, off, x, ha, hlt, hg, _, hc⟩ := h.row.get hk
  have hs := h.small _ (List.mem_of_getElem? hg)
  exact ⟨b, off, x.1, x.2, ha, hlt, hg, hc 0 _ rfl, hc 1 _ rfl, hs.1, hs.2⟩
theorem AttrRow.len64 {w : World} {a : Option Addr} {len cap : Nat} {L : AL} (h : AttrRow w a len cap L) : len ≤ 9223372036854775807 := h.row.len64
def keyIs (n : List UInt8) (x : ByteArray × ByteArray) : Bool := x.1.toList == n
def atN (L : AL) (n : List UInt8) : Nat := L.findIdx (keyIs n)
def atL (L : AL) (n : List UInt8) : Int := if atN L n < L.length then (atN L n : Int) else -1
theorem atN_step {L : AL} {n : List UInt8} {k : Nat} {x : ByteArray × ByteArray} (h : k ≤ atN L n) (hk : L[k]? = some x) (hx : keyIs n x = false) : k + 1 ≤ atN L n := by
  obtain ⟨hl, hg⟩ := List.getElem?_eq_some_iff.1 hk
  by_cases e : k = atN L n
  · have h1 : atN L n < L.length := by omega
    have h2 : keyIs n (L[atN L n]'h1) = true := List.findIdx_getElem (w := h1)
    have h3 : (L[atN L n]'h1) = x := by
      rw [← hg]; congr 1; exact e.symm
    rw [h3, hx] at h2
    cases h2
  · omega
theorem atN_here {L : AL} {n : List UInt8} {k : Nat} {x : ByteArray × ByteArray} (h : k ≤ atN L n) (hk : L[k]? = some x) (hx : keyIs n x = true) : atN L n = k := by
  obtain ⟨hl, hg⟩ := List.getElem?_eq_some_iff.1 hk
  by_cases e : k < atN L n
  · have := List.not_of_lt_findIdx e
    rw [hg, hx] at this
    cases this
  · omega
theorem atL_here {L : AL} {n : List UInt8} {k : Nat} {x : ByteArray × ByteArray} (h : k ≤ atN L n) (hk : L[k]? = some x) (hx : keyIs n x = true) : atL L n = (k : Int) := by
  have := atN_here h hk hx
  obtain ⟨hl, hg⟩ := List.getElem?_eq_some_iff.1 hk
  unfold atL
  rw [this, if_pos hl]
theorem atL_none {L : AL} {n : List UInt8} {k : Nat} (h : k ≤ atN L n) (hk : L.length ≤ k) : atL L n = -1 := by
  unfold atL
  rw [if_neg (by omega)]
end Go.Proofs.YtnjoimedilonnaaGreat
namespace Go.Proofs.YtnjoimedilonnaaGreat
open Go.RowKit
theorem step_append_rows {P : Program} {α : Type} {enc : α → List Value} {w : World} {ops : Array Oper} {o : Oper} {a : Act} {K : Act → World → Prop} {Q : Exit → Act → World → Prop} {E : Prop} (hgd : o.guard = none) (s x : Operand) (t : TypeId)
    (ho : o.op = .call { callee := .builtin .append, args := #[s, x], argTypes := #[t, t] })
    (e : TypeId) (i : TypeInfo) (z : Value) (size bytes : Nat) (ht : P.underlying t = some (.slice e)) (hi : P.info? e = some i) (hz : i.zero = some z)
    (hsize : i.size = size) (hby : i.bytes = bytes) (hzs : z.cells.size = size) (hsz : 0 < size) (base : Nat)
    (v : Value) (n : Nat) (L M : List α) (hs : a.eval s = v) (hown : w.ownsRow base e size v n (L.flatMap enc)) (ad : Option Addr) (m c : Nat) (hx : a.eval x = .slice ad m c) (hsrc : SRow enc size w ad m c M) (h1 : ∀ x ∈ M, ∀ u ∈ enc x, u.oneCell' = true)
    (h63 : n + m ≤ maxLen) (hbytes : (n + m) * bytes ≤ 140737488355328) (hbase : base ≤ w.heap.size) (hnil : ad = none → c = 0)
    (h : ∀ v' w', w'.ownsRow base e size v' (n + m) ((L ++ M).flatMap enc) → w.grownBy w' v.ownBlock → (v'.ownBlock = v.ownBlock ∨ v'.ownBlock = some w.heap.size) → K (a.put o.dst v') w') :
    if Region.wanted o (yielded ops a.tmps) = true then Oper.wp P o a w K Q else E := by
  have hw : Region.wanted o (yielded ops a.tmps) = true := by simp [Region.wanted, hgd]
  rw [if_pos hw]
  obtain ⟨v', w', hr, h2, h3, h4⟩ := run_append_rows (P := P) w t o.type e i z size bytes ht hi hz hsize hby hzs hsz base v n L M hown ad m c hsrc h1 h63 hbytes hbase hnil
  unfold Oper.wp execOp
  simp only [ho, resolve, invoke, builtin, Sem.run_bind, Sem.run_pure, Result.andThen_ok, List.map_toArray, List.map_cons, List.map_nil, hs, hx, hr]
  exact h v' w' h2 h3 h4
end Go.Proofs.YtnjoimedilonnaaGreat
