/- Texts joined in build order: NameFacts SRows AttrPure ForestRow AttrRightMath AttrEq. -/
import Derived.Test.YtkomeijlljcdgaaGreatP01
import Derived.Below
import Derived.WalkSmall
import Derived.Maps.AppendAt
import Derived.Laws.AppendOwnNone
import Derived.Deep.AppendLies
import Derived.WideShapes
import Derived.Laws.OwnMore
import Derived.Laws.Rows
import Derived.WalkKit
import Derived.Test.YtkomeijlljcdgaaGreatChecked
import Derived.WalkLawsBesides
import Derived.Lib.Hide
/- Plain facts on the lists of NamePure: small forms, known and custom names, kinds. -/
namespace Go.Proofs.YtkomeijlljcdgaaGreat
theorem smallB_nat (c : UInt8) : ((smallB c).toNat : Int) = if capI (c.toNat : Int) then (c.toNat : Int) + 32 else (c.toNat : Int) := by
  unfold smallB
  by_cases h : capI (c.toNat : Int) = true
  · have hb := of_decide_eq_true h
    rw [if_pos h, if_pos h, UInt8.toNat_add]
    have : (32 : UInt8).toNat = 32 := rfl
    rw [this]
    omega
  · rw [if_neg h, if_neg h]
theorem sign_small (c : UInt8) : signB (smallB c) = signB c := by
  unfold signB
  rw [smallB_nat, Bool.eq_iff_iff]
  by_cases h : capI (c.toNat : Int) = true
  · rw [if_pos h]
    have hb := of_decide_eq_true h
    unfold signI alphI lowI capI digI; simp; omega
  · rw [if_neg h]
theorem head_small (c : UInt8) : headB (smallB c) = headB c := by
  unfold headB
  rw [smallB_nat, Bool.eq_iff_iff]
  by_cases h : capI (c.toNat : Int) = true
  · rw [if_pos h]
    have hb := of_decide_eq_true h
    unfold headI alphI lowI capI; simp; omega
  · rw [if_neg h]
theorem cap_small (c : UInt8) : capI ((smallB c).toNat : Int) = false := by
  rw [smallB_nat]
  by_cases h : capI (c.toNat : Int) = true
  · rw [if_pos h]
    have hb := of_decide_eq_true h
    unfold capI; simp; omega
  · rw [if_neg h]; simpa using h
theorem smallB_twice (c : UInt8) : smallB (smallB c) = smallB c := by
  have := cap_small c
  unfold smallB at *
  rw [if_neg (by rw [this]; decide)]
theorem smallL_twice (l : List UInt8) : smallL (smallL l) = smallL l := by
  unfold smallL
  rw [List.map_map]
  exact List.map_congr_left fun c _ => smallB_twice c
theorem smallL_length (l : List UInt8) : (smallL l).length = l.length := by simp [smallL]
theorem smallL_append (l m : List UInt8) : smallL (l ++ m) = smallL l ++ smallL m := by simp [smallL]
theorem all_small : ∀ l : List UInt8, (smallL l).all signB = l.all signB
  | [] => rfl
  | c :: l => by
    show (signB (smallB c) && (smallL l).all signB) = (signB c && l.all signB)
    rw [sign_small, all_small l]
theorem headD_small (l : List UInt8) : headB ((smallL l).headD 0) = headB (l.headD 0) := by
  cases l with
  | nil => rfl
  | cons c l => exact head_small c
theorem right_small (l : List UInt8) : rightL (smallL l) = rightL l := by
  unfold rightL
  rw [all_small, headD_small, smallL_length]
theorem of_known {l : List UInt8} {p : List UInt8 → Bool} (h : knownL l = true) (hp : ([[97], [98], [98, 117, 116, 116, 111, 110], [100, 105, 118], [102, 105, 101, 108, 100, 115, 101, 116], [102, 111, 114, 109], [105], [105, 110, 112, 117, 116], [108, 97, 98, 101, 108], [108, 101, 103, 101, 110, 100], [108, 105], [111, 112, 116, 105, 111, 110], [111, 117, 116, 112, 117, 116], [112], [115, 101, 108, 101, 99, 116], [115, 112, 97, 110], [116, 101, 109, 112, 108, 97, 116, 101], [116, 101, 120, 116, 97, 114, 101, 97], [117, 108]] : List (List UInt8)).all p = true) : p l = true :=
  List.all_eq_true.1 hp l (List.contains_iff_mem.1 h)
theorem of_reserved {l : List UInt8} {p : List UInt8 → Bool} (h : reservedL l = true) (hp : ([[97, 110, 110, 111, 116, 97, 116, 105, 111, 110, 45, 120, 109, 108], [99, 111, 108, 111, 114, 45, 112, 114, 111, 102, 105, 108, 101], [102, 111, 110, 116, 45, 102, 97, 99, 101], [102, 111, 110, 116, 45, 102, 97, 99, 101, 45, 115, 114, 99], [102, 111, 110, 116, 45, 102, 97, 99, 101, 45, 117, 114, 105], [102, 111, 110, 116, 45, 102, 97, 99, 101, 45, 102, 111, 114, 109, 97, 116], [102, 111, 110, 116, 45, 102, 97, 99, 101, 45, 110, 97, 109, 101], [109, 105, 115, 115, 105, 110, 103, 45, 103, 108, 121, 112, 104]] : List (List UInt8)).all p = true) : p l = true :=
  List.all_eq_true.1 hp l (List.contains_iff_mem.1 h)
theorem known_dash {l : List UInt8} (h : knownL l = true) : dashL l = false := by
  have := of_known (p := fun l => !dashL l) h (by decide)
  simpa using this
theorem known_small {l : List UInt8} (h : knownL l = true) : smallL l = l := by
  have := of_known (p := fun l => smallL l == l) h (by decide)
  simpa using this
theorem known_right {l : List UInt8} (h : knownL l = true) : rightL l = true := of_known (p := rightL) h (by decide)
theorem reserved_long {l : List UInt8} (h : reservedL l = true) : 9 ≤ l.length := by
  have := of_reserved (p := fun l => decide (9 ≤ l.length)) h (by decide)
  simpa using this
theorem custom_parts {l : List UInt8} (h : customL l = true) : rightL l = true ∧ smallL l = l ∧ lowI ((l.headD 0).toNat : Int) = true ∧ dashL l = true ∧ reservedL l = false := by
  unfold customL at h
  simpa [and_assoc] using h
theorem custom_known {l : List UInt8} (h : customL l = true) : knownL l = false := by
  by_cases hk : knownL l = true
  · have h1 := known_dash hk
    rw [(custom_parts h).2.2.2.1] at h1
    cases h1
  · simpa using hk
theorem kind_none {l : List UInt8} (h : rightL l = false) : kindL l = 0 := by unfold kindL; rw [if_neg (by rw [h]; decide)]
theorem kind_custom {l : List UInt8} (h : customL l = true) : kindL l = 1 := by unfold kindL; rw [if_pos (custom_parts h).1, if_pos h]
theorem kind_known {l : List UInt8} (h : knownL l = true) : kindL l = 2 := by
  have hc : customL l = false := by
    by_cases hc : customL l = true
    · rw [custom_known hc] at h; cases h
    · simpa using hc
  unfold kindL
  rw [if_pos (known_right h), if_neg (by rw [hc]; decide), if_pos h]
theorem kind_other {l : List UInt8} (h : rightL l = true) (hc : customL l = false) (hk : knownL l = false) : kindL l = 3 := by
  unfold kindL
  rw [if_pos h, if_neg (by rw [hc]; decide), if_neg (by rw [hk]; decide)]
end Go.Proofs.YtkomeijlljcdgaaGreat
/- A slice in memory that reads as a list of data, each element a fixed number of cells: what it says, how it is kept, and append onto a slice of the call's own. No program. -/
namespace Go.Proofs.YtkomeijlljcdgaaGreat
open Go.RowKit
/-- The slice value '.slice a len cap' reads in w as the list L, each element x as the cells 'enc x'. -/
structure SRow {α : Type} (enc : α → List Value) (size : Nat) (w : World) (a : Option Addr) (len cap : Nat) (L : List α) : Prop where
  hlen : L.length = len
  hcap : len ≤ cap
  hmax : cap ≤ maxLen
  henc : ∀ x ∈ L, (enc x).length = size
  cells : len = 0 ∨ ∃ b off, a = some ⟨b, off, none⟩ ∧ b < w.heap.size ∧ ∀ i x j v, L[i]? = some x → (enc x)[j]? = some v → w.cell? ⟨b, off + i * size + j, none⟩ = some v
section
variable {α : Type} {enc : α → List Value} {size : Nat} {w w' : World} {a : Option Addr} {len cap : Nat} {L : List α}
theorem SRow.below (h : SRow enc size w a len cap L) (hb : Below w.heap.size w w') : SRow enc size w' a len cap L := by
  refine ⟨h.hlen, h.hcap, h.hmax, h.henc, ?_⟩
  rcases h.cells with h0 | ⟨b, off, ha, hlt, hc⟩
  · exact .inl h0
  · refine .inr ⟨b, off, ha, Nat.lt_of_lt_of_le hlt hb.size, fun i x j v hx hv => ?_⟩
    rw [hb.cell (p := ⟨b, off + i * size + j, none⟩) hlt]
    exact hc i x j v hx hv
/-- The same below a smaller bound, where the block is known to lie below it. -/
theorem SRow.keep (h : SRow enc size w a len cap L) (hs : w.heap.size ≤ w'.heap.size) (hk : ∀ b off, a = some ⟨b, off, none⟩ → 0 < len → ∀ o, w'.cell? ⟨b, o, none⟩ = w.cell? ⟨b, o, none⟩) : SRow enc size w' a len cap L := by
  refine ⟨h.hlen, h.hcap, h.hmax, h.henc, ?_⟩
  rcases Nat.eq_zero_or_pos len with h0 | h0
  · exact .inl h0
  · rcases h.cells with h1 | ⟨b, off, ha, hlt, hc⟩
    · omega
    · refine .inr ⟨b, off, ha, Nat.lt_of_lt_of_le hlt hs, fun i x j v hx hv => ?_⟩
      rw [hk b off ha h0]
      exact hc i x j v hx hv
theorem SRow.drewN (h : SRow enc size w a len cap L) (n : Nat) : SRow enc size (w.drewN n) a len cap L := ⟨h.hlen, h.hcap, h.hmax, h.henc, h.cells⟩
theorem SRow.drew (h : SRow enc size w a len cap L) : SRow enc size w.drew a len cap L := ⟨h.hlen, h.hcap, h.hmax, h.henc, h.cells⟩
theorem SRow.len64 (h : SRow enc size w a len cap L) : len ≤ 9223372036854775807 := by
  have h1 := h.hcap; have h2 := h.hmax; unfold maxLen at h2; omega
theorem SRow.nil : SRow enc size w none 0 0 ([] : List α) := ⟨rfl, Nat.le_refl _, by unfold maxLen; omega, by simp, .inl rfl⟩
/-- One element. -/
theorem SRow.get (h : SRow enc size w a len cap L) {k : Nat} (hk : k < len) :
    ∃ b off x, a = some ⟨b, off, none⟩ ∧ b < w.heap.size ∧ L[k]? = some x ∧ (enc x).length = size ∧ ∀ j v, (enc x)[j]? = some v → w.cell? ⟨b, off + k * size + j, none⟩ = some v := by
  rcases h.cells with h0 | ⟨b, off, ha, hlt, hc⟩
  · omega
  · have hl : k < L.length := by rw [h.hlen]; exact hk
    have hg : L[k]? = some (L[k]'hl) := List.getElem?_eq_getElem hl
    exact ⟨b, off, _, ha, hlt, hg, h.henc _ (List.mem_of_getElem? hg), fun j v hv => hc k _ j v hg hv⟩
end
theorem flat_len {α : Type} {enc : α → List Value} {size : Nat} : ∀ {L : List α}, (∀ x ∈ L, (enc x).length = size) → (L.flatMap enc).length = L.length * size
  | [], _ => by simp
  | x :: r, h => by
    rw [List.flatMap_cons, List.length_append, h x (by simp), flat_len (fun y hy => h y (by simp [hy])), List.length_cons, Nat.add_mul]
    omega
theorem flat_get {α : Type} {enc : α → List Value} {size : Nat} : ∀ {L : List α} (_ : ∀ x ∈ L, (enc x).length = size) {i j : Nat} {x : α}, L[i]? = some x → j < size → (L.flatMap enc)[i * size + j]? = (enc x)[j]?
  | [], _, _, _, _, hx, _ => by simp at hx
  | y :: r, h, 0, j, x, hx, hj => by
    simp at hx; subst hx
    rw [List.flatMap_cons, List.getElem?_append_left (by rw [h y (by simp)]; omega)]
    congr 1
    omega
  | y :: r, h, i + 1, j, x, hx, hj => by
    have hy := h y (by simp)
    rw [List.flatMap_cons, List.getElem?_append_right (by rw [hy, Nat.add_mul]; omega), hy]
    have : (i + 1) * size + j - size = i * size + j := by rw [Nat.add_mul]; omega
    rw [this]
    exact flat_get (fun z hz => h z (by simp [hz])) (by simpa using hx) hj
theorem flat_at {α : Type} {enc : α → List Value} {size : Nat} : ∀ {L : List α} (_ : ∀ x ∈ L, (enc x).length = size) {k : Nat} {u : Value}, (L.flatMap enc)[k]? = some u → ∃ i j x, k = i * size + j ∧ j < size ∧ L[i]? = some x ∧ (enc x)[j]? = some u
  | [], _, _, _, hu => by simp at hu
  | y :: r, h, k, u, hu => by
    have hy := h y (by simp)
    rw [List.flatMap_cons] at hu
    by_cases hk : k < size
    · rw [List.getElem?_append_left (by omega)] at hu
      exact ⟨0, k, y, by omega, hk, rfl, hu⟩
    · rw [List.getElem?_append_right (by omega), hy] at hu
      obtain ⟨i, j, x, e, hj, hx, hv⟩ := flat_at (fun z hz => h z (by simp [hz])) hu
      exact ⟨i + 1, j, x, by rw [Nat.add_mul]; omega, hj, by simpa using hx, hv⟩
section
variable {α : Type} {enc : α → List Value} {size : Nat} {w w' : World} {a : Option Addr} {len cap : Nat} {L : List α}
theorem SRow.flat {b off : Nat} (h : SRow enc size w (some ⟨b, off, none⟩) len cap L) : ∀ k u, (L.flatMap enc)[k]? = some u → w.cell? ((⟨b, off, none⟩ : Addr).add k) = some u := by
  intro k u hu
  obtain ⟨i, j, x, rfl, hj, hx, hv⟩ := flat_at h.henc hu
  rw [Go.WideShapes.add_plain, ← Nat.add_assoc]
  rcases h.cells with h0 | ⟨b', off', ha, _, hc⟩
  · have := h.hlen
    obtain ⟨hl, _⟩ := List.getElem?_eq_some_iff.1 hx
    omega
  · injection ha with ha
    injection ha with h1 h2
    subst h1; subst h2
    exact hc i x j u hx hv
/-- What the call owns, read as a list. -/
theorem SRow.of_own {base : Nat} {e : TypeId} {v : Value} {n : Nat} (henc : ∀ x ∈ L, (enc x).length = size) (hl : L.length = n) (h : w.ownsRow base e size v n (L.flatMap enc)) :
    ∃ a cap, v = .slice a n cap ∧ SRow enc size w a n cap L ∧ (∀ b off, a = some ⟨b, off, none⟩ → base ≤ b) := by
  rcases h.2 with ⟨rfl, h0⟩ | ⟨g, cap, cur, rfl, hb, hg, hnc, hcm, hcs, htk⟩
  · subst h0
    have hL : L = [] := List.eq_nil_of_length_eq_zero hl
    subst hL
    exact ⟨none, 0, rfl, SRow.nil, fun b off hb => by cases hb⟩
  · refine ⟨_, cap, rfl, ⟨hl, hnc, hcm, henc, .inr ⟨g, 0, rfl, ?_, fun i x j v hx hv => ?_⟩⟩, fun b off h => by injection h with h; injection h with h1; omega⟩
    · rcases Nat.lt_or_ge g w.heap.size with h | h
      · exact h
      · rw [Array.getElem?_eq_none h] at hg; cases hg
    · have hj : j < size := by
        obtain ⟨hjl, _⟩ := List.getElem?_eq_some_iff.1 hv
        rw [henc x (List.mem_of_getElem? hx)] at hjl
        exact hjl
      have h1 := flat_get henc hx hj
      rw [hv] at h1
      have := h.cells (g := g) rfl (i * size + j) v h1
      rw [Go.WideShapes.add_plain] at this
      rw [Nat.zero_add] at this ⊢
      exact this
end
section
variable {P : Program} {α : Type} {enc : α → List Value}
/-- append(v, src...): v owned by the call, src any slice that reads as a list. -/
theorem run_append_rows (w : World) (t ty e : TypeId) (i : TypeInfo) (z : Value) (size bytes : Nat) (ht : P.underlying t = some (.slice e)) (hi : P.info? e = some i) (hz : i.zero = some z)
    (hsize : i.size = size) (hby : i.bytes = bytes) (hzs : z.cells.size = size) (hsz : 0 < size) (base : Nat)
    (v : Value) (n : Nat) (L M : List α) (hown : w.ownsRow base e size v n (L.flatMap enc)) (a : Option Addr) (m c : Nat) (hsrc : SRow enc size w a m c M) (h1 : ∀ x ∈ M, ∀ u ∈ enc x, u.oneCell' = true)
    (h63 : n + m ≤ maxLen) (hbytes : (n + m) * bytes ≤ 140737488355328) (hbase : base ≤ w.heap.size) (hnil : a = none → c = 0) :
    ∃ v' w', (Builtin.append_ #[t, t] ty #[v, .slice a m c]).run P w = .ok v' w' ∧ w'.ownsRow base e size v' (n + m) ((L ++ M).flatMap enc) ∧ w.grownBy w' v.ownBlock ∧ (v'.ownBlock = v.ownBlock ∨ v'.ownBlock = some w.heap.size) := by
  rw [List.flatMap_append]
  have hone : ∀ u ∈ M.flatMap enc, u.oneCell' = true := by
    intro u hu
    obtain ⟨x, hx, hxu⟩ := List.mem_flatMap.1 hu
    exact h1 x hx u hxu
  have hfl : (M.flatMap enc).length = m * size := by rw [flat_len hsrc.henc, hsrc.hlen]
  rcases a with _ | ad
  · have hm : m = 0 := by
      rcases hsrc.cells with h0 | ⟨b, off, ha, _⟩
      · exact h0
      · cases ha
    subst hm
    have hM : M = [] := List.eq_nil_of_length_eq_zero hsrc.hlen
    subst hM
    rw [hnil rfl]
    refine ⟨v, w, run_append_owned_none (P := P) (w := w) base t ty e i size ht hi v n _ hown, by simpa using hown, World.grownBy.refl w _, .inl rfl⟩
  · have hnews : ∀ j u, (M.flatMap enc)[j]? = some u → w.cell? (ad.add j) = some u := by
      rcases Nat.eq_zero_or_pos m with h0 | h0
      · intro j u hu
        have hM : M = [] := List.eq_nil_of_length_eq_zero (by rw [hsrc.hlen, h0])
        rw [hM] at hu
        simp at hu
      · rcases hsrc.cells with h' | ⟨b, off, ha, _⟩
        · omega
        · injection ha with ha
          subst ha
          exact hsrc.flat
    obtain ⟨v', w', hr, h2, h3, _, h5⟩ := run_append_own_at (P := P) w base t ty e i z size bytes ht hi hz hsize hby hzs hsz v n _ hown ad m c _ hfl hnews hone h63 hbytes hbase
    exact ⟨v', w', hr, h2, h3, h5⟩
/-- At the operation: for the walk. -/
theorem wpList_append_rows {w : World} {ops : Array Oper} {rest : List Oper} {o : Oper} {a : Act} {Q : Exit → Act → World → Prop} (hgd : o.guard = none) (s x : Operand) (t : TypeId)
    (ho : o.op = .call { callee := .builtin .append, args := #[s, x], argTypes := #[t, t] })
    (e : TypeId) (i : TypeInfo) (z : Value) (size bytes : Nat) (ht : P.underlying t = some (.slice e)) (hi : P.info? e = some i) (hz : i.zero = some z)
    (hsize : i.size = size) (hby : i.bytes = bytes) (hzs : z.cells.size = size) (hsz : 0 < size) (base : Nat)
    (v : Value) (n : Nat) (L M : List α) (hs : a.eval s = v) (hown : w.ownsRow base e size v n (L.flatMap enc)) (ad : Option Addr) (m c : Nat) (hx : a.eval x = .slice ad m c) (hsrc : SRow enc size w ad m c M) (h1 : ∀ x ∈ M, ∀ u ∈ enc x, u.oneCell' = true)
    (h63 : n + m ≤ maxLen) (hbytes : (n + m) * bytes ≤ 140737488355328) (hbase : base ≤ w.heap.size) (hnil : ad = none → c = 0)
    (h : ∀ v' w', w'.ownsRow base e size v' (n + m) ((L ++ M).flatMap enc) → w.grownBy w' v.ownBlock → (v'.ownBlock = v.ownBlock ∨ v'.ownBlock = some w.heap.size) → wpList P ops Q rest (a.put o.dst v') w') :
    wpList P ops Q (o :: rest) a w := by
  refine wpList_plain hgd fun K hK => ?_
  obtain ⟨v', w', hr, h2, h3, h4⟩ := run_append_rows (P := P) w t o.type e i z size bytes ht hi hz hsize hby hzs hsz base v n L M hown ad m c hsrc h1 h63 hbytes hbase hnil
  unfold Oper.wp execOp
  simp only [ho, resolve, invoke, builtin, Sem.run_bind, Sem.run_pure, Result.andThen_ok, List.map_toArray, List.map_cons, List.map_nil, hs, hx, hr]
  exact hK _ _ (h v' w' h2 h3 h4)
end
/-- Behind an append onto a slice that was just made. -/
theorem below_new {w W W1 : World} {o : Obj} {n c : Nat} (h : Below w.heap.size w W) (hg : (W.alloc o).grownBy W1 (Value.ownBlock (.slice (some ⟨W.heap.size, 0, none⟩) n c))) : Below w.heap.size w W1 :=
  (h.alloc h.size o).grown hg (by have := h.size; simp; omega) (fun k hk => by
    have e : W.heap.size = k := by injection hk
    have := h.size
    omega)
/-- Behind an append onto a slice of the call's own. -/
theorem below_own {w W W1 : World} {o : Obj} {e : TypeId} {size n : Nat} {v : Value} {xs : List Value} (h : Below w.heap.size w W) (hown : W.ownsRow w.heap.size e size v n xs) (hg : (W.alloc o).grownBy W1 v.ownBlock) : Below w.heap.size w W1 :=
  (h.alloc h.size o).grown hg (by have := h.size; simp; omega) (fun k hk => (hown.lt k hk).1)
/-- A slice of the call's own, behind a callee that makes new memory alone. -/
theorem own_below {W W1 : World} {base : Nat} {e : TypeId} {size n : Nat} {v : Value} {xs : List Value} (hown : W.ownsRow base e size v n xs) (hb : Below W.heap.size W W1) : W1.ownsRow base e size v n xs := by
  refine ⟨hown.1, ?_⟩
  rcases hown.2 with h | ⟨g, cap, cur, hv, hbg, hg, h1, h2, h3, h4⟩
  · exact .inl h
  · have hlt : g < W.heap.size := by
      rcases Nat.lt_or_ge g W.heap.size with h | h
      · exact h
      · rw [Array.getElem?_eq_none h] at hg; cases hg
    exact .inr ⟨g, cap, cur, hv, hbg, (hb.block g hlt).trans hg, h1, h2, h3, h4⟩
theorem own_empty {α : Type} {enc : α → List Value} {size : Nat} (w : World) (base : Nat) (e : TypeId) (h : base ≤ w.heap.size) : (w.alloc (.cells #[] e)).ownsRow base e size (.slice (some ⟨w.heap.size, 0, none⟩) 0 0) 0 (([] : List α).flatMap enc) := by
  have := World.ownsRow_lit (base := base) (e := e) (size := size) w #[] 0 h (by unfold maxLen; omega) (by simp)
  simpa using this
theorem own_one {α : Type} {enc : α → List Value} {size : Nat} (w : World) (e : TypeId) (x : α) (cs : Array Value) (hx : enc x = cs.toList) (hs : cs.size = size) : SRow enc size (w.alloc (.cells cs e)) (some ⟨w.heap.size, 0, none⟩) 1 1 [x] := by
  refine ⟨rfl, Nat.le_refl _, by unfold maxLen; omega, fun y hy => ?_, .inr ⟨_, _, rfl, by simp, fun i y j v hy hv => ?_⟩⟩
  · simp at hy; subst hy
    rw [hx, Array.length_toList, hs]
  · obtain ⟨hl, hg⟩ := List.getElem?_eq_some_iff.1 hy
    have hi : i = 0 := by simpa using hl
    subst hi
    simp at hg; subst hg
    rw [hx, Array.getElem?_toList] at hv
    rw [cell_of_row (w.alloc (.cells cs e)) w.heap.size (0 + 0 * size + j) cs e (0, 0) (heap_alloc_new w _)]
    simpa using hv
end Go.Proofs.YtkomeijlljcdgaaGreat
/- Lists of attributes as data: what package attr computes, said over lists of pairs of byte arrays. -/
namespace Go.Proofs.YtkomeijlljcdgaaGreat
open Go.RowKit
abbrev AL := List (ByteArray × ByteArray)
/-- An attribute's two cells. -/
def encA (x : ByteArray × ByteArray) : List Value := [.string x.1, .string x.2]
theorem encA_len (x : ByteArray × ByteArray) : (encA x).length = 2 := rfl
theorem encA_one (x : ByteArray × ByteArray) : ∀ u ∈ encA x, u.oneCell' = true := by
  intro u hu
  simp [encA] at hu
  rcases hu with rfl | rfl <;> rfl
/-- What lies behind a slice of attributes. -/
structure AttrRow (w : World) (a : Option Addr) (len cap : Nat) (L : AL) : Prop where
  row : SRow encA 2 w a len cap L
  small : ∀ x ∈ L, x.1.size ≤ maxLen ∧ x.2.size ≤ maxLen
  hnil : a = none → cap = 0
theorem AttrRow.hlen {w : World} {a : Option Addr} {len cap : Nat} {L : AL} (h : AttrRow w a len cap L) : L.length = len := h.row.hlen
theorem AttrRow.below {w w' : World} {a : Option Addr} {len cap : Nat} {L : AL} (h : AttrRow w a len cap L) (hb : Below w.heap.size w w') : AttrRow w' a len cap L := ⟨h.row.below hb, h.small, h.hnil⟩
theorem AttrRow.drewN {w : World} {a : Option Addr} {len cap : Nat} {L : AL} (h : AttrRow w a len cap L) (n : Nat) : AttrRow (w.drewN n) a len cap L := ⟨h.row.drewN n, h.small, h.hnil⟩
theorem AttrRow.drew {w : World} {a : Option Addr} {len cap : Nat} {L : AL} (h : AttrRow w a len cap L) : AttrRow w.drew a len cap L := ⟨h.row.drew, h.small, h.hnil⟩
/-- One element of the row. -/
theorem AttrRow.get {w : World} {a : Option Addr} {len cap : Nat} {L : AL} (h : AttrRow w a len cap L) {k : Nat} (hk : k < len) :
    ∃ b off n v, a = some ⟨b, off, none⟩ ∧ b < w.heap.size ∧ L[k]? = some (n, v) ∧ w.cell? ⟨b, off + k * 2, none⟩ = some (.string n) ∧ w.cell? ⟨b, off + k * 2 + 1, none⟩ = some (.string v) ∧ n.size ≤ maxLen ∧ v.size ≤ maxLen := by
  obtain ⟨b, off, x, ha, hlt, hg, _, hc⟩ := h.row.get hk
  have hs := h.small _ (List.mem_of_getElem? hg)
  exact ⟨b, off, x.1, x.2, ha, hlt, hg, hc 0 _ rfl, hc 1 _ rfl, hs.1, hs.2⟩
theorem AttrRow.len64 {w : World} {a : Option Addr} {len cap : Nat} {L : AL} (h : AttrRow w a len cap L) : len ≤ 9223372036854775807 := h.row.len64
def keyIs (n : List UInt8) (x : ByteArray × ByteArray) : Bool := x.1.toList == n
/-- The place of a name; the length: it isn't there. -/
def atN (L : AL) (n : List UInt8) : Nat := L.findIdx (keyIs n)
def atL (L : AL) (n : List UInt8) : Int := if atN L n < L.length then (atN L n : Int) else -1
theorem atN_le (L : AL) (n : List UInt8) : atN L n ≤ L.length := List.findIdx_le_length
theorem atN_step {L : AL} {n : List UInt8} {k : Nat} {x : ByteArray × ByteArray} (h : k ≤ atN L n) (hk : L[k]? = some x) (hx : keyIs n x = false) : k + 1 ≤ atN L n := by
  obtain ⟨hl, hg⟩ := List.getElem?_eq_some_iff.1 hk
  by_cases e : k = atN L n
  · have h1 : atN L n < L.length := by omega
    have h2 : keyIs n (L[atN L n]'h1) = true := List.findIdx_getElem (w := h1)
    have h3 : (L[atN L n]'h1) = x := by
      rw [← hg]; congr 1; exact e.symm
    rw [h3, hx] at h2
    cases h2
  · omega
theorem atN_here {L : AL} {n : List UInt8} {k : Nat} {x : ByteArray × ByteArray} (h : k ≤ atN L n) (hk : L[k]? = some x) (hx : keyIs n x = true) : atN L n = k := by
  obtain ⟨hl, hg⟩ := List.getElem?_eq_some_iff.1 hk
  by_cases e : k < atN L n
  · have := List.not_of_lt_findIdx e
    rw [hg, hx] at this
    cases this
  · omega
theorem atL_here {L : AL} {n : List UInt8} {k : Nat} {x : ByteArray × ByteArray} (h : k ≤ atN L n) (hk : L[k]? = some x) (hx : keyIs n x = true) : atL L n = (k : Int) := by
  have := atN_here h hk hx
  obtain ⟨hl, hg⟩ := List.getElem?_eq_some_iff.1 hk
  unfold atL
  rw [this, if_pos hl]
theorem atL_none {L : AL} {n : List UInt8} {k : Nat} (h : k ≤ atN L n) (hk : L.length ≤ k) : atL L n = -1 := by
  unfold atL
  rw [if_neg (by omega)]
def pairB (x y : ByteArray × ByteArray) : Bool := (x.1.toList == y.1.toList) && (x.2.toList == y.2.toList)
theorem pairB_eq {x y : ByteArray × ByteArray} : pairB x y = true ↔ x = y := by
  unfold pairB
  constructor
  · intro h
    simp at h
    exact Prod.ext (toList_inj h.1) (toList_inj h.2)
  · rintro rfl; simp
end Go.Proofs.YtkomeijlljcdgaaGreat
/- Forests as data, and what lies behind them in memory. -/
namespace Go.Proofs.YtkomeijlljcdgaaGreat
open Go.RowKit
/-- A number of the machine. -/
def In64 (z : Int) : Prop := -9223372036854775808 ≤ z ∧ z ≤ 9223372036854775807
def encZ (z : Int) : List Value := [.int .i64 z]
theorem encZ_len (z : Int) : (encZ z).length = 1 := rfl
theorem encZ_one (z : Int) : ∀ u ∈ encZ z, u.oneCell' = true := by
  intro u hu
  simp [encZ] at hu
  rw [hu]
  rfl
/-- What lies behind a slice of numbers. -/
structure IntRow (w : World) (a : Option Addr) (len cap : Nat) (L : List Int) : Prop where
  row : SRow encZ 1 w a len cap L
  inb : ∀ z ∈ L, In64 z
  hnil : a = none → cap = 0
section
variable {w w' : World} {a : Option Addr} {len cap : Nat} {L : List Int}
theorem IntRow.hlen (h : IntRow w a len cap L) : L.length = len := h.row.hlen
theorem IntRow.len64 (h : IntRow w a len cap L) : len ≤ 9223372036854775807 := h.row.len64
theorem IntRow.below (h : IntRow w a len cap L) (hb : Below w.heap.size w w') : IntRow w' a len cap L := ⟨h.row.below hb, h.inb, h.hnil⟩
theorem IntRow.drewN (h : IntRow w a len cap L) (n : Nat) : IntRow (w.drewN n) a len cap L := ⟨h.row.drewN n, h.inb, h.hnil⟩
theorem IntRow.get (h : IntRow w a len cap L) {k : Nat} (hk : k < len) : ∃ b off z, a = some ⟨b, off, none⟩ ∧ b < w.heap.size ∧ L[k]? = some z ∧ w.cell? ⟨b, off + k, none⟩ = some (.int .i64 z) ∧ In64 z := by
  obtain ⟨b, off, x, ha, hlt, hg, _, hc⟩ := h.row.get hk
  have h0 := hc 0 _ rfl
  rw [Nat.mul_one, Nat.add_zero] at h0
  exact ⟨b, off, x, ha, hlt, hg, h0, h.inb _ (List.mem_of_getElem? hg)⟩
end
/-- A node, as data. -/
structure Core where
  kind : Int
  name : ByteArray
  is : ByteArray
  data : ByteArray
  attrs : AL
  parent : Int
  kids : List Int
  host : Int
  under : Int
  doc : Int
deriving DecidableEq
/-- A node in memory: its data, and the two slices' headers. -/
structure NodeD where
  core : Core
  aA : Option Addr
  aN : Nat
  aC : Nat
  kA : Option Addr
  kN : Nat
  kC : Nat
def encN (x : NodeD) : List Value := [.int .i64 x.core.kind, .string x.core.name, .string x.core.is, .string x.core.data, .slice x.aA x.aN x.aC, .int .i64 x.core.parent, .slice x.kA x.kN x.kC, .int .i64 x.core.host, .int .i64 x.core.under, .int .i64 x.core.doc]
theorem encN_len (x : NodeD) : (encN x).length = 10 := rfl
theorem encN_one (x : NodeD) : ∀ u ∈ encN x, u.oneCell' = true := by
  intro u hu
  simp [encN] at hu
  rcases hu with rfl | rfl | rfl | rfl | rfl | rfl | rfl | rfl | rfl | rfl <;> rfl
/-- What lies behind a node. -/
structure NodeOk (w : World) (x : NodeD) : Prop where
  attrs : AttrRow w x.aA x.aN x.aC x.core.attrs
  kids : IntRow w x.kA x.kN x.kC x.core.kids
  name : x.core.name.size ≤ maxLen
  is : x.core.is.size ≤ maxLen
  data : x.core.data.size ≤ maxLen
  kind : In64 x.core.kind
  parent : In64 x.core.parent
  host : In64 x.core.host
  under : In64 x.core.under
  doc : In64 x.core.doc
theorem NodeOk.below {w w' : World} {x : NodeD} (h : NodeOk w x) (hb : Below w.heap.size w w') : NodeOk w' x := ⟨h.attrs.below hb, h.kids.below hb, h.name, h.is, h.data, h.kind, h.parent, h.host, h.under, h.doc⟩
theorem NodeOk.drewN {w : World} {x : NodeD} (h : NodeOk w x) (n : Nat) : NodeOk (w.drewN n) x := ⟨h.attrs.drewN n, h.kids.drewN n, h.name, h.is, h.data, h.kind, h.parent, h.host, h.under, h.doc⟩
/-- What lies behind a slice of nodes. -/
structure NodeRow (w : World) (a : Option Addr) (len cap : Nat) (L : List NodeD) : Prop where
  row : SRow encN 10 w a len cap L
  ok : ∀ x ∈ L, NodeOk w x
  hnil : a = none → cap = 0
section
variable {w w' : World} {a : Option Addr} {len cap : Nat} {L : List NodeD}
theorem NodeRow.hlen (h : NodeRow w a len cap L) : L.length = len := h.row.hlen
theorem NodeRow.len64 (h : NodeRow w a len cap L) : len ≤ 9223372036854775807 := h.row.len64
theorem NodeRow.below (h : NodeRow w a len cap L) (hb : Below w.heap.size w w') : NodeRow w' a len cap L := ⟨h.row.below hb, fun x hx => (h.ok x hx).below hb, h.hnil⟩
theorem NodeRow.drewN (h : NodeRow w a len cap L) (n : Nat) : NodeRow (w.drewN n) a len cap L := ⟨h.row.drewN n, fun x hx => (h.ok x hx).drewN n, h.hnil⟩
/-- One node's ten cells. -/
structure NodeAt (w : World) (b o : Nat) (x : NodeD) : Prop where
  c0 : w.cell? ⟨b, o, none⟩ = some (.int .i64 x.core.kind)
  c1 : w.cell? ⟨b, o + 1, none⟩ = some (.string x.core.name)
  c2 : w.cell? ⟨b, o + 2, none⟩ = some (.string x.core.is)
  c3 : w.cell? ⟨b, o + 3, none⟩ = some (.string x.core.data)
  c4 : w.cell? ⟨b, o + 4, none⟩ = some (.slice x.aA x.aN x.aC)
  c5 : w.cell? ⟨b, o + 5, none⟩ = some (.int .i64 x.core.parent)
  c6 : w.cell? ⟨b, o + 6, none⟩ = some (.slice x.kA x.kN x.kC)
  c7 : w.cell? ⟨b, o + 7, none⟩ = some (.int .i64 x.core.host)
  c8 : w.cell? ⟨b, o + 8, none⟩ = some (.int .i64 x.core.under)
  c9 : w.cell? ⟨b, o + 9, none⟩ = some (.int .i64 x.core.doc)
theorem NodeAt.below {b o : Nat} {x : NodeD} (h : NodeAt w b o x) (hlt : b < w.heap.size) (hb : Below w.heap.size w w') : NodeAt w' b o x := by
  have e : ∀ o', w'.cell? ⟨b, o', none⟩ = w.cell? ⟨b, o', none⟩ := fun o' => hb.cell (p := ⟨b, o', none⟩) hlt
  exact ⟨(e _).trans h.c0, (e _).trans h.c1, (e _).trans h.c2, (e _).trans h.c3, (e _).trans h.c4, (e _).trans h.c5, (e _).trans h.c6, (e _).trans h.c7, (e _).trans h.c8, (e _).trans h.c9⟩
theorem NodeRow.get (h : NodeRow w a len cap L) {k : Nat} (hk : k < len) : ∃ b off x, a = some ⟨b, off, none⟩ ∧ b < w.heap.size ∧ L[k]? = some x ∧ NodeAt w b (off + k * 10) x ∧ NodeOk w x := by
  obtain ⟨b, off, x, ha, hlt, hg, _, hc⟩ := h.row.get hk
  have h0 := hc 0 _ rfl
  rw [Nat.add_zero] at h0
  exact ⟨b, off, x, ha, hlt, hg, ⟨h0, hc 1 _ rfl, hc 2 _ rfl, hc 3 _ rfl, hc 4 _ rfl, hc 5 _ rfl, hc 6 _ rfl, hc 7 _ rfl, hc 8 _ rfl, hc 9 _ rfl⟩, h.ok _ (List.mem_of_getElem? hg)⟩
end
/-- A forest as data: its nodes. -/
def coreL (L : List NodeD) : List Core := L.map (·.core)
end Go.Proofs.YtkomeijlljcdgaaGreat
/- Which lists of attributes are right: the property, and plain facts on it. -/
namespace Go.Proofs.YtkomeijlljcdgaaGreat
open Go.RowKit
def okAt (L : AL) (k : Nat) (x : ByteArray × ByteArray) : Bool := rightL x.1.toList && (smallL x.1.toList == x.1.toList) && decide (x.2.size ≤ 200) && decide (atN L x.1.toList = k)
def rightA (L : AL) : Bool := decide (L.length ≤ 40) && L.zipIdx.all (fun p => okAt L p.2 p.1)
theorem rightA_iff (L : AL) : rightA L = true ↔ L.length ≤ 40 ∧ ∀ (k : Nat) x, L[k]? = some x → okAt L k x = true := by
  unfold rightA
  rw [Bool.and_eq_true, decide_eq_true_eq, List.all_eq_true]
  constructor
  · rintro ⟨h1, h2⟩
    refine ⟨h1, fun k x hx => ?_⟩
    exact h2 (x, k) (List.mk_mem_zipIdx_iff_getElem?.2 hx)
  · rintro ⟨h1, h2⟩
    refine ⟨h1, fun p hp => ?_⟩
    exact h2 p.2 p.1 (List.mk_mem_zipIdx_iff_getElem?.1 hp)
theorem rightA_stop {L : AL} {k : Nat} {x : ByteArray × ByteArray} (hx : L[k]? = some x) (h : okAt L k x = false) : rightA L = false := by
  by_cases hr : rightA L = true
  · have := ((rightA_iff L).1 hr).2 k x hx
    rw [h] at this; cases this
  · simpa using hr
theorem rightA_long {L : AL} (h : 40 < L.length) : rightA L = false := by
  unfold rightA
  rw [decide_eq_false (by omega)]
  rfl
theorem rightL_len {l : List UInt8} (h : rightL l = true) : l.length ≤ 40 := by
  by_cases hl : l.length < 1 ∨ 40 < l.length
  · rw [rightL_ends l hl] at h; cases h
  · omega
theorem atL_nat {L : AL} {n : List UInt8} {k : Nat} (h : atL L n = (k : Int)) : atN L n = k := by
  unfold atL at h
  split at h <;> omega
theorem atL_of_nat {L : AL} {n : List UInt8} {k : Nat} (h : atN L n = k) (hk : k < L.length) : atL L n = (k : Int) := by
  unfold atL
  rw [h, if_pos hk]
end Go.Proofs.YtkomeijlljcdgaaGreat
/- '==' and '!=' on two attributes. -/
namespace Go.Proofs.YtkomeijlljcdgaaGreat
open Go.RowKit
theorem attr_fields : Tryz.prog.underlying 109 = some (.struct (Tryz.prog.fieldsOf 109)) := by
  unfold Program.fieldsOf
  rw [Tryz.underlying109]
theorem attr_held : Tryz.prog.stoodInHeld 109 = false := by kernel_rfl
theorem attr_guard : Tryz.prog.eqGuardType Tryz.prog.depth 109 = false := by kernel_rfl
theorem attr_equal (xn xv yn yv : ByteArray) (W : World) :
    (Op.equalIn 10000 109 (.agg #[.string xn, .string xv]) (.agg #[.string yn, .string yv])).run Tryz.prog W = .ok (pairB (xn, xv) (yn, yv)) W := by
  have u9 := Tryz.underlying9
  have a9 := Tryz.isAgg9
  have z9 := Tryz.sizeOf9
  rw [show (10000 : Nat) = 9999 + 1 from rfl, run_equalIn_agg W 9999 109 _ _ attr_fields attr_held]
  simp only [Program.fieldsOf, Tryz.underlying109]
  go_simp
  unfold pairB
  by_cases h1 : xn.toList = yn.toList <;> by_cases h2 : xv.toList = yv.toList <;> simp [h1, h2]
theorem attr_neq (xn xv yn yv : ByteArray) (W : World) :
    (binOp .neq 109 (.agg #[.string xn, .string xv]) (.agg #[.string yn, .string yv])).run Tryz.prog W = .ok (.bool (!pairB (xn, xv) (yn, yv))) W := by
  rw [run_neq_struct, attr_equal]
  rfl
theorem attr_eql (xn xv yn yv : ByteArray) (W : World) :
    (binOp .eql 109 (.agg #[.string xn, .string xv]) (.agg #[.string yn, .string yv])).run Tryz.prog W = .ok (.bool (pairB (xn, xv) (yn, yv))) W := by
  rw [run_eql_struct, attr_equal]
  rfl
end Go.Proofs.YtkomeijlljcdgaaGreat
