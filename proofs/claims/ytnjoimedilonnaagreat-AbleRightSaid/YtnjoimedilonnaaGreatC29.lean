/- Texts joined in build order: MoveOver MovePutMath ReadMath SmallFrame AttrOpen. -/
import Derived.Test.YtnjoimedilonnaaGreatC28
import Derived.Test.YtnjoimedilonnaaGreatC22
import Derived.Lib.IndexAny
import Derived.Lib.Strings
import Derived.BigQuiet
import Derived.Deep.QuietTactic
import Derived.Below
import Derived.WalkSmall
import Derived.Test.YtnjoimedilonnaaGreatC09
import Derived.Test.YtnjoimedilonnaaGreatC05
import Derived.Test.YtnjoimedilonnaaGreatChecked
import Derived.Deep.SlicePairs
import Derived.ProofKit
namespace Go.Proofs.YtnjoimedilonnaaGreat
open Go.RowKit
section
variable {m : Int} {F : List Core}
theorem top_none (h : rightF m F = true) {n : Nat} (hn : n < F.length) (hp : parentK F n = -1) (hk : kindK F n = 1 ∨ kindK F n = 2) : parS F n = none := by
  have hx : F[n]? = some F[n] := List.getElem?_eq_getElem hn
  rw [parentK_at hx] at hp
  rw [kindK_at hx] at hk
  refine parS_none ?_
  rw [nextUp_at hx]
  show (if F[n].parent = -1 then F[n].host else F[n].parent) = -1
  rw [if_pos hp]
  exact (right_node h hx).free (by omega)
theorem taken_doc (h : rightF m F = true) {n : Nat} (hn : n < F.length) (hp : parentK F n = -1) (hk : kindK F n = 1 ∨ kindK F n = 2) {d : Int} (hd : ∃ c, getC F d = some c ∧ c.kind = 0) : Taken m F (mvDoc F n d) n d :=
  ⟨h, hn, top_none h hn hp hk, by omega, hd, edF_edit _ _ _ _⟩
end
section
variable {ρ : Nat → Nat} {pw g cap len : Nat} {m : Int} {M : List NodeD} {v : Value} {N : List NoteD}
end
end Go.Proofs.YtnjoimedilonnaaGreat
namespace Go.Proofs.YtnjoimedilonnaaGreat
open Go.RowKit
structure PutInv (m : Int) (F : List Core) (p : Nat) (l : List Int) (b : Int) : Prop where
  right : rightF m F = true
  lt : p < F.length
  kp : kindK F p ≠ 2
  once : l.Nodup
  ls : ∀ z ∈ l, ∃ q : Nat, z = q ∧ q < F.length ∧ (kindK F q = 1 ∨ kindK F q = 2)
  over : ∀ q : Nat, (q : Int) ∈ l → ¬ holdsT (parS F) q p
  root : kindK F p = 0 → (kidsK F p).length + l.length ≤ 1 ∧ ∀ k ∈ l, kindK F k = 1
  before : b = -1 ∨ (b ∈ kidsK F p ∧ b ∉ l)
section
variable {m : Int} {F G : List Core} {p : Nat} {l r : List Int} {b : Int}
theorem kidsK_edit {P : Nat → Core → Int} {K : Nat → Core → List Int} {D : Nat → Core → Int} (h : Edit F G P K D) {c : Core} (hc : F[p]? = some c) : kidsK G p = K p c := kidsK_get (h.at_ p c hc)
theorem PutInv.out (h : PutInv m F p l b) {q : Nat} (hq : (q : Int) ∈ l) (hp : parentK F q ≠ -1) : PutInv m (mvOut F q) p l b := by
  obtain ⟨q', e, hql, _⟩ := h.ls _ hq
  obtain rfl : q = q' := by omega
  have hx : F[q]? = some F[q] := List.getElem?_eq_getElem hql
  rw [parentK_at hx] at hp
  obtain ⟨a, ha1, ha2, ho⟩ := mvOut_out h.right hx hp
  obtain ⟨cp, hc⟩ : ∃ cp, F[p]? = some cp := ⟨_, List.getElem?_eq_getElem h.lt⟩
  have hk : kidsK (mvOut F q) p = if p = a then cp.kids.filter (fun z => z != (q : Int)) else cp.kids := kidsK_edit ho.ed hc
  have hk0 : kidsK F p = cp.kids := kidsK_get hc
  refine ⟨ho.rightG, by rw [ho.ed.len]; exact h.lt, by rw [ho.ed.kindK]; exact h.kp, h.once, fun z hz => ?_, fun t ht hh => ?_, fun e => ?_, ?_⟩
  · obtain ⟨t, h1, h2, h3⟩ := h.ls z hz
    exact ⟨t, h1, by rw [ho.ed.len]; exact h2, by rw [ho.ed.kindK]; exact h3⟩
  · obtain ⟨t', e, htl, _⟩ := h.ls _ ht
    obtain rfl : t = t' := by omega
    exact h.over t ht ((ho.over htl h.lt).1 hh).1
  · rw [ho.ed.kindK] at e
    obtain ⟨h1, h2⟩ := h.root e
    refine ⟨?_, fun k hk => by rw [ho.ed.kindK]; exact h2 k hk⟩
    rw [hk]
    rw [hk0] at h1
    split
    · exact Nat.le_trans (Nat.add_le_add_right (List.length_filter_le _ _) _) h1
    · exact h1
  · rcases h.before with e | ⟨h1, h2⟩
    · exact .inl e
    · refine .inr ⟨?_, h2⟩
      rw [hk]
      rw [hk0] at h1
      split
      · rw [List.mem_filter]
        exact ⟨h1, bne_iff_ne.2 (fun e => h2 (by rw [e]; exact hq))⟩
      · exact h1
theorem parS_same {F G : List Core} (h : ∀ j : Nat, nextUp G (j : Int) = nextUp F j) : parS G = parS F := by
  funext j
  unfold parS
  rw [h j]
theorem PutInv.doc (h : PutInv m F p l b) {q : Nat} (hq : (q : Int) ∈ l) (hp : parentK F q = -1) {d : Int} (hd : ∃ c, getC F d = some c ∧ c.kind = 0) : PutInv m (mvDoc F q d) p l b := by
  obtain ⟨q', e, hql, hqk⟩ := h.ls _ hq
  obtain rfl : q = q' := by omega
  have T := taken_doc h.right hql hp hqk hd
  obtain ⟨cp, hc⟩ : ∃ cp, F[p]? = some cp := ⟨_, List.getElem?_eq_getElem h.lt⟩
  have hk : kidsK (mvDoc F q d) p = kidsK F p := by rw [kidsK_edit T.ed hc, kidsK_get hc]
  have hpar := parS_same T.next
  exact ⟨T.rightG, by rw [T.ed.len]; exact h.lt, by rw [T.ed.kindK]; exact h.kp, h.once, fun z hz => by
    obtain ⟨t, h1, h2, h3⟩ := h.ls z hz
    exact ⟨t, h1, by rw [T.ed.len]; exact h2, by rw [T.ed.kindK]; exact h3⟩, fun t ht hh => h.over t ht (by rw [hpar] at hh; exact hh), fun e => by
    rw [T.ed.kindK] at e
    rw [hk]
    obtain ⟨h1, h2⟩ := h.root e
    exact ⟨h1, fun k hk => by rw [T.ed.kindK]; exact h2 k hk⟩, by rw [hk]; exact h.before⟩
theorem PutInv.put {q : Nat} (h : PutInv m F p ((q : Int) :: r) b) (hp : parentK F q = -1) (hd : docK F q = docK F p) : PutInv m (mvIn F q p b) p r b := by
  have hq : (q : Int) ∈ (q : Int) :: r := List.mem_cons_self
  obtain ⟨q', e, hql, hqk⟩ := h.ls _ hq
  obtain rfl : q = q' := by omega
  have hx : F[q]? = some F[q] := List.getElem?_eq_getElem hql
  obtain ⟨cp, hc⟩ : ∃ cp, F[p]? = some cp := ⟨_, List.getElem?_eq_getElem h.lt⟩
  have hov := h.over q hq
  have hqp : q ≠ p := fun e => hov (by rw [e]; exact holds_refl p)
  have hk0 : kidsK F p = cp.kids := kidsK_get hc
  have notin : ∀ (j : Nat) (c : Core), F[j]? = some c → (q : Int) ∉ c.kids := fun j c hj hm => by
    obtain ⟨c', h1, _, h3, _⟩ := (right_node h.right hj).kids _ hm
    rw [getC_nat, hx] at h1
    rw [parentK_at hx] at hp
    rw [← Option.some.inj h1, hp] at h3
    omega
  have hb : b = -1 ∨ b ∈ cp.kids := by
    rcases h.before with e | ⟨h1, _⟩
    · exact .inl e
    · rw [hk0] at h1
      exact .inr h1
  have hfil : ∀ (j : Nat) (c : Core), F[j]? = some c → c.kids.filter (fun z => !([(q : Int)] : List Int).contains z) = c.kids := fun j c hj => List.filter_eq_self.2 (fun z hz => by
    have : z ≠ (q : Int) := fun e => notin j c hj (by rw [← e]; exact hz)
    simpa using this)
  have hedi := edF_edit F (fun j c => if j = q then (p : Int) else c.parent) (fun j c => if j = p then insB c.kids b q else c.kids) (fun _ c => c.doc)
  have hIn : PutIn m F (mvIn F q p b) [(q : Int)] p cp (cp.kids.take (insAt cp.kids b)) (cp.kids.drop (insAt cp.kids b)) (fun j => decide ((j : Int) ∈ allI F q)) := by
    refine ⟨h.right, hc, by rw [← kindK_at hc]; exact h.kp, by simp, fun z hz => ?_, fun t ht => ?_, ?_, fun e => ?_, fun j hj => ?_, hedi.cong (fun j c hj => ⟨?_, ?_, ?_⟩)⟩
    · rw [List.mem_singleton] at hz
      exact ⟨q, F[q], hz, hx, by rw [← kindK_at hx]; exact hqk⟩
    · have : t = q := Int.ofNat_inj.1 (by simpa using ht)
      rw [this]
      exact hov
    · rw [List.take_append_drop]
      exact (hfil p _ hc).symm
    · have h1 := h.root (by rw [kindK_at hc]; exact e)
      rw [hk0, List.length_cons] at h1
      have hnil : cp.kids = [] := List.eq_nil_of_length_eq_zero (by omega)
      rw [hnil]
      simp only [List.take_nil, List.drop_nil, List.nil_append, List.append_nil, List.length_singleton]
      exact ⟨Nat.le_refl _, fun k hk => by rw [List.mem_singleton] at hk; rw [hk]; exact h1.2 _ hq⟩
    · rw [decide_eq_true_iff, mem_all h.right hql hj]
      constructor
      · exact fun hh => ⟨q, by simp, hh⟩
      · rintro ⟨t, ht, hh⟩
        have : t = q := Int.ofNat_inj.1 (by simpa using ht)
        rw [← this]
        exact hh
    · by_cases e : j = q
      · subst e; simp
      · rw [if_neg e, if_neg (by simpa using (fun h2 => e (by omega) : (j : Int) ≠ (q : Int)))]
    · by_cases e : j = p
      · subst e
        rw [hc] at hj
        rw [if_pos rfl, if_pos rfl, ← Option.some.inj hj, ← insB_eq]
        simp
      · rw [if_neg e, if_neg e, hfil j c hj]
    · by_cases e : (j : Int) ∈ allI F q
      · have hjl := (List.getElem?_eq_some_iff.1 hj).1
        have h1 := doc_all h.right hql e hjl
        rw [hd, docK_at hj, docK_at hc] at h1
        simp only [decide_eq_true e, if_true]
        exact h1
      · simp only [decide_eq_false e, Bool.false_eq_true, if_false]
  have hed : Edit F (mvIn F q p b) (fun j c => if j = q then (p : Int) else c.parent) (fun j c => if j = p then insB c.kids b q else c.kids) (fun _ c => c.doc) := hedi
  have hkG : kidsK (mvIn F q p b) p = insB cp.kids b q := by rw [kidsK_edit hed hc]; exact if_pos rfl
  have hup : ∀ (k c a : Nat), c < F.length → ¬ holdsT (parS F) q c → upN (parS (mvIn F q p b)) k c = some a → upN (parS F) k c = some a := by
    intro k
    induction k with
    | zero => exact fun c a _ _ hu => hu
    | succ k ih =>
      intro c a hcl hn hu
      unfold upN at hu ⊢
      have hcq : c ≠ q := fun e => hn (by rw [e]; exact holds_refl q)
      have hpc : parS (mvIn F q p b) c = parS F c := by
        unfold parS
        have h1 := hIn.next hcl
        rw [if_neg (by simpa using (fun h2 => hcq (by omega) : (c : Int) ≠ (q : Int)))] at h1
        rw [h1]
      rw [hpc] at hu
      cases hq2 : parS F c with
      | none => rw [hq2] at hu; cases hu
      | some t =>
        rw [hq2] at hu
        exact ih t a (parS_next h.right hcl hq2).2 (fun hh => hn (holds_trans hh (holds_par hq2))) hu
  refine ⟨hIn.rightG, by rw [hed.len]; exact h.lt, by rw [hed.kindK]; exact h.kp, (List.nodup_cons.1 h.once).2, fun z hz => ?_, fun t ht hh => ?_, fun e => ?_, ?_⟩
  · obtain ⟨t, h1, h2, h3⟩ := h.ls z (List.mem_cons_of_mem _ hz)
    exact ⟨t, h1, by rw [hed.len]; exact h2, by rw [hed.kindK]; exact h3⟩
  · obtain ⟨k, hk⟩ := hh
    exact h.over t (List.mem_cons_of_mem _ ht) ⟨k, hup k p t h.lt hov hk⟩
  · rw [hed.kindK] at e
    obtain ⟨h1, h2⟩ := h.root e
    refine ⟨?_, fun k hk => by rw [hed.kindK]; exact h2 k (List.mem_cons_of_mem _ hk)⟩
    rw [hkG, ← insB_eq]
    rw [hk0, List.length_cons] at h1
    simp only [List.length_append, List.length_cons, List.length_take, List.length_drop]
    omega
  · rcases h.before with e | ⟨h1, h2⟩
    · exact .inl e
    · refine .inr ⟨?_, fun hh => h2 (List.mem_cons_of_mem _ hh)⟩
      rw [hkG, ← insB_eq]
      rw [hk0, ← List.take_append_drop (insAt cp.kids b) cp.kids] at h1
      rcases List.mem_append.1 h1 with h1 | h1
      · exact List.mem_append.2 (.inl h1)
      · exact List.mem_append.2 (.inr (List.mem_cons_of_mem _ h1))
end
end Go.Proofs.YtnjoimedilonnaaGreat
namespace Go.Proofs.YtnjoimedilonnaaGreat
open Go.RowKit
abbrev BL := List UInt8
def strB (l : BL) : ByteArray := ⟨l.toArray⟩
theorem strB_data (l : BL) : (strB l).data.toList = l := rfl
theorem strB_size (l : BL) : (strB l).size = l.length := Lib.size_eq _
def skipM (l p : BL) : Option BL := if p.isPrefixOf l then some (l.drop p.length) else none
def okM (l : BL) : Bool := decide (l.length ≤ 100000) && l.all (fun b => decide (b.toNat < 128))
def endM (l : BL) : Nat := (Lib.indexAny l [33, 32, 61, 62]).toNat
def qM : BL → BL → Option (BL × BL)
  | _, [] => none
  | acc, b :: r => if b = 34 then some (acc, r) else if b = 92 then (match r with | [] => none | c :: r2 => if c = 34 ∨ c = 92 then qM (acc ++ [c]) r2 else none) else qM (acc ++ [b]) r
def quoM (l : BL) : Option (BL × BL) := if l.length ≤ 100000 then (match skipM l [34] with | some r => qM [] r | none => none) else none
def wordM (l : BL) : Option (BL × BL) := if okM l then some (l.take (endM l), l.drop (endM l)) else none
def attrM (l : BL) : Option ((ByteArray × ByteArray) × BL) :=
  match wordM l with
  | none => none
  | some (n, l1) => match skipM l1 [61] with
    | none => none
    | some l2 => match quoM l2 with
      | none => none
      | some (v, l3) => some ((strB n, strB v), l3)
def attrsM : Nat → BL → AL → Option (AL × BL)
  | 0, _, _ => none
  | k + 1, l, acc => match skipM l [32] with
    | none => some (acc, l)
    | some l1 => match attrM l1 with
      | none => none
      | some (a, l2) => if acc.length < 1000 then attrsM k l2 (acc ++ [a]) else none
def isM (l : BL) : Option (BL × BL) :=
  match skipM l [33] with
  | none => some ([], l)
  | some l1 => match wordM l1 with
    | none => none
    | some (s, l2) => if s = [] then none else some (s, l2)
abbrev nodeC (kind : Int) (name is data : BL) (attrs : AL) (doc : Int) : Core := ⟨kind, strB name, strB is, strB data, attrs, 0, [], 0, 0, doc⟩
def headM (doc : Int) (l : BL) : Option (BL × Core × BL) :=
  match wordM l with
  | none => none
  | some (n, l1) => match isM l1 with
    | none => none
    | some (s, l2) => match attrsM (l2.length + 1) l2 [] with
      | none => none
      | some (a, l3) => match skipM l3 [62] with
        | none => none
        | some l4 => if n.length ≤ 1000 then some (n, nodeC 1 n s [] a doc, l4) else none
def addM (F : List Core) (c : Core) : Option (List Core) := if F.length < 1000 then some (F ++ [aloneC c F.length]) else none
def hangM (F : List Core) (host sh : Nat) : List Core := (F.modify host (fun c => ⟨c.kind, c.name, c.is, c.data, c.attrs, c.parent, c.kids, c.host, sh, c.doc⟩)).modify sh (fun c => ⟨c.kind, c.name, c.is, c.data, c.attrs, c.parent, c.kids, host, c.under, c.doc⟩)
inductive Job where
  | node
  | kids (p : Nat) (stop : BL)
def readM (doc : Int) : Nat → Job → BL → List Core → Option (BL × List Core)
  | 0, _, _, _ => none
  | k + 1, .node, l, F =>
    match skipM l [60] with
    | some l1 => (match headM doc l1 with
      | none => none
      | some (n, c, l2) => match addM F c with
        | none => none
        | some F1 => match skipM l2 [123] with
          | none => readM doc k (.kids F.length ([60, 47] ++ n ++ [62])) l2 F1
          | some l3 => match addM F1 (nodeC 4 [] [] [] [] doc) with
            | none => none
            | some F2 => match readM doc k (.kids (F.length + 1) [125]) l3 (hangM F2 F.length (F.length + 1)) with
              | none => none
              | some (l4, F3) => readM doc k (.kids F.length ([60, 47] ++ n ++ [62])) l4 F3)
    | none => match skipM l [91] with
      | some l1 => (match addM F (nodeC 3 [] [] [] [] doc) with
        | none => none
        | some F1 => readM doc k (.kids F.length [93]) l1 F1)
      | none => match quoM l with
        | none => none
        | some (d, l1) => match addM F (nodeC 2 [] [] d [] doc) with
          | none => none
          | some F1 => some (l1, F1)
  | k + 1, .kids p stop, l, F =>
    match skipM l stop with
    | some l1 => some (l1, F)
    | none => match readM doc k .node l F with
      | none => none
      | some (l1, F1) => if (kidsK F1 p).length < 1000 ∧ p < F.length ∧ F.length < F1.length then readM doc k (.kids p stop) l1 (mvIn F1 F.length p (-1)) else none
end Go.Proofs.YtnjoimedilonnaaGreat
namespace Go.Proofs.YtnjoimedilonnaaGreat
open Go.RowKit
def shT (lo k t : Nat) : Nat := if t < lo then t else t - k
def shX (lo k : Nat) : Operand → Operand
  | .tmp t => .tmp (shT lo k t)
  | .const v => .const v
  | .global g => .global g
  | .func f => .func f
def shE (lo k : Nat) : Callee → Callee
  | .value f => .value (shX lo k f)
  | .invoke r m => .invoke (shX lo k r) m
  | .builtin b => .builtin b
def shO (lo k : Nat) : Op → Op
  | .move x => .move (shX lo k x)
  | .assign x => .assign (shX lo k x)
  | .pick c a b => .pick (shX lo k c) (shX lo k a) (shX lo k b)
  | .load t x => .load t (shX lo k x)
  | .binOp op t x y t' => .binOp op t (shX lo k x) (shX lo k y) t'
  | .unOp op t x => .unOp op t (shX lo k x)
  | .fieldAddr t x f => .fieldAddr t (shX lo k x) f
  | .indexAddr t x y => .indexAddr t (shX lo k x) (shX lo k y)
  | .call c => .call { callee := shE lo k c.callee, args := c.args.map (shX lo k), argTypes := c.argTypes }
  | o => o
def sh (lo k : Nat) (o : Oper) : Oper := { o with dst := o.dst.map (shT lo k), op := shO lo k o.op }
def inT (lo k n t : Nat) : Bool := (Nat.blt t lo && Nat.blt t n) || (Nat.ble (lo + k) t && Nat.blt t (n + k))
def inX (lo k n : Nat) : Operand → Bool
  | .tmp t => inT lo k n t
  | _ => true
def inO (lo k n : Nat) : Op → Bool
  | .move x => inX lo k n x
  | .assign x => inX lo k n x
  | .pick c a b => inX lo k n c && inX lo k n a && inX lo k n b
  | .load _ x => inX lo k n x
  | .binOp _ _ x y _ => inX lo k n x && inX lo k n y
  | .unOp _ _ x => inX lo k n x
  | .fieldAddr _ x _ => inX lo k n x
  | .indexAddr _ x y => inX lo k n x && inX lo k n y
  | .call c => (match c.callee with | .value f => inX lo k n f | .invoke _ _ => false | .builtin _ => true) && c.args.all (inX lo k n)
  | _ => false
def inD (lo k n : Nat) : Option Nat → Bool
  | some d => inT lo k n d
  | none => true
def smallOK (lo k n : Nat) (l : List Oper) : Bool := l.all (fun o => inD lo k n o.dst && inO lo k n o.op)
def mergeL (lo k n : Nat) (s : Array Value) : Nat → List Value → List Value
  | _, [] => []
  | t, v :: r => (bif inT lo k n t then s.getD (shT lo k t) undef else v) :: mergeL lo k n s (t + 1) r
def merge (lo k n : Nat) (a s : Act) : Act := ⟨(mergeL lo k n s.tmps 0 a.tmps.toList).toArray, a.defers⟩
section
variable {lo k n : Nat}
theorem mergeL_len (s : Array Value) : ∀ (t : Nat) (l : List Value), (mergeL lo k n s t l).length = l.length
  | _, [] => rfl
  | t, v :: r => by unfold mergeL; rw [List.length_cons, List.length_cons, mergeL_len s (t + 1) r]
theorem mergeL_get (s : Array Value) : ∀ (t : Nat) (l : List Value) (i : Nat), (mergeL lo k n s t l)[i]? = (l[i]?).map (fun v => bif inT lo k n (t + i) then s.getD (shT lo k (t + i)) undef else v)
  | _, [], _ => by simp [mergeL]
  | t, v :: r, 0 => by simp [mergeL]
  | t, v :: r, i + 1 => by
    unfold mergeL
    rw [List.getElem?_cons_succ, List.getElem?_cons_succ, mergeL_get s (t + 1) r i, show t + 1 + i = t + (i + 1) by omega]
theorem merge_get (a s : Act) (i : Nat) : (merge lo k n a s).tmps[i]? = (a.tmps[i]?).map (fun v => bif inT lo k n i then s.tmps.getD (shT lo k i) undef else v) := by
  unfold merge
  rw [List.getElem?_toArray, mergeL_get, Nat.zero_add, Array.getElem?_toList]
theorem merge_getD (a s : Act) {i : Nat} (hi : i < a.tmps.size) (ht : inT lo k n i = true) : (merge lo k n a s).tmps.getD i undef = s.tmps.getD (shT lo k i) undef := by
  rw [Array.getD_eq_getD_getElem?, merge_get, Array.getElem?_eq_getElem hi, ht]
  rfl
theorem merge_size (a s : Act) : (merge lo k n a s).tmps.size = a.tmps.size := by
  unfold merge
  rw [List.size_toArray, mergeL_len, Array.length_toList]
theorem shT_lt {t : Nat} (h : inT lo k n t = true) : shT lo k t < n := by
  unfold inT at h
  unfold shT
  simp only [Bool.or_eq_true, Bool.and_eq_true, Nat.blt_eq, Nat.ble_eq] at h
  split <;> omega
theorem shT_inj {t u : Nat} (ht : inT lo k n t = true) (hu : inT lo k n u = true) (h : shT lo k t = shT lo k u) : t = u := by
  unfold inT at ht hu
  unfold shT at h
  simp only [Bool.or_eq_true, Bool.and_eq_true, Nat.blt_eq, Nat.ble_eq] at ht hu
  split at h <;> split at h <;> omega
theorem merge_put (a s : Act) {d : Nat} (hs : s.tmps.size = n) (ht : inT lo k n d = true) (v : Value) (hda : d < a.tmps.size) : (merge lo k n a s).put (some d) v = merge lo k n a (s.put (some (shT lo k d)) v) := by
  have e : ((merge lo k n a s).put (some d) v).tmps = (merge lo k n a (s.put (some (shT lo k d)) v)).tmps := by
    apply Array.ext_getElem?
    intro i
    rw [merge_get]
    show ((merge lo k n a s).tmps.setIfInBounds d v)[i]? = _
    rw [Array.getElem?_setIfInBounds, merge_get, merge_size]
    show _ = (a.tmps[i]?).map (fun w => bif inT lo k n i then (s.tmps.setIfInBounds (shT lo k d) v).getD (shT lo k i) undef else w)
    by_cases hdi : d = i
    · subst hdi
      rw [if_pos rfl, if_pos hda, Array.getElem?_eq_getElem hda, ht]
      have : shT lo k d < s.tmps.size := by rw [hs]; exact shT_lt ht
      simp [Array.getD_eq_getD_getElem?, this]
    · rw [if_neg hdi]
      cases hq : inT lo k n i with
      | false => rfl
      | true =>
        have hne : shT lo k d ≠ shT lo k i := fun h => hdi (shT_inj ht hq h)
        simp [Array.getD_eq_getD_getElem?, hne]
  show Act.mk _ _ = Act.mk _ _
  congr 1
theorem put_size (a : Act) (d : Option Nat) (v : Value) : (a.put d v).tmps.size = a.tmps.size := by
  cases d with
  | none => rfl
  | some d => simp [Act.put]
theorem sh_eval (a s : Act) (hs : ∀ t, inT lo k n t = true → t < a.tmps.size) {x : Operand} (hx : inX lo k n x = true) : s.eval (shX lo k x) = (merge lo k n a s).eval x := by
  cases x with
  | tmp t => exact (merge_getD a s (hs t hx) hx).symm
  | const v => rfl
  | global g => rfl
  | func f => rfl
theorem sh_exec {e e' : Operand → Value} {o : Oper} (ho : inO lo k n o.op = true) (h : ∀ x, inX lo k n x = true → e' (shX lo k x) = e x) : execOp e' (sh lo k o) = execOp e o := by
  obtain ⟨dst, op, type, pos, after, guard⟩ := o
  cases op <;> simp only [inO, Bool.and_eq_true, Bool.false_eq_true] at ho
  case move x => simp only [sh, shO, execOp, h x ho]
  case assign x => simp only [sh, shO, execOp, h x ho]
  case pick c a b => simp only [sh, shO, execOp, h c ho.1.1, h a ho.1.2, h b ho.2]
  case load t x => simp only [sh, shO, execOp, h x ho]
  case binOp op t x y t' =>
    simp only [sh, shO, execOp, h x ho.1, h y ho.2, eqGuard]
    cases x <;> cases y <;> rfl
  case unOp op t x => simp only [sh, shO, execOp, h x ho]
  case fieldAddr t x f => simp only [sh, shO, execOp, h x ho]
  case indexAddr t x y => simp only [sh, shO, execOp, h x ho.1, h y ho.2]
  case call c =>
    obtain ⟨callee, args, ats⟩ := c
    have ha : (args.map (shX lo k)).map e' = args.map e := by
      rw [Array.map_map]
      apply Array.map_congr_left
      intro x hx
      exact h x (Array.all_eq_true_iff_forall_mem.1 ho.2 x hx)
    have hk : ∀ f : Operand → Bool, (∀ x, f (shX lo k x) = f x) → (args.map (shX lo k)).map f = args.map f := fun f hf => by
      rw [Array.map_map]
      apply Array.map_congr_left
      intro x _
      exact hf x
    cases callee with
    | value f => simp only [sh, shO, shE, execOp, resolve, ha, h f ho.1]
    | invoke r m => exact absurd ho.1 (by simp)
    | builtin b =>
      simp only [sh, shO, shE, execOp, resolve, ha]
      rw [hk _ (fun x => by cases x <;> rfl)]
theorem sh_wanted (a s : Act) (hs : ∀ t, inT lo k n t = true → t < a.tmps.size) (hn : s.tmps.size = n) {l : List Oper} (hl : smallOK lo k n l = true) (o : Oper) :
    Region.wanted (sh lo k o) (yielded (l.map (sh lo k)).toArray s.tmps) = Region.wanted o (yielded l.toArray (merge lo k n a s).tmps) := by
  have key : ∀ j, yielded (l.map (sh lo k)).toArray s.tmps j = yielded l.toArray (merge lo k n a s).tmps j := fun j => by
    unfold yielded
    rw [List.getElem?_toArray, List.getElem?_toArray, List.getElem?_map]
    cases ho : l[j]? with
    | none => rfl
    | some oj =>
      have h1 := List.all_eq_true.1 hl oj (List.mem_of_getElem? ho)
      rw [Bool.and_eq_true] at h1
      have h2 := h1.1
      show (match ((oj.dst.map (shT lo k)).bind (s.tmps[·]?)) with | some (.bool b) => some b | _ => none) = (match (oj.dst.bind ((merge lo k n a s).tmps[·]?)) with | some (.bool b) => some b | _ => none)
      cases hd : oj.dst with
      | none => rfl
      | some d =>
        rw [hd] at h2
        have h3 : inT lo k n d = true := h2
        have h4 := hs d h3
        show (match s.tmps[shT lo k d]? with | some (.bool b) => some b | _ => none) = (match (merge lo k n a s).tmps[d]? with | some (.bool b) => some b | _ => none)
        rw [merge_get, Array.getElem?_eq_getElem h4, h3, Array.getElem?_eq_getElem (by rw [hn]; exact shT_lt h3)]
        show _ = (match some (s.tmps.getD (shT lo k d) undef) with | some (.bool b) => some b | _ => none)
        rw [Array.getD_eq_getD_getElem?, Array.getElem?_eq_getElem (by rw [hn]; exact shT_lt h3)]
        rfl
  show (match o.guard with | none => true | some (j, want) => yielded (l.map (sh lo k)).toArray s.tmps j == some want) = (match o.guard with | none => true | some (j, want) => yielded l.toArray (merge lo k n a s).tmps j == some want)
  cases o.guard with
  | none => rfl
  | some g =>
    show (yielded (l.map (sh lo k)).toArray s.tmps g.1 == some g.2) = _
    rw [key]
theorem sh_put (a s : Act) (hs : ∀ t, inT lo k n t = true → t < a.tmps.size) (hn : s.tmps.size = n) {d : Option Nat} (hd : inD lo k n d = true) (v : Value) : (merge lo k n a s).put d v = merge lo k n a (s.put (d.map (shT lo k)) v) := by
  cases d with
  | none => rfl
  | some d => exact merge_put a s hn hd v (hs d hd)
theorem quiet_small {P : Program} {C : World → Prop} {a : Act} (hs : ∀ t, inT lo k n t = true → t < a.tmps.size) {l : List Oper} (hl : smallOK lo k n l = true) {R Q : Act → Prop} (hR : ∀ s, s.tmps.size = n → R s → Q (merge lo k n a s)) :
    ∀ (r : List Oper), smallOK lo k n r = true → ∀ s : Act, s.tmps.size = n → wpQuiet P (l.map (sh lo k)).toArray C R (r.map (sh lo k)) s → wpQuiet P l.toArray C Q r (merge lo k n a s)
  | [], _, s, hn, h => hR s hn h
  | o :: r, hr, s, hn, h => by
    have hr' := hr
    unfold smallOK at hr'
    rw [List.all_cons, Bool.and_eq_true, Bool.and_eq_true] at hr'
    obtain ⟨⟨hd, ho⟩, hrr⟩ := hr'
    rw [List.map_cons] at h
    unfold wpQuiet at h ⊢
    rw [sh_wanted a s hs hn hl o] at h
    split at h
    · rename_i hw
      rw [if_pos hw]
      obtain ⟨v, h1, h2⟩ := h
      refine ⟨v, fun w hC => ?_, ?_⟩
      · have := h1 w hC
        unfold Oper.quietAt at this ⊢
        rwa [sh_exec ho (fun x hx => sh_eval a s hs hx)] at this
      · rw [sh_put a s hs hn hd]
        exact quiet_small hs hl hR r hrr _ (by rw [put_size]; exact hn) h2
    · rename_i hw
      rw [if_neg hw, sh_put a s hs hn hd]
      exact quiet_small hs hl hR r hrr _ (by rw [put_size]; exact hn) h
theorem wpList_of_quiet {P : Program} {ops : Array Oper} {C : World → Prop} {Q : Exit → Act → World → Prop} : ∀ (l : List Oper) (a : Act) (w : World), C w → wpQuiet P ops C (fun a' => ∀ w', C w' → Q .normal a' w') l a → wpList P ops Q l a w
  | [], _, w, hC, h => h w hC
  | o :: r, a, w, hC, h => by
    unfold wpQuiet at h
    unfold wpList
    split at h
    · rename_i hw
      rw [if_pos hw]
      exact .inl (Oper.wp_of_quiet hC (fun a' w' hC' h' => wpList_of_quiet r a' w' hC' h') h)
    · rename_i hw
      rw [if_neg hw]
      exact wpList_of_quiet r _ w hC h
end
theorem wp_region_small {P : Program} {id : Nat} {draw : Bool} {Q : Exit → Act → World → Prop} {a : Act} {w : World} {l : List Oper} (lo k n : Nat) (s : Act) (R : Act → Prop)
    (hd : draw = false ∨ (P.follows .mixedOrders = true ∧ Region.lexB .any l.toArray = true)) (hl : smallOK lo k n l = true) (hs : ∀ t, inT lo k n t = true → t < a.tmps.size) (hn : s.tmps.size = n) (ha : a = merge lo k n a s)
    (hR : ∀ s', s'.tmps.size = n → R s' → ∀ w', (∃ x : Ext w, w' = x.v) → Q .normal (merge lo k n a s') w')
    (h : wpQuiet P (l.map (sh lo k)).toArray (fun w' => ∃ x : Ext w, w' = x.v) R (l.map (sh lo k)) s) : (Code.region id l.toArray draw).wp P Q a w := by
  have h1 : wpQuiet P l.toArray (fun w' => ∃ x : Ext w, w' = x.v) (fun a' => ∀ w', (∃ x : Ext w, w' = x.v) → Q .normal a' w') l a := by
    have := quiet_small (P := P) (C := fun w' => ∃ x : Ext w, w' = x.v) hs hl (Q := fun a' => ∀ w', (∃ x : Ext w, w' = x.v) → Q .normal a' w') hR l hl s hn h
    rwa [← ha] at this
  rcases hd with rfl | ⟨h2, h3⟩
  · exact wp_region_lit (wpList_of_quiet l a w ⟨⟨w, Below.refl _ _⟩, rfl⟩ h1)
  · cases draw with
    | false => exact wp_region_lit (wpList_of_quiet l a w ⟨⟨w, Below.refl _ _⟩, rfl⟩ h1)
    | true => exact wp_region_ext h2 h3 h1
def smallOf (lo k n : Nat) (a : Act) : Act := ⟨(a.tmps.toList.take lo ++ (a.tmps.toList.drop (lo + k)).take (n - lo)).toArray, []⟩
def joined (lo k n : Nat) (a s : Act) : Act := ⟨(s.tmps.toList.take lo ++ ((a.tmps.toList.drop lo).take k ++ (s.tmps.toList.drop lo ++ a.tmps.toList.drop (n + k)))).toArray, a.defers⟩
theorem inT_iff {lo k n t : Nat} (hlo : lo ≤ n) : inT lo k n t = true ↔ (t < lo ∨ (lo + k ≤ t ∧ t < n + k)) := by
  unfold inT
  simp only [Bool.or_eq_true, Bool.and_eq_true, Nat.blt_eq, Nat.ble_eq]
  omega
theorem joined_eq {lo k n : Nat} {a s : Act} (hlo : lo ≤ n) (hs : s.tmps.size = n) (ha : n + k ≤ a.tmps.size) : merge lo k n a s = joined lo k n a s := by
  have hsl : s.tmps.toList.length = n := by simpa using hs
  have hal : n + k ≤ a.tmps.toList.length := by simpa using ha
  have e : (merge lo k n a s).tmps = (joined lo k n a s).tmps := by
    apply Array.ext_getElem?
    intro i
    rw [merge_get]
    have hta : (s.tmps.toList.take lo).length = lo := by rw [List.length_take]; omega
    have htb : ((a.tmps.toList.drop lo).take k).length = k := by rw [List.length_take, List.length_drop]; omega
    have htc : (s.tmps.toList.drop lo).length = n - lo := by rw [List.length_drop]; omega
    have ga : a.tmps[i]? = a.tmps.toList[i]? := by simp
    have gj : (joined lo k n a s).tmps[i]? = (s.tmps.toList.take lo ++ ((a.tmps.toList.drop lo).take k ++ (s.tmps.toList.drop lo ++ a.tmps.toList.drop (n + k))))[i]? := by
      unfold joined
      rw [List.getElem?_toArray]
    have gs : ∀ j, s.tmps.getD j undef = (s.tmps.toList[j]?).getD undef := fun j => by simp [Array.getD_eq_getD_getElem?]
    show (a.tmps[i]?).map _ = _
    rw [ga]
    rw [gj]
    by_cases h1 : i < lo
    · rw [List.getElem?_append_left (by rw [hta]; exact h1), List.getElem?_take, if_pos h1, (inT_iff hlo).2 (.inl h1), List.getElem?_eq_getElem (show i < a.tmps.toList.length by omega), List.getElem?_eq_getElem (show i < s.tmps.toList.length by omega)]
      show some (s.tmps.getD (shT lo k i) undef) = _
      rw [gs]
      unfold shT
      rw [if_pos h1, List.getElem?_eq_getElem (show i < s.tmps.toList.length by omega)]
      rfl
    · rw [List.getElem?_append_right (by rw [hta]; omega), hta]
      by_cases h2 : i < lo + k
      · rw [List.getElem?_append_left (by rw [htb]; omega), List.getElem?_take, if_pos (by omega), List.getElem?_drop, show lo + (i - lo) = i by omega]
        have hq : inT lo k n i = false := by
          cases hq : inT lo k n i with
          | false => rfl
          | true => have := (inT_iff hlo).1 hq; omega
        rw [hq]
        simp
      · rw [List.getElem?_append_right (by rw [htb]; omega), htb]
        by_cases h3 : i < n + k
        · rw [List.getElem?_append_left (by rw [htc]; omega), List.getElem?_drop, (inT_iff hlo).2 (.inr ⟨by omega, h3⟩), List.getElem?_eq_getElem (show i < a.tmps.toList.length by omega), show lo + (i - lo - k) = i - k by omega]
          show some (s.tmps.getD (shT lo k i) undef) = _
          rw [gs]
          unfold shT
          rw [if_neg h1, List.getElem?_eq_getElem (show i - k < s.tmps.toList.length by omega)]
          rfl
        · rw [List.getElem?_append_right (by rw [htc]; omega), htc, List.getElem?_drop, show n + k + (i - lo - k - (n - lo)) = i by omega]
          have hq : inT lo k n i = false := by
            cases hq : inT lo k n i with
            | false => rfl
            | true => have := (inT_iff hlo).1 hq; omega
          rw [hq]
          simp
  show Act.mk _ _ = Act.mk _ _
  congr 1
theorem smallOf_size {lo k n : Nat} {a : Act} (hlo : lo ≤ n) (ha : n + k ≤ a.tmps.size) : (smallOf lo k n a).tmps.size = n := by
  have hal : n + k ≤ a.tmps.toList.length := by simpa using ha
  unfold smallOf
  rw [List.size_toArray, List.length_append, List.length_take, List.length_take, List.length_drop]
  omega
theorem joined_small {lo k n : Nat} {a : Act} (hlo : lo ≤ n) (ha : n + k ≤ a.tmps.size) : a = joined lo k n a (smallOf lo k n a) := by
  have hal : n + k ≤ a.tmps.toList.length := by simpa using ha
  have e : a.tmps.toList = (smallOf lo k n a).tmps.toList.take lo ++ ((a.tmps.toList.drop lo).take k ++ ((smallOf lo k n a).tmps.toList.drop lo ++ a.tmps.toList.drop (n + k))) := by
    have h1 : (a.tmps.toList.take lo).length = lo := by rw [List.length_take]; omega
    have h2 : (smallOf lo k n a).tmps.toList = a.tmps.toList.take lo ++ (a.tmps.toList.drop (lo + k)).take (n - lo) := rfl
    have h5 : (a.tmps.toList.take lo ++ (a.tmps.toList.drop (lo + k)).take (n - lo)).take lo = a.tmps.toList.take lo := by
      rw [List.take_append_of_le_length (by rw [h1]; exact Nat.le_refl _), List.take_of_length_le (by rw [h1]; exact Nat.le_refl _)]
    have h6 : (a.tmps.toList.take lo ++ (a.tmps.toList.drop (lo + k)).take (n - lo)).drop lo = (a.tmps.toList.drop (lo + k)).take (n - lo) := by
      rw [List.drop_append_of_le_length (by rw [h1]; exact Nat.le_refl _), List.drop_of_length_le (by rw [h1]; exact Nat.le_refl _), List.nil_append]
    rw [h2, h5, h6]
    have h3 : (a.tmps.toList.drop (lo + k)).take (n - lo) ++ a.tmps.toList.drop (n + k) = a.tmps.toList.drop (lo + k) := by
      have : a.tmps.toList.drop (n + k) = (a.tmps.toList.drop (lo + k)).drop (n - lo) := by rw [List.drop_drop]; congr 1; omega
      rw [this, List.take_append_drop]
    have h4 : (a.tmps.toList.drop lo).take k ++ a.tmps.toList.drop (lo + k) = a.tmps.toList.drop lo := by
      rw [← List.drop_drop, List.take_append_drop]
    rw [h3, h4, List.take_append_drop]
  obtain ⟨⟨l⟩, d⟩ := a
  show Act.mk _ _ = Act.mk _ _
  congr 1
  exact congrArg List.toArray e
theorem wp_region_in {P : Program} {id : Nat} {draw : Bool} {Q : Exit → Act → World → Prop} {a : Act} {w : World} {l : List Oper} (lo k n : Nat) (R : Act → Prop)
    (hd : draw = false ∨ (P.follows .mixedOrders = true ∧ Region.lexB .any l.toArray = true)) (hl : smallOK lo k n l = true) (hlo : lo ≤ n) (ha : n + k ≤ a.tmps.size)
    (h : wpQuiet P (l.map (sh lo k)).toArray (fun w' => ∃ x : Ext w, w' = x.v) R (l.map (sh lo k)) (smallOf lo k n a))
    (hR : ∀ s', s'.tmps.size = n → R s' → ∀ w', (∃ x : Ext w, w' = x.v) → Q .normal (joined lo k n a s') w') : (Code.region id l.toArray draw).wp P Q a w := by
  refine wp_region_small lo k n (smallOf lo k n a) R hd hl (fun t ht => by have := (inT_iff hlo).1 ht; omega) (smallOf_size hlo ha) ?_ (fun s' hs' hr w' hw' => ?_) h
  · rw [joined_eq hlo (smallOf_size hlo ha) ha]
    exact joined_small hlo ha
  · rw [joined_eq hlo hs' ha]
    exact hR s' hs' hr w' hw'
end Go.Proofs.YtnjoimedilonnaaGreat
namespace Go.Proofs.YtnjoimedilonnaaGreat
open Go.RowKit Go.Deep Go.ChangeShapes Go.WideShapes
theorem block_lt {W : World} {p : Addr} {v : Value} (h : W.cell? p = some v) : p.block < W.heap.size := by
  rcases Nat.lt_or_ge p.block W.heap.size with h1 | h1
  · exact h1
  · unfold World.cell? at h
    rw [Array.getElem?_eq_none h1] at h
    simp at h
theorem open_attrs {H : Type} {enc : TypeId × Value → H} {W : World} {a : Option Addr} {len cap : Nat} {d : DataW H} {p : List MemPlace}
    (h : DataW.Trod enc Tryz.prog W 0 (fun _ => true) true 35 (.slice a len cap) d p) : ∃ L, AttrRow W a len cap L := by
  obtain ⟨fuel, hf⟩ := h
  rcases open_slice_pairs Tryz.underlying35 Tryz.underlying67 (by kernel_rfl) rfl rfl (by kernel_rfl) (by kernel_rfl) hf with ⟨hcs, _⟩ | ⟨ad, l, c, m, n, V0, V1, D0, D1, P0, P1, hcs, _, hl, hm, hmm, _, hi⟩
  · simp [Value.cells] at hcs
    obtain ⟨rfl, rfl, rfl⟩ := hcs
    exact ⟨[], SRow.nil, by simp, fun _ => rfl⟩
  · simp [Value.cells] at hcs
    obtain ⟨rfl, rfl, rfl⟩ := hcs
    have hml : len ≤ m := by rw [hmm]; simpa using hl
    have each : ∀ i, i < len → ∃ x : ByteArray × ByteArray, W.cell? (ad.add (i * 2)) = some (.string x.1) ∧ W.cell? (ad.add (i * 2 + 1)) = some (.string x.2) ∧ x.1.size ≤ maxLen ∧ x.2.size ≤ maxLen := by
      intro i hil
      obtain ⟨h1, h2, h3, h4⟩ := hi i (by omega)
      obtain ⟨s, hs, _, hs3⟩ := DataW.trod_string Tryz.underlying9 h3
      obtain ⟨t, ht, _, ht3⟩ := DataW.trod_string Tryz.underlying9 h4
      simp at hs ht
      exact ⟨(s, t), by rw [h1, hs], by rw [h2, ht], hs3, ht3⟩
    obtain ⟨q, hq⟩ := choose_lt each
    refine ⟨(List.range len).map q, ⟨by simp, hl, hm, fun x _ => encA_len x, ?_⟩, ?_, fun h => by cases h⟩
    · rcases Nat.eq_zero_or_pos len with h0 | h0
      · exact .inl h0
      · obtain ⟨b, off, spot⟩ := ad
        have hc := (hq 0 h0).1
        have hspot : spot = none := by simpa [Addr.add] using World.cell?_spot hc
        subst hspot
        refine .inr ⟨b, off, rfl, ?_, ?_⟩
        · have := block_lt hc
          rwa [add_plain] at this
        · intro i x j v hx hv
          obtain ⟨hil, hgx⟩ := List.getElem?_eq_some_iff.1 hx
          have hil' : i < len := by simpa using hil
          simp at hgx
          obtain ⟨h1, h2, _⟩ := hq i hil'
          rw [add_plain] at h1 h2
          rw [hgx] at h1 h2
          obtain ⟨hjl, hgv⟩ := List.getElem?_eq_some_iff.1 hv
          match j, hjl with
          | 0, _ => simp [encA] at hgv; subst hgv; exact h1
          | 1, _ => simp [encA] at hgv; subst hgv; simpa [Nat.add_assoc] using h2
    · intro x hx
      obtain ⟨i, hi1, rfl⟩ := List.mem_map.1 hx
      have := hq i (List.mem_range.1 hi1)
      exact ⟨this.2.2.1, this.2.2.2⟩
end Go.Proofs.YtnjoimedilonnaaGreat
