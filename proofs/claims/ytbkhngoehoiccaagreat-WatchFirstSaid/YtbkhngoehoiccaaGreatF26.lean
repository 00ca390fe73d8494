/- Texts joined in build order: DueRow MoveAs MovePutMath MoveParts MovePut DeskMay HeirSmall Keep. -/
import Derived.Test.YtbkhngoehoiccaaGreatF16
import Derived.Test.YtbkhngoehoiccaaGreatF25
import Derived.Test.YtbkhngoehoiccaaGreatF20
import Derived.Test.YtbkhngoehoiccaaGreatF24
import Derived.Test.YtbkhngoehoiccaaGreatF07
import Derived.Test.YtbkhngoehoiccaaGreatF21
import Derived.Test.YtbkhngoehoiccaaGreatF04
import Derived.Test.YtbkhngoehoiccaaGreatF15
import Derived.Test.YtbkhngoehoiccaaGreatF08
import Derived.Deep.RegionHeld3
namespace Go.Proofs.YtbkhngoehoiccaaGreat
open Go.RowKit
structure TodoD where
  kind : Int
  dfn : Int
  name : ByteArray
  had : Bool
  has : Bool
  old : ByteArray
  new : ByteArray
  src : Int
  dst : Int
  on : Bool
deriving DecidableEq
structure DueD where
  node : Int
  todo : TodoD
deriving DecidableEq
abbrev todoL (x : TodoD) : List Value := [.int .i64 x.kind, .int .i64 x.dfn, .string x.name, .bool x.had, .bool x.has, .string x.old, .string x.new, .int .i64 x.src, .int .i64 x.dst, .bool x.on]
def encU (x : DueD) : List Value := .int .i64 x.node :: todoL x.todo
theorem encU_len (x : DueD) : (encU x).length = 11 := rfl
theorem encU_one (x : DueD) : ∀ u ∈ encU x, u.oneCell' = true := by
  intro u hu
  simp [encU] at hu
  rcases hu with rfl | rfl | rfl | rfl | rfl | rfl | rfl | rfl | rfl | rfl | rfl <;> rfl
structure DueRow (w : World) (a : Option Addr) (len cap : Nat) (L : List DueD) : Prop where
  row : SRow encU 11 w a len cap L
  hnil : a = none → cap = 0
theorem DueRow.below {w w' : World} {a : Option Addr} {len cap : Nat} {L : List DueD} (h : DueRow w a len cap L) (hb : Below w.heap.size w w') : DueRow w' a len cap L := ⟨h.row.below hb, h.hnil⟩
theorem DueRow.nil (w : World) : DueRow w none 0 0 [] := ⟨SRow.nil, fun _ => rfl⟩
def DuePost (w : World) (l : List DueD) (e : Ending) (w' : World) : Prop := ∃ a len cap, e = .returned (.slice a len cap) ∧ DueRow w' a len cap l ∧ Below w.heap.size w w'
theorem DueRow.of_own {w : World} {base n : Nat} {v : Value} {L : List DueD} (hl : L.length = n) (h : w.ownsRow base 66 11 v n (L.flatMap encU)) : ∃ a c, v = .slice a n c ∧ DueRow w a n c L := by
  obtain ⟨a, c, e, hr, hn⟩ := SRow.of_own (fun z _ => encU_len z) hl h
  refine ⟨a, c, e, hr, fun ha => ?_⟩
  subst ha
  rcases h.2 with ⟨hv, _⟩ | ⟨g, cap, cur, hv, _⟩
  · rw [e] at hv
    injection hv
  · rw [e] at hv
    cases hv
theorem due_info : (Tryz.prog.info? 66).map (fun i => (i.zero, i.size, i.bytes)) = some (some (.agg #[.int .i64 0, .int .i64 0, .int .i64 0, .string ⟨#[]⟩, .bool false, .bool false, .string ⟨#[]⟩, .string ⟨#[]⟩, .int .i64 0, .int .i64 0, .bool false]), 11, 104) := by kernel_rfl
abbrev upT (d : Int) : TodoD := ⟨9, d, ⟨#[]⟩, false, false, ⟨#[]⟩, ⟨#[]⟩, 0, 0, false⟩
end Go.Proofs.YtbkhngoehoiccaaGreat
namespace Go.Proofs.YtbkhngoehoiccaaGreat
open Go.RowKit Go.Extern.Stop Go.Stop Go.Extern
end Go.Proofs.YtbkhngoehoiccaaGreat
namespace Go.Proofs.YtbkhngoehoiccaaGreat
open Go.RowKit
structure PutInv (m : Int) (F : List Core) (p : Nat) (l : List Int) (b : Int) : Prop where
  right : rightF m F = true
  lt : p < F.length
  kp : kindK F p ≠ 2
  once : l.Nodup
  ls : ∀ z ∈ l, ∃ q : Nat, z = q ∧ q < F.length ∧ (kindK F q = 1 ∨ kindK F q = 2)
  over : ∀ q : Nat, (q : Int) ∈ l → ¬ holdsT (parS F) q p
  root : kindK F p = 0 → (kidsK F p).length + l.length ≤ 1 ∧ ∀ k ∈ l, kindK F k = 1
  before : b = -1 ∨ (b ∈ kidsK F p ∧ b ∉ l)
section
variable {m : Int} {F G : List Core} {p : Nat} {l r : List Int} {b : Int}
theorem kidsK_edit {P : Nat → Core → Int} {K : Nat → Core → List Int} {D : Nat → Core → Int} (h : Edit F G P K D) {c : Core} (hc : F[p]? = some c) : kidsK G p = K p c := kidsK_get (h.at_ p c hc)
theorem PutInv.out (h : PutInv m F p l b) {q : Nat} (hq : (q : Int) ∈ l) (hp : parentK F q ≠ -1) : PutInv m (mvOut F q) p l b := by
  obtain ⟨q', e, hql, _⟩ := h.ls _ hq
  obtain rfl : q = q' := by omega
  have hx : F[q]? = some F[q] := List.getElem?_eq_getElem hql
  rw [parentK_at hx] at hp
  obtain ⟨a, ha1, ha2, ho⟩ := mvOut_out h.right hx hp
  obtain ⟨cp, hc⟩ : ∃ cp, F[p]? = some cp := ⟨_, List.getElem?_eq_getElem h.lt⟩
  have hk : kidsK (mvOut F q) p = if p = a then cp.kids.filter (fun z => z != (q : Int)) else cp.kids := kidsK_edit ho.ed hc
  have hk0 : kidsK F p = cp.kids := kidsK_get hc
  refine ⟨ho.rightG, by rw [ho.ed.len]; exact h.lt, by rw [ho.ed.kindK]; exact h.kp, h.once, fun z hz => ?_, fun t ht hh => ?_, fun e => ?_, ?_⟩
  · obtain ⟨t, h1, h2, h3⟩ := h.ls z hz
    exact ⟨t, h1, by rw [ho.ed.len]; exact h2, by rw [ho.ed.kindK]; exact h3⟩
  · obtain ⟨t', e, htl, _⟩ := h.ls _ ht
    obtain rfl : t = t' := by omega
    exact h.over t ht ((ho.over htl h.lt).1 hh).1
  · rw [ho.ed.kindK] at e
    obtain ⟨h1, h2⟩ := h.root e
    refine ⟨?_, fun k hk => by rw [ho.ed.kindK]; exact h2 k hk⟩
    rw [hk]
    rw [hk0] at h1
    split
    · exact Nat.le_trans (Nat.add_le_add_right (List.length_filter_le _ _) _) h1
    · exact h1
  · rcases h.before with e | ⟨h1, h2⟩
    · exact .inl e
    · refine .inr ⟨?_, h2⟩
      rw [hk]
      rw [hk0] at h1
      split
      · rw [List.mem_filter]
        exact ⟨h1, bne_iff_ne.2 (fun e => h2 (by rw [e]; exact hq))⟩
      · exact h1
theorem parS_same {F G : List Core} (h : ∀ j : Nat, nextUp G (j : Int) = nextUp F j) : parS G = parS F := by
  funext j
  unfold parS
  rw [h j]
theorem PutInv.doc (h : PutInv m F p l b) {q : Nat} (hq : (q : Int) ∈ l) (hp : parentK F q = -1) {d : Int} (hd : ∃ c, getC F d = some c ∧ c.kind = 0) : PutInv m (mvDoc F q d) p l b := by
  obtain ⟨q', e, hql, hqk⟩ := h.ls _ hq
  obtain rfl : q = q' := by omega
  have T := taken_doc h.right hql hp hqk hd
  obtain ⟨cp, hc⟩ : ∃ cp, F[p]? = some cp := ⟨_, List.getElem?_eq_getElem h.lt⟩
  have hk : kidsK (mvDoc F q d) p = kidsK F p := by rw [kidsK_edit T.ed hc, kidsK_get hc]
  have hpar := parS_same T.next
  exact ⟨T.rightG, by rw [T.ed.len]; exact h.lt, by rw [T.ed.kindK]; exact h.kp, h.once, fun z hz => by
    obtain ⟨t, h1, h2, h3⟩ := h.ls z hz
    exact ⟨t, h1, by rw [T.ed.len]; exact h2, by rw [T.ed.kindK]; exact h3⟩, fun t ht hh => h.over t ht (by rw [hpar] at hh; exact hh), fun e => by
    rw [T.ed.kindK] at e
    rw [hk]
    obtain ⟨h1, h2⟩ := h.root e
    exact ⟨h1, fun k hk => by rw [T.ed.kindK]; exact h2 k hk⟩, by rw [hk]; exact h.before⟩
theorem PutInv.put {q : Nat} (h : PutInv m F p ((q : Int) :: r) b) (hp : parentK F q = -1) (hd : docK F q = docK F p) : PutInv m (mvIn F q p b) p r b := by
  have hq : (q : Int) ∈ (q : Int) :: r := List.mem_cons_self
  obtain ⟨q', e, hql, hqk⟩ := h.ls _ hq
  obtain rfl : q = q' := by omega
  have hx : F[q]? = some F[q] := List.getElem?_eq_getElem hql
  obtain ⟨cp, hc⟩ : ∃ cp, F[p]? = some cp := ⟨_, List.getElem?_eq_getElem h.lt⟩
  have hov := h.over q hq
  have hqp : q ≠ p := fun e => hov (by rw [e]; exact holds_refl p)
  have hk0 : kidsK F p = cp.kids := kidsK_get hc
  have notin : ∀ (j : Nat) (c : Core), F[j]? = some c → (q : Int) ∉ c.kids := fun j c hj hm => by
    obtain ⟨c', h1, _, h3, _⟩ := (right_node h.right hj).kids _ hm
    rw [getC_nat, hx] at h1
    rw [parentK_at hx] at hp
    rw [← Option.some.inj h1, hp] at h3
    omega
  have hb : b = -1 ∨ b ∈ cp.kids := by
    rcases h.before with e | ⟨h1, _⟩
    · exact .inl e
    · rw [hk0] at h1
      exact .inr h1
  have hfil : ∀ (j : Nat) (c : Core), F[j]? = some c → c.kids.filter (fun z => !([(q : Int)] : List Int).contains z) = c.kids := fun j c hj => List.filter_eq_self.2 (fun z hz => by
    have : z ≠ (q : Int) := fun e => notin j c hj (by rw [← e]; exact hz)
    simpa using this)
  have hedi := edF_edit F (fun j c => if j = q then (p : Int) else c.parent) (fun j c => if j = p then insB c.kids b q else c.kids) (fun _ c => c.doc)
  have hIn : PutIn m F (mvIn F q p b) [(q : Int)] p cp (cp.kids.take (insAt cp.kids b)) (cp.kids.drop (insAt cp.kids b)) (fun j => decide ((j : Int) ∈ allI F q)) := by
    refine ⟨h.right, hc, by rw [← kindK_at hc]; exact h.kp, by simp, fun z hz => ?_, fun t ht => ?_, ?_, fun e => ?_, fun j hj => ?_, hedi.cong (fun j c hj => ⟨?_, ?_, ?_⟩)⟩
    · rw [List.mem_singleton] at hz
      exact ⟨q, F[q], hz, hx, by rw [← kindK_at hx]; exact hqk⟩
    · have : t = q := Int.ofNat_inj.1 (by simpa using ht)
      rw [this]
      exact hov
    · rw [List.take_append_drop]
      exact (hfil p _ hc).symm
    · have h1 := h.root (by rw [kindK_at hc]; exact e)
      rw [hk0, List.length_cons] at h1
      have hnil : cp.kids = [] := List.eq_nil_of_length_eq_zero (by omega)
      rw [hnil]
      simp only [List.take_nil, List.drop_nil, List.nil_append, List.append_nil, List.length_singleton]
      exact ⟨Nat.le_refl _, fun k hk => by rw [List.mem_singleton] at hk; rw [hk]; exact h1.2 _ hq⟩
    · rw [decide_eq_true_iff, mem_all h.right hql hj]
      constructor
      · exact fun hh => ⟨q, by simp, hh⟩
      · rintro ⟨t, ht, hh⟩
        have : t = q := Int.ofNat_inj.1 (by simpa using ht)
        rw [← this]
        exact hh
    · by_cases e : j = q
      · subst e; simp
      · rw [if_neg e, if_neg (by simpa using (fun h2 => e (by omega) : (j : Int) ≠ (q : Int)))]
    · by_cases e : j = p
      · subst e
        rw [hc] at hj
        rw [if_pos rfl, if_pos rfl, ← Option.some.inj hj, ← insB_eq]
        simp
      · rw [if_neg e, if_neg e, hfil j c hj]
    · by_cases e : (j : Int) ∈ allI F q
      · have hjl := (List.getElem?_eq_some_iff.1 hj).1
        have h1 := doc_all h.right hql e hjl
        rw [hd, docK_at hj, docK_at hc] at h1
        simp only [decide_eq_true e, if_true]
        exact h1
      · simp only [decide_eq_false e, Bool.false_eq_true, if_false]
  have hed : Edit F (mvIn F q p b) (fun j c => if j = q then (p : Int) else c.parent) (fun j c => if j = p then insB c.kids b q else c.kids) (fun _ c => c.doc) := hedi
  have hkG : kidsK (mvIn F q p b) p = insB cp.kids b q := by rw [kidsK_edit hed hc]; exact if_pos rfl
  have hup : ∀ (k c a : Nat), c < F.length → ¬ holdsT (parS F) q c → upN (parS (mvIn F q p b)) k c = some a → upN (parS F) k c = some a := by
    intro k
    induction k with
    | zero => exact fun c a _ _ hu => hu
    | succ k ih =>
      intro c a hcl hn hu
      unfold upN at hu ⊢
      have hcq : c ≠ q := fun e => hn (by rw [e]; exact holds_refl q)
      have hpc : parS (mvIn F q p b) c = parS F c := by
        unfold parS
        have h1 := hIn.next hcl
        rw [if_neg (by simpa using (fun h2 => hcq (by omega) : (c : Int) ≠ (q : Int)))] at h1
        rw [h1]
      rw [hpc] at hu
      cases hq2 : parS F c with
      | none => rw [hq2] at hu; cases hu
      | some t =>
        rw [hq2] at hu
        exact ih t a (parS_next h.right hcl hq2).2 (fun hh => hn (holds_trans hh (holds_par hq2))) hu
  refine ⟨hIn.rightG, by rw [hed.len]; exact h.lt, by rw [hed.kindK]; exact h.kp, (List.nodup_cons.1 h.once).2, fun z hz => ?_, fun t ht hh => ?_, fun e => ?_, ?_⟩
  · obtain ⟨t, h1, h2, h3⟩ := h.ls z (List.mem_cons_of_mem _ hz)
    exact ⟨t, h1, by rw [hed.len]; exact h2, by rw [hed.kindK]; exact h3⟩
  · obtain ⟨k, hk⟩ := hh
    exact h.over t (List.mem_cons_of_mem _ ht) ⟨k, hup k p t h.lt hov hk⟩
  · rw [hed.kindK] at e
    obtain ⟨h1, h2⟩ := h.root e
    refine ⟨?_, fun k hk => by rw [hed.kindK]; exact h2 k (List.mem_cons_of_mem _ hk)⟩
    rw [hkG, ← insB_eq]
    rw [hk0, List.length_cons] at h1
    simp only [List.length_append, List.length_cons, List.length_take, List.length_drop]
    omega
  · rcases h.before with e | ⟨h1, h2⟩
    · exact .inl e
    · refine .inr ⟨?_, fun hh => h2 (List.mem_cons_of_mem _ hh)⟩
      rw [hkG, ← insB_eq]
      rw [hk0, ← List.take_append_drop (insAt cp.kids b) cp.kids] at h1
      rcases List.mem_append.1 h1 with h1 | h1
      · exact List.mem_append.2 (.inl h1)
      · exact List.mem_append.2 (.inr (List.mem_cons_of_mem _ h1))
end
end Go.Proofs.YtbkhngoehoiccaaGreat
namespace Go.Proofs.YtbkhngoehoiccaaGreat
open Go.RowKit
end Go.Proofs.YtbkhngoehoiccaaGreat
namespace Go.Proofs.YtbkhngoehoiccaaGreat
open Go.RowKit
section
variable {m : Int}
end
section
variable {ρ : Nat → Nat} {pw g cap len : Nat} {m : Int} {M : List NodeD} {v : Value} {N : List NoteD}
end
end Go.Proofs.YtbkhngoehoiccaaGreat
namespace Go.Proofs.YtbkhngoehoiccaaGreat
open Go.RowKit
theorem find_ifRight {D : DeskD} {l s : List UInt8} : ifRight D (findZ2 D.defs l s) = if ifRight D (firstZ (isOwn l) D.defs) = -1 then ifRight D (firstZ (isIs l s) D.defs) else ifRight D (firstZ (isOwn l) D.defs) := by
  have h1 := (firstZ_lt (isOwn l) D.defs).1
  unfold ifRight findZ2
  cases rightK D with
  | false => rfl
  | true =>
    rw [if_pos rfl, if_pos rfl, if_pos rfl]
    by_cases h : firstZ (isOwn l) D.defs = -1
    · rw [if_pos h, if_neg (by omega)]
    · rw [if_neg h, if_pos (by omega)]
set_option maxHeartbeats 1000000 in
set_option maxRecDepth 100000 in
theorem deskfind_any (da : Option Addr) (dl dc : Nat) (wa : Option Addr) (wl wc : Nat) (nx : Int) (bz : Bool) (L : List DefD) (M : List WaitD) (l s : ByteArray) (w : World) (hd : DefRow w da dl dc L) (ht : WaitRow w wa wl wc M) :
    Calls Tryz.prog 74 #[deskV da dl dc wa wl wc nx bz, .string l, .string s] w fun e w' => e = .returned (.int .i64 (ifRight ⟨L, M, nx, bz⟩ (findZ2 L l.toList s.toList))) ∧ Below w.heap.size w w' := by
  have eg1 : ∀ args w, (callFunc 96 args).run Tryz.prog w = .ok (.enter 96 args) w := enters_of Tryz.func96 (by kernel_rfl) rfl
  have eg2 : ∀ args w, (callFunc 97 args).run Tryz.prog w = .ok (.enter 97 args) w := enters_of Tryz.func97 (by kernel_rfl) rfl
  have HO := Lib.hid (find_ifRight (D := ⟨L, M, nx, bz⟩) (l := l.toList) (s := s.toList))
  have DX := Lib.hid ((DBox.two (nx := nx) (bz := bz) hd ht (.cells #[.string l] 9)).keep (below_desk _ (.cells #[.string s] 9)))
  have hs1 : (w.alloc (deskB da dl dc wa wl wc nx bz)).heap.size = w.heap.size + 1 := by simp
  have hs2 : ((w.alloc (deskB da dl dc wa wl wc nx bz)).alloc (.cells #[.string l] 9)).heap.size = w.heap.size + 1 + 1 := by simp
  have HC1 : Hid ((((w.alloc (deskB da dl dc wa wl wc nx bz)).alloc (.cells #[.string l] 9)).alloc (.cells #[.string s] 9)).cell? ⟨w.heap.size + 1, 0, none⟩ = some (.string l)) := Lib.hid (by
    rw [← hs1]
    exact ((below_desk _ (.cells #[.string s] 9)).cell (p := ⟨(w.alloc (deskB da dl dc wa wl wc nx bz)).heap.size, 0, none⟩) (by simp)).trans (cell_new _ _ _))
  have HC2 : Hid ((((w.alloc (deskB da dl dc wa wl wc nx bz)).alloc (.cells #[.string l] 9)).alloc (.cells #[.string s] 9)).cell? ⟨w.heap.size + 1 + 1, 0, none⟩ = some (.string s)) := Lib.hid (by
    rw [← hs2]
    exact cell_new _ _ _)
  have hs3 : (((w.alloc (deskB da dl dc wa wl wc nx bz)).alloc (.cells #[.string l] 9)).alloc (.cells #[.string s] 9)).heap.size = w.heap.size + 1 + 1 + 1 := by simp
  obtain ⟨q1, hq1⟩ : ∃ q, ifRight ⟨L, M, nx, bz⟩ (firstZ (isOwn l.toList) L) = q := ⟨_, rfl⟩
  obtain ⟨q2, hq2⟩ : ∃ q, ifRight ⟨L, M, nx, bz⟩ (firstZ (isIs l.toList s.toList) L) = q := ⟨_, rfl⟩
  obtain ⟨V, hV⟩ : ∃ V, ((w.alloc (deskB da dl dc wa wl wc nx bz)).alloc (.cells #[.string l] 9)).alloc (.cells #[.string s] 9) = V := ⟨_, rfl⟩
  rw [hV] at HC1 HC2 hs3 DX
  have P1 : Hid (∀ U, Below V.heap.size V U → Calls Tryz.prog 95 #[deskV da dl dc wa wl wc nx bz, .func (.func 96) #[] #[.pointer (some ⟨w.heap.size + 1, 0, none⟩)]] U fun e w' => e = .returned (.int .i64 q1) ∧ Below U.heap.size U w') := Lib.hid (fun U hb => by
    have h := place_any 96 #[.pointer (some ⟨w.heap.size + 1, 0, none⟩)] (isOwn l.toList) eg1 da dl dc wa wl wc nx bz L M U (DX.out.keep hb).d (DX.out.keep hb).t ((pred_own l (w.heap.size + 1) V (by omega) HC1.out).later hb)
    rw [hq1] at h
    exact h)
  have P2 : Hid (∀ U, Below V.heap.size V U → Calls Tryz.prog 95 #[deskV da dl dc wa wl wc nx bz, .func (.func 97) #[] #[.pointer (some ⟨w.heap.size + 1 + 1, 0, none⟩), .pointer (some ⟨w.heap.size + 1, 0, none⟩)]] U fun e w' => e = .returned (.int .i64 q2) ∧ Below U.heap.size U w') := Lib.hid (fun U hb => by
    have h := place_any 97 #[.pointer (some ⟨w.heap.size + 1 + 1, 0, none⟩), .pointer (some ⟨w.heap.size + 1, 0, none⟩)] (isIs l.toList s.toList) eg2 da dl dc wa wl wc nx bz L M U (DX.out.keep hb).d (DX.out.keep hb).t ((pred_is l s (w.heap.size + 1 + 1) (w.heap.size + 1) V (by omega) HC2.out (by omega) HC1.out).later hb)
    rw [hq2] at h
    exact h)
  dsimp only at HO
  rw [hq1, hq2] at HO
  have HW := Lib.hid hV
  clear hq1 hq2 eg1 eg2 hd ht HC1 HC2 hV hs1 hs2
  go_enter Tryz.func74, Tryz.ntmps74
  go_upto_region 1 with fail
  rw [HW.out]
  have z0 := DX.out.c0
  have z1 := DX.out.c1
  have z2 := DX.out.c2
  have z3 := DX.out.c3
  clear HW hs3
  cases e1 : q1 == -1 with
  | false =>
    have HR : Hid (ifRight ⟨L, M, nx, bz⟩ (findZ2 L l.toList s.toList) = q1) := Lib.hid (by rw [HO.out, if_neg (beq_eq_false_iff_ne.1 e1)])
    go_wp2_with (go_at_call 95; (with_reducible refine (P1.out _ (Below.refl _ _)).mono ?_); rintro e w5 ⟨rfl, hb⟩)
    go_ret
    exact ⟨ret_int HR.out.symm, DX.out.below.trans (hb.mono DX.out.below.size)⟩
  | true =>
    have HR : Hid (ifRight ⟨L, M, nx, bz⟩ (findZ2 L l.toList s.toList) = q2) := Lib.hid (by rw [HO.out, if_pos (beq_iff_eq.1 e1)])
    go_wp2_with (first
      | (go_at_call 95; (with_reducible refine (P1.out _ (Below.refl _ _)).mono ?_); rintro e w5 ⟨rfl, hb⟩; have HV := Lib.hid hb; clear z0 z1 z2 z3 hb; have z0 := (DX.out.keep HV.out).c0; have z1 := (DX.out.keep HV.out).c1; have z2 := (DX.out.keep HV.out).c2; have z3 := (DX.out.keep HV.out).c3)
      | (go_at_call 95; (with_reducible refine (P2.out _ HV.out).mono ?_); rintro e w6 ⟨rfl, hb⟩))
    go_ret
    exact ⟨ret_int HR.out.symm, (DX.out.keep HV.out).below.trans (hb.mono (DX.out.keep HV.out).below.size)⟩
end Go.Proofs.YtbkhngoehoiccaaGreat
namespace Go.Proofs.YtbkhngoehoiccaaGreat
open Go.RowKit
def fateC (D : DeskD) (c : Core) : Int := if c.kind = 1 ∧ c.doc = 0 then ifRight D (findZ2 D.defs c.name.toList c.is.toList) else -1
end Go.Proofs.YtbkhngoehoiccaaGreat
namespace Go.Proofs.YtbkhngoehoiccaaGreat
open Go.RowKit
theorem keep_one {V W X : World} {p : Addr} {v : Option Value} {R R' : Prop} (lp : p.block < V.heap.size) (hV : V.heap.size ≤ W.heap.size) (hb : Below W.heap.size W X) (hR : R → R') (h : W.cell? p = v ∧ R) : X.cell? p = v ∧ R' :=
  ⟨(hb.cell (Nat.lt_of_lt_of_le lp hV)).trans h.1, hR h.2⟩
theorem kept8 {a0 a1 a2 a3 a4 a5 a6 a7 : Prop} {V W : World} (h : a0 ∧ a1 ∧ a2 ∧ a3 ∧ a4 ∧ a5 ∧ a6 ∧ a7 ∧ Below V.heap.size V W) : Below V.heap.size V W := h.2.2.2.2.2.2.2.2
theorem keep8 {V W X : World} {p0 p1 p2 p3 p4 p5 p6 p7 : Addr} {v0 v1 v2 v3 v4 v5 v6 v7 : Option Value} (l : p0.block < V.heap.size ∧ p1.block < V.heap.size ∧ p2.block < V.heap.size ∧ p3.block < V.heap.size ∧ p4.block < V.heap.size ∧ p5.block < V.heap.size ∧ p6.block < V.heap.size ∧ p7.block < V.heap.size) (h : W.cell? p0 = v0 ∧ W.cell? p1 = v1 ∧ W.cell? p2 = v2 ∧ W.cell? p3 = v3 ∧ W.cell? p4 = v4 ∧ W.cell? p5 = v5 ∧ W.cell? p6 = v6 ∧ W.cell? p7 = v7 ∧ Below V.heap.size V W) (hb : Below W.heap.size W X) : X.cell? p0 = v0 ∧ X.cell? p1 = v1 ∧ X.cell? p2 = v2 ∧ X.cell? p3 = v3 ∧ X.cell? p4 = v4 ∧ X.cell? p5 = v5 ∧ X.cell? p6 = v6 ∧ X.cell? p7 = v7 ∧ Below V.heap.size V X := by
  have hs := (kept8 h).size
  exact keep_one (l.1) hs hb (keep_one (l.2.1) hs hb (keep_one (l.2.2.1) hs hb (keep_one (l.2.2.2.1) hs hb (keep_one (l.2.2.2.2.1) hs hb (keep_one (l.2.2.2.2.2.1) hs hb (keep_one (l.2.2.2.2.2.2.1) hs hb (keep_one (l.2.2.2.2.2.2.2) hs hb (fun h => h.trans (hb.mono h.size))))))))) h
theorem kept28 {a0 a1 a2 a3 a4 a5 a6 a7 a8 a9 a10 a11 a12 a13 a14 a15 a16 a17 a18 a19 a20 a21 a22 a23 a24 a25 a26 a27 : Prop} {V W : World} (h : a0 ∧ a1 ∧ a2 ∧ a3 ∧ a4 ∧ a5 ∧ a6 ∧ a7 ∧ a8 ∧ a9 ∧ a10 ∧ a11 ∧ a12 ∧ a13 ∧ a14 ∧ a15 ∧ a16 ∧ a17 ∧ a18 ∧ a19 ∧ a20 ∧ a21 ∧ a22 ∧ a23 ∧ a24 ∧ a25 ∧ a26 ∧ a27 ∧ Below V.heap.size V W) : Below V.heap.size V W := h.2.2.2.2.2.2.2.2.2.2.2.2.2.2.2.2.2.2.2.2.2.2.2.2.2.2.2.2
theorem keep28 {V W X : World} {p0 p1 p2 p3 p4 p5 p6 p7 p8 p9 p10 p11 p12 p13 p14 p15 p16 p17 p18 p19 p20 p21 p22 p23 p24 p25 p26 p27 : Addr} {v0 v1 v2 v3 v4 v5 v6 v7 v8 v9 v10 v11 v12 v13 v14 v15 v16 v17 v18 v19 v20 v21 v22 v23 v24 v25 v26 v27 : Option Value} (l : p0.block < V.heap.size ∧ p1.block < V.heap.size ∧ p2.block < V.heap.size ∧ p3.block < V.heap.size ∧ p4.block < V.heap.size ∧ p5.block < V.heap.size ∧ p6.block < V.heap.size ∧ p7.block < V.heap.size ∧ p8.block < V.heap.size ∧ p9.block < V.heap.size ∧ p10.block < V.heap.size ∧ p11.block < V.heap.size ∧ p12.block < V.heap.size ∧ p13.block < V.heap.size ∧ p14.block < V.heap.size ∧ p15.block < V.heap.size ∧ p16.block < V.heap.size ∧ p17.block < V.heap.size ∧ p18.block < V.heap.size ∧ p19.block < V.heap.size ∧ p20.block < V.heap.size ∧ p21.block < V.heap.size ∧ p22.block < V.heap.size ∧ p23.block < V.heap.size ∧ p24.block < V.heap.size ∧ p25.block < V.heap.size ∧ p26.block < V.heap.size ∧ p27.block < V.heap.size) (h : W.cell? p0 = v0 ∧ W.cell? p1 = v1 ∧ W.cell? p2 = v2 ∧ W.cell? p3 = v3 ∧ W.cell? p4 = v4 ∧ W.cell? p5 = v5 ∧ W.cell? p6 = v6 ∧ W.cell? p7 = v7 ∧ W.cell? p8 = v8 ∧ W.cell? p9 = v9 ∧ W.cell? p10 = v10 ∧ W.cell? p11 = v11 ∧ W.cell? p12 = v12 ∧ W.cell? p13 = v13 ∧ W.cell? p14 = v14 ∧ W.cell? p15 = v15 ∧ W.cell? p16 = v16 ∧ W.cell? p17 = v17 ∧ W.cell? p18 = v18 ∧ W.cell? p19 = v19 ∧ W.cell? p20 = v20 ∧ W.cell? p21 = v21 ∧ W.cell? p22 = v22 ∧ W.cell? p23 = v23 ∧ W.cell? p24 = v24 ∧ W.cell? p25 = v25 ∧ W.cell? p26 = v26 ∧ W.cell? p27 = v27 ∧ Below V.heap.size V W) (hb : Below W.heap.size W X) : X.cell? p0 = v0 ∧ X.cell? p1 = v1 ∧ X.cell? p2 = v2 ∧ X.cell? p3 = v3 ∧ X.cell? p4 = v4 ∧ X.cell? p5 = v5 ∧ X.cell? p6 = v6 ∧ X.cell? p7 = v7 ∧ X.cell? p8 = v8 ∧ X.cell? p9 = v9 ∧ X.cell? p10 = v10 ∧ X.cell? p11 = v11 ∧ X.cell? p12 = v12 ∧ X.cell? p13 = v13 ∧ X.cell? p14 = v14 ∧ X.cell? p15 = v15 ∧ X.cell? p16 = v16 ∧ X.cell? p17 = v17 ∧ X.cell? p18 = v18 ∧ X.cell? p19 = v19 ∧ X.cell? p20 = v20 ∧ X.cell? p21 = v21 ∧ X.cell? p22 = v22 ∧ X.cell? p23 = v23 ∧ X.cell? p24 = v24 ∧ X.cell? p25 = v25 ∧ X.cell? p26 = v26 ∧ X.cell? p27 = v27 ∧ Below V.heap.size V X := by
  have hs := (kept28 h).size
  exact keep_one (l.1) hs hb (keep_one (l.2.1) hs hb (keep_one (l.2.2.1) hs hb (keep_one (l.2.2.2.1) hs hb (keep_one (l.2.2.2.2.1) hs hb (keep_one (l.2.2.2.2.2.1) hs hb (keep_one (l.2.2.2.2.2.2.1) hs hb (keep_one (l.2.2.2.2.2.2.2.1) hs hb (keep_one (l.2.2.2.2.2.2.2.2.1) hs hb (keep_one (l.2.2.2.2.2.2.2.2.2.1) hs hb (keep_one (l.2.2.2.2.2.2.2.2.2.2.1) hs hb (keep_one (l.2.2.2.2.2.2.2.2.2.2.2.1) hs hb (keep_one (l.2.2.2.2.2.2.2.2.2.2.2.2.1) hs hb (keep_one (l.2.2.2.2.2.2.2.2.2.2.2.2.2.1) hs hb (keep_one (l.2.2.2.2.2.2.2.2.2.2.2.2.2.2.1) hs hb (keep_one (l.2.2.2.2.2.2.2.2.2.2.2.2.2.2.2.1) hs hb (keep_one (l.2.2.2.2.2.2.2.2.2.2.2.2.2.2.2.2.1) hs hb (keep_one (l.2.2.2.2.2.2.2.2.2.2.2.2.2.2.2.2.2.1) hs hb (keep_one (l.2.2.2.2.2.2.2.2.2.2.2.2.2.2.2.2.2.2.1) hs hb (keep_one (l.2.2.2.2.2.2.2.2.2.2.2.2.2.2.2.2.2.2.2.1) hs hb (keep_one (l.2.2.2.2.2.2.2.2.2.2.2.2.2.2.2.2.2.2.2.2.1) hs hb (keep_one (l.2.2.2.2.2.2.2.2.2.2.2.2.2.2.2.2.2.2.2.2.2.1) hs hb (keep_one (l.2.2.2.2.2.2.2.2.2.2.2.2.2.2.2.2.2.2.2.2.2.2.1) hs hb (keep_one (l.2.2.2.2.2.2.2.2.2.2.2.2.2.2.2.2.2.2.2.2.2.2.2.1) hs hb (keep_one (l.2.2.2.2.2.2.2.2.2.2.2.2.2.2.2.2.2.2.2.2.2.2.2.2.1) hs hb (keep_one (l.2.2.2.2.2.2.2.2.2.2.2.2.2.2.2.2.2.2.2.2.2.2.2.2.2.1) hs hb (keep_one (l.2.2.2.2.2.2.2.2.2.2.2.2.2.2.2.2.2.2.2.2.2.2.2.2.2.2.1) hs hb (keep_one (l.2.2.2.2.2.2.2.2.2.2.2.2.2.2.2.2.2.2.2.2.2.2.2.2.2.2.2) hs hb (fun h => h.trans (hb.mono h.size))))))))))))))))))))))))))))) h
end Go.Proofs.YtbkhngoehoiccaaGreat
