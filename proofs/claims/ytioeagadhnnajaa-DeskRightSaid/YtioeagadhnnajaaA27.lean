/- Texts joined in build order: DeskFresh. -/
import Derived.Test.YtioeagadhnnajaaA26
import Derived.Lib.SliceRun
import Derived.Deep.RegionHeld3
import Derived.Deep.RegionLaw
import Derived.Deep.SlicePairs
/- Package fresh's Desk. -/
namespace Go.Proofs.Ytioeagadhnnajaa
open Go.RowKit
theorem info_parts3 {t : TypeId} {z : Value} {s b : Nat} (h : (Try.prog.info? t).map (fun i => (i.zero, i.size, i.bytes)) = some (some z, s, b)) : ∃ i, Try.prog.info? t = some i ∧ i.zero = some z ∧ i.size = s ∧ i.bytes = b := by
  cases hi : Try.prog.info? t with
  | none => rw [hi] at h; simp at h
  | some i =>
    rw [hi] at h
    simp at h
    exact ⟨i, rfl, h.1, h.2.1, h.2.2⟩
theorem def_info : (Try.prog.info? 46).map (fun i => (i.zero, i.size, i.bytes)) = some (some (.agg #[.string ⟨#[]⟩, .string ⟨#[]⟩, .int .i64 0]), 3, 40) := by kernel_rfl
theorem wait_info : (Try.prog.info? 48).map (fun i => (i.zero, i.size, i.bytes)) = some (some (.agg #[.string ⟨#[]⟩, .int .i64 0]), 2, 24) := by kernel_rfl
theorem tick_info : (Try.prog.info? 3).map (fun i => (i.zero, i.size, i.bytes)) = some (some (.int .i64 0), 1, 8) := by kernel_rfl
theorem DefRow.of_own {w : World} {base : Nat} {v : Value} {n : Nat} {M : List DefD} (hl : M.length = n) (h : w.ownsRow base 46 3 v n (M.flatMap encD)) (hs : ∀ x ∈ M, x.name.size ≤ maxLen ∧ x.loc.size ≤ maxLen ∧ In64 x.cls) :
    ∃ a cap, v = .slice a n cap ∧ DefRow w a n cap M ∧ (∀ b off, a = some ⟨b, off, none⟩ → base ≤ b) := by
  obtain ⟨a, cap, rfl, h2, h3⟩ := SRow.of_own (fun x _ => encD_len x) hl h
  refine ⟨a, cap, rfl, ⟨h2, hs, fun e => ?_⟩, h3⟩
  rcases h.2 with ⟨hv, _⟩ | ⟨g, cap', cur, hv, _⟩
  · injection hv
  · subst e
    injection hv with hv
    cases hv
theorem WaitRow.of_own {w : World} {base : Nat} {v : Value} {n : Nat} {M : List WaitD} (hl : M.length = n) (h : w.ownsRow base 48 2 v n (M.flatMap encT9)) (hs : ∀ x ∈ M, x.name.size ≤ maxLen ∧ In64 x.ticket) :
    ∃ a cap, v = .slice a n cap ∧ WaitRow w a n cap M ∧ (∀ b off, a = some ⟨b, off, none⟩ → base ≤ b) := by
  obtain ⟨a, cap, rfl, h2, h3⟩ := SRow.of_own (fun x _ => encT_len x) hl h
  refine ⟨a, cap, rfl, ⟨h2, hs, fun e => ?_⟩, h3⟩
  rcases h.2 with ⟨hv, _⟩ | ⟨g, cap', cur, hv, _⟩
  · injection hv
  · subst e
    injection hv with hv
    cases hv
theorem DefRow.drew {w : World} {a : Option Addr} {len cap : Nat} {L : List DefD} (h : DefRow w a len cap L) : DefRow w.drew a len cap L := ⟨h.row.drew, h.ok, h.hnil⟩
theorem WaitRow.drew {w : World} {a : Option Addr} {len cap : Nat} {L : List WaitD} (h : WaitRow w a len cap L) : WaitRow w.drew a len cap L := ⟨h.row.drew, h.ok, h.hnil⟩
/-- What a call owns of two types lies apart. -/
theorem own_apart {w : World} {b1 b2 : Nat} {e1 e2 : TypeId} {s1 s2 n1 n2 : Nat} {v1 v2 : Value} {x1 x2 : List Value} (h1 : w.ownsRow b1 e1 s1 v1 n1 x1) (h2 : w.ownsRow b2 e2 s2 v2 n2 x2) (he : e1 ≠ e2) : ∀ k, v1.ownBlock = some k → v2.ownBlock ≠ some k := by
  intro k hk hk2
  rcases h1.2 with ⟨rfl, _⟩ | ⟨g, cap, cur, rfl, _, hg, _⟩
  · cases hk
  rcases h2.2 with ⟨rfl, _⟩ | ⟨g', cap', cur', rfl, _, hg', _⟩
  · cases hk2
  injection hk with hk
  injection hk2 with hk2
  dsimp only at hk hk2
  subst hk
  subst hk2
  rw [hg] at hg'
  injection hg' with hg'
  injection hg' with _ h4
  exact he h4
def OwnPostD (w : World) (L : List DefD) (e : Ending) (w' : World) : Prop := ∃ v, e = .returned v ∧ w'.ownsRow w.heap.size 46 3 v L.length (L.flatMap encD) ∧ Below w.heap.size w w'
def OwnPostT (w : World) (L : List WaitD) (e : Ending) (w' : World) : Prop := ∃ v, e = .returned v ∧ w'.ownsRow w.heap.size 48 2 v L.length (L.flatMap encT9) ∧ Below w.heap.size w w'
set_option maxHeartbeats 4000000 in
theorem cloneD_any (a : Option Addr) (len cap : Nat) (L : List DefD) (w : World) (h : DefRow w a len cap L) (h40 : len ≤ 1000000) :
    Calls Try.prog 46 #[.slice a len cap] w (OwnPostD w L) := by
  obtain ⟨i0, hi0, hz0, hz1, hz2⟩ := info_parts3 def_info
  have HL := Lib.hid h.hlen
  have q22 : ∀ (w : World) (a : Option Addr) (n c n' c' : Nat), (binOp .eql 22 (.slice a n c) (.slice none n' c')).run Try.prog w = .ok (.bool a.isNone) w := fun w a n c n' c' => Lib.run_eql_slice_nil w _ _ a n c n' c' Try.underlying22
  rcases a with _ | ad
  · have hc : cap = 0 := h.hnil rfl
    have h0 : len = 0 := by have := h.row.hcap; omega
    have hLn : L = [] := List.eq_nil_of_length_eq_zero (by rw [h.hlen, h0])
    subst hc; subst h0; subst hLn
    clear h
    go_enter Try.func46, Try.ntmps46
    go_wp2
    go_ret
    exact ⟨_, rfl, World.ownsRow_nil _ _ _ _, Below.refl _ _⟩
  · have H := Lib.hid h
    have HE := Lib.hid (own_empty (α := DefD) (enc := encD) (size := 3) w w.heap.size 46 (Nat.le_refl _))
    clear h
    go_enter Try.func46, Try.ntmps46
    go_wp2_with (first
      | (at_builtin
         refine wpList_append_rows rfl (.tmp 5) (.tmp 6) 22 rfl 46 i0 _ 3 40 Try.underlying22 hi0 hz0 hz1 hz2 rfl (by decide) w.heap.size _ 0 _ L rfl HE.out (some ad) len cap rfl (H.out.below ((Below.refl _ _).alloc (Nat.le_refl _) _)).row (fun x _ => encD_one x) (by unfold maxLen; omega) (by omega) (by simp) (fun h => by cases h) ?_
         intro v2 w2 hown2 hg2 hat2
         have HB2 := below_new (Below.refl _ _) hg2
         have HO2 := Lib.hid hown2
         clear hown2 hg2 hat2))
    go_ret
    refine ⟨_, rfl, ?_, HB2⟩
    have := HO2.out
    rw [HL.out]
    simpa using this
set_option maxHeartbeats 4000000 in
theorem cloneT_any (a : Option Addr) (len cap : Nat) (L : List WaitD) (w : World) (h : WaitRow w a len cap L) (h40 : len ≤ 1000000) :
    Calls Try.prog 47 #[.slice a len cap] w (OwnPostT w L) := by
  obtain ⟨i0, hi0, hz0, hz1, hz2⟩ := info_parts3 wait_info
  have HL := Lib.hid h.hlen
  have q22 : ∀ (w : World) (a : Option Addr) (n c n' c' : Nat), (binOp .eql 23 (.slice a n c) (.slice none n' c')).run Try.prog w = .ok (.bool a.isNone) w := fun w a n c n' c' => Lib.run_eql_slice_nil w _ _ a n c n' c' Try.underlying23
  rcases a with _ | ad
  · have hc : cap = 0 := h.hnil rfl
    have h0 : len = 0 := by have := h.row.hcap; omega
    have hLn : L = [] := List.eq_nil_of_length_eq_zero (by rw [h.hlen, h0])
    subst hc; subst h0; subst hLn
    clear h
    go_enter Try.func47, Try.ntmps47
    go_wp2
    go_ret
    exact ⟨_, rfl, World.ownsRow_nil _ _ _ _, Below.refl _ _⟩
  · have H := Lib.hid h
    have HE := Lib.hid (own_empty (α := WaitD) (enc := encT9) (size := 2) w w.heap.size 48 (Nat.le_refl _))
    clear h
    go_enter Try.func47, Try.ntmps47
    go_wp2_with (first
      | (at_builtin
         refine wpList_append_rows rfl (.tmp 5) (.tmp 6) 23 rfl 48 i0 _ 2 24 Try.underlying23 hi0 hz0 hz1 hz2 rfl (by decide) w.heap.size _ 0 _ L rfl HE.out (some ad) len cap rfl (H.out.below ((Below.refl _ _).alloc (Nat.le_refl _) _)).row (fun x _ => encT_one x) (by unfold maxLen; omega) (by omega) (by simp) (fun h => by cases h) ?_
         intro v2 w2 hown2 hg2 hat2
         have HB2 := below_new (Below.refl _ _) hg2
         have HO2 := Lib.hid hown2
         clear hown2 hg2 hat2))
    go_ret
    refine ⟨_, rfl, ?_, HB2⟩
    have := HO2.out
    rw [HL.out]
    simpa using this
/-- A desk of the call's own. -/
structure OwnDesk (w W : World) (da : Option Addr) (dl dc : Nat) (wa : Option Addr) (wl wc : Nat) (L : List DefD) (M : List WaitD) : Prop where
  d : W.ownsRow w.heap.size 46 3 (.slice da dl dc) dl (L.flatMap encD)
  t : W.ownsRow w.heap.size 48 2 (.slice wa wl wc) wl (M.flatMap encT9)
  dr : DefRow W da dl dc L
  tr : WaitRow W wa wl wc M
  below : Below w.heap.size w W
theorem OwnDesk.keep {w W V : World} {da wa : Option Addr} {dl dc wl wc : Nat} {L : List DefD} {M : List WaitD} (h : OwnDesk w W da dl dc wa wl wc L M) (hb : Below W.heap.size W V) : OwnDesk w V da dl dc wa wl wc L M :=
  ⟨own_below h.d hb, own_below h.t hb, h.dr.below hb, h.tr.below hb, h.below.trans (hb.mono h.below.size)⟩
def FreshPost (w : World) (L : List DefD) (M : List WaitD) (nx : Int) (bz : Bool) (e : Ending) (w' : World) : Prop :=
  ∃ da dl dc wa wl wc, e = .returned (deskV da dl dc wa wl wc nx bz) ∧ OwnDesk w w' da dl dc wa wl wc L M
end Go.Proofs.Ytioeagadhnnajaa
