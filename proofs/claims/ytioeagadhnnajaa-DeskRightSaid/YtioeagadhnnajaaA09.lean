/- Texts joined in build order: NameSmall. -/
import Derived.Test.YtioeagadhnnajaaA08
import Derived.Laws.IdiomStrings
import Derived.Below
import Derived.WideShapes
/- Small answers the list of bytes with A to Z made small, and turns nothing that was there. -/
namespace Go.Proofs.Ytioeagadhnnajaa
open Go.RowKit
theorem bytes_made (s : ByteArray) (w : World) : ∃ (cap : Nat) (C : Array Value) (mk : Nat × Nat),
    (convert 9 68 (.string s)).run Try.prog w = .ok (.slice (some ⟨w.heap.size, 0, none⟩) s.size cap) (w.drew.alloc (.cells C 5 mk)) ∧
    (∀ j (h : j < s.size), (w.alloc (.cells C 5 mk)).cell? ⟨w.heap.size, j, none⟩ = some (.int .u8 (s[j].toNat : Int))) ∧
    ∀ j, j < s.size → (w.alloc (.cells C 5 mk)).frozen? ⟨w.heap.size, j, none⟩ = false := by
  refine ⟨_, _, _, run_bytes_of_string w 9 68 5 s Try.underlying9 Try.underlying68 Try.underlying5, ?_, ?_⟩
  · intro j h
    rw [World.cell?_alloc_mark]
    exact bytesRow_at s _ j h
  · intro j h
    rw [World.frozen?_alloc_mark]
    have : s.size ≤ (bytesRow s (grownCap w s.size 0 5)).size := by
      simp [bytesRow]
    simp
    omega

structure SmallRow (s : ByteArray) (w wr : World) (k : Nat) : Prop where
  cells : ∀ j (h : j < s.size), wr.cell? ⟨w.heap.size, j, none⟩ = some (.int .u8 ((if j < k then smallB s[j] else s[j]).toNat : Int))
  free : ∀ j, j < s.size → wr.frozen? ⟨w.heap.size, j, none⟩ = false
  below : Below w.heap.size w wr

theorem SmallRow.keep {s : ByteArray} {w wr : World} {k : Nat} (h : SmallRow s w wr k) (hk : k < s.size) (hc : capI (s[k].toNat : Int) = false) : SmallRow s w wr (k + 1) := by
  refine ⟨fun j hj => ?_, h.free, h.below⟩
  rw [h.cells j hj]
  by_cases e : j = k
  · subst e
    rw [if_neg (by omega), if_pos (by omega)]
    unfold smallB
    rw [hc]
    rfl
  · by_cases e2 : j < k
    · rw [if_pos e2, if_pos (by omega)]
    · rw [if_neg e2, if_neg (by omega)]

theorem SmallRow.store {s : ByteArray} {w wr : World} {k : Nat} (h : SmallRow s w wr k) (hk : k < s.size) :
    SmallRow s w (wr.setCell ⟨w.heap.size, k, none⟩ (.int .u8 ((smallB s[k]).toNat : Int))) (k + 1) := by
  refine ⟨fun j hj => ?_, fun j hj => ?_, h.below.setCell (Nat.le_refl _) _⟩
  · by_cases e : j = k
    · subst e
      rw [World.cell?_setCell_same _ _ _ (h.cells j hj), if_pos (by omega)]
    · rw [World.cell?_setCell_other _ _ _ _ (by intro h; injection h; omega), h.cells j hj]
      by_cases e2 : j < k
      · rw [if_pos e2, if_pos (by omega)]
      · rw [if_neg e2, if_neg (by omega)]
  · rw [World.frozen?_setCell]
    exact h.free j hj

theorem smallL_len (l : List UInt8) : (smallL l).length = l.length := by simp [smallL]
theorem smallB_cap (c : UInt8) (h : capI (c.toNat : Int) = true) : ((smallB c).toNat : Int) = (c.toNat : Int) + 32 := by
  have hb := of_decide_eq_true h
  unfold smallB
  rw [h]
  simp [UInt8.toNat_add]
  omega

theorem SmallRow.back {s : ByteArray} {w wr : World} {k : Nat} (h : SmallRow s w wr k) (hk : k = s.size) (cap : Nat) :
    (convert 68 9 (.slice (some ⟨w.heap.size, 0, none⟩) s.size cap)).run Try.prog wr = .ok (.string (ofL (smallL s.toList))) wr := by
  have hl : (smallL s.toList).length = s.size := by rw [smallL_len, tl_len]
  have := run_convert_bytes_back (P := Try.prog) wr 68 9 5 ⟨w.heap.size, 0, none⟩ cap (smallL s.toList) Try.underlying68 Try.underlying5 Try.underlying9 (fun j hj => by
    have hj' : j < s.size := by omega
    have hg := tl_get s j hj'
    have e : (smallL s.toList)[j] = smallB s[j] := by
      have h1 : (smallL s.toList)[j]? = some (smallB s[j]) := by
        unfold smallL
        rw [List.getElem?_map, hg]
        rfl
      exact (List.getElem?_eq_some_iff.1 h1).2
    have hc := h.cells j hj'
    rw [if_pos (by omega)] at hc
    rw [e]
    have ha : (⟨w.heap.size, 0, none⟩ : Addr).add j = ⟨w.heap.size, j, none⟩ := by rw [Go.WideShapes.add_plain, Nat.zero_add]
    rw [ha]
    exact hc)
  rw [hl] at this
  exact this

set_option maxHeartbeats 2000000 in
set_option maxRecDepth 100000 in
theorem small_any (s : ByteArray) (w : World) (hs : s.size ≤ maxLen) :
    Calls Try.prog 50 #[.string s] w fun e w' => e = .returned (.string (ofL (smallL s.toList))) ∧ Below w.heap.size w w' := by
  unfold maxLen at hs
  obtain ⟨cap, C, mk, hconv, hcell, hfree⟩ := bytes_made s w
  have H1 := Lib.hid hcell
  have H2 := Lib.hid hfree
  clear hcell hfree
  go_enter Try.func50, Try.ntmps50
  go_wp2
  clear hconv
  go_loopw [10] (fun i wr => ∃ k : Nat, k ≤ s.size ∧ i = .int .i64 k ∧ Hid (SmallRow s w wr k)) (fun i _ => s.size - (intOf i).toNat)
  case atStart =>
    refine ⟨0, Nat.zero_le _, rfl, Lib.hid ⟨fun j h => ?_, fun j h => ?_, ((Below.refl _ _).alloc (Nat.le_refl _) _).drew⟩⟩
    · rw [if_neg (by omega)]
      exact H1.out j h
    · exact H2.out j h
  case round =>
    obtain ⟨k, hk, rfl, HR⟩ := hrel
    by_cases hlt : k < s.size
    · have hcell : wr.cell? ⟨w.heap.size, k, none⟩ = some (.int .u8 (s[k].toNat : Int)) := by
        have := HR.out.cells k hlt
        rwa [if_neg (by omega)] at this
      have hfree := HR.out.free k hlt
      by_cases hc : capI (s[k].toNat : Int) = true
      · have hb := of_decide_eq_true hc
        have hb1 : (65 : Int) ≤ (s[k].toNat : Int) := hb.1
        have hb2 : (s[k].toNat : Int) ≤ 90 := hb.2
        have HE := Lib.hid (smallB_cap _ hc)
        clear hb
        go_wp2_with (go_at_call 57; refine (isCapital_any _ _).mono ?_; rintro e w' ⟨rfl, rfl⟩)
        go_roundw
        case rel =>
          refine ⟨k + 1, by omega, by go_num, ?_⟩
          have := HR.out.store hlt
          rw [HE.out] at this
          have e : (s[k].toNat : Int) - 65 + 97 = (s[k].toNat : Int) + 32 := by omega
          first | exact Lib.hid this | (rw [e]; exact Lib.hid this)
        case measure => simp [intOf]; omega
      · have hc' : capI (s[k].toNat : Int) = false := by simpa using hc
        clear hc
        go_wp2_with (go_at_call 57; refine (isCapital_any _ _).mono ?_; rintro e w' ⟨rfl, rfl⟩)
        go_roundw
        case rel => exact ⟨k + 1, by omega, by go_num, Lib.hid (HR.out.keep hlt hc')⟩
        case measure => simp [intOf]; omega
    · have hback := HR.out.back (by omega) cap
      go_wp2
      go_ret
      exact ⟨rfl, HR.out.below⟩
end Go.Proofs.Ytioeagadhnnajaa
