/- Texts joined in build order: RefSmall. -/
import Derived.Test.YtioeagadhnnajaaChecked
import Derived.Test.YtioeagadhnnajaaA01
import Derived.WalkLawsBesides
import Derived.Below
import Derived.WideShapes
import Derived.Lib.Hide
import Derived.Test.YtioeagadhnnajaaA03
import Derived.Laws.IdiomStrings
import Derived.Lib.IndexBytes
/- The document's own answer Small (package instarref01): byte by byte, by '+' on strings. -/
namespace Go.Proofs.Ytioeagadhnnajaa
open Go.RowKit
def ofI (n : Int) : UInt8 := UInt8.ofNat n.toNat
theorem ofI_nat {n : Int} (h0 : 0 ≤ n) (h1 : n ≤ 255) : ((ofI n).toNat : Int) = n := by
  unfold ofI
  have : (UInt8.ofNat n.toNat).toNat = n.toNat % 256 := by simp
  rw [this]
  omega
theorem bytes_one (w : World) (a : Addr) (n : Int) (h0 : 0 ≤ n) (h1 : n ≤ 255) (hc : w.cell? a = some (.int .u8 n)) :
    (convert 68 9 (.slice (some a) 1 1)).run Try.prog w = .ok (.string (ofL [ofI n])) w := by
  have hs := World.cell?_spot hc
  have := run_convert_bytes_back (P := Try.prog) w 68 9 5 a 1 [ofI n] Try.underlying68 Try.underlying5 Try.underlying9 (fun j hj => by
    have : j = 0 := by simpa using hj
    subst this
    have ha : a.add 0 = a := by
      obtain ⟨b, o, sp⟩ := a
      simp at hs
      subst hs
      rw [Go.WideShapes.add_plain, Nat.add_zero]
    rw [ha, hc]
    simp [ofI_nat h0 h1])
  exact this
theorem cut_one (s : ByteArray) (k : Nat) (c : UInt8) (h : s.toList[k]? = some c) : s.extract k (k + 1) = ofL [c] := by
  obtain ⟨hl, hg⟩ := List.getElem?_eq_some_iff.1 h
  rw [← ofL_self (s.extract k (k + 1))]
  congr 1
  rw [tl, Lib.extract_data, ← tl, List.drop_eq_getElem_cons hl, hg]
  have : k + 1 - k = 1 := by omega
  first
    | (rw [this]; rfl)
    | simp
theorem small_take (l : List UInt8) (k : Nat) (c : UInt8) (h : l[k]? = some c) : smallL (l.take (k + 1)) = smallL (l.take k) ++ [smallB c] := by
  obtain ⟨hl, hg⟩ := List.getElem?_eq_some_iff.1 h
  rw [List.take_succ_eq_append_getElem hl, hg]
  simp [smallL]

set_option maxHeartbeats 4000000 in
set_option maxRecDepth 100000 in
theorem refsmall_any (s : ByteArray) (w : World) (hs : s.size ≤ 1000000) :
    Calls Try.prog 40 #[.string s] w fun e w' => e = .returned (.string (ofL (smallL s.toList))) ∧ Below w.heap.size w w' := by
  have HL := Lib.hid (tl_len s)
  go_enter Try.func40, Try.ntmps40
  go_wp2
  go_loopw [3, 4] (fun o i wr => ∃ k : Nat, k ≤ s.size ∧ i = .int .i64 k ∧ o = .string (ofL (smallL (s.toList.take k))) ∧ Below w.heap.size w wr) (fun _ i _ => s.size - (intOf i).toNat)
  case atStart => exact ⟨0, Nat.zero_le _, rfl, rfl, Below.refl _ _⟩
  case round =>
    obtain ⟨k, hk, rfl, rfl, HB⟩ := hrel
    by_cases hlt : k < s.size
    · have hg := tl_get s k hlt
      have HT := Lib.hid (small_take _ _ _ hg)
      have hsz : (ofL (smallL (s.toList.take k))).size + 1 ≤ 9223372036854775807 := by
        rw [size_ofL, smallL_length, List.length_take, HL.out]; omega
      have HX := Lib.hid (cut_one s k _ hg)
      have HG := Lib.hid (smallB_nat s[k])
      have hpos : 0 ≤ (s[k].toNat : Int) := by omega
      have hmax : (s[k].toNat : Int) ≤ 255 := by have := s[k].toNat_lt; omega
      clear hg
      by_cases hc : capI (s[k].toNat : Int) = true
      · have hb := of_decide_eq_true hc
        have b1 : (65 : Int) ≤ (s[k].toNat : Int) := hb.1
        have b2 : (s[k].toNat : Int) ≤ 90 := hb.2
        have d1 : decide ((65 : Int) ≤ (s[k].toNat : Int)) = true := decide_eq_true b1
        have d2 : decide ((s[k].toNat : Int) ≤ 90) = true := decide_eq_true b2
        have hcv : ∀ W : World, (convert 68 9 (.slice (some ⟨W.heap.size, 0, none⟩) 1 1)).run Try.prog (W.alloc (.cells #[.int .u8 ((s[k].toNat : Int) + 32)] 5)) = .ok (.string (ofL [ofI ((s[k].toNat : Int) + 32)])) (W.alloc (.cells #[.int .u8 ((s[k].toNat : Int) + 32)] 5)) :=
          fun W => bytes_one _ _ _ (by omega) (by omega) (by simp [go_sem])
        have hadd : ∀ W : World, (Op.stringOp .add (ofL (smallL (s.toList.take k))) (ofL [ofI ((s[k].toNat : Int) + 32)])).run Try.prog W = .ok (.string (ofL (smallL (s.toList.take (k + 1))))) W := fun W => by
          rw [run_string_add_sum W _ _ (by rw [size_ofL [_]]; exact hsz), add_ofL, toList_ofL, HT.out]
          have : ofI ((s[k].toNat : Int) + 32) = smallB s[k] := by
            apply UInt8.toNat_inj.1
            have h1 := ofI_nat (n := (s[k].toNat : Int) + 32) (by omega) (by omega)
            have h2 := HG.out
            rw [if_pos hc] at h2
            omega
          rw [this]
        clear hb hc hsz
        go_wp2
        go_roundw
        case rel => exact ⟨k + 1, by omega, by go_num, rfl, HB.alloc HB.size _⟩
        case measure => simp [intOf]; omega
      · have hadd : ∀ W : World, (Op.stringOp .add (ofL (smallL (s.toList.take k))) (s.extract k (k + 1))).run Try.prog W = .ok (.string (ofL (smallL (s.toList.take (k + 1))))) W := fun W => by
          rw [HX.out, run_string_add_sum W _ _ (by rw [size_ofL [_]]; exact hsz), add_ofL, toList_ofL, HT.out]
          unfold smallB
          rw [if_neg hc]
        have hsl : ∀ W : World, (Instr.slice 9 (.string s) (some (.int .i64 (k : Int))) (some (.int .i64 ((k : Int) + 1))) none).run Try.prog W = .ok (.string (s.extract k (k + 1))) W := fun W => by
          have h := run_slice_string (P := Try.prog) W 9 s .i64 .i64 (k : Int) ((k : Int) + 1) Try.underlying9 (by omega) (by omega) (by omega)
          have e1 : ((k : Int) + 1).toNat = k + 1 := by omega
          rw [e1, Int.toNat_natCast] at h
          exact h
        have hno : ¬ ((65 : Int) ≤ (s[k].toNat : Int) ∧ (s[k].toNat : Int) ≤ 90) := fun h => hc (decide_eq_true h)
        by_cases b1 : (65 : Int) ≤ (s[k].toNat : Int)
        · have d1 : decide ((65 : Int) ≤ (s[k].toNat : Int)) = true := decide_eq_true b1
          have d2 : decide ((s[k].toNat : Int) ≤ 90) = false := decide_eq_false (by omega)
          clear hno hc hsz
          go_wp2
          go_roundw
          case rel => exact ⟨k + 1, by omega, by go_num, rfl, HB⟩
          case measure => simp [intOf]; omega
        · have d1 : decide ((65 : Int) ≤ (s[k].toNat : Int)) = false := decide_eq_false b1
          clear hno hc hsz
          go_wp2
          go_roundw
          case rel => exact ⟨k + 1, by omega, by go_num, rfl, HB⟩
          case measure => simp [intOf]; omega
    · have HE := Lib.hid (show s.toList.take k = s.toList by rw [List.take_of_length_le (by rw [HL.out]; omega)])
      go_wp2
      go_ret
      exact ⟨ret_str (by rw [HE.out]), HB⟩
end Go.Proofs.Ytioeagadhnnajaa
