/- The fixed answers that stage 2's laws begin with are right. -/
import Derived.Test.YtmofeddldcifbaaAttrFns
import Derived.Deep.RegionHeld3
namespace Go.Proofs.Ytmofeddldcifbaa
open Go.RowKit
def aB : ByteArray := ofL [97]
def bB : ByteArray := ofL [98]
def cB : ByteArray := ofL [99]
def oneB : ByteArray := ⟨#[49]⟩
def twoB : ByteArray := ⟨#[50]⟩
def threeB : ByteArray := ⟨#[51]⟩
def zeroB : ByteArray := ofL []
theorem aw1 : setE [] [65] oneB = 0 ∧ setA [] [65] oneB = [(aB, oneB)] := by
  have h : setE [] [65] oneB = 0 := by decide
  exact ⟨h, by unfold setA; rw [if_pos h]; rfl⟩
def l1 : AL := [(aB, oneB)]
def l2 : AL := [(aB, oneB), (bB, twoB)]
def l3 : AL := [(aB, threeB), (bB, twoB)]
def l4 : AL := [(bB, twoB)]
def l5 : AL := [(bB, twoB), (cB, zeroB)]
theorem aw2 : setE l1 [98] twoB = 0 ∧ setA l1 [98] twoB = l2 := by
  have h : setE l1 [98] twoB = 0 := by decide +kernel
  have hp : ¬ placeA l1 [98] < l1.length := by decide +kernel
  exact ⟨h, by unfold setA; rw [if_pos h]; unfold setL; rw [if_neg hp]; rfl⟩
theorem aw3 : setE l2 [97] threeB = 0 ∧ setA l2 [97] threeB = l3 := by
  have h : setE l2 [97] threeB = 0 := by decide +kernel
  have hp : placeA l2 [97] = 0 := by decide +kernel
  exact ⟨h, by unfold setA; rw [if_pos h]; unfold setL; rw [hp]; rfl⟩
theorem aw4 : hasA l3 [97] = true ∧ valA l3 [97] = threeB := by
  have h : hasA l3 [97] = true := by decide +kernel
  have hp : placeA l3 [97] = 0 := by decide +kernel
  exact ⟨h, by unfold valA; rw [if_pos h, hp]; rfl⟩
theorem aw5 : remA l3 [97] = l4 := by
  unfold remA
  rw [if_pos aw4.1]
  have h1 : keyIs (smallL [97]) (aB, threeB) = true := by decide +kernel
  have h2 : keyIs (smallL [97]) (bB, twoB) = false := by decide +kernel
  simp [l3, l4, h1, h2]
theorem aw6 : togA l4 [99] 0 = l5 ∧ togB l4 [99] 0 = true ∧ togE l4 [99] 0 = 0 := by
  have h1 : (rightA l4 && rightL [99]) = true := by decide +kernel
  have h2 : hasA l4 [99] = false := by decide +kernel
  have h3 : setE l4 [99] (ofL []) = 0 := by decide +kernel
  have h4 : ¬ placeA l4 [99] < l4.length := by decide +kernel
  refine ⟨?_, ?_, ?_⟩
  · unfold togA
    rw [h1, h2]
    simp only [if_true, Bool.false_eq_true, if_false]
    rw [if_neg (by omega)]
    unfold setA
    rw [if_pos h3]
    unfold setL
    rw [if_neg h4]
    rfl
  · unfold togB
    rw [h1, h2, h3]
    rfl
  · unfold togE
    rw [show rightA l4 = true by decide +kernel, show rightL [99] = true by decide +kernel, h2]
    simp only [if_true, Bool.false_eq_true, if_false]
    rw [if_neg (by omega)]
    exact h3
theorem aw7 : rightA l5 = true := by decide +kernel
theorem aw8 : alikeA l3 [(bB, twoB), (aB, threeB)] = true := by decide +kernel
theorem row_two {w : World} {x y : ByteArray × ByteArray} (hs : ∀ z ∈ [x, y], z.1.size ≤ maxLen ∧ z.2.size ≤ maxLen) :
    AttrRow (w.alloc (.cells #[.string x.1, .string x.2, .string y.1, .string y.2] 41)) (some ⟨w.heap.size, 0, none⟩) 2 2 [x, y] := by
  refine ⟨⟨rfl, Nat.le_refl _, by unfold maxLen; omega, fun z _ => encA_len z, .inr ⟨_, _, rfl, by simp, fun i z j v hz hv => ?_⟩⟩, hs, fun h => by cases h⟩
  rw [cell_of_row _ w.heap.size _ _ 41 (0, 0) (heap_alloc_new w _)]
  match i, j, hz, hv with
  | 0, 0, hz, hv => simp at hz; subst hz; simpa [encA] using hv
  | 0, 1, hz, hv => simp at hz; subst hz; simpa [encA] using hv
  | 1, 0, hz, hv => simp at hz; subst hz; simpa [encA] using hv
  | 1, 1, hz, hv => simp at hz; subst hz; simpa [encA] using hv
  | 0, j + 2, hz, hv => simp [encA] at hv
  | 1, j + 2, hz, hv => simp [encA] at hv
  | i + 2, j, hz, hv => simp at hz

theorem awKeep {w W w1 : World} {b3' o3' cap3 cap5 : Nat} {n3 v3 n4 v4 : ByteArray} {a5 : Option Addr} (hlt : b3' < W.heap.size)
    (h : W.cell? ⟨b3', o3', none⟩ = some (.string n3) ∧ W.cell? ⟨b3', o3' + 1, none⟩ = some (.string v3) ∧ W.cell? ⟨b3', o3' + 2, none⟩ = some (.string n4) ∧ W.cell? ⟨b3', o3' + 3, none⟩ = some (.string v4) ∧ AttrRow W (some ⟨b3', o3', none⟩) 2 cap3 l3 ∧ AttrRow W a5 2 cap5 l5 ∧ Below w.heap.size w W) (hb : Below W.heap.size W w1) :
    w1.cell? ⟨b3', o3', none⟩ = some (.string n3) ∧ w1.cell? ⟨b3', o3' + 1, none⟩ = some (.string v3) ∧ w1.cell? ⟨b3', o3' + 2, none⟩ = some (.string n4) ∧ w1.cell? ⟨b3', o3' + 3, none⟩ = some (.string v4) ∧ AttrRow w1 (some ⟨b3', o3', none⟩) 2 cap3 l3 ∧ AttrRow w1 a5 2 cap5 l5 ∧ Below w.heap.size w w1 := by
  obtain ⟨h1, h2, h3, h4, h5, h6, h7⟩ := h
  refine ⟨?_, ?_, ?_, ?_, h5.below hb, h6.below hb, h7.trans (hb.mono h7.size)⟩
  · rw [hb.cell (p := ⟨b3', o3', none⟩) hlt]; exact h1
  · rw [hb.cell (p := ⟨b3', o3' + 1, none⟩) hlt]; exact h2
  · rw [hb.cell (p := ⟨b3', o3' + 2, none⟩) hlt]; exact h3
  · rw [hb.cell (p := ⟨b3', o3' + 3, none⟩) hlt]; exact h4
theorem awLt {W : World} {b o : Nat} {v : Value} {Q : Prop} (h : W.cell? ⟨b, o, none⟩ = some v ∧ Q) : b < W.heap.size := by
  have := h.1
  rcases Nat.lt_or_ge b W.heap.size with h1 | h1
  · exact h1
  · unfold World.cell? at this
    rw [Array.getElem?_eq_none h1] at this
    simp at this
set_option maxHeartbeats 4000000 in
set_option maxRecDepth 100000 in
theorem awake2_any (F : AttrFns) (w : World) : Calls Try.prog 8 #[] w fun e w' => e = .returned (.bool true) ∧ Below w.heap.size w w' := by
  have HB : Below w.heap.size w w := Below.refl _ _
  have HF := Lib.hid F
  have s1 : (ByteArray.mk #[65]).size ≤ maxLen := by decide
  have C1 : Hid (∀ W, Calls Try.prog 12 #[.slice none 0 0, .string ⟨#[65]⟩, .string ⟨#[49]⟩] W (SetPost W l1 0)) := Lib.hid (fun W => by
    have := F.set none 0 0 [] ⟨#[65]⟩ oneB W ⟨SRow.nil, by simp, fun _ => rfl⟩ (by decide) (by decide) (by decide)
    rw [show (ByteArray.mk #[65]).toList = [65] from ByteArray.toList_mk _, aw1.1, aw1.2] at this
    exact this)
  have C2 : Hid (∀ W a len cap, AttrRow W a len cap l1 → Calls Try.prog 12 #[.slice a len cap, .string ⟨#[98]⟩, .string ⟨#[50]⟩] W (SetPost W l2 0)) := Lib.hid (fun W a len cap h => by
    have := F.set a len cap l1 ⟨#[98]⟩ twoB W h (by decide) (by decide) (by decide)
    rw [show (ByteArray.mk #[98]).toList = [98] from ByteArray.toList_mk _, aw2.1, aw2.2] at this
    exact this)
  have C3 : Hid (∀ W a len cap, AttrRow W a len cap l2 → Calls Try.prog 12 #[.slice a len cap, .string ⟨#[97]⟩, .string ⟨#[51]⟩] W (SetPost W l3 0)) := Lib.hid (fun W a len cap h => by
    have := F.set a len cap l2 ⟨#[97]⟩ threeB W h (by decide) (by decide) (by decide)
    rw [show (ByteArray.mk #[97]).toList = [97] from ByteArray.toList_mk _, aw3.1, aw3.2] at this
    exact this)
  have C4 : Hid (∀ W a len cap, AttrRow W a len cap l3 → Calls Try.prog 10 #[.slice a len cap, .string ⟨#[97]⟩] W fun e w' => e = .returned (.tuple #[.string ⟨#[51]⟩, .bool true]) ∧ Below W.heap.size W w') := Lib.hid (fun W a len cap h => by
    have := F.get a len cap l3 ⟨#[97]⟩ W h (by decide)
    rw [show (ByteArray.mk #[97]).toList = [97] from ByteArray.toList_mk _, aw4.1, aw4.2] at this
    exact this)
  have C5 : Hid (∀ W a len cap, AttrRow W a len cap l3 → Calls Try.prog 14 #[.slice a len cap, .string ⟨#[97]⟩] W (RemPost W l4 true)) := Lib.hid (fun W a len cap h => by
    have := F.remove a len cap l3 ⟨#[97]⟩ W h (by decide) (by decide)
    rw [show (ByteArray.mk #[97]).toList = [97] from ByteArray.toList_mk _, aw4.1, aw5] at this
    exact this)
  have C6 : Hid (∀ W a len cap, AttrRow W a len cap l4 → Calls Try.prog 16 #[.slice a len cap, .string ⟨#[99]⟩, .int .i64 0] W (TogPost W l5 true 0)) := Lib.hid (fun W a len cap h => by
    have := F.toggle a len cap l4 ⟨#[99]⟩ 0 W h (by decide) (by decide)
    rw [show (ByteArray.mk #[99]).toList = [99] from ByteArray.toList_mk _, aw6.1, aw6.2.1, aw6.2.2] at this
    exact this)
  have C7 : Hid (∀ W a len cap, AttrRow W a len cap l5 → Calls Try.prog 18 #[.slice a len cap] W fun e w' => e = .returned (.bool true) ∧ Below W.heap.size W w') := Lib.hid (fun W a len cap h => by
    have := F.right a len cap l5 W h
    rw [aw7] at this
    exact this)
  have C8 : Hid (∀ W a len cap a' len' cap', AttrRow W a len cap l3 → AttrRow W a' len' cap' [(bB, twoB), (aB, threeB)] → Calls Try.prog 22 #[.slice a len cap, .slice a' len' cap'] W fun e w' => e = .returned (.bool true) ∧ Below W.heap.size W w') := Lib.hid (fun W a len cap a' len' cap' h h' => by
    have := F.alike a a' len cap len' cap' l3 _ W h h'
    rw [aw8] at this
    exact this)
  clear F s1
  go_enter Try.func8, Try.ntmps8
  go_wp2_with (first
    | (go_at_call 12; (with_reducible refine (C1.out _).mono ?_); rintro e w' ⟨a1, len1, cap1, rfl, hr, hb⟩; have HR1 := Lib.hid hr; have HB := HB.trans (hb.mono HB.size); clear hr hb)
    | (go_at_call 12; (with_reducible refine (C2.out _ _ _ _ HR1.out).mono ?_); rintro e w' ⟨a2, len2, cap2, rfl, hr, hb⟩; have HR2 := Lib.hid hr; have HB := HB.trans (hb.mono HB.size); clear hr hb)
    | (go_at_call 12; (with_reducible refine (C3.out _ _ _ _ HR2.out).mono ?_); rintro e w' ⟨a3, len3, cap3, rfl, hr, hb⟩; have hlen3 := hr.hlen; have HR3 := Lib.hid hr; have HB := HB.trans (hb.mono HB.size); clear hr hb; obtain rfl : len3 = 2 := hlen3.symm; clear hlen3)
    | (go_at_call 10; (with_reducible refine (C4.out _ _ _ _ HR3.out).mono ?_); rintro e w' ⟨rfl, hb⟩; have HR3 := Lib.hid (HR3.out.below hb); have HB := HB.trans (hb.mono HB.size); clear hb)
    | (go_at_call 14; (with_reducible refine (C5.out _ _ _ _ HR3.out).mono ?_); rintro e w' ⟨a4, len4, cap4, rfl, hr, hb⟩; have HR3 := Lib.hid (HR3.out.below hb); have hlen4 := hr.hlen; have HR4 := Lib.hid hr; have HB := HB.trans (hb.mono HB.size); clear hr hb; obtain rfl : len4 = 1 := hlen4.symm; clear hlen4)
    | (go_at_call 16; (with_reducible refine (C6.out _ _ _ _ HR4.out).mono ?_); rintro e w' ⟨a5, len5, cap5, rfl, hr, hb⟩; have HR3 := Lib.hid (HR3.out.below hb); have hlen5 := hr.hlen; have HR5 := Lib.hid hr; have HB := HB.trans (hb.mono HB.size); clear hr hb; obtain rfl : len5 = 2 := hlen5.symm; clear hlen5; obtain ⟨b3, o3, n3, v3, rfl, hb3, hg3, hc30, hc31, _, _⟩ := HR3.out.get (k := 0) (by decide); obtain ⟨b3', o3', n3', v3', ha3', hb3', hg3', hc30', hc31', _, _⟩ := HR3.out.get (k := 1) (by decide))
    | fail)
  injection ha3' with ha3'
  injection ha3' with e1 e2 e3
  subst e1; subst e2
  have en : n3 = aB ∧ v3 = threeB := by simpa [l3] using hg3.symm
  have en' : n3' = bB ∧ v3' = twoB := by simpa [l3] using hg3'.symm
  obtain ⟨rfl, rfl⟩ := en
  obtain ⟨rfl, rfl⟩ := en'
  have ha : aB.toList = [97] := toList_ofL _
  have d1 : w'.cell? ⟨b3, o3, none⟩ = some (.string aB) := by simpa using hc30
  have d2 : w'.cell? ⟨b3, o3 + 1, none⟩ = some (.string threeB) := by simpa using hc31
  have d3 : w'.cell? ⟨b3, o3 + 2, none⟩ = some (.string bB) := by simpa using hc30'
  have d4 : w'.cell? ⟨b3, o3 + 3, none⟩ = some (.string twoB) := by simpa using hc31'
  clear hc30 hc31 hc30' hc31' hg3 hg3'
  simp only [List.append]
  go_region_held3 (fun w' => w'.cell? ⟨b3, o3, none⟩ = some (.string aB) ∧ w'.cell? ⟨b3, o3 + 1, none⟩ = some (.string threeB) ∧ w'.cell? ⟨b3, o3 + 2, none⟩ = some (.string bB) ∧ w'.cell? ⟨b3, o3 + 3, none⟩ = some (.string twoB) ∧ AttrRow w' (some ⟨b3, o3, none⟩) 2 cap3 l3 ∧ AttrRow w' a5 2 cap5 l5 ∧ Below w.heap.size w w')
    (first | assumption | exact ⟨d1, d2, d3, d4, HR3.out.drew, HR5.out.drew, HB.drew⟩ | exact awKeep (awLt (by assumption)) (by assumption) (by assumption) | exact awKeep (awLt (by assumption)) (by assumption) ((Below.refl _ _).alloc (Nat.le_refl _) _))
    (first
      | (go_at_call 18; refine (C7.out _ _ _ _ (‹_ ∧ _ ∧ _ ∧ _ ∧ AttrRow _ _ _ _ _ ∧ AttrRow _ _ _ _ _ ∧ Below _ _ _›).2.2.2.2.2.1).mono ?_; rintro e w' ⟨rfl, hb⟩)
      | (go_at_call 22; refine (C8.out _ _ _ _ _ _ _ (‹_ ∧ _ ∧ _ ∧ _ ∧ AttrRow _ _ _ _ _ ∧ AttrRow _ _ _ _ _ ∧ Below _ _ _›).2.2.2.2.1 (row_two (x := (bB, twoB)) (y := (aB, threeB)) (by decide))).mono ?_; rintro e w' ⟨rfl, hb⟩))
  go_wp2
  go_ret
  exact ⟨rfl, (‹_ ∧ _ ∧ _ ∧ _ ∧ AttrRow _ _ _ _ _ ∧ AttrRow _ _ _ _ _ ∧ Below _ _ _›).2.2.2.2.2.2⟩
end Go.Proofs.Ytmofeddldcifbaa
