/- Texts joined in build order: MoveStand. -/
import Derived.Test.YtnjoimedilonnaaGreatDoorA29
import Derived.Deep.RegionWith
namespace Go.Proofs.YtnjoimedilonnaaGreatDoor
open Go.RowKit
section
variable {ρ : Nat → Nat} {pw g cap len : Nat} {m : Int} {M : List NodeD} {v : Value} {N : List NoteD}
def insAt (l : List Int) (b : Int) : Nat := if b = -1 then l.length else findN l b
theorem insAt_le (l : List Int) (b : Int) (hb : b = -1 ∨ b ∈ l) : insAt l b ≤ l.length := by
  unfold insAt
  by_cases e : b = -1
  · rw [if_pos e]; exact Nat.le_refl _
  · rw [if_neg e]; exact Nat.le_of_lt (findN_mem (hb.resolve_left e))
theorem insB_eq (l : List Int) (b n : Int) : l.take (insAt l b) ++ n :: l.drop (insAt l b) = insB l b n := by
  unfold insAt insB
  by_cases e : b = -1
  · rw [if_pos e, if_pos e, List.take_of_length_le (Nat.le_refl _), List.drop_eq_nil_of_le (Nat.le_refl _)]
  · rw [if_neg e, if_neg e]
set_option maxHeartbeats 8000000 in
set_option maxRecDepth 100000 in
theorem mstandP_any (w : World) (h : Wk ρ w pw g cap len m M v N) (hs : smallF M) (n p : Nat) (x y : NodeD) (hx : M[n]? = some x) (hy : M[p]? = some y) (hnp : n ≠ p) (b : Int) (hb : b = -1 ∨ b ∈ y.core.kids) :
    Calls Tryz.prog 86 #[ptrV pw, .int .i64 n, .int .i64 p, .int .i64 b] w (WkPost ρ w pw g cap len m fun M' N' => (∃ a c, M' = (M.set p (withK y a (y.kN + 1) c (insB y.core.kids b n))).set n (withP x p)) ∧ N' = N) := by
  have hl1k : len ≤ 1000 := by rw [← h.hlen]; exact hs.1
  have hn : n < len := by rw [← h.hlen]; exact (List.getElem?_eq_some_iff.1 hx).1
  have hpl : p < len := by rw [← h.hlen]; exact (List.getElem?_eq_some_iff.1 hy).1
  have hkl : y.core.kids.length = y.kN := (h.kidsRow hy).hlen
  have hk1k : y.kN ≤ 1000 := by rw [← hkl]; exact (hs.2 y (List.mem_of_getElem? hy)).1
  obtain ⟨i, hi⟩ : ∃ i, insAt y.core.kids b = i := ⟨_, rfl⟩
  have hil : i ≤ y.kN := by rw [← hkl, ← hi]; exact insAt_le _ _ hb
  have hnn : In64 (n : Int) := in64_nat (by omega)
  have hpp : In64 (p : Int) := in64_nat (by omega)
  have CX : Hid (b ≠ -1 → Calls Tryz.prog 54 #[.slice y.kA y.kN y.kC, .int .i64 b] w fun e w' => e = .returned (.int .i64 i) ∧ w = w') := Lib.hid (fun hne => by
    have h1 := findZ_mem (hb.resolve_left hne)
    have h2 : insAt y.core.kids b = findN y.core.kids b := by unfold insAt; rw [if_neg hne]
    have h3 : findZ y.core.kids b = (i : Int) := by rw [h1, ← h2, hi]
    rw [← h3]
    exact index_any _ _ _ _ _ w (h.kidsRow hy))
  have hIL : b = -1 → i = y.kN := fun e => by rw [← hi, ← hkl]; unfold insAt; rw [if_pos e]
  obtain ⟨WI, hWI, WK2, HBI, HCELL⟩ : ∃ WI, (w.alloc (.cells #[.int .i64 (n : Int)] 3)).drew = WI ∧ Hid (Wk ρ WI pw g cap len m M v N) ∧ Hid (Below w.heap.size w WI) ∧ Hid (WI.heap[w.heap.size]? = some (.cells #[.int .i64 (n : Int)] 3 (0, 0))) := by
    have hb2 : Below w.heap.size w (w.alloc (.cells #[.int .i64 (n : Int)] 3)).drew := ((Below.refl _ _).alloc (Nat.le_refl _) _).drew
    exact ⟨_, rfl, Lib.hid (h.keep hb2), Lib.hid hb2, Lib.hid (heap_alloc_new w _)⟩
  have CI : Hid (Calls Tryz.prog 102 #[.slice y.kA y.kN y.kC, .int .i64 i, .slice (some ⟨w.heap.size, 0, none⟩) 1 1] WI (InsPost 0 (.slice y.kA y.kN y.kC) y.kN (insB y.core.kids b n) WI)) := Lib.hid (by
    rw [← insB_eq, hi]
    exact insertI_any WI 0 y.kN i _ y.core.kids n w.heap.size (Nat.zero_le _) (WK2.out.kown p y hy) hil (by omega) HCELL.out (fun e => by
      have := own_block_lt (h.kown p y hy) e
      omega))
  have HKR : Hid (∀ b', Value.ownBlock (.slice y.kA y.kN y.kC) = some b' → ρ b' = p + 6) := Lib.hid (fun b' e => h.krole p y b' hy e)
  have HINK : Hid (∀ z ∈ insB y.core.kids b n, In64 z) := Lib.hid (fun z hz => by
    have hk := (h.fld y (List.mem_of_getElem? hy)).kids
    rw [← insB_eq] at hz
    rcases List.mem_append.1 hz with hz | hz
    · exact hk z (List.mem_of_mem_take hz)
    · rcases List.mem_cons.1 hz with rfl | hz
      · exact hnn
      · exact hk z (List.mem_of_mem_drop hz))
  have HW := Lib.hid h
  have HX := Lib.hid hx
  have HY := Lib.hid hy
  have HP64 := Lib.hid hpp
  have HWI := Lib.hid hWI
  have p0 := h.c0
  have y6 := (h.at_ hy).c6
  have p0a := fun o => (h.keep (below_box w o)).c0
  have y6a := fun o => ((h.keep (below_box w o)).at_ hy).c6
  have hl64 : (len : Int) ≤ 9223372036854775807 := by omega
  have hkn64 : (y.kN : Int) ≤ 9223372036854775807 := by omega
  clear h hs hx hy hkl hi hb hnn hpp hWI
  go_enter Tryz.func86, Tryz.ntmps86
  go_upto_if 23 with fail
  go_cut [9] (fun c wx => wx = w ∧ c = .int .i64 i)
  case first =>
    by_cases he : b = -1
    · have e1 : (b != -1) = false := by rw [he]; rfl
      have e2 := hIL he
      clear he
      go_wp2
      go_meet
      exact ⟨rfl, by rw [e2]⟩
    · have e1 : (b != -1) = true := bne_iff_ne.2 he
      have CX := CX.out he
      clear he
      go_wp2_with (go_at_call 54; (with_reducible refine CX.mono ?_); rintro e w3 ⟨rfl, rfl⟩)
      go_meet
      exact ⟨rfl, rfl⟩
  case rest =>
    obtain ⟨rfl, rfl⟩ := hcut
    go_upto_region 4 with fail
    go_region_with (go_at_call 102; rw [HWI.out]; (refine CI.out.mono ?_); rintro e w6 ⟨v6, rfl, ho6, hg6, hb6⟩; obtain ⟨g6, cap6, rfl⟩ := own_some ho6 (Nat.succ_pos _); have MID := WK2.out.mid hg6 (fun b' e => by rw [HKR.out b' e]; omega); have p0 := MID.c0; have f6 := MID.gfree (p * 10 + 6); have f5 := MID.gfree (n * 10 + 5); have c6 := MID.cells p y 6 _ HY.out rfl; have c5 := MID.cells n x 5 _ HX.out rfl; have hne : n * 10 + 5 ≠ p * 10 + 6 := (by omega); have HO6 := Lib.hid ho6; have HG6 := Lib.hid hg6; have HB6 := Lib.hid hb6; clear ho6 hg6 hb6 MID)
    all_goals go_wp2
    all_goals
      have W7 := WK2.out.setK HY.out HG6.out HO6.out HB6.out HINK.out
      have hxn : (M.set p (withK y (some ⟨g6, 0, none⟩) (y.kN + 1) cap6 (insB y.core.kids b n)))[n]? = some x := by rw [List.getElem?_set_ne (fun e => hnp e.symm)]; exact HX.out
      have W8 := W7.setP hxn HP64.out
      have hsz := HBI.out.size
      have T8 := (((Turn.of_below (ρ := ρ) HBI.out).grown HG6.out (fun k e => .inr (by rw [HKR.out k e]; omega))).setCell (b := g) (.inr (by rw [WK2.out.grole]; decide)) (p * 10 + 6) (.slice (some ⟨g6, 0, none⟩) (y.kN + 1) cap6)).setCell (b := g) (.inr (by rw [WK2.out.grole]; decide)) (n * 10 + 5) (.int .i64 (p : Int))
      exact bodyPost_ret (v := .tuple #[]) (by simp [results, Tryz.results86]) rfl ⟨rfl, _, _, v, N, W8, T8, upd_old (fun k e => (HB6.out k e).imp (HKR.out k) (fun h => Nat.le_trans hsz h)), ⟨_, _, rfl⟩, rfl⟩
theorem stand_core {n p : Nat} {x y : NodeD} (hx : M[n]? = some x) (hy : M[p]? = some y) (hnp : n ≠ p) {b : Int} {a : Option Addr} {l c : Nat} : coreL ((M.set p (withK y a l c (insB y.core.kids b n))).set n (withP x p)) = mvIn (coreL M) n p b := by
  refine ((core_set2 hx hy hnp).cong (fun j c hc => ⟨rfl, ?_, rfl⟩)).eq
  by_cases e : j = p
  · subst e
    rw [coreL_get hy] at hc
    rw [if_pos rfl, if_pos rfl, ← Option.some.inj hc]
  · rw [if_neg e, if_neg e]
theorem mstand_any (w : World) (h : Wk ρ w pw g cap len m M v N) (hs : smallF M) (n p : Nat) (hn : n < len) (hpl : p < len) (hnp : n ≠ p) (b : Int) (hb : b = -1 ∨ b ∈ kidsK (coreL M) p) :
    Calls Tryz.prog 86 #[ptrV pw, .int .i64 n, .int .i64 p, .int .i64 b] w (WkPost ρ w pw g cap len m fun M' N' => coreL M' = mvIn (coreL M) n p b ∧ N' = N) := by
  obtain ⟨x, hx⟩ : ∃ x, M[n]? = some x := ⟨_, List.getElem?_eq_getElem (by rw [h.hlen]; exact hn)⟩
  obtain ⟨y, hy⟩ : ∃ y, M[p]? = some y := ⟨_, List.getElem?_eq_getElem (by rw [h.hlen]; exact hpl)⟩
  have hkk : kidsK (coreL M) p = y.core.kids := by unfold kidsK; rw [getC_nat, coreL_get hy]
  rw [hkk] at hb
  refine (mstandP_any w h hs n p x y hx hy hnp b hb).mono ?_
  rintro e w' ⟨he, ρ', M', v', N', h1, h2, h3, ⟨a, c, rfl⟩, h5⟩
  exact ⟨he, ρ', _, v', N', h1, h2, h3, stand_core hx hy hnp, h5⟩
end
end Go.Proofs.YtnjoimedilonnaaGreatDoor
