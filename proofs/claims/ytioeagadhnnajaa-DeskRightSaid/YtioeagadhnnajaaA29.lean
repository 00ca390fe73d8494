/- Texts joined in build order: DeskTell. -/
import Derived.Test.YtioeagadhnnajaaA27
/- Package desk's tickets and mayAwait, cmp.Or of two texts. -/
namespace Go.Proofs.Ytioeagadhnnajaa
open Go.RowKit
theorem ret_string {a b : ByteArray} (h : a = b) : Ending.returned (.string a) = .returned (.string b) := by rw [h]
def TellPost (w : World) (T : List Int) (e : Ending) (w' : World) : Prop := ∃ a l c, e = .returned (.slice a l c) ∧ IntRow w' a l c T ∧ (∀ b off, a = some ⟨b, off, none⟩ → w.heap.size ≤ b) ∧ Below w.heap.size w w'
theorem IntRow.of_own9 {w : World} {base : Nat} {v : Value} {n : Nat} {M : List Int} (hl : M.length = n) (h : w.ownsRow base 3 1 v n (M.flatMap encZ)) (hs : ∀ x ∈ M, In64 x) : ∃ a cap, v = .slice a n cap ∧ IntRow w a n cap M ∧ (∀ b off, a = some ⟨b, off, none⟩ → base ≤ b) := by
  obtain ⟨a, cap, rfl, h2, h3⟩ := SRow.of_own (fun x _ => encZ_len x) hl h
  refine ⟨a, cap, rfl, ⟨h2, hs, fun e => ?_⟩, h3⟩
  rcases h.2 with ⟨hv, _⟩ | ⟨g, cap', cur, hv, _⟩
  · injection hv
  · subst e
    injection hv with hv
    cases hv
theorem told_step {M : List WaitD} {k : Nat} {n : ByteArray} {c : Int} {s : List UInt8} (h : M[k]? = some ⟨n, c⟩) : toldZ (M.take (k + 1)) s = toldZ (M.take k) s ++ (if (n.toList == s) = true then [c] else []) := by
  obtain ⟨hl, hg⟩ := List.getElem?_eq_some_iff.1 h
  unfold toldZ
  rw [List.take_succ_eq_append_getElem hl, List.filter_append, List.map_append, hg]
  cases hp : n.toList == s <;> simp [hp]
theorem told_len (M : List WaitD) (s : List UInt8) (k : Nat) : (toldZ (M.take k) s).length ≤ k := by
  unfold toldZ
  rw [List.length_map]
  refine Nat.le_trans (List.length_filter_le _ _) ?_
  rw [List.length_take]
  omega
theorem told_in {M : List WaitD} {s : List UInt8} (h : ∀ x ∈ M, x.name.size ≤ maxLen ∧ In64 x.ticket) : ∀ z ∈ toldZ M s, In64 z := fun z hz => by
  obtain ⟨y, hy, rfl⟩ := List.mem_map.1 hz
  exact (h y (List.mem_filter.1 hy).1).2
set_option maxHeartbeats 4000000 in
set_option maxRecDepth 100000 in
theorem tickets_any (da : Option Addr) (dl dc : Nat) (wa : Option Addr) (wl wc : Nat) (nx : Int) (bz : Bool) (L : List DefD) (M : List WaitD) (s : ByteArray) (w : World) (hd : DefRow w da dl dc L) (ht : WaitRow w wa wl wc M) (h1 : wl ≤ 1000) :
    Calls Try.prog 34 #[deskV da dl dc wa wl wc nx bz, .string s] w (TellPost w (toldZ M s.toList)) := by
  obtain ⟨i0, hi0, hq0, hq1, hq2⟩ := info_parts3 tick_info
  have HTN := Lib.hid ht.hlen
  have OKT := Lib.hid ht.ok
  have DB := Lib.hid (DBox.start (nx := nx) (bz := bz) hd ht)
  clear hd ht
  have z1 := DB.out.c1
  go_enter Try.func34, Try.ntmps34
  go_upto_region 2 with fail
  obtain ⟨wb, hwb⟩ : ∃ wb, w.alloc (deskB da dl dc wa wl wc nx bz) = wb := ⟨_, rfl⟩
  rw [hwb] at DB z1 ⊢
  clear hwb
  go_wp2
  go_loopw [5, 11] (fun v i wr => ∃ (k n : Nat), k ≤ wl ∧ i = .int .i64 k ∧ Hid (wr.ownsRow wb.heap.size 3 1 v n ((toldZ (M.take k) s.toList).flatMap encZ)) ∧ Hid ((toldZ (M.take k) s.toList).length = n) ∧ Hid (Below wb.heap.size wb wr)) (fun _ i _ => wl - (intOf i).toNat)
  case atStart => exact ⟨0, 0, Nat.zero_le _, rfl, Lib.hid (World.ownsRow_nil _ _ _ _), Lib.hid rfl, Lib.hid (Below.refl _ _)⟩
  case round =>
    obtain ⟨k, m, hk, rfl, HO, HN, HB⟩ := hrel
    have DR := Lib.hid (DB.out.keep HB.out)
    clear z1
    by_cases hlt : k < wl
    · obtain ⟨b, off, x, rfl, hb, hx, c0, c1, -⟩ := DR.out.t.get hlt
      have HX := Lib.hid hx
      clear hx
      obtain ⟨n, c⟩ := x
      dsimp only at c0 c1
      have hml : m ≤ 1000 := by have := told_len M s.toList k; have := HN.out; omega
      go_upto_region 5 with fail
      obtain ⟨W, hW, XX⟩ : ∃ W, wr.alloc (.cells #[.string n, .int .i64 c] 48) = W ∧ Hid (TBox9 W wr.heap.size n c) := ⟨_, rfl, Lib.hid (TBox9.new _ _ _)⟩
      rw [hW]
      have HBW : Hid (Below wb.heap.size wb W) := Lib.hid (HB.out.trans (by rw [← hW]; exact (below_desk _ _).mono HB.out.size))
      have HOW : Hid (W.ownsRow wb.heap.size 3 1 _ m ((toldZ (M.take k) s.toList).flatMap encZ)) := Lib.hid (own_below HO.out (by rw [← hW]; exact below_desk _ _))
      clear hW c0 c1
      have x0 := XX.out.c0
      have x1 := XX.out.c1
      cases e1 : n.toList == s.toList with
      | false =>
        have HT : Hid (toldZ (M.take (k + 1)) s.toList = toldZ (M.take k) s.toList) := Lib.hid (by rw [told_step HX.out, e1]; simp)
        go_wp2
        go_roundw
        case rel => exact ⟨k + 1, m, by omega, by go_num, Lib.hid (by rw [HT.out]; exact HOW.out), Lib.hid (by rw [HT.out]; exact HN.out), HBW⟩
        case measure => simp [intOf]; omega
      | true =>
        have HT : Hid (toldZ (M.take (k + 1)) s.toList = toldZ (M.take k) s.toList ++ [c]) := Lib.hid (by rw [told_step HX.out, e1]; simp)
        go_wp2_with (at_builtin
                     refine wpList_append_rows rfl (.tmp 19) (.tmp 22) 31 rfl 3 i0 _ 1 8 Try.underlying31 hi0 hq0 hq1 hq2 rfl (by decide) wb.heap.size _ m (toldZ (M.take k) s.toList) [c] rfl (HOW.out.alloc _) _ 1 1 rfl (own_one _ _ _ _ rfl rfl) (fun x _ => encZ_one x) (by unfold maxLen; omega) (by omega) (by have := HBW.out.size; simp; omega) (fun h => by cases h) ?_
                     intro v3 w3 hown3 hg3 hat3
                     have HB3 := Lib.hid ((HBW.out.alloc HBW.out.size (.cells #[.int .i64 c] 3)).grown hg3 (by have := HBW.out.size; simp; omega) (fun k hk => (HOW.out.lt k hk).1))
                     have HO3 := Lib.hid hown3
                     clear hown3 hg3 hat3)
        go_roundw
        case rel => exact ⟨k + 1, m + 1, by omega, by go_num, Lib.hid (by rw [HT.out]; exact HO3.out), Lib.hid (by rw [HT.out, List.length_append, HN.out]; rfl), HB3⟩
        case measure => simp [intOf]; omega
    · have HE : Hid (M.take k = M) := Lib.hid (List.take_of_length_le (by rw [HTN.out]; omega))
      have hown := HO.out
      have hlen := HN.out
      rw [HE.out] at hown hlen
      obtain ⟨a2, cap2, rfl, hr2, hlo2⟩ := IntRow.of_own9 hlen hown (told_in OKT.out)
      have HR2 := Lib.hid hr2
      have HL2 := Lib.hid hlo2
      clear hown hlen hr2 hlo2
      go_wp2
      go_ret
      exact ⟨_, _, _, rfl, HR2.out, fun b off e => Nat.le_trans DB.out.below.size (HL2.out b off e), DR.out.below⟩
set_option maxHeartbeats 2000000 in
set_option maxRecDepth 100000 in
/-- cmp.Or of two texts. -/
theorem or_any (b : Nat) (x y : ByteArray) (w : World) (h0 : w.cell? ⟨b, 0, none⟩ = some (.string x)) (h1 : w.cell? ⟨b, 1, none⟩ = some (.string y)) (_hlt : b < w.heap.size) :
    Calls Try.prog 31 #[.slice (some ⟨b, 0, none⟩) 2 2] w fun e w' => e = .returned (.string (if x.toList = [] then y else x)) ∧ w = w' := by
  obtain ⟨e1, he1, HE⟩ : ∃ e, (x.toList == []) = e ∧ Hid (e = true ↔ x.toList = []) := ⟨_, rfl, Lib.hid beq_iff_eq⟩
  have he2 : (x.toList != []) = !e1 := by unfold bne; rw [he1]
  obtain ⟨e3, he3, HE3⟩ : ∃ e, (y.toList == []) = e ∧ Hid (e = true ↔ y.toList = []) := ⟨_, rfl, Lib.hid beq_iff_eq⟩
  have he4 : (y.toList != []) = !e3 := by unfold bne; rw [he3]
  obtain ⟨r, hr⟩ : ∃ r, (if x.toList = [] then y else x) = r := ⟨_, rfl⟩
  rw [hr]
  have HE9 := Lib.hid hr
  clear hr
  cases e1 with
  | false =>
    have HR : Hid (r = x) := Lib.hid (HE9.out.symm.trans (if_neg (fun h => by have := HE.out.2 h; cases this)))
    have he2 : (x.toList != []) = true := he2
    go_enter Try.func31, Try.ntmps31
    go_wp2
    go_loop [8] (fun i => i = .int .i64 0) (fun i => 2 - (intOf i).toNat)
    case atStart => rfl
    case round =>
      obtain rfl := hrel
      go_wp2
      go_ret
      exact ⟨ret_string HR.out.symm, rfl⟩
  | true =>
    have HR : Hid (r = y) := Lib.hid (HE9.out.symm.trans (if_pos (HE.out.1 rfl)))
    have he2 : (x.toList != []) = false := he2
    have HX : Hid (x = ⟨#[]⟩) := Lib.hid (toList_inj (by rw [HE.out.1 rfl]; simp))
    go_enter Try.func31, Try.ntmps31
    go_wp2
    go_loop [8] (fun i => i = .int .i64 0 ∨ i = .int .i64 1 ∨ (i = .int .i64 2 ∧ Hid (e3 = true))) (fun i => 2 - (intOf i).toNat)
    case atStart => exact .inl rfl
    case round =>
      rcases hrel with rfl | rfl | ⟨rfl, HT⟩
      · go_wp2
        go_round
        case rel => exact .inr (.inl rfl)
        case measure => simp [intOf]
      · cases e3 with
        | false =>
          have he4 : (y.toList != []) = true := he4
          go_wp2
          go_ret
          exact ⟨ret_string HR.out.symm, rfl⟩
        | true =>
          have he4 : (y.toList != []) = false := he4
          go_wp2
          go_round
          case rel => exact .inr (.inr ⟨rfl, Lib.hid (by first | rfl | trivial)⟩)
          case measure => simp [intOf]
      · have HY : Hid (y = ⟨#[]⟩) := Lib.hid (toList_inj (by rw [HE3.out.1 HT.out]; simp))
        clear he1 he2 he3 he4
        go_wp2
        go_ret
        exact ⟨ret_string (HR.out.trans HY.out).symm, rfl⟩
set_option maxHeartbeats 2000000 in
set_option maxRecDepth 100000 in
theorem mayawait_any (da : Option Addr) (dl dc : Nat) (wa : Option Addr) (wl wc : Nat) (nx : Int) (bz : Bool) (L : List DefD) (M : List WaitD) (s : ByteArray) (w : World) (hd : DefRow w da dl dc L) (ht : WaitRow w wa wl wc M) (hs : s.size ≤ maxLen) :
    Calls Try.prog 38 #[deskV da dl dc wa wl wc nx bz, .string s] w fun e w' => e = .returned (.int .i64 (awaitE ⟨L, M, nx, bz⟩ s.toList)) ∧ Below w.heap.size w w' := by
  have DX := Lib.hid (DBox.start (nx := nx) (bz := bz) hd ht)
  have z0 := DX.out.c0
  have z1 := DX.out.c1
  have z2 := DX.out.c2
  have z3 := DX.out.c3
  obtain ⟨q0, hq0⟩ : ∃ q, rightK ⟨L, M, nx, bz⟩ = q := ⟨_, rfl⟩
  obtain ⟨q1, hq1⟩ : ∃ q, customL s.toList = q := ⟨_, rfl⟩
  have RI : Hid (∀ V, DefRow V da dl dc L → WaitRow V wa wl wc M → Calls Try.prog 10 #[deskV da dl dc wa wl wc nx bz] V fun e w' => e = .returned (.bool q0) ∧ Below V.heap.size V w') := Lib.hid (fun V h1 h2 => by
    have h := deskright_any da dl dc wa wl wc nx bz L M V h1 h2
    rwa [hq0] at h)
  have CU : Hid (∀ V, Calls Try.prog 36 #[.string s] V fun e w' => e = .returned (.bool q1) ∧ Below V.heap.size V w') := Lib.hid (fun V => by
    have h := custom_any s V hs
    rwa [hq1] at h)
  have ME : Hid (awaitE ⟨L, M, nx, bz⟩ s.toList = if q0 = false then 1 else if q1 = false then 4 else if 100000 ≤ nx then 3 else 0) := Lib.hid (by
    unfold awaitE
    rw [hq0, hq1])
  have HQ : Hid (q0 = true → nx ≤ 100000) := Lib.hid (fun e => by rw [e] at hq0; exact (rightK_iff.1 hq0).n1)
  clear hq0 hq1 hd ht hs
  cases q0 with
  | false =>
    have HR : Hid (awaitE ⟨L, M, nx, bz⟩ s.toList = 1) := Lib.hid (by rw [ME.out, if_pos rfl])
    go_enter Try.func38, Try.ntmps38
    go_wp2_with (first
                    | (go_at_call 10; (with_reducible refine (RI.out _ DX.out.d DX.out.t).mono ?_); rintro e w5 ⟨rfl, hb⟩; (have DX := Lib.hid (DX.out.keep hb); clear z0 z1 z2 z3 hb; have z0 := DX.out.c0; have z1 := DX.out.c1; have z2 := DX.out.c2; have z3 := DX.out.c3))
                    | (go_at_call 36; (with_reducible refine (CU.out _).mono ?_); rintro e w5 ⟨rfl, hb⟩; (have DX := Lib.hid (DX.out.keep hb); clear z0 z1 z2 z3 hb; have z0 := DX.out.c0; have z1 := DX.out.c1; have z2 := DX.out.c2; have z3 := DX.out.c3)))
    go_ret
    exact ⟨ret_int HR.out.symm, DX.out.below⟩
  | true =>
  cases q1 with
  | false =>
    have HR : Hid (awaitE ⟨L, M, nx, bz⟩ s.toList = 4) := Lib.hid (by rw [ME.out, if_neg (by decide), if_pos rfl])
    go_enter Try.func38, Try.ntmps38
    go_wp2_with (first
                    | (go_at_call 10; (with_reducible refine (RI.out _ DX.out.d DX.out.t).mono ?_); rintro e w5 ⟨rfl, hb⟩; (have DX := Lib.hid (DX.out.keep hb); clear z0 z1 z2 z3 hb; have z0 := DX.out.c0; have z1 := DX.out.c1; have z2 := DX.out.c2; have z3 := DX.out.c3))
                    | (go_at_call 36; (with_reducible refine (CU.out _).mono ?_); rintro e w5 ⟨rfl, hb⟩; (have DX := Lib.hid (DX.out.keep hb); clear z0 z1 z2 z3 hb; have z0 := DX.out.c0; have z1 := DX.out.c1; have z2 := DX.out.c2; have z3 := DX.out.c3)))
    go_ret
    exact ⟨ret_int HR.out.symm, DX.out.below⟩
  | true =>
  cases e1 : nx == 100000 with
  | true =>
    have HR : Hid (awaitE ⟨L, M, nx, bz⟩ s.toList = 3) := Lib.hid (by rw [ME.out, if_neg (by decide), if_neg (by decide), if_pos (by have := beq_iff_eq.1 e1; omega)])
    go_enter Try.func38, Try.ntmps38
    go_wp2_with (first
                    | (go_at_call 10; (with_reducible refine (RI.out _ DX.out.d DX.out.t).mono ?_); rintro e w5 ⟨rfl, hb⟩; (have DX := Lib.hid (DX.out.keep hb); clear z0 z1 z2 z3 hb; have z0 := DX.out.c0; have z1 := DX.out.c1; have z2 := DX.out.c2; have z3 := DX.out.c3))
                    | (go_at_call 36; (with_reducible refine (CU.out _).mono ?_); rintro e w5 ⟨rfl, hb⟩; (have DX := Lib.hid (DX.out.keep hb); clear z0 z1 z2 z3 hb; have z0 := DX.out.c0; have z1 := DX.out.c1; have z2 := DX.out.c2; have z3 := DX.out.c3)))
    go_ret
    exact ⟨ret_int HR.out.symm, DX.out.below⟩
  | false =>
    have HR : Hid (awaitE ⟨L, M, nx, bz⟩ s.toList = 0) := Lib.hid (by rw [ME.out, if_neg (by decide), if_neg (by decide), if_neg (by have := beq_eq_false_iff_ne.1 e1; have := HQ.out rfl; omega)])
    go_enter Try.func38, Try.ntmps38
    go_wp2_with (first
                    | (go_at_call 10; (with_reducible refine (RI.out _ DX.out.d DX.out.t).mono ?_); rintro e w5 ⟨rfl, hb⟩; (have DX := Lib.hid (DX.out.keep hb); clear z0 z1 z2 z3 hb; have z0 := DX.out.c0; have z1 := DX.out.c1; have z2 := DX.out.c2; have z3 := DX.out.c3))
                    | (go_at_call 36; (with_reducible refine (CU.out _).mono ?_); rintro e w5 ⟨rfl, hb⟩; (have DX := Lib.hid (DX.out.keep hb); clear z0 z1 z2 z3 hb; have z0 := DX.out.c0; have z1 := DX.out.c1; have z2 := DX.out.c2; have z3 := DX.out.c3)))
    go_ret
    exact ⟨ret_int HR.out.symm, DX.out.below⟩
end Go.Proofs.Ytioeagadhnnajaa
