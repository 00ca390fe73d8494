/- Texts joined in build order: Ref9AddOk. -/
import Derived.Test.YtioeagadhnnajaaA42
import Derived.Test.YtioeagadhnnajaaA29
import Derived.Deep.DeepCutAuto
/- instarref09's Add, where it may be. -/
namespace Go.Proofs.Ytioeagadhnnajaa
open Go.RowKit
theorem int_info9 : (Try.prog.info? 3).map (fun i => (i.zero, i.size, i.bytes)) = some (some (.int .i64 0), 1, 8) := by kernel_rfl
theorem told_take {M : List WaitD} {s : List UInt8} {k : Nat} {y : WaitD} (h : M[k]? = some y) : toldZ (M.take (k + 1)) s = toldZ (M.take k) s ++ if (y.name.toList == s) = true then [y.ticket] else [] := by
  unfold toldZ
  rw [List.take_add_one, h, List.filter_append, List.map_append]
  congr 1
  simp only [Option.toList, List.filter_cons, List.filter_nil]
  split <;> rfl
theorem rest_take {M : List WaitD} {s : List UInt8} {k : Nat} {y : WaitD} (h : M[k]? = some y) : restT (M.take (k + 1)) s = restT (M.take k) s ++ if (y.name.toList == s) = true then [] else [y] := by
  unfold restT
  rw [List.take_add_one, h, List.filter_append]
  congr 1
  simp only [Option.toList, List.filter_cons, List.filter_nil]
  cases y.name.toList == s <;> rfl
theorem told_len9 (M : List WaitD) (s : List UInt8) : (toldZ M s).length ≤ M.length := by
  unfold toldZ
  rw [List.length_map]
  exact List.length_filter_le _ _
theorem rest_len9 (M : List WaitD) (s : List UInt8) : (restT M s).length ≤ M.length := List.length_filter_le _ _
theorem grow_row {A B C : World} {r row : Option Nat} (h : A.grownBy B r) (hg : B.grownBy C row) (hr : ∀ k, row = some k → A.heap.size ≤ k) : A.grownBy C r :=
  ⟨hg.os.trans h.os, hg.tape.trans h.tape, hg.output.trans h.output, Nat.le_trans h.size hg.size, fun k hk hne => (hg.block k (Nat.lt_of_lt_of_le hk h.size) (fun e => by have := hr k e.symm; omega)).trans (h.block k hk hne)⟩
theorem grow_cell {A B : World} {g o : Nat} {u : Value} (h : A.grownBy B (some g)) : A.grownBy (B.setCell ⟨g, o, none⟩ u) (some g) :=
  ⟨h.os, h.tape, h.output, by simpa [World.setCell] using h.size, fun k hk hne => (Below.heap_setCell _ _ _ k (fun e => hne (by rw [e]))).trans (h.block k hk hne)⟩
theorem grow_below {A B : World} (hb : Below A.heap.size A B) : A.grownBy B none := ⟨hb.os, hb.tape, hb.output, hb.size, fun k hk _ => hb.block k hk⟩
theorem grow_refl9 (w : World) (r : Option Nat) : w.grownBy w r := ⟨rfl, rfl, rfl, Nat.le_refl _, fun _ _ _ => rfl⟩
theorem row_free9 {w : World} {g : Nat} {cs : Array Value} {t : TypeId} (h : w.heap[g]? = some (.cells cs t (0, 0))) (j : Nat) : w.frozen? ⟨g, j, none⟩ = false := by simp [World.frozen?, h]
theorem nil_or9 (V : ByteArray) : (V = ⟨#[]⟩ ∧ V.toList = []) ∨ (V.toList.isEmpty = false ∧ V.toList ≠ []) := by
  by_cases e : V = ⟨#[]⟩
  · exact .inl ⟨e, by rw [e]; exact toList_ofL []⟩
  · have h : V.toList ≠ [] := fun h => e (toList_inj (h.trans (toList_ofL []).symm))
    exact .inr ⟨by rw [Bool.eq_false_iff]; exact fun h2 => h (List.isEmpty_iff.1 h2), h⟩
theorem XBox.set1 {W : World} {g : Nat} {n l : ByteArray} {c : Int} (h : XBox W g n l c) (u : ByteArray) : XBox (W.setCell ⟨g, 1, none⟩ (.string u)) g n u c :=
  ⟨by simp only [World.setCell, Array.size_modify]; exact h.lt, (World.cell?_setCell_other _ _ _ _ (by intro e; injection e with _ e; omega)).trans h.c0, World.cell?_setCell_same _ _ _ h.c1, (World.cell?_setCell_other _ _ _ _ (by intro e; injection e with _ e; omega)).trans h.c2⟩
/-- The rows and the box of instarref09's Add, so many having been gone through. -/
structure AdAt (wc W8 W : World) (g : Nat) (x : Value) (nx : Int) (s : List UInt8) (M : List WaitD) (k : Nat) (ta : Option Addr) (tc : Nat) (ya : Option Addr) (yc : Nat) : Prop where
  below : Below wc.heap.size wc W
  grown : W8.grownBy W (some g)
  box : GBox W g x (.slice ya (restT (M.take k) s).length yc) nx false
  told : W.ownsRow W8.heap.size 3 1 (.slice ta (toldZ (M.take k) s).length tc) (toldZ (M.take k) s).length ((toldZ (M.take k) s).flatMap encZ)
  rest : W.ownsRow W8.heap.size 48 2 (.slice ya (restT (M.take k) s).length yc) (restT (M.take k) s).length ((restT (M.take k) s).flatMap encT9)
set_option maxHeartbeats 16000000 in
set_option maxRecDepth 100000 in
theorem refadd_ok (da : Option Addr) (dl dc : Nat) (wa : Option Addr) (wl wc_ : Nat) (nx : Int) (bz : Bool) (L : List DefD) (M : List WaitD) (m : Int) (s base : ByteArray) (c : Int) (w : World) (hd : DefRow w da dl dc L) (ht : WaitRow w wa wl wc_ M) (sd : smallL9 L) (st : smallT9 M) (hs : s.size ≤ 1000000) (hbs : base.size ≤ 1000000) (hdl : dl ≤ 1000) (hwl : wl ≤ 1000) (hc : In64 c) (hE : mayE ⟨L, M, nx, bz⟩ m s.toList base.toList c = 0) :
    Calls Try.prog 15 #[deskV da dl dc wa wl wc_ nx bz, .int .i64 m, .string s, .string base, .int .i64 c] w (RefAddPost w (addK ⟨L, M, nx, bz⟩ s base c, (L.length : Int), toldZ M s.toList, 0)) := by
  obtain ⟨V, hV, DX, RB⟩ : ∃ V, (w.alloc (deskB da dl dc wa wl wc_ nx bz)).alloc (.cells #[.slice none 0 0, .slice none 0 0, .int .i64 0, .bool false] 25) = V ∧ Hid (DBox w V w.heap.size da dl dc wa wl wc_ nx bz L M) ∧ Hid (GBox V (w.heap.size + 1) (.slice none 0 0) (.slice none 0 0) 0 false) := ⟨_, rfl, Lib.hid ((DBox.start (nx := nx) (bz := bz) hd ht).keep (below_desk _ _)), Lib.hid (by have h := GBox.new (w.alloc (deskB da dl dc wa wl wc_ nx bz)) (.slice none 0 0) (.slice none 0 0) 0 false; simpa using h)⟩
  have MY : Hid (∀ V, DefRow V da dl dc L → WaitRow V wa wl wc_ M → Calls Try.prog 35 #[deskV da dl dc wa wl wc_ nx bz, .int .i64 m, .string s, .string base, .int .i64 c] V fun e w' => e = .returned (.int .i64 0) ∧ Below V.heap.size V w') := Lib.hid (fun V h1 h2 => by
    have h := refmay9_any da dl dc wa wl wc_ nx bz L M m s base c V h1 h2 sd st hs
    rw [hE] at h
    exact h)
  obtain ⟨loc, hloc⟩ : ∃ loc, (if base.toList = [] then s else base) = loc := ⟨_, rfl⟩
  have HAK : Hid (addK ⟨L, M, nx, bz⟩ s base c = ⟨L ++ [⟨s, loc, c⟩], restT M s.toList, nx, false⟩) := Lib.hid (by unfold addK newDef; rw [hloc])
  have HLO := Lib.hid hloc
  have HDL : Hid (L.length = dl) := Lib.hid hd.hlen
  have HWL : Hid (M.length = wl) := Lib.hid ht.hlen
  have HDO : Hid (∀ x ∈ L ++ [(⟨s, loc, c⟩ : DefD)], x.name.size ≤ maxLen ∧ x.loc.size ≤ maxLen ∧ In64 x.cls) := Lib.hid (by
    intro x hx
    rcases List.mem_append.1 hx with hx | hx
    · exact hd.ok x hx
    · rw [List.mem_singleton] at hx
      subst hx
      refine ⟨by show s.size ≤ maxLen; unfold maxLen; omega, ?_, hc⟩
      show loc.size ≤ maxLen
      rw [← hloc]
      unfold maxLen
      split <;> omega)
  have HWO : Hid (∀ k, ∀ x ∈ restT (M.take k) s.toList, x.name.size ≤ maxLen ∧ In64 x.ticket) := Lib.hid (fun k x hx => by
    unfold restT at hx
    exact ht.ok x (List.mem_of_mem_take (List.mem_filter.1 hx).1))
  have HTO : Hid (∀ k, ∀ z ∈ toldZ (M.take k) s.toList, In64 z) := Lib.hid (fun k z hz => by
    unfold toldZ at hz
    obtain ⟨x, hx, rfl⟩ := List.mem_map.1 hz
    exact (ht.ok x (List.mem_of_mem_take (List.mem_filter.1 hx).1)).2)
  have hwl64 := ht.hlen
  clear hE hd ht sd st hs hbs hloc hwl64 hc
  obtain ⟨i0, hi0, hq0, hq1, hq2⟩ := info_parts3 wait_info
  obtain ⟨j0, hj0, hr0, hr1, hr2⟩ := info_parts3 int_info9
  go_enter Try.func15, Try.ntmps15
  go_upto_region 1 with fail
  clear hV
  (have z0 := DX.out.c0; have z1 := DX.out.c1; have z2 := DX.out.c2; have z3 := DX.out.c3; have r0 := RB.out.c0; have r1 := RB.out.c1; have r2 := RB.out.c2; have r3 := RB.out.c3; have k0 := RB.out.f 0; have k1 := RB.out.f 1; have k2 := RB.out.f 2; have k3 := RB.out.f 3)
  go_upto_region 4 with (go_at_call 35; (with_reducible refine (MY.out _ DX.out.d DX.out.t).mono ?_); rintro e w5 ⟨rfl, hb⟩; (have DX := Lib.hid (DX.out.keep hb); have RB := Lib.hid (RB.out.keep hb); clear z0 z1 z2 z3 r0 r1 r2 r3 k0 k1 k2 k3 hb; (have z0 := DX.out.c0; have z1 := DX.out.c1; have z2 := DX.out.c2; have z3 := DX.out.c3; have r0 := RB.out.c0; have r1 := RB.out.c1; have r2 := RB.out.c2; have r3 := RB.out.c3; have k0 := RB.out.f 0; have k1 := RB.out.f 1; have k2 := RB.out.f 2; have k3 := RB.out.f 3)))
  clear z0 z1 z2 z3 r0 r1 r2 r3 k0 k1 k2 k3 MY
  have HX5 : Hid (∀ V, Below w5.heap.size w5 V → DBox w V w.heap.size da dl dc wa wl wc_ nx bz L M) := Lib.hid (fun V hb => DX.out.keep hb)
  have HR5 : Hid (∀ V, Below w5.heap.size w5 V → GBox V (w.heap.size + 1) (.slice none 0 0) (.slice none 0 0) 0 false) := Lib.hid (fun V hb => RB.out.keep hb)
  have HRL := Lib.hid RB.out.lt
  clear DX RB
  have XB := Lib.hid (XBox.new w5 s s c)
  have XF : Hid (∀ j, (w5.alloc (.cells #[.string s, .string s, .int .i64 c] 46)).frozen? ⟨w5.heap.size, j, none⟩ = false) := Lib.hid (fun j => row_free9 (heap_alloc_new w5 _) j)
  have HBA := Lib.hid (below_desk w5 (.cells #[.string s, .string s, .int .i64 c] 46))
  go_upto_if 34 with fail
  go_cut [] (fun wx => True ∧ Hid (XBox wx w5.heap.size s loc c) ∧ Hid (Below w5.heap.size w5 wx))
  case first =>
    obtain ⟨q, hq⟩ : ∃ q, (!base.toList.isEmpty) = q := ⟨_, rfl⟩
    rw [hq]
    cases q with
    | false =>
      have hle : s = loc := by
        rw [← HLO.out, if_pos]
        exact List.isEmpty_iff.1 (by simpa using hq)
      have HLE := Lib.hid hle
      clear hle hq
      go_wp2
      go_meet
      exact ⟨trivial, Lib.hid (by rw [← HLE.out]; exact XB.out), HBA⟩
    | true =>
      have hle : base = loc := by
        rw [← HLO.out, if_neg]
        intro e
        rw [e] at hq
        cases hq
      have HLE := Lib.hid hle
      clear hle hq
      go_wp2
      go_meet
      exact ⟨trivial, Lib.hid (by rw [← HLE.out]; exact XBox.new w5 s base c), Lib.hid (below_desk w5 _)⟩
  case rest =>
    obtain ⟨-, XC, HC⟩ := hcut
    clear XB XF HBA
    have DX := Lib.hid (HX5.out _ HC.out)
    go_upto_region 7 with fail
    refine ad_region (by simp) w.heap.size w5.heap.size da dl dc nx L s loc c rfl rfl DX.out.lt DX.out.c0 DX.out.c2 XC.out DX.out.d hdl ?_
    intro v g x w7 hg hgb hown hne hb7
    obtain ⟨W8, hW8⟩ : ∃ W8, put4 w7 g x (.slice none 0 0) (.int .i64 nx) (.bool false) = W8 := ⟨_, rfl⟩
    have GB : Hid (GBox W8 g x (.slice none 0 0) nx false) := Lib.hid (by rw [← hW8]; exact (((hgb.set0 _).set1 _).set2 _).set3 _)
    have OW : Hid (W8.ownsRow wc.heap.size 46 3 x (dl + 1) ((L ++ [(⟨s, loc, c⟩ : DefD)]).flatMap encD)) := Lib.hid (by rw [← hW8]; exact own_eq9 hown (fun k hk => put4_same (hne k hk)))
    have HB : Hid (Below wc.heap.size wc W8) := Lib.hid (by rw [← hW8]; exact put4_below hb7 hg)
    have HNE := Lib.hid hne
    have HGE := Lib.hid hg
    simp only [puts, List.set_cons_succ, List.set_cons_zero]
    generalize v 0 = v0
    generalize v 1 = v1
    generalize v 2 = v2
    generalize v 3 = v3
    generalize v 4 = v4
    generalize v 5 = v5
    generalize v 6 = v6
    generalize v 7 = v7
    generalize v 8 = v8
    generalize v 9 = v9
    rw [hW8]
    clear hW8 hgb hown hb7 hne hg DX XC v
    have AT0 : Hid (AdAt wc W8 W8 g x nx s.toList M 0 none 0 none 0) := Lib.hid ⟨HB.out, grow_refl9 _ _, GB.out, World.ownsRow_nil _ _ _ _, World.ownsRow_nil _ _ _ _⟩
    have HGL := Lib.hid GB.out.lt
    have HW8 := Lib.hid HB.out.size
    clear GB HB
    have HXC : Hid (∀ V, Below wc.heap.size wc V → DBox w V w.heap.size da dl dc wa wl wc_ nx bz L M) := Lib.hid (fun V hb => HX5.out V (HC.out.trans (hb.mono HC.out.size)))
    have HRC : Hid (∀ V, Below wc.heap.size wc V → GBox V (w.heap.size + 1) (.slice none 0 0) (.slice none 0 0) 0 false) := Lib.hid (fun V hb => HR5.out V (HC.out.trans (hb.mono HC.out.size)))
    have HRL2 : Hid (w.heap.size + 1 < wc.heap.size) := Lib.hid (Nat.lt_of_lt_of_le HRL.out HC.out.size)
    clear HX5 HR5 HRL HC
    go_upto_region 10 with fail
    go_loopw [17, 18] (fun v i wr => ∃ (k : Nat) (ta : Option Addr) (tc : Nat) (ya : Option Addr) (yc : Nat), k ≤ wl ∧ v = .slice ta (toldZ (M.take k) s.toList).length tc ∧ i = .int .i64 k ∧ Hid (AdAt wc W8 wr g x nx s.toList M k ta tc ya yc)) (fun _ i _ => wl - (intOf i).toNat)
    case atStart => exact ⟨0, none, 0, none, 0, Nat.zero_le _, rfl, rfl, AT0⟩
    case round =>
      clear AT0
      obtain ⟨k, ta, tc, ya, yc, hk, rfl, rfl, AT⟩ := hrel
      have DX := Lib.hid (HXC.out _ AT.out.below)
      have z0 := DX.out.c0
      have z1 := DX.out.c1
      have z2 := DX.out.c2
      by_cases hlt : k < wl
      · obtain ⟨b, off, y, rfl, hbl, hy, y0, y1, hys⟩ := DX.out.t.get hlt
        have HTT := Lib.hid (told_take (s := s.toList) hy)
        have HRT := Lib.hid (rest_take (s := s.toList) hy)
        have hn1 : (toldZ (M.take k) s.toList).length ≤ 1000 := Nat.le_trans (told_len9 _ _) (by rw [List.length_take]; omega)
        have hn2 : (restT (M.take k) s.toList).length ≤ 1000 := Nat.le_trans (rest_len9 _ _) (by rw [List.length_take]; omega)
        have HSZ := Lib.hid (Nat.le_trans (Nat.le_refl W8.heap.size) AT.out.grown.size)
        have hsz8 : W8.heap.size ≤ wr.heap.size := HSZ.out
        have hgl := HGL.out
        obtain ⟨n1, hn1e⟩ : ∃ n, (toldZ (M.take k) s.toList).length = n := ⟨_, rfl⟩
        obtain ⟨n2, hn2e⟩ : ∃ n, (restT (M.take k) s.toList).length = n := ⟨_, rfl⟩
        have OT : Hid (wr.ownsRow W8.heap.size 3 1 (.slice ta n1 tc) n1 ((toldZ (M.take k) s.toList).flatMap encZ)) := Lib.hid (by have h := AT.out.told; rwa [hn1e] at h)
        have OR : Hid (wr.ownsRow W8.heap.size 48 2 (.slice ya n2 yc) n2 ((restT (M.take k) s.toList).flatMap encT9)) := Lib.hid (by have h := AT.out.rest; rwa [hn2e] at h)
        have BX : Hid (GBox wr g x (.slice ya n2 yc) nx false) := Lib.hid (by have h := AT.out.box; rwa [hn2e] at h)
        have HN1 := Lib.hid hn1e
        have HN2 := Lib.hid hn2e
        have ABL := Lib.hid AT.out.below
        have AGR := Lib.hid AT.out.grown
        rw [hn1e] at hn1 ⊢
        rw [hn2e] at hn2
        clear hbl hys hn1e hn2e AT hy
        cases hq : (y.name.toList == s.toList) with
        | true =>
          rw [hq, if_pos rfl] at HTT HRT
          rw [List.append_nil] at HRT
          have HLN : Hid (n1 + 1 = (toldZ (M.take (k + 1)) s.toList).length) := Lib.hid (by rw [HTT.out, List.length_append, HN1.out]; rfl)
          go_wp2_with (at_builtin; (refine wpList_append_rows rfl (.tmp 62) (.tmp 69) 31 rfl 3 j0 _ 1 8 Try.underlying31 hj0 hr0 hr1 hr2 rfl (by decide) W8.heap.size _ n1 (toldZ (M.take k) s.toList) [y.ticket] rfl (OT.out.alloc _) _ 1 1 rfl (own_one _ _ _ _ rfl rfl) (fun x _ => encZ_one x) (by unfold maxLen; omega) (by omega) (by simp; omega) (fun h => by cases h) ?_); intro v5 w6 hown5 hg5 hat5; obtain ⟨a5, c5, rfl⟩ := Iv0.own_shapeI hown5; have HO5 := Lib.hid hown5; have HG5 := Lib.hid hg5; clear hown5 hg5 hat5)
          go_roundw
          case measure => simp [intOf]; omega
          have HX := below_desk wr (.cells #[.int .i64 y.ticket] 3)
          have hb0 : ∀ j, Value.ownBlock (.slice ta n1 tc) = some j → W8.heap.size ≤ j := fun j hj => (OT.out.lt j hj).1
          have hne : Value.ownBlock (.slice ta n1 tc) ≠ some g := fun e => by have := hb0 g e; omega
          refine ⟨k + 1, a5, c5, ya, yc, by omega, by rw [HLN.out], by go_num, Lib.hid ⟨?_, ?_, ?_, ?_, ?_⟩⟩
          · exact (ABL.out.trans (HX.mono (Nat.le_trans HW8.out hsz8))).grown HG5.out (Nat.le_trans (Nat.le_trans HW8.out hsz8) HX.size) (fun j hj => Nat.le_trans HW8.out (hb0 j hj))
          · exact grow_row (grow_row AGR.out (grow_below HX) (fun j hj => by cases hj)) HG5.out hb0
          · rw [HRT.out, HN2.out]
            exact (BX.out.keep HX).same (HG5.out.block g (Nat.lt_of_lt_of_le hgl (Nat.le_trans hsz8 HX.size)) (fun e => hne e.symm)) HG5.out.size
          · have h1 := HO5.out
            rw [← HTT.out, HLN.out] at h1
            exact h1
          · rw [HRT.out, HN2.out]
            exact Iv0.own_grownI (OR.out.alloc _) HG5.out (fun j hj => own_apart (OT.out.alloc (.cells #[.int .i64 y.ticket] 3)) (OR.out.alloc (.cells #[.int .i64 y.ticket] 3)) (by decide) j hj)
        | false =>
          rw [hq, if_neg Bool.false_ne_true] at HTT HRT
          rw [List.append_nil] at HTT
          have HLN : Hid (n2 + 1 = (restT (M.take (k + 1)) s.toList).length) := Lib.hid (by rw [HRT.out, List.length_append, HN2.out]; rfl)
          have g1 := BX.out.c1
          have g1a : ∀ o, (wr.alloc o).cell? ⟨g, 1, none⟩ = some (.slice ya n2 yc) := fun o => (BX.out.keep (below_desk wr o)).c1
          have z1a : ∀ o, (wr.alloc o).cell? ⟨w.heap.size, 1, none⟩ = some (.slice (some ⟨b, off, none⟩) wl wc_) := fun o => (DX.out.keep (below_desk wr o)).c1
          have HL1 : Hid (SRow encT9 2 (wr.alloc (.cells #[.string y.name, .int .i64 y.ticket] 48)) (some ⟨wr.heap.size, 0, none⟩) 1 1 [y]) := Lib.hid (own_one (α := WaitD) (enc := encT9) (size := 2) wr 48 y _ rfl rfl)
          have HL2 : Hid (SRow encT9 2 (wr.drew.alloc (.cells #[.string y.name, .int .i64 y.ticket] 48)) (some ⟨wr.heap.size, 0, none⟩) 1 1 [y]) := Lib.hid (own_one (α := WaitD) (enc := encT9) (size := 2) wr.drew 48 y _ rfl rfl)
          go_upto_region 14 with fail
          go_region_law (refine step_append_rows (by rfl) (.tmp 72) (.tmp 78) 23 (by rfl) 48 i0 _ 2 24 Try.underlying23 hi0 hq0 hq1 hq2 rfl (by decide) W8.heap.size (.slice ya n2 yc) n2 (restT (M.take k) s.toList) [y] (by simp [Act.eval]) (by first | exact OR.out.alloc _ | exact OR.out.drew.alloc _) (some ⟨wr.heap.size, 0, none⟩) 1 1 (by simp [Act.eval]) (by first | exact HL1.out | exact HL2.out) (fun x _ => encT_one x) (by unfold maxLen; omega) (by omega) (by simp; omega) (fun h => by cases h) ?_; intro v5 w6 hown5 hg5 hat5; obtain ⟨a5, c5, rfl⟩ := Iv0.own_shapeI hown5; have HO5 := Lib.hid hown5; have HG5 := Lib.hid hg5; have HA5 := Lib.hid hat5; have G5 := Lib.hid (GBox.same (V := w6) (by first | exact BX.out.keep (below_desk wr _) | exact (BX.out.keep (Below.refl _ _).drew).keep (below_desk wr.drew _)) (hg5.block g (by simp; omega) (fun e => by have := (OR.out.lt g e.symm).1; omega)) hg5.size); have k1 := G5.out.c1; have f1 := G5.out.f 1; clear hown5 hg5 hat5 g1 g1a)
          all_goals go_wp2_with fail
          all_goals
            go_roundw
            case measure => simp [intOf]; omega
            have HX := (below_desk wr (.cells #[.string y.name, .int .i64 y.ticket] 48)).drew
            have hb0 : ∀ j, Value.ownBlock (.slice ya n2 yc) = some j → W8.heap.size ≤ j := fun j hj => (OR.out.lt j hj).1
            have NG5 : ∀ j, Value.ownBlock (.slice a5 (n2 + 1) c5) = some j → j ≠ g := fun j hj => by
              have := (HO5.out.lt j hj).1
              omega
            have hB6 : Below wc.heap.size wc w6 := (ABL.out.trans (HX.mono (Nat.le_trans HW8.out hsz8))).grown HG5.out (Nat.le_trans (Nat.le_trans HW8.out hsz8) HX.size) (fun j hj => Nat.le_trans HW8.out (hb0 j hj))
            refine ⟨k + 1, ta, tc, a5, c5, by omega, by rw [HTT.out, HN1.out], by go_num, Lib.hid ⟨?_, ?_, ?_, ?_, ?_⟩⟩
            · exact hB6.setCell HGE.out _
            · exact grow_cell (grow_row (grow_row AGR.out (grow_below HX) (fun j hj => by cases hj)) HG5.out hb0)
            · rw [← HLN.out]
              exact G5.out.set1 _
            · rw [HTT.out, HN1.out]
              refine own_eq9 (Iv0.own_grownI (OT.out.alloc _).drew HG5.out (fun j hj => own_apart (OR.out.alloc (.cells #[.string y.name, .int .i64 y.ticket] 48)) (OT.out.alloc (.cells #[.string y.name, .int .i64 y.ticket] 48)) (by decide) j hj)) (fun j hj => Below.heap_setCell _ _ _ j (fun e => ?_))
              have := (OT.out.lt j hj).1
              have e2 : j = g := e
              omega
            · have h1 := own_eq9 HO5.out (W := w6.setCell ⟨g, 1, none⟩ (.slice a5 (n2 + 1) c5)) (fun j hj => Below.heap_setCell _ _ _ j (NG5 j hj))
              rw [← HRT.out] at h1
              rw [← HLN.out]
              exact h1
      · obtain rfl : k = wl := by omega
        have HTK : Hid (M.take k = M) := Lib.hid (by rw [← HWL.out, List.take_length])
        have OD := Iv0.own_grownI OW.out AT.out.grown (fun j hj e => by injection hj with hj; exact HNE.out j e hj.symm)
        obtain ⟨xa, xc, rfl, hdr, hdlo⟩ := DefRow.of_own (by rw [List.length_append, HDL.out]; rfl) OD HDO.out
        obtain ⟨wa', wc', e1, hwr, hwlo⟩ := WaitRow.of_own rfl AT.out.rest (HWO.out k)
        injection e1 with e1 _ e3
        subst e1; subst e3
        obtain ⟨ta', tc', e1, htr, htlo⟩ := IntRow.of_own9 rfl AT.out.told (HTO.out k)
        injection e1 with e1 _ e3
        subst e1; subst e3
        have DR := Lib.hid hdr
        have WR := Lib.hid hwr
        have TR := Lib.hid htr
        have DLO := Lib.hid hdlo
        have WLO := Lib.hid hwlo
        have TLO := Lib.hid htlo
        have RX := Lib.hid (HRC.out _ AT.out.below)
        have BG := Lib.hid AT.out.box
        have DB := Lib.hid DX.out.below
        have z0 := DX.out.c0
        rw [HTK.out] at WR TR BG
        clear OD hdr hwr htr hdlo hwlo htlo z2 OW AT
        rw [HTK.out]
        go_upto_region 15 with fail
        clear z1
        go_cut [11, 12, 13] (fun x1 y1 q1 wx => x1 = .int .i64 dl ∧ y1 = .slice ta (toldZ M s.toList).length tc ∧ q1 = .int .i64 0 ∧ True ∧ Hid (GBox wx (w.heap.size + 1) (.slice xa (dl + 1) xc) (.slice ya (restT M s.toList).length yc) nx false) ∧ Hid (DefRow wx xa (dl + 1) xc (L ++ [(⟨s, loc, c⟩ : DefD)])) ∧ Hid (WaitRow wx ya (restT M s.toList).length yc (restT M s.toList)) ∧ Hid (IntRow wx ta (toldZ M s.toList).length tc (toldZ M s.toList)) ∧ Hid (Below w.heap.size w wx))
        case first =>
          have g0 := BG.out.c0
          have g1 := BG.out.c1
          have g2 := BG.out.c2
          have g3 := BG.out.c3
          have r0 := RX.out.c0
          have r1 := RX.out.c1
          have r2 := RX.out.c2
          have r3 := RX.out.c3
          have f0 := RX.out.f 0
          have f1 := RX.out.f 1
          have f2 := RX.out.f 2
          have f3 := RX.out.f 3
          have n1 : w.heap.size + 1 ≠ w.heap.size := by omega
          have n2 : w.heap.size ≠ w.heap.size + 1 := by omega
          have n3 : w.heap.size + 1 ≠ g := by have h1 := HGE.out; have h2 := HRL2.out; omega
          have n4 : g ≠ w.heap.size + 1 := fun e => n3 e.symm
          go_region_law fail
          all_goals go_wp2_with fail
          all_goals
            go_meet
            have hge : w.heap.size ≤ w.heap.size + 1 := by omega
            have h2 := HRL2.out
            have h8 := HW8.out
            refine ⟨rfl, rfl, rfl, trivial, Lib.hid (((((RX.out.keep (Below.refl _ _).drew).set0 _).set1 _).set2 _).set3 _), Lib.hid ((DR.out.below (Below.refl _ _).drew).same (fun b off e => put4_same (by have := DLO.out b off e; omega)) (by simp [World.setCell])), Lib.hid ((WR.out.below (Below.refl _ _).drew).same (fun b off e => put4_same (by have := WLO.out b off e; omega)) (by simp [World.setCell])), Lib.hid ((TR.out.below (Below.refl _ _).drew).same9 (fun b off e => put4_same (by have := TLO.out b off e; omega)) (by simp [World.setCell])), Lib.hid (put4_below DB.out hge).drew⟩
        case rest =>
          obtain ⟨rfl, rfl, rfl, -, RX, DR, WR, TR, BX⟩ := hcut
          have r0 := RX.out.c0
          have r1 := RX.out.c1
          have r2 := RX.out.c2
          have r3 := RX.out.c3
          go_wp2
          refine bodyPost_ret (v := .tuple #[deskV xa (dl + 1) xc ya (restT M s.toList).length yc nx false, .int .i64 dl, .slice ta (toldZ M s.toList).length tc, .int .i64 0]) ?_ rfl ⟨xa, dl + 1, xc, ya, (restT M s.toList).length, yc, ta, (toldZ M s.toList).length, tc, ?_, ?_, ?_, ?_, BX.out⟩
          · simp [results, Try.results15, go_sem, r0, r1, r2, r3]
          · rw [HAK.out, HDL.out]
          · rw [HAK.out]
            exact DR.out
          · rw [HAK.out]
            exact WR.out
          · exact TR.out
end Go.Proofs.Ytioeagadhnnajaa
