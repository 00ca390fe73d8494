/- Texts joined in build order: ShadeAllFn ShadeElems ShadeProof. -/
import Derived.Test.YtllfkiifkkcinaaP16
import Derived.Test.YtllfkiifkkcinaaP08
/- Package shade's All. -/
namespace Go.Proofs.Ytllfkiifkkcinaa
open Go.RowKit Go.Shelf
attribute [local go_sem] Oper.semAt_some
def undL (x : Core) : List Int := if x.under = -1 then [] else [x.under]
/-- What is in order, and what is still to come. -/
structure GoingS (F : List Core) (n : Nat) (out P : List Int) : Prop where
  eq : out ++ P.reverse.flatMap (allI F) = allI F (n : Int)
  inF : ∀ z ∈ P, 0 ≤ z ∧ z < (F.length : Int)
theorem GoingS.start {F : List Core} {n : Nat} (h : n < F.length) : GoingS F n [] [(n : Int)] := ⟨by simp, fun z hz => by
  obtain rfl : z = (n : Int) := by simpa using hz
  omega⟩
theorem GoingS.step {m : Int} {F : List Core} (hr : rightF m F = true) {n : Nat} {out Q : List Int} {z : Int} {x : Core} (h : GoingS F n out (Q ++ [z])) (hx : F[z.toNat]? = some x) : GoingS F n (out ++ [z]) (Q ++ x.kids.reverse ++ undL x) := by
  have T := treeS hr
  obtain ⟨hz0, hz1⟩ := h.inF z (by simp)
  have hzl : z.toNat < F.length := by omega
  have kin : ∀ k ∈ x.kids, 0 ≤ k ∧ k < (F.length : Int) := fun k hkk => by
    have h2 := (nodeOk_iff.1 (((rightF_iff m F).1 hr).2.1 _ x hx)).2.2.1 k hkk
    obtain ⟨c, hc, _⟩ := kidB_iff.1 (kidOk_iff.1 h2).2
    obtain ⟨e1, e2, _⟩ := getC_some hc
    omega
  have hord : allI F z = z :: (undL x ++ x.kids.flatMap (allI F)).take 0 ++ ((if x.under = -1 then [] else allI F x.under) ++ x.kids.flatMap (allI F)) := by
    have := allI_open hr hx
    rw [show ((z.toNat : Nat) : Int) = z by omega] at this
    rw [this]
    simp
  refine ⟨?_, fun y hy => ?_⟩
  · rw [← h.eq, List.reverse_append, List.reverse_append, List.reverse_append, List.reverse_reverse, List.flatMap_append, List.flatMap_append, List.reverse_singleton, List.singleton_append, List.flatMap_cons, hord]
    unfold undL
    by_cases hu : x.under = -1
    · rw [if_pos hu, if_pos hu]
      simp
    · rw [if_neg hu, if_neg hu]
      simp
  · rcases List.mem_append.1 hy with hy | hy
    · rcases List.mem_append.1 hy with hy | hy
      · exact h.inF y (by simp [hy])
      · exact kin y (by simpa using hy)
    · unfold undL at hy
      by_cases hu : x.under = -1
      · rw [if_pos hu] at hy; cases hy
      · rw [if_neg hu] at hy
        obtain ⟨s, u, e1, e2, _⟩ := right_under hr hx hu
        have := (List.getElem?_eq_some_iff.1 e2).1
        obtain rfl : y = x.under := by simpa using hy
        omega
theorem GoingS.len {F : List Core} {n : Nat} {out P : List Int} (h : GoingS F n out P) : out.length + P.length ≤ (allI F (n : Int)).length := by
  have h1 := congrArg List.length h.eq
  rw [List.length_append] at h1
  have h2 : ∀ l : List Int, l.length ≤ (l.flatMap (allI F)).length := fun l => by
    induction l with
    | nil => simp
    | cons a r ih =>
      have : 0 < (allI F a).length := by
        unfold allI allF
        obtain ⟨t, ht⟩ := ordN_head (kids := kidsS F) (F.length + 1) a.toNat
        rw [ht]
        simp
      rw [List.flatMap_cons, List.length_append, List.length_cons]
      omega
  have h3 := h2 P.reverse
  rw [List.length_reverse] at h3
  omega
set_option maxHeartbeats 8000000 in
set_option maxRecDepth 100000 in
theorem allNot_any (a : Option Addr) (len cap : Nat) (m : Int) (L : List NodeD) (n : Int) (w : World) (h : NodeRow w a len cap L) (hm : In64 m) (hn : In64 n) (hs : smallF L) (hq : thereF m (coreL L) n = false) :
    Calls Try.prog 41 #[forV a len cap m, .int .i64 n] w (OrdPost w (allZ m (coreL L) n)) := by
  have BX := Lib.hid ((Box.start (m := m) h).keep (below_box _ (.cells #[.int .i64 n] 3)))
  have NB := Lib.hid (lit_one (w.alloc (forB a len cap m)) 3 n hn)
  have CK : Hid (∀ W b, NodeRow W a len cap L → IntRow W b 1 1 [n] → Calls Try.prog 70 #[forV a len cap m, .slice b 1 1] W fun e w' => e = .returned (.bool false) ∧ Below W.heap.size W w') := Lib.hid (fun W b h1 h2 => by
    rw [← hq, ← knowsB_one]
    exact shknows_any a len cap m L b 1 1 [n] W h1 hm hs h2)
  simp only [World.size_alloc] at NB
  have z0 := BX.out.c0
  have z1 := BX.out.c1
  have HR : Hid (allZ m (coreL L) n = []) := Lib.hid (by unfold allZ; rw [hq]; rfl)
  clear h hm hs hn hq
  go_enter Try.func41, Try.ntmps41
  go_wp2_with (go_at_call 70; ((with_reducible refine (CK.out _ _ BX.out.row NB.out).mono ?_); rintro e w1 ⟨rfl, hb⟩; have BX := Lib.hid (BX.out.keep hb); have z0 := BX.out.c0; have z1 := BX.out.c1; clear hb))
  go_ret
  exact ⟨none, 0, 0, rfl, by rw [HR.out]; exact ⟨SRow.nil, (fun z hz => by cases hz), fun _ => rfl⟩, BX.out.below⟩
set_option maxHeartbeats 8000000 in
set_option maxRecDepth 100000 in
theorem allIs_any (a : Option Addr) (len cap : Nat) (m : Int) (L : List NodeD) (n : Nat) (w : World) (h : NodeRow w a len cap L) (hm : In64 m) (hs : smallF L) (hq : thereF m (coreL L) n = true) :
    Calls Try.prog 41 #[forV a len cap m, .int .i64 n] w (OrdPost w (allZ m (coreL L) n)) := by
  have hn : In64 (n : Int) := ⟨by omega, by have h1 := (there_nat hq).2; obtain ⟨k, h2, h3⟩ := h1; rw [coreL_len, h.hlen] at h3; have := h.len64; omega⟩
  have BX := Lib.hid ((Box.start (m := m) h).keep (below_box _ (.cells #[.int .i64 n] 3)))
  have NB := Lib.hid (lit_one (w.alloc (forB a len cap m)) 3 n hn)
  have CK : Hid (∀ W b, NodeRow W a len cap L → IntRow W b 1 1 [(n : Int)] → Calls Try.prog 70 #[forV a len cap m, .slice b 1 1] W fun e w' => e = .returned (.bool true) ∧ Below W.heap.size W w') := Lib.hid (fun W b h1 h2 => by
    rw [← hq, ← knowsB_one]
    exact shknows_any a len cap m L b 1 1 [(n : Int)] W h1 hm hs h2)
  simp only [World.size_alloc] at NB
  have z0 := BX.out.c0
  have z1 := BX.out.c1
  obtain ⟨hr, k, hkn, hk⟩ := there_nat hq
  obtain rfl : n = k := Int.ofNat.inj hkn
  have HRT := Lib.hid hr
  have HL := Lib.hid h.hlen
  have HS := Lib.hid hs
  clear h hm hs hn hq hr hkn
  refine callsIn_wide (n := 8) |>.1 ?_
  refine callsIn_of_wp_marks Try.func41 rfl trivial ?_ rfl
  simp only [Try.ntmps41, List.size_toArray, List.length_cons, List.length_nil, Nat.reduceAdd, Nat.reduceSub, Array.replicate_succ, Array.replicate_zero, List.push_toArray, List.append_toArray, List.nil_append, List.cons_append]
  gi_wp2_with (refine ⟨trivial, ?_⟩; gi_at_call 70; refine (callsIn_wide.2 (CK.out _ _ BX.out.row NB.out)).mono ?_; rintro e w1 ⟨rfl, hb⟩; have BX := Lib.hid (BX.out.keep hb); have z0 := BX.out.c0; have z1 := BX.out.c1; clear hb)
  obtain ⟨b, off, x0, rfl, hb1, -, -, -⟩ := BX.out.row.get (k := n) (by rw [coreL_len, HL.out] at hk; exact hk)
  obtain ⟨i0, hi0, hz0, hz1, hz2⟩ := info_parts int_info
  have HN : Hid ((allI (coreL L) (n : Int)).length ≤ 1000) := Lib.hid (Nat.le_trans (allI_len HRT.out hk) (by rw [coreL_len]; exact HS.out.1))
  have GO0 := Lib.hid (GoingS.start hk)
  have HOZ : Hid (allZ m (coreL L) n = allI (coreL L) (n : Int)) := Lib.hid (by rw [allZ_eq HRT.out hk])
  have HA0 : Hid (Hand w1 ((w1.alloc (.cells #[.int .i64 n] 3)).alloc (.cells #[.slice (some ⟨w1.heap.size, 0, none⟩) 1 1] 26)) w1.heap.size (w1.heap.size + 1) w1.heap.size 1 (.slice none 0 0) [] [(n : Int)]) := Lib.hid (by
    have h1 : (w1.alloc (.cells #[.int .i64 n] 3)).heap.size = w1.heap.size + 1 := by simp
    have h2 := World.ownsRow_lit (base := w1.heap.size) (e := 3) (size := 1) w1 #[.int .i64 n] 1 (Nat.le_refl _) (by unfold maxLen; omega) (by simp)
    refine ⟨(below_box w1 _).alloc (by simp) _, ?_, by omega, h2.alloc _, World.ownsRow_nil _ _ _ _, by simp [Value.ownBlock]⟩
    have := Boxed.new (w1.alloc (.cells #[.int .i64 n] 3)) 26 (.slice (some ⟨w1.heap.size, 0, none⟩) 1 1)
    rwa [h1] at this)
  have HKN0 := Lib.hid hk
  clear z0 z1 hk NB CK
  refine wpIn_loop (fun a' W => ∃ (ds : List Nat) (out P : List Int) (vo : Value) (Bp g cp : Nat) (u7 u8 u9 u10 u11 u19 u20 u21 u22 u23 u24 u25 u26 u27 u28 u29 u30 u31 u32 u33 u34 u35 u36 u37 u38 u39 u40 u41 u42 u43 u44 u45 u46 u47 u48 u49 u50 u51 u52 u53 u54 u55 u56 u57 u58 u59 u60 u61 u62 : Value), Hid (Hand w1 W w1.heap.size Bp g cp vo out P) ∧ Hid (GoingS (coreL L) n out P) ∧ Hid (Marks w1.heap.size ds W) ∧ a' = { tmps := #[forV (some ⟨b, off, none⟩) len cap m, .int .i64 n, .pointer (some ⟨w.heap.size, 0, none⟩), undef, .slice none 0 0, vo, .pointer (some ⟨Bp, 0, none⟩), u7, u8, u9, u10, u11, .agg #[.slice (some ⟨b, off, none⟩) len cap, .int .i64 m], .int .i64 n, .slice (some ⟨w.heap.size + 1, 0, none⟩) 1 1, .bool true, .bool false, .int .i64 n, .slice (some ⟨w1.heap.size, 0, none⟩) 1 1, u19, u20, u21, u22, u23, u24, u25, u26, u27, u28, u29, u30, u31, u32, u33, u34, u35, u36, u37, u38, u39, u40, u41, u42, u43, u44, u45, u46, u47, u48, u49, u50, u51, u52, u53, u54, u55, u56, u57, u58, u59, u60, u61, u62], defers := ds.map markD })
    (fun a' _ => (allI (coreL L) (n : Int)).length - sliceN (a'.tmps.getD 5 undef)) ?_ ?_
  · exact ⟨[], [], [(n : Int)], _, _, _, _, _, _, _, _, _, _, _, _, _, _, _, _, _, _, _, _, _, _, _, _, _, _, _, _, _, _, _, _, _, _, _, _, _, _, _, _, _, _, _, _, _, _, _, _, _, _, _, _, _, HA0, GO0, Lib.hid ⟨List.nodup_nil, fun D hD => by cases hD⟩, rfl⟩
  · clear GO0 HA0
    rintro a' W ⟨ds, out, P, vo, Bp, g, cp, u7, u8, u9, u10, u11, u19, u20, u21, u22, u23, u24, u25, u26, u27, u28, u29, u30, u31, u32, u33, u34, u35, u36, u37, u38, u39, u40, u41, u42, u43, u44, u45, u46, u47, u48, u49, u50, u51, u52, u53, u54, u55, u56, u57, u58, u59, u60, u61, u62, HA, GO, MK, rfl⟩
    rcases List.eq_nil_or_concat P with rfl | ⟨Q, z, hP⟩
    · have pc : W.cell? ⟨Bp, 0, none⟩ = some (.slice (some ⟨g, 0, none⟩) 0 cp) := HA.out.pile.cell
      gi_wp2
      refine leaves_marks w1.heap.size (fun W => W.ownsRow w1.heap.size 3 1 vo out.length (out.map encI) ∧ Below w.heap.size w W) ?_ ?_ ds W MK.out ⟨HA.out.orow, BX.out.below.trans (HA.out.below.mono BX.out.below.size)⟩
      · rintro W5 D ⟨h1, h2⟩ hD hK
        have hlt := (Array.getElem?_eq_some_iff.1 hK).1
        have hwb := BX.out.below.size
        refine ⟨h1.kept (grownBy_putObj' W5 D _) ?_, (h2.grown (grownBy_putObj' W5 D _) (by omega) (fun k e => by injection e with e; omega))⟩
        cases hv : vo.ownBlock with
        | none => exact .inl rfl
        | some k =>
          refine .inr (fun e => ?_)
          injection e with e
          obtain ⟨c, t, f, hc⟩ := own_cells h1 k hv
          rw [e, hK] at hc
          cases hc
      · rintro W5 ⟨h1, h2⟩
        rw [map_encI] at h1
        have hout : out = allI (coreL L) (n : Int) := by
          have := GO.out.eq
          simpa using this
        have hin : ∀ z ∈ out, In64 z := fun z hz => by
          rw [hout] at hz
          unfold allI at hz
          obtain ⟨k, hk, rfl⟩ := List.mem_map.1 hz
          have hkl := (treeS HRT.out).ord_lt _ _ HKN0.out k (by rw [Int.toNat_natCast] at hk; exact hk)
          have := HS.out.1
          rw [coreL_len] at hkl
          exact ⟨by show (_ : Int) ≤ ((k : Nat) : Int); omega, by show ((k : Nat) : Int) ≤ _; omega⟩
        obtain ⟨a9, cap9, hv9, hr9, -⟩ := IntRow.of_own_new (M := out) (n := out.length) rfl h1 hin
        refine ⟨vo, by simp [results, Try.results41], a9, out.length, cap9, by rw [hv9], ?_, h2⟩
        rw [HOZ.out, ← hout]
        exact hr9
    · rw [List.concat_eq_append] at hP
      subst hP
      have pc : W.cell? ⟨Bp, 0, none⟩ = some (.slice (some ⟨g, 0, none⟩) (Q.length + 1) cp) := by simpa using HA.out.pile.cell
      have pf := HA.out.pile.frozen
      have zc : W.cell? ⟨g, Q.length, none⟩ = some (.int .i64 z) := by
        have := HA.out.prow.cells (g := g) rfl Q.length (.int .i64 z) (by simp)
        rwa [Go.WideShapes.add_plain, Nat.zero_add] at this
      obtain ⟨hz0, hz1'⟩ := GO.out.inF z (by simp)
      obtain ⟨zi, rfl⟩ : ∃ zi : Nat, z = zi := ⟨z.toNat, by omega⟩
      have hzl : zi < len := by rw [coreL_len, HL.out] at hz1'; omega
      have hcp : (Q.length : Int) ≤ (cp : Int) := by
        rcases HA.out.prow.2 with ⟨hv, _⟩ | ⟨_, _, _, hv, _, _, h1, _⟩
        · cases hv
        · injection hv with _ _ h3
          subst h3
          simp at h1
          omega
      have HA1 := Lib.hid HA.out.pop
      have hsz := HA.out.size
      have hlen := GO.out.len
      have hln := HN.out
      have hq64 : Q.length ≤ 1000 := by simp at hlen; omega
      have ho64 : out.length ≤ 1000 := by omega
      clear hz0 hz1' hlen hln
      gi_wp2_with (first
        | (gi_at_builtin
           refine wpListIn_append_keep _ rfl _ _ 26 rfl w1.heap.size 3 i0 _ 1 8 Try.underlying26 hi0 hz0 hz1 hz2 rfl (by decide) vo out.length (out.map encI) rfl (HA1.out.orow.alloc _) ⟨W.heap.size, 0, none⟩ 1 1 [encI (zi : Int)] rfl rfl (by simpa using cell_one_new (W.setCell ⟨Bp, 0, none⟩ (.slice (some ⟨g, 0, none⟩) Q.length cp)) (encI (zi : Int)) 3) (by simp [Value.oneCell']) (by decide) (by unfold maxLen; omega) (by omega) (by simp; omega) ?_
           intro g2 cap2 w2 hown2 hold2 hg2 hat2 hlt2
           have HA2 := Lib.hid (HA1.out.more hown2 hg2 hat2)
           have BX2 := Lib.hid (BX.out.keep HA2.out.below)
           have z0 := BX2.out.c0
           obtain ⟨b', off', y, hab, hb2, hx, hat, hok⟩ := BX2.out.row.get hzl
           injection hab with hab
           injection hab with e1 e2
           subst e1 e2
           have c6 := hat.c6
           have HX := Lib.hid hx
           have HKR := Lib.hid (hok.kids)
           have HKN : Hid (y.kN ≤ 1000) := Lib.hid (by rw [← hok.kids.hlen]; exact (HS.out.2 y (List.mem_of_getElem? hx)).1)
           have HLOW : Hid (∀ b' off', y.kA = some ⟨b', off', none⟩ → 0 < y.kN → b' < w1.heap.size) := Lib.hid (fun b' off' ha hp => by
             obtain ⟨_, _, y2, e1, _, hy, _, hoky⟩ := BX.out.row.get hzl
             obtain rfl : y = y2 := Option.some.inj (hx.symm.trans hy)
             rcases hoky.kids.row.cells with h0 | ⟨b2, o2, ha2, hlt, _⟩
             · omega
             · rw [ha] at ha2
               injection ha2 with ha2
               injection ha2 with e3
               omega)
           have MK2 := Lib.hid (((MK.out.kept (grownBy_setCell' W Bp _) (fun r e => .inl (by cases e; exact ⟨_, _, _, HA.out.pile⟩))).kept (World.grownBy_alloc _ (.cells #[.int .i64 (zi : Int)] 3) none) (fun r e => by cases e)).kept hg2 (fun r e => .inl (own_cells (HA1.out.orow.alloc _) r e)))
           clear hat hx hok hold2 hown2 hg2 hat2)
        | (refine ⟨trivial, ?_⟩; gi_at_call 66; refine (callsIn_wide.2 (backward_any _ _ _ _)).mono ?_; rintro e w3 ⟨rfl, rfl⟩))
      have hbs := Boxed.new w2 26 (.slice y.kA y.kN y.kC)
      have hsz2 := HA2.out.size
      refine wpIn_rangeFunc_ownG (F := Fence.wide) (n := 8) rfl (by decide) (gf := 89) (lb := #[.pointer (some ⟨w2.heap.size, 0, none⟩)]) rfl trivial (enters_of Try.func89 (by kernel_rfl) rfl)
        (back_stops Fence.wide 7 trivial rfl (by decide) w2.heap.size w1.heap.size y.kA y.kN y.kC y.core.kids (w2.alloc (.cells #[.slice y.kA y.kN y.kC] 26)) (by simp) hbs.cell (HKR.out.below (below_box _ _)) HLOW.out)
        (fun h k => ⟨k.1.trans h.1, h.2.trans k.2⟩) (fun W l o o' hl h hc hw => ⟨World.putObj_heap_other (by simp at hl; omega), belowK_b (w := w2.alloc (.cells #[.slice y.kA y.kN y.kC] 26)) (by simp; omega) W l o o' hl h hc hw⟩) (Below.refl _ _) (fun _ => rfl)
        (fun pre W' => ∃ g cp, Hand w1 W' w1.heap.size Bp g cp (.slice (some ⟨g2, 0, none⟩) (out.length + 1) cap2) (out ++ [(zi : Int)]) (Q ++ pre.map Prod.snd) ∧ Boxed W' w2.heap.size 26 (.slice y.kA y.kN y.kC) ∧ Marks w1.heap.size ds W')
        (fun _ _ _ => False)
        (fun pre X Y row h hg hr => by
          obtain ⟨g, cp, hh, hb, hm⟩ := h
          refine ⟨g, cp, hh.other hg (fun r e => ⟨by have := (hr r e).1; simp at this; omega, (hr r e).2⟩), hb.kept hg (fun e => ?_), hm.kept hg (fun r e => .inr (fun hd => ?_))⟩
          · have := (hr _ e.symm).1
            simp at this
            omega
          · have h1 := (hr r e).1
            have h2 := (Array.getElem?_eq_some_iff.1 (MK2.out.at_ r hd).2).1
            simp at h1
            omega)
        (fun _ _ _ _ _ hs _ _ => hs)
        ⟨g, cp, by simpa using HA2.out.alloc _, hbs, MK2.out.kept (World.grownBy_alloc _ _ none) (fun r e => by cases e)⟩
        (fun x => { tmps := #[forV (some ⟨b, off, none⟩) len cap m, .int .i64 n, .pointer (some ⟨w.heap.size, 0, none⟩), undef, .slice none 0 0, .slice (some ⟨g2, 0, none⟩) (out.length + 1) cap2, .pointer (some ⟨Bp, 0, none⟩), .int .i64 (Q.length : Int), .int .i64 (zi : Int), u9, .int .i64 x.2, u11, .agg #[.slice (some ⟨b, off, none⟩) len cap, .int .i64 m], .int .i64 n, .slice (some ⟨w.heap.size + 1, 0, none⟩) 1 1, .bool true, .bool false, .int .i64 n, .slice (some ⟨w1.heap.size, 0, none⟩) 1 1, .slice (some ⟨g, 0, none⟩) (Q.length + 1) cp, .int .i64 ((Q.length : Int) + 1), .bool true, .slice (some ⟨g, 0, none⟩) (Q.length + 1) cp, .int .i64 ((Q.length : Int) + 1), .int .i64 (Q.length : Int), .slice (some ⟨g, 0, none⟩) (Q.length + 1) cp, .int .i64 (Q.length : Int), .pointer (some ⟨g, Q.length, none⟩), .int .i64 (zi : Int), .slice (some ⟨g, 0, none⟩) (Q.length + 1) cp, .int .i64 (Q.length : Int), .slice (some ⟨g, 0, none⟩) Q.length cp, vo, .int .i64 (zi : Int), .slice (some ⟨W.heap.size, 0, none⟩) 1 1, .slice (some ⟨g2, 0, none⟩) (out.length + 1) cap2, .pointer (some ⟨w.heap.size, 0, none⟩), .slice (some ⟨b, off, none⟩) len cap, .int .i64 (zi : Int), .pointer (some ⟨b, off + zi * 10, none⟩), .pointer (some ⟨b, off + zi * 10 + 6, none⟩), .slice y.kA y.kN y.kC, .func (.func 89) #[] #[.pointer (some ⟨w2.heap.size, 0, none⟩)], .int .i64 x.1, .int .i64 x.2, u45, u46, u47, u48, u49, u50, u51, u52, u53, u54, u55, u56, u57, u58, u59, u60, u61, u62], defers := [] }) ?assign ?body ?done ?stop
      case assign =>
        intro l x W K hK
        gi_wp2
        exact hK
      case body =>
        rintro l pre x W5 ⟨g5, cp5, HH, hbx, hm⟩ hlt
        have pc5 := HH.pile.cell
        have hsz5 := HH.size
        have hkn := HKN.out
        have hpl : (Q ++ pre.map Prod.snd).length ≤ 2000 := by simp; omega
        obtain ⟨k5, hk5⟩ : ∃ k5, (Q ++ pre.map Prod.snd).length = k5 := ⟨_, rfl⟩
        have HK5 := Lib.hid hk5
        have HP := Lib.hid HH
        rw [hk5] at pc5 hpl
        have hrow := HH.prow
        rw [hk5] at hrow
        have HROW := Lib.hid hrow
        clear hrow hk5 HH
        gi_wp2_with (gi_at_builtin
                     refine wpListIn_append_keep _ rfl _ _ 26 rfl w1.heap.size 3 i0 _ 1 8 Try.underlying26 hi0 hz0 hz1 hz2 rfl (by decide) (.slice (some ⟨g5, 0, none⟩) k5 cp5) k5 ((Q ++ pre.map Prod.snd).map encI) rfl (HROW.out.alloc _) ⟨W5.heap.size, 0, none⟩ 1 1 [encI x.2] rfl rfl (cell_one_new W5 (encI x.2) 3) (by simp [Value.oneCell']) (by decide) (by unfold maxLen; omega) (by omega) (by simp; omega) ?_
                     intro g6 cap6 w6 hown6 hold6 hg6 hat6 hlt6
                     obtain ⟨hb6, hh6⟩ := HP.out.push (by rw [HK5.out]; exact hown6) (by rw [HK5.out]; exact hg6) (by rw [HK5.out]; exact hat6)
                     obtain ⟨-, -, -, hk6, hbl6⟩ := HP.out.pile.appended (by decide) HP.out.prow HP.out.size HP.out.low (by rw [← HK5.out] at hown6; exact hown6) (by rw [HK5.out]; exact hg6)
                     have c6 := hb6.cell
                     have f6 := hb6.frozen
                     rw [HK5.out] at c6 hh6 hk6 hbl6)
        have hne6 : w2.heap.size ≠ Bp := Nat.ne_of_gt HA2.out.pile.lt
        have hbx6 := (hbx.alloc (.cells #[encI x.2] 3)).kept hg6 ((hbx.alloc (.cells #[encI x.2] 3)).not_row (by decide) (HROW.out.alloc _))
        have hbx7 := hbx6.kept (grownBy_setCell' w6 Bp (.slice (some ⟨g6, 0, none⟩) (k5 + 1) cap6)) (fun e => hne6 (by injection e))
        have hm6 := ((hm.kept (World.grownBy_alloc _ (.cells #[encI x.2] 3) none) (fun r e => by cases e)).kept hg6 (fun r e => .inl (own_cells (HROW.out.alloc _) r e))).kept (grownBy_setCell' w6 Bp (.slice (some ⟨g6, 0, none⟩) (k5 + 1) cap6)) (fun r e => .inl (by cases e; exact ⟨_, _, _, hb6⟩))
        exact ⟨hk6.from _, ⟨hbx7.trans hbx.symm, hbl6⟩, g6, cap6, by simpa using hh6, hbx7, hm6⟩
      case done =>
        rintro D ys W4 hD rfl ⟨g4, cp4, HH, hbx, hm⟩ hK
        have hkl := HKR.out.hlen
        rw [← hkl, backTo_snd] at HH
        have pc4 := HH.pile.cell
        have hsz4 := HH.size
        have HP := Lib.hid HH
        have GO2 := Lib.hid (GO.out.step HRT.out (z := (zi : Int)) (x := y.core) (by rw [Int.toNat_natCast]; exact coreL_get HX.out))
        have SN1 := Lib.hid (sliceN_own HA.out.orow)
        have BX4 := Lib.hid (BX.out.keep HP.out.below)
        have z0 := BX4.out.c0
        obtain ⟨b', off', y', hab, hb4, hx4, hat4, -⟩ := BX4.out.row.get hzl
        injection hab with hab
        injection hab with e1 e2
        subst e1 e2
        obtain rfl : y = y' := Option.some.inj (HX.out.symm.trans hx4)
        have c8 := hat4.c8
        clear hx4 hat4
        have MD : Hid (Marks w1.heap.size (D :: ds) W4) := Lib.hid ⟨List.nodup_cons.2 ⟨fun hd => by
          have h2 := (Array.getElem?_eq_some_iff.1 (MK2.out.at_ D hd).2).1
          simp at hD
          omega, hm.nd⟩, fun E hE => by
          rcases List.mem_cons.1 hE with rfl | hE
          · exact ⟨by simp at hD; omega, hK⟩
          · exact hm.at_ E hE⟩
        have MEA : Hid (∀ cap : Nat, (allI (coreL L) (n : Int)).length - sliceN (.slice (some ⟨g2, 0, none⟩) (out.length + 1) cap) < (allI (coreL L) (n : Int)).length - sliceN vo) := Lib.hid (fun cap => by
          show (allI (coreL L) (n : Int)).length - (out.length + 1) < (allI (coreL L) (n : Int)).length - sliceN vo
          rw [SN1.out]
          have h1 := GO.out.len
          rw [List.length_append] at h1
          simp at h1
          omega)
        have hkn := HKN.out
        have hpl : (Q ++ y.core.kids.reverse).length ≤ 2000 := by rw [List.length_append, List.length_reverse]; omega
        obtain ⟨k4, hk4⟩ : ∃ k4, (Q ++ y.core.kids.reverse).length = k4 := ⟨_, rfl⟩
        have HK4 := Lib.hid hk4
        rw [hk4] at pc4 hpl
        have hrow := HH.prow
        rw [hk4] at hrow
        have HROW := Lib.hid hrow
        clear HH hrow hk4 hkl hkn
        by_cases hu : y.core.under = -1
        · have HNX := Lib.hid HP.out.next
          rw [HK4.out] at HNX
          have GO3 : Hid (GoingS (coreL L) n (out ++ [(zi : Int)]) (Q ++ y.core.kids.reverse)) := Lib.hid (by
            have := GO2.out
            unfold undL at this
            rwa [if_pos hu, List.append_nil] at this)
          rw [hu] at c8
          clear hu
          gi_wp2
          refine ⟨⟨D :: ds, out ++ [(zi : Int)], Q ++ y.core.kids.reverse, _, W4.heap.size, ⟨g4, cp4, HNX⟩, GO3, Lib.hid (MD.out.kept (World.grownBy_alloc _ _ none) (fun r e => by cases e)), ⟨rfl, rfl⟩, rfl⟩, ?_⟩
          exact MEA.out _
        · obtain ⟨s, u, hs, hsg, -⟩ := right_under HRT.out (coreL_get HX.out) hu
          have hsl := (List.getElem?_eq_some_iff.1 hsg).1
          rw [coreL_len, HL.out] at hsl
          have GO3 : Hid (GoingS (coreL L) n (out ++ [(zi : Int)]) (Q ++ y.core.kids.reverse ++ [(s : Int)])) := Lib.hid (by
            have := GO2.out
            unfold undL at this
            rwa [if_neg hu, hs] at this)
          rw [hs] at c8
          have hsn : ((s : Int) != -1) = true := bne_iff_ne.2 (by omega)
          clear hu hs hsg
          gi_wp2_with (gi_at_builtin
                       refine wpListIn_append_keep _ rfl _ _ 26 rfl w1.heap.size 3 i0 _ 1 8 Try.underlying26 hi0 hz0 hz1 hz2 rfl (by decide) (.slice (some ⟨g4, 0, none⟩) k4 cp4) k4 ((Q ++ y.core.kids.reverse).map encI) rfl (HROW.out.alloc _) ⟨W4.heap.size, 0, none⟩ 1 1 [encI (s : Int)] rfl rfl (cell_one_new W4 (encI (s : Int)) 3) (by simp [Value.oneCell']) (by decide) (by unfold maxLen; omega) (by omega) (by simp; omega) ?_
                       intro g6 cap6 w6 hown6 hold6 hg6 hat6 hlt6
                       obtain ⟨hb6, hh6⟩ := HP.out.push (by rw [HK4.out]; exact hown6) (by rw [HK4.out]; exact hg6) (by rw [HK4.out]; exact hat6)
                       have c6 := hb6.cell
                       have f6 := hb6.frozen
                       rw [HK4.out] at c6 hh6
                       have H6 := Lib.hid hh6
                       have M6 := Lib.hid (((MD.out.kept (World.grownBy_alloc _ (.cells #[encI (s : Int)] 3) none) (fun r e => by cases e)).kept hg6 (fun r e => .inl (own_cells (HROW.out.alloc _) r e))).kept (grownBy_setCell' w6 Bp (.slice (some ⟨g6, 0, none⟩) (k4 + 1) cap6)) (fun r e => .inl (by cases e; exact ⟨_, _, _, hb6⟩)))
                       clear hh6 hg6 hat6 hown6 hold6)
          have HNX := Lib.hid H6.out.next
          rw [List.length_append, HK4.out] at HNX
          refine ⟨⟨D :: ds, out ++ [(zi : Int)], Q ++ y.core.kids.reverse ++ [(s : Int)], _, (w6.setCell ⟨Bp, 0, none⟩ (.slice (some ⟨g6, 0, none⟩) (k4 + 1) cap6)).heap.size, ⟨g6, cap6, HNX⟩, GO3, Lib.hid (M6.out.kept (World.grownBy_alloc _ _ none) (fun r e => by cases e)), ⟨rfl, by simp [World.setCell]⟩, rfl⟩, ?_⟩
          exact MEA.out _
      case stop =>
        rintro D c pre W _ _ h _
        exact h.elim
end Go.Proofs.Ytllfkiifkkcinaa
/- Package shade's Elems. -/
namespace Go.Proofs.Ytllfkiifkkcinaa
open Go.RowKit
theorem allFn_any (a : Option Addr) (len cap : Nat) (m : Int) (L : List NodeD) (n : Int) (w : World) (h : NodeRow w a len cap L) (hm : In64 m) (hn : In64 n) (hs : smallF L) :
    Calls Try.prog 41 #[forV a len cap m, .int .i64 n] w (OrdPost w (allZ m (coreL L) n)) := by
  cases hq : thereF m (coreL L) n with
  | false => exact allNot_any a len cap m L n w h hm hn hs hq
  | true =>
    obtain ⟨_, k, rfl, _⟩ := there_nat hq
    exact allIs_any a len cap m L k w h hm hs hq
theorem allZ_num {m : Int} {F : List Core} {n z : Int} (hz : z ∈ allZ m F n) : ∃ k : Nat, z = k ∧ k < F.length := by
  cases hq : thereF m F n with
  | false =>
    unfold allZ at hz
    rw [hq] at hz
    cases hz
  | true =>
    obtain ⟨hr, k, rfl, hk⟩ := there_nat hq
    rw [allZ_eq hr hk] at hz
    exact allI_num hr hk hz
theorem allZ_len {m : Int} {F : List Core} {n : Int} : (allZ m F n).length ≤ F.length := by
  cases hq : thereF m F n with
  | false =>
    unfold allZ
    rw [hq]
    exact Nat.zero_le _
  | true =>
    obtain ⟨hr, k, rfl, hk⟩ := there_nat hq
    rw [allZ_eq hr hk]
    exact allI_len hr hk
/-- The elements of the first ones. -/
def selE (F : List Core) (l : List Int) (k : Nat) : List Int := (l.take k).filter (fun z => kindK F z == 1)
theorem selE_step {F : List Core} {l : List Int} {k : Nat} {z : Int} (h : l[k]? = some z) : selE F l (k + 1) = selE F l k ++ if kindK F z == 1 then [z] else [] := by
  obtain ⟨hl, hg⟩ := List.getElem?_eq_some_iff.1 h
  unfold selE
  rw [List.take_succ_eq_append_getElem hl, hg, List.filter_append]
  congr 1
  rw [List.filter_cons]
  rfl
theorem selE_len (F : List Core) (l : List Int) (k : Nat) : (selE F l k).length ≤ l.length := Nat.le_trans (List.length_filter_le _ _) (List.length_take_le' _ _)
set_option maxHeartbeats 8000000 in
set_option maxRecDepth 100000 in
theorem elemsFn_any (a : Option Addr) (len cap : Nat) (m : Int) (L : List NodeD) (n : Int) (w : World) (h : NodeRow w a len cap L) (hm : In64 m) (hn : In64 n) (hs : smallF L) :
    Calls Try.prog 42 #[forV a len cap m, .int .i64 n] w (OrdPost w (elemsZ m (coreL L) n)) := by
  have HCL : Hid ((coreL L).length = len) := Lib.hid (by rw [coreL_len, h.hlen])
  have hlen : len ≤ 1000 := by rw [← h.hlen]; exact hs.1
  have BX := Lib.hid (Box.start (m := m) h)
  have z0 := BX.out.c0
  have z1 := BX.out.c1
  obtain ⟨l, hl⟩ : ∃ l, allZ m (coreL L) n = l := ⟨_, rfl⟩
  have CA : Hid (∀ W, NodeRow W a len cap L → Calls Try.prog 41 #[forV a len cap m, .int .i64 n] W (OrdPost W l)) := Lib.hid (fun W h => by
    rw [← hl]
    exact allFn_any a len cap m L n W h hm hn hs)
  have NUM : Hid (∀ z ∈ l, ∃ k : Nat, z = k ∧ k < len) := Lib.hid (fun z hz => by
    rw [← hl] at hz
    rw [← HCL.out]
    exact allZ_num hz)
  have HLL : Hid (l.length ≤ 1000) := Lib.hid (by rw [← hl]; exact Nat.le_trans allZ_len (by rw [HCL.out]; exact hlen))
  have HE : Hid (elemsZ m (coreL L) n = selE (coreL L) l l.length) := Lib.hid (by unfold elemsZ selE; rw [hl, List.take_length])
  obtain ⟨i0, hi0, hz0, hz1, hz2⟩ := info_parts int_info
  clear h hm hn hs hl
  go_enter Try.func42, Try.ntmps42
  go_wp2_with (go_at_call 41; ((with_reducible refine (CA.out _ BX.out.row).mono ?_); rintro e w1 ⟨ao, lo, co, rfl, hro, hb⟩; have BX := Lib.hid (BX.out.keep hb); have IR := Lib.hid hro; have z0 := BX.out.c0; have z1 := BX.out.c1; clear hb hro))
  have hl64 := IR.out.len64
  have hl1k : lo ≤ 1000 := by rw [← IR.out.hlen]; exact HLL.out
  have OW0 : Hid (w1.ownsRow w1.heap.size 3 1 (.slice none 0 0) (selE (coreL L) l 0).length ((selE (coreL L) l 0).flatMap encZ)) := Lib.hid (World.ownsRow_nil _ _ _ _)
  go_loopw [5, 12] (fun v i wr => ∃ k : Nat, k ≤ lo ∧ i = .int .i64 k ∧ Hid (Below w1.heap.size w1 wr) ∧ Hid (wr.ownsRow w1.heap.size 3 1 v (selE (coreL L) l k).length ((selE (coreL L) l k).flatMap encZ))) (fun _ i _ => lo - (intOf i).toNat)
  case atStart => exact ⟨0, Nat.zero_le _, rfl, Lib.hid (Below.refl _ _), OW0⟩
  case round =>
    clear OW0 z0 z1
    obtain ⟨k, hk, rfl, HBW, OW⟩ := hrel
    have BX2 := Lib.hid (BX.out.keep HBW.out)
    have IR2 := Lib.hid (IR.out.below HBW.out)
    have z0 := BX2.out.c0
    have z1 := BX2.out.c1
    by_cases hlt : k < lo
    · obtain ⟨bo, oo, z, rfl, hbo, hz, hcz, -⟩ := IR2.out.get hlt
      obtain ⟨q, rfl, hq⟩ := NUM.out z (List.mem_of_getElem? hz)
      obtain ⟨b, off, x, rfl, hb, hx, hat, -⟩ := BX2.out.row.get hq
      have c0 := hat.c0
      have HKD : Hid (kindK (coreL L) (q : Int) = x.core.kind) := Lib.hid (by unfold kindK; rw [getC_nat, coreL_get hx])
      have HST := Lib.hid (selE_step (F := coreL L) hz)
      have hsl : (selE (coreL L) l k).length ≤ 1000 := Nat.le_trans (selE_len _ _ _) HLL.out
      obtain ⟨n1, hn1⟩ : ∃ n1, (selE (coreL L) l k).length = n1 := ⟨_, rfl⟩
      have HN1 := Lib.hid hn1
      rw [hn1] at OW hsl
      clear hz hx hat hn1
      by_cases hkd : x.core.kind = 1
      · have hk1 : (x.core.kind == 1) = true := beq_iff_eq.2 hkd
        have HS2 : Hid (selE (coreL L) l (k + 1) = selE (coreL L) l k ++ [(q : Int)]) := Lib.hid (by rw [HST.out, HKD.out, hk1]; rfl)
        clear hkd
        go_wp2_with (at_builtin
                     refine wpList_append_rows rfl (.tmp 23) (.tmp 25) 26 rfl 3 i0 _ 1 8 Try.underlying26 hi0 hz0 hz1 hz2 rfl (by decide) w1.heap.size _ n1 (selE (coreL L) l k) [(q : Int)] rfl (OW.out.alloc _) _ 1 1 rfl (own_one _ _ _ _ rfl rfl) (fun x _ => encZ_one x) (by unfold maxLen; omega) (by omega) (by have := HBW.out.size; simp; omega) (fun h => by cases h) ?_
                     intro v3 w3 hown3 hg3 hat3
                     have HB3 := Lib.hid (below_own HBW.out OW.out hg3)
                     have HO3 := Lib.hid hown3
                     clear hown3 hg3 hat3)
        go_roundw
        case rel => exact ⟨k + 1, by omega, by go_num, HB3, Lib.hid (by
          have h1 := HO3.out
          rw [← HS2.out] at h1
          rwa [show n1 + 1 = (selE (coreL L) l (k + 1)).length by rw [HS2.out, List.length_append, HN1.out]; rfl] at h1)⟩
        case measure => simp [intOf]; omega
      · have hk1 : (x.core.kind == 1) = false := beq_eq_false_iff_ne.2 hkd
        have HS2 : Hid (selE (coreL L) l (k + 1) = selE (coreL L) l k) := Lib.hid (by rw [HST.out, HKD.out, hk1]; simp)
        clear hkd
        go_wp2
        go_roundw
        case rel => exact ⟨k + 1, by omega, by go_num, HBW, Lib.hid (by rw [HS2.out, HN1.out]; exact OW.out)⟩
        case measure => simp [intOf]; omega
    · have hkk : k = lo := by omega
      subst hkk
      have HIN : Hid (∀ z ∈ selE (coreL L) l k, In64 z) := Lib.hid (fun z hz => by
        unfold selE at hz
        obtain ⟨q, rfl, hq⟩ := NUM.out z (List.mem_of_mem_take ((List.mem_filter.1 hz).1))
        exact ⟨by omega, by omega⟩)
      have HSE : Hid (elemsZ m (coreL L) n = selE (coreL L) l k) := Lib.hid (by rw [HE.out, IR.out.hlen])
      obtain ⟨a9, cap9, rfl, hr9, -⟩ := IntRow.of_own_new (M := selE (coreL L) l k) (n := (selE (coreL L) l k).length) rfl OW.out HIN.out
      have HR9 := Lib.hid hr9
      clear hr9 OW
      go_wp2
      go_ret
      exact ⟨a9, _, cap9, rfl, by rw [HSE.out]; exact HR9.out, BX2.out.below⟩
end Go.Proofs.Ytllfkiifkkcinaa
/- Package shade's contracts, all. -/
namespace Go.Proofs.Ytllfkiifkkcinaa
open Go.RowKit
theorem attachFn_any (a : Option Addr) (len cap : Nat) (m : Int) (L : List NodeD) (n : Int) (w : World) (h : NodeRow w a len cap L) (hm : In64 m) (hn : In64 n) (hs : smallF L) :
    Calls Try.prog 38 #[forV a len cap m, .int .i64 n] w (ForPost w (attL m (coreL L) n) m [.int .i64 (attN m (coreL L) n), .int .i64 (attE m (coreL L) n)]) := by
  by_cases hE : attE m (coreL L) n = 0
  · exact attachIs_any a len cap m L n w h hm hn hs hE
  · exact attachNot_any a len cap m L n w h hm hn hs hE
theorem shadeFns : ShadeFns where
  attach := fun a len cap m L n w h hm hn hs => attachFn_any a len cap m L n w h hm hn hs
  top := fun a len cap m L n w h hm hn hs => topFn_any a len cap m L n w h hm hn hs
  conn := fun a len cap m L n w h hm hn hs => connFn_any a len cap m L n w h hm hn hs
  all := fun a len cap m L n w h hm hn hs => allFn_any a len cap m L n w h hm hn hs
  over := fun a len cap m L x y w h hm hx hy hs => overFn_any a len cap m L x y w h hm hx hy hs
  elems := fun a len cap m L n w h hm hn hs => elemsFn_any a len cap m L n w h hm hn hs
/-- What the laws of layer 4 ask for. -/
structure Lay4 : Prop where
  f : ForestFns
  s : ShadeFns
theorem lay4 : Lay4 := ⟨forestFns, shadeFns⟩
end Go.Proofs.Ytllfkiifkkcinaa
