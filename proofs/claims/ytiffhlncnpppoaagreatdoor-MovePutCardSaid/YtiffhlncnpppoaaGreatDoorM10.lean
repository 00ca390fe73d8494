/- Texts joined in build order: WalkOrdMath WalkOrder ForestOrderFn ShadeAllFn ShadeElems ForestAheadFn ShadeProof ValidProof ValidOut ValidSwapMath ValidPutMath MoveMath. -/
import Derived.Test.YtiffhlncnpppoaaGreatDoorM08
import Derived.Test.YtiffhlncnpppoaaGreatDoorM03
import Derived.Test.YtiffhlncnpppoaaGreatDoorM04
import Derived.Test.YtiffhlncnpppoaaGreatDoorM05
import Derived.Test.YtiffhlncnpppoaaGreatDoorM09
import Derived.Test.YtiffhlncnpppoaaGreatDoorM06
namespace Go.Proofs.YtiffhlncnpppoaaGreatDoor
open Go.RowKit Go.Shelf
def ordI (F : List Core) (z : Int) : List Int := (ordF F z.toNat).map Int.ofNat
structure Going (F : List Core) (n : Nat) (out P : List Int) : Prop where
  eq : out ++ P.reverse.flatMap (ordI F) = ordI F (n : Int)
  inF : ∀ z ∈ P, 0 ≤ z ∧ z < (F.length : Int)
theorem Going.start {F : List Core} {n : Nat} (h : n < F.length) : Going F n [] [(n : Int)] := ⟨by simp, fun z hz => by
  obtain rfl : z = (n : Int) := by simpa using hz
  omega⟩
theorem Going.step {m : Int} {F : List Core} (hr : rightF m F = true) {n : Nat} {out Q : List Int} {z : Int} {x : Core} (h : Going F n out (Q ++ [z])) (hx : F[z.toNat]? = some x) : Going F n (out ++ [z]) (Q ++ x.kids.reverse) := by
  have T := tree_of_right hr
  obtain ⟨hz0, hz1⟩ := h.inF z (by simp)
  have hzl : z.toNat < F.length := by omega
  have hk : kidsF F z.toNat = x.kids.map Int.toNat := by unfold kidsF; rw [hx]
  have kin : ∀ k ∈ x.kids, 0 ≤ k ∧ k < (F.length : Int) := fun k hkk => by
    have hm : k.toNat ∈ kidsF F z.toNat := by rw [hk]; exact List.mem_map.2 ⟨k, hkk, rfl⟩
    have h1 := T.kid_lt _ _ hm
    have h2 := (nodeOk_iff.1 (((rightF_iff m F).1 hr).2.1 _ x hx)).2.2.1 k hkk
    obtain ⟨c, hc, _⟩ := kidB_iff.1 (kidOk_iff.1 h2).2
    obtain ⟨e1, _, _⟩ := getC_some hc
    omega
  have hord : ordI F z = z :: x.kids.flatMap (ordI F) := by
    unfold ordI ordF
    have h1 := T.ord_more (F.length + 1) z.toNat hzl (by omega)
    have h2 : ordN (kidsF F) (F.length + 1 + 1) z.toNat = z.toNat :: (kidsF F z.toNat).flatMap (ordN (kidsF F) (F.length + 1)) := rfl
    rw [← h1, h2, hk, List.map_cons, List.flatMap_map, List.map_flatMap]
    have e0 : Int.ofNat z.toNat = z := by show ((z.toNat : Nat) : Int) = z; omega
    rw [e0]
  refine ⟨?_, fun y hy => ?_⟩
  · rw [← h.eq, List.reverse_append, List.reverse_append, List.reverse_reverse, List.flatMap_append, List.reverse_singleton, List.singleton_append, List.flatMap_cons, hord]
    simp
  · rcases List.mem_append.1 hy with hy | hy
    · exact h.inF y (by simp [hy])
    · exact kin y (by simpa using hy)
theorem Going.len {F : List Core} {n : Nat} {out P : List Int} (h : Going F n out P) : out.length + P.length ≤ (ordI F (n : Int)).length := by
  have h1 := congrArg List.length h.eq
  rw [List.length_append] at h1
  have h2 : ∀ l : List Int, l.length ≤ (l.flatMap (ordI F)).length := fun l => by
    induction l with
    | nil => simp
    | cons a r ih =>
      have : 0 < (ordI F a).length := by
        unfold ordI ordF
        obtain ⟨t, ht⟩ := ordN_head (kids := kidsF F) (F.length + 1) a.toNat
        rw [ht]
        simp
      rw [List.flatMap_cons, List.length_append, List.length_cons]
      omega
  have h3 := h2 P.reverse
  rw [List.length_reverse] at h3
  omega
theorem ordI_len {m : Int} {F : List Core} (hr : rightF m F = true) {n : Nat} (hn : n < F.length) : (ordI F (n : Int)).length ≤ F.length := by
  have T := tree_of_right hr
  unfold ordI
  rw [List.length_map, Int.toNat_natCast]
  exact nodup_lt F.length _ (T.ord_nodup _ n hn (by omega)) (fun x hx => T.ord_lt _ n hn x hx)
theorem map_encI : ∀ l : List Int, l.map encI = l.flatMap encZ
  | [] => rfl
  | c :: r => by rw [List.map_cons, List.flatMap_cons, map_encI r]; rfl
def sliceN : Value → Nat
  | .slice _ l _ => l
  | _ => 0
theorem sliceN_own {w : World} {base : Nat} {e : TypeId} {size n : Nat} {v : Value} {xs : List Value} (h : w.ownsRow base e size v n xs) : sliceN v = n := by
  rcases h.2 with ⟨rfl, h0⟩ | ⟨g, cap, cur, rfl, _⟩
  · exact h0.symm
  · rfl
theorem backTo_snd (K : List Int) : (backTo K K.length).map Prod.snd = K.reverse := by
  apply List.ext_getElem
  · simp [backTo]
  · intro i h1 h2
    have hi : i < K.length := by simpa using h2
    simp [backTo, backF]
    rw [List.getElem?_eq_getElem (by omega)]
    rfl
def undL (x : Core) : List Int := if x.under = -1 then [] else [x.under]
structure GoingS (F : List Core) (n : Nat) (out P : List Int) : Prop where
  eq : out ++ P.reverse.flatMap (allI F) = allI F (n : Int)
  inF : ∀ z ∈ P, 0 ≤ z ∧ z < (F.length : Int)
theorem GoingS.start {F : List Core} {n : Nat} (h : n < F.length) : GoingS F n [] [(n : Int)] := ⟨by simp, fun z hz => by
  obtain rfl : z = (n : Int) := by simpa using hz
  omega⟩
theorem GoingS.step {m : Int} {F : List Core} (hr : rightF m F = true) {n : Nat} {out Q : List Int} {z : Int} {x : Core} (h : GoingS F n out (Q ++ [z])) (hx : F[z.toNat]? = some x) : GoingS F n (out ++ [z]) (Q ++ x.kids.reverse ++ undL x) := by
  have T := treeS hr
  obtain ⟨hz0, hz1⟩ := h.inF z (by simp)
  have hzl : z.toNat < F.length := by omega
  have kin : ∀ k ∈ x.kids, 0 ≤ k ∧ k < (F.length : Int) := fun k hkk => by
    have h2 := (nodeOk_iff.1 (((rightF_iff m F).1 hr).2.1 _ x hx)).2.2.1 k hkk
    obtain ⟨c, hc, _⟩ := kidB_iff.1 (kidOk_iff.1 h2).2
    obtain ⟨e1, e2, _⟩ := getC_some hc
    omega
  have hord : allI F z = z :: (undL x ++ x.kids.flatMap (allI F)).take 0 ++ ((if x.under = -1 then [] else allI F x.under) ++ x.kids.flatMap (allI F)) := by
    have := allI_open hr hx
    rw [show ((z.toNat : Nat) : Int) = z by omega] at this
    rw [this]
    simp
  refine ⟨?_, fun y hy => ?_⟩
  · rw [← h.eq, List.reverse_append, List.reverse_append, List.reverse_append, List.reverse_reverse, List.flatMap_append, List.flatMap_append, List.reverse_singleton, List.singleton_append, List.flatMap_cons, hord]
    unfold undL
    by_cases hu : x.under = -1
    · rw [if_pos hu, if_pos hu]
      simp
    · rw [if_neg hu, if_neg hu]
      simp
  · rcases List.mem_append.1 hy with hy | hy
    · rcases List.mem_append.1 hy with hy | hy
      · exact h.inF y (by simp [hy])
      · exact kin y (by simpa using hy)
    · unfold undL at hy
      by_cases hu : x.under = -1
      · rw [if_pos hu] at hy; cases hy
      · rw [if_neg hu] at hy
        obtain ⟨s, u, e1, e2, _⟩ := right_under hr hx hu
        have := (List.getElem?_eq_some_iff.1 e2).1
        obtain rfl : y = x.under := by simpa using hy
        omega
theorem GoingS.len {F : List Core} {n : Nat} {out P : List Int} (h : GoingS F n out P) : out.length + P.length ≤ (allI F (n : Int)).length := by
  have h1 := congrArg List.length h.eq
  rw [List.length_append] at h1
  have h2 : ∀ l : List Int, l.length ≤ (l.flatMap (allI F)).length := fun l => by
    induction l with
    | nil => simp
    | cons a r ih =>
      have : 0 < (allI F a).length := by
        unfold allI allF
        obtain ⟨t, ht⟩ := ordN_head (kids := kidsS F) (F.length + 1) a.toNat
        rw [ht]
        simp
      rw [List.flatMap_cons, List.length_append, List.length_cons]
      omega
  have h3 := h2 P.reverse
  rw [List.length_reverse] at h3
  omega
def ordB (sh : Bool) (F : List Core) (n : Int) : List Int := if sh then allI F n else ordI F n
def undB (sh : Bool) (x : Core) : List Int := if sh then undL x else []
def GoingB (sh : Bool) (F : List Core) (n : Nat) (out P : List Int) : Prop := if sh then GoingS F n out P else Going F n out P
section
variable {sh : Bool} {F : List Core} {n : Nat} {out P Q : List Int}
theorem GoingB.start (h : n < F.length) : GoingB sh F n [] [(n : Int)] := by
  cases sh
  · exact Going.start h
  · exact GoingS.start h
theorem GoingB.eq (h : GoingB sh F n out P) : out ++ P.reverse.flatMap (ordB sh F) = ordB sh F (n : Int) := by
  cases sh
  · exact Going.eq h
  · exact GoingS.eq h
theorem GoingB.inF (h : GoingB sh F n out P) : ∀ z ∈ P, 0 ≤ z ∧ z < (F.length : Int) := by
  cases sh
  · exact Going.inF h
  · exact GoingS.inF h
theorem GoingB.len (h : GoingB sh F n out P) : out.length + P.length ≤ (ordB sh F (n : Int)).length := by
  cases sh
  · exact Going.len h
  · exact GoingS.len h
theorem GoingB.step {m : Int} (hr : rightF m F = true) {z : Int} {x : Core} (h : GoingB sh F n out (Q ++ [z])) (hx : F[z.toNat]? = some x) : GoingB sh F n (out ++ [z]) (Q ++ x.kids.reverse ++ undB sh x) := by
  cases sh
  · have := Going.step hr h hx
    show Going F n (out ++ [z]) (Q ++ x.kids.reverse ++ [])
    rw [List.append_nil]
    exact this
  · exact GoingS.step hr h hx
theorem ordB_len {m : Int} (hr : rightF m F = true) (hn : n < F.length) : (ordB sh F (n : Int)).length ≤ F.length := by
  cases sh
  · exact ordI_len hr hn
  · exact allI_len hr hn
end
end Go.Proofs.YtiffhlncnpppoaaGreatDoor
namespace Go.Proofs.YtiffhlncnpppoaaGreatDoor
open Go.RowKit Go.Shelf
attribute [local go_sem] Oper.semAt_some
set_option maxHeartbeats 8000000 in
set_option maxRecDepth 100000 in
theorem worder_any (a : Option Addr) (len cap : Nat) (m : Int) (L : List NodeD) (n : Nat) (sh : Bool) (w : World) (h : NodeRow w a len cap L) (hs : smallF L) (hr : rightF m (coreL L) = true) (hkl : n < len) :
    Calls Tryz.prog 145 #[.slice a len cap, .int .i64 n, .bool sh] w (OwnPostI w (ordB sh (coreL L) n)) := by
  have hk : n < (coreL L).length := by rw [coreL_len, h.hlen]; exact hkl
  have hn : In64 (n : Int) := ⟨by omega, by have := h.len64; omega⟩
  have NR := Lib.hid h
  have HRT := Lib.hid hr
  have HL := Lib.hid h.hlen
  have HS := Lib.hid hs
  obtain ⟨b, off, x0, rfl, hb1, -, -, -⟩ := h.get (k := n) hkl
  clear h hs hn hr
  refine callsIn_wide (n := 8) |>.1 ?_
  refine callsIn_of_wp_marks Tryz.func145 rfl trivial ?_ rfl
  simp only [Tryz.ntmps145, List.size_toArray, List.length_cons, List.length_nil, Nat.reduceAdd, Nat.reduceSub, Array.replicate_succ, Array.replicate_zero, List.push_toArray, List.append_toArray, List.nil_append, List.cons_append]
  gi_wp2
  obtain ⟨i0, hi0, hz0, hz1, hz2⟩ := info_parts int_info
  have HN : Hid ((ordB sh (coreL L) n).length ≤ 1000) := Lib.hid (Nat.le_trans (ordB_len HRT.out hk) (by rw [coreL_len]; exact HS.out.1))
  have GO0 := Lib.hid (GoingB.start (sh := sh) hk)
  have HA0 : Hid (Hand w ((w.alloc (.cells #[.int .i64 n] 3)).alloc (.cells #[.slice (some ⟨w.heap.size, 0, none⟩) 1 1] 51)) w.heap.size (w.heap.size + 1) w.heap.size 1 (.slice none 0 0) [] [(n : Int)]) := Lib.hid (by
    have h1 : (w.alloc (.cells #[.int .i64 n] 3)).heap.size = w.heap.size + 1 := by simp
    have h2 := World.ownsRow_lit (base := w.heap.size) (e := 3) (size := 1) w #[.int .i64 n] 1 (Nat.le_refl _) (by unfold maxLen; omega) (by simp)
    refine ⟨(below_box w _).alloc (by simp) _, ?_, by omega, h2.alloc _, World.ownsRow_nil _ _ _ _, by simp [Value.ownBlock]⟩
    have := Boxed.new (w.alloc (.cells #[.int .i64 n] 3)) 51 (.slice (some ⟨w.heap.size, 0, none⟩) 1 1)
    rwa [h1] at this)
  have HKN0 := Lib.hid hk
  clear hk
  refine wpIn_loop (fun a' W => ∃ (ds : List Nat) (out P : List Int) (vo : Value) (Bp g cp : Nat) (u9 u10 u11 u12 u13 u16 u17 u18 u19 u20 u21 u22 u23 u24 u25 u26 u27 u28 u29 u30 u31 u32 u33 u34 u35 u36 u37 u38 u39 u40 u41 u42 u43 u44 u45 u46 u47 u48 u49 u50 u51 u52 u53 u54 u55 u56 u57 u58 u59 u60 : Value), Hid (Hand w W w.heap.size Bp g cp vo out P) ∧ Hid (GoingB sh (coreL L) n out P) ∧ Hid (Marks w.heap.size ds W) ∧ a' = { tmps := #[.slice (some ⟨b, off, none⟩) len cap, .int .i64 n, .bool sh, undef, undef, undef, .slice none 0 0, vo, .pointer (some ⟨Bp, 0, none⟩), u9, u10, u11, u12, u13, .int .i64 n, .slice (some ⟨w.heap.size, 0, none⟩) 1 1, u16, u17, u18, u19, u20, u21, u22, u23, u24, u25, u26, u27, u28, u29, u30, u31, u32, u33, u34, u35, u36, u37, u38, u39, u40, u41, u42, u43, u44, u45, u46, u47, u48, u49, u50, u51, u52, u53, u54, u55, u56, u57, u58, u59, u60], defers := ds.map markD })
    (fun a' _ => (ordB sh (coreL L) n).length - sliceN (a'.tmps.getD 7 undef)) ?_ ?_
  · exact ⟨[], [], [(n : Int)], _, _, _, _, _, _, _, _, _, _, _, _, _, _, _, _, _, _, _, _, _, _, _, _, _, _, _, _, _, _, _, _, _, _, _, _, _, _, _, _, _, _, _, _, _, _, _, _, _, _, _, _, _, _, HA0, GO0, Lib.hid ⟨List.nodup_nil, fun D hD => by cases hD⟩, rfl⟩
  · clear GO0 HA0
    rintro a' W ⟨ds, out, P, vo, Bp, g, cp, u9, u10, u11, u12, u13, u16, u17, u18, u19, u20, u21, u22, u23, u24, u25, u26, u27, u28, u29, u30, u31, u32, u33, u34, u35, u36, u37, u38, u39, u40, u41, u42, u43, u44, u45, u46, u47, u48, u49, u50, u51, u52, u53, u54, u55, u56, u57, u58, u59, u60, HA, GO, MK, rfl⟩
    rcases List.eq_nil_or_concat P with rfl | ⟨Q, z, hP⟩
    · have pc : W.cell? ⟨Bp, 0, none⟩ = some (.slice (some ⟨g, 0, none⟩) 0 cp) := HA.out.pile.cell
      gi_wp2
      refine leaves_marks w.heap.size (fun W => W.ownsRow w.heap.size 3 1 vo out.length (out.map encI) ∧ Below w.heap.size w W) ?_ ?_ ds W MK.out ⟨HA.out.orow, HA.out.below⟩
      · rintro W5 D ⟨h1, h2⟩ hD hK
        have hlt := (Array.getElem?_eq_some_iff.1 hK).1
        refine ⟨h1.kept (grownBy_putObj' W5 D _) ?_, (h2.grown (grownBy_putObj' W5 D _) (by omega) (fun k e => by injection e with e; omega))⟩
        cases hv : vo.ownBlock with
        | none => exact .inl rfl
        | some k =>
          refine .inr (fun e => ?_)
          injection e with e
          obtain ⟨c, t, f, hc⟩ := own_cells h1 k hv
          rw [e, hK] at hc
          cases hc
      · rintro W5 ⟨h1, h2⟩
        rw [map_encI] at h1
        have hout : out = ordB sh (coreL L) n := by
          have := GO.out.eq
          simpa using this
        rw [hout] at h1
        exact ⟨vo, by simp [results, Tryz.results145], vo, rfl, h1, h2⟩
    · rw [List.concat_eq_append] at hP
      subst hP
      have pc : W.cell? ⟨Bp, 0, none⟩ = some (.slice (some ⟨g, 0, none⟩) (Q.length + 1) cp) := by simpa using HA.out.pile.cell
      have pf := HA.out.pile.frozen
      have zc : W.cell? ⟨g, Q.length, none⟩ = some (.int .i64 z) := by
        have := HA.out.prow.cells (g := g) rfl Q.length (.int .i64 z) (by simp)
        rwa [Go.WideShapes.add_plain, Nat.zero_add] at this
      obtain ⟨hz0, hz1'⟩ := GO.out.inF z (by simp)
      obtain ⟨zi, rfl⟩ : ∃ zi : Nat, z = zi := ⟨z.toNat, by omega⟩
      have hzl : zi < len := by rw [coreL_len, HL.out] at hz1'; omega
      have hcp : (Q.length : Int) ≤ (cp : Int) := by
        rcases HA.out.prow.2 with ⟨hv, _⟩ | ⟨_, _, _, hv, _, _, h1, _⟩
        · cases hv
        · injection hv with _ _ h3
          subst h3
          simp at h1
          omega
      have HA1 := Lib.hid HA.out.pop
      have hsz := HA.out.size
      have hlen := GO.out.len
      have hln := HN.out
      have hq64 : Q.length ≤ 1000 := by simp at hlen; omega
      have ho64 : out.length ≤ 1000 := by omega
      clear hz0 hz1' hlen hln
      gi_wp2_with (first
        | (gi_at_builtin
           refine wpListIn_append_keep _ rfl _ _ 51 rfl w.heap.size 3 i0 _ 1 8 Tryz.underlying51 hi0 hz0 hz1 hz2 rfl (by decide) vo out.length (out.map encI) rfl (HA1.out.orow.alloc _) ⟨W.heap.size, 0, none⟩ 1 1 [encI (zi : Int)] rfl rfl (by simpa using cell_one_new (W.setCell ⟨Bp, 0, none⟩ (.slice (some ⟨g, 0, none⟩) Q.length cp)) (encI (zi : Int)) 3) (by simp [Value.oneCell']) (by decide) (by unfold maxLen; omega) (by omega) (by simp; omega) ?_
           intro g2 cap2 w2 hown2 hold2 hg2 hat2 hlt2
           have HA2 := Lib.hid (HA1.out.more hown2 hg2 hat2)
           have BX2 := Lib.hid (NR.out.below HA2.out.below)
           obtain ⟨b', off', y, hab, hb2, hx, hat, hok⟩ := BX2.out.get hzl
           injection hab with hab
           injection hab with e1 e2
           subst e1 e2
           have c6 := hat.c6
           have HX := Lib.hid hx
           have HKR := Lib.hid (hok.kids)
           have HKN : Hid (y.kN ≤ 1000) := Lib.hid (by rw [← hok.kids.hlen]; exact (HS.out.2 y (List.mem_of_getElem? hx)).1)
           have HLOW : Hid (∀ b' off', y.kA = some ⟨b', off', none⟩ → 0 < y.kN → b' < w.heap.size) := Lib.hid (fun b' off' ha hp => by
             obtain ⟨_, _, y2, e1, _, hy, _, hoky⟩ := NR.out.get hzl
             obtain rfl : y = y2 := Option.some.inj (hx.symm.trans hy)
             rcases hoky.kids.row.cells with h0 | ⟨b2, o2, ha2, hlt, _⟩
             · omega
             · rw [ha] at ha2
               injection ha2 with ha2
               injection ha2 with e3
               omega)
           have MK2 := Lib.hid (((MK.out.kept (grownBy_setCell' W Bp _) (fun r e => .inl (by cases e; exact ⟨_, _, _, HA.out.pile⟩))).kept (World.grownBy_alloc _ (.cells #[.int .i64 (zi : Int)] 3) none) (fun r e => by cases e)).kept hg2 (fun r e => .inl (own_cells (HA1.out.orow.alloc _) r e)))
           clear hat hx hok hold2 hown2 hg2 hat2)
        | (refine ⟨trivial, ?_⟩; gi_at_call 165; refine (callsIn_wide.2 (backward_any _ _ _ _)).mono ?_; rintro e w3 ⟨rfl, rfl⟩))
      have hbs := Boxed.new w2 51 (.slice y.kA y.kN y.kC)
      have hsz2 := HA2.out.size
      refine wpIn_rangeFunc_ownG (F := Fence.wide) (n := 8) rfl (by decide) (gf := 177) (lb := #[.pointer (some ⟨w2.heap.size, 0, none⟩)]) rfl trivial (enters_of Tryz.func177 (by kernel_rfl) rfl)
        (back_stops Fence.wide 7 trivial rfl (by decide) w2.heap.size w.heap.size y.kA y.kN y.kC y.core.kids (w2.alloc (.cells #[.slice y.kA y.kN y.kC] 51)) (by simp) hbs.cell (HKR.out.below (below_box _ _)) HLOW.out)
        (fun h k => ⟨k.1.trans h.1, h.2.trans k.2⟩) (fun W l o o' hl h hc hw => ⟨World.putObj_heap_other (by simp at hl; omega), belowK_b (w := w2.alloc (.cells #[.slice y.kA y.kN y.kC] 51)) (by simp; omega) W l o o' hl h hc hw⟩) (Below.refl _ _) (fun _ => rfl)
        (fun pre W' => ∃ g cp, Hand w W' w.heap.size Bp g cp (.slice (some ⟨g2, 0, none⟩) (out.length + 1) cap2) (out ++ [(zi : Int)]) (Q ++ pre.map Prod.snd) ∧ Boxed W' w2.heap.size 51 (.slice y.kA y.kN y.kC) ∧ Marks w.heap.size ds W')
        (fun _ _ _ => False)
        (fun pre X Y row h hg hr => by
          obtain ⟨g, cp, hh, hb, hm⟩ := h
          refine ⟨g, cp, hh.other hg (fun r e => ⟨by have := (hr r e).1; simp at this; omega, (hr r e).2⟩), hb.kept hg (fun e => ?_), hm.kept hg (fun r e => .inr (fun hd => ?_))⟩
          · have := (hr _ e.symm).1
            simp at this
            omega
          · have h1 := (hr r e).1
            have h2 := (Array.getElem?_eq_some_iff.1 (MK2.out.at_ r hd).2).1
            simp at h1
            omega)
        (fun _ _ _ _ _ hs _ _ => hs)
        ⟨g, cp, by simpa using HA2.out.alloc _, hbs, MK2.out.kept (World.grownBy_alloc _ _ none) (fun r e => by cases e)⟩
        (fun x => { tmps := #[.slice (some ⟨b, off, none⟩) len cap, .int .i64 n, .bool sh, undef, undef, undef, .slice none 0 0, .slice (some ⟨g2, 0, none⟩) (out.length + 1) cap2, .pointer (some ⟨Bp, 0, none⟩), .int .i64 (Q.length : Int), .int .i64 (zi : Int), u11, .int .i64 x.2, u13, .int .i64 n, .slice (some ⟨w.heap.size, 0, none⟩) 1 1, .slice (some ⟨g, 0, none⟩) (Q.length + 1) cp, .int .i64 ((Q.length : Int) + 1), .bool true, .slice (some ⟨g, 0, none⟩) (Q.length + 1) cp, .int .i64 ((Q.length : Int) + 1), .int .i64 (Q.length : Int), .slice (some ⟨g, 0, none⟩) (Q.length + 1) cp, .int .i64 (Q.length : Int), .pointer (some ⟨g, Q.length, none⟩), .int .i64 (zi : Int), .slice (some ⟨g, 0, none⟩) (Q.length + 1) cp, .int .i64 (Q.length : Int), .slice (some ⟨g, 0, none⟩) Q.length cp, vo, .int .i64 (zi : Int), .slice (some ⟨W.heap.size, 0, none⟩) 1 1, .slice (some ⟨g2, 0, none⟩) (out.length + 1) cap2, .slice (some ⟨b, off, none⟩) len cap, .int .i64 (zi : Int), .pointer (some ⟨b, off + zi * 10, none⟩), .pointer (some ⟨b, off + zi * 10 + 6, none⟩), .slice y.kA y.kN y.kC, .func (.func 177) #[] #[.pointer (some ⟨w2.heap.size, 0, none⟩)], .int .i64 x.1, .int .i64 x.2, u41, u42, u43, u44, u45, u46, u47, u48, u49, u50, u51, u52, u53, u54, u55, u56, u57, u58, u59, u60], defers := [] }) ?assign ?body ?done ?stop
      case assign =>
        intro l x W K hK
        gi_wp2
        exact hK
      case body =>
        rintro l pre x W5 ⟨g5, cp5, HH, hbx, hm⟩ hlt
        have pc5 := HH.pile.cell
        have hsz5 := HH.size
        have hkn := HKN.out
        have hpl : (Q ++ pre.map Prod.snd).length ≤ 2000 := by simp; omega
        obtain ⟨k5, hk5⟩ : ∃ k5, (Q ++ pre.map Prod.snd).length = k5 := ⟨_, rfl⟩
        have HK5 := Lib.hid hk5
        have HP := Lib.hid HH
        rw [hk5] at pc5 hpl
        have hrow := HH.prow
        rw [hk5] at hrow
        have HROW := Lib.hid hrow
        clear hrow hk5 HH
        gi_wp2_with (gi_at_builtin
                     refine wpListIn_append_keep _ rfl _ _ 51 rfl w.heap.size 3 i0 _ 1 8 Tryz.underlying51 hi0 hz0 hz1 hz2 rfl (by decide) (.slice (some ⟨g5, 0, none⟩) k5 cp5) k5 ((Q ++ pre.map Prod.snd).map encI) rfl (HROW.out.alloc _) ⟨W5.heap.size, 0, none⟩ 1 1 [encI x.2] rfl rfl (cell_one_new W5 (encI x.2) 3) (by simp [Value.oneCell']) (by decide) (by unfold maxLen; omega) (by omega) (by simp; omega) ?_
                     intro g6 cap6 w6 hown6 hold6 hg6 hat6 hlt6
                     obtain ⟨hb6, hh6⟩ := HP.out.push (by rw [HK5.out]; exact hown6) (by rw [HK5.out]; exact hg6) (by rw [HK5.out]; exact hat6)
                     obtain ⟨-, -, -, hk6, hbl6⟩ := HP.out.pile.appended (by decide) HP.out.prow HP.out.size HP.out.low (by rw [← HK5.out] at hown6; exact hown6) (by rw [HK5.out]; exact hg6)
                     have c6 := hb6.cell
                     have f6 := hb6.frozen
                     rw [HK5.out] at c6 hh6 hk6 hbl6)
        have hne6 : w2.heap.size ≠ Bp := Nat.ne_of_gt HA2.out.pile.lt
        have hbx6 := (hbx.alloc (.cells #[encI x.2] 3)).kept hg6 ((hbx.alloc (.cells #[encI x.2] 3)).not_row (by decide) (HROW.out.alloc _))
        have hbx7 := hbx6.kept (grownBy_setCell' w6 Bp (.slice (some ⟨g6, 0, none⟩) (k5 + 1) cap6)) (fun e => hne6 (by injection e))
        have hm6 := ((hm.kept (World.grownBy_alloc _ (.cells #[encI x.2] 3) none) (fun r e => by cases e)).kept hg6 (fun r e => .inl (own_cells (HROW.out.alloc _) r e))).kept (grownBy_setCell' w6 Bp (.slice (some ⟨g6, 0, none⟩) (k5 + 1) cap6)) (fun r e => .inl (by cases e; exact ⟨_, _, _, hb6⟩))
        exact ⟨hk6.from _, ⟨hbx7.trans hbx.symm, hbl6⟩, g6, cap6, by simpa using hh6, hbx7, hm6⟩
      case done =>
        rintro D ys W4 hD rfl ⟨g4, cp4, HH, hbx, hm⟩ hK
        have hkl := HKR.out.hlen
        rw [← hkl, backTo_snd] at HH
        have pc4 := HH.pile.cell
        have hsz4 := HH.size
        have HP := Lib.hid HH
        have GO2 := Lib.hid (GO.out.step HRT.out (z := (zi : Int)) (x := y.core) (by rw [Int.toNat_natCast]; exact coreL_get HX.out))
        have SN1 := Lib.hid (sliceN_own HA.out.orow)
        have BX4 := Lib.hid (NR.out.below HP.out.below)
        obtain ⟨b', off', y', hab, hb4, hx4, hat4, -⟩ := BX4.out.get hzl
        injection hab with hab
        injection hab with e1 e2
        subst e1 e2
        obtain rfl : y = y' := Option.some.inj (HX.out.symm.trans hx4)
        have c8 := hat4.c8
        clear hx4 hat4
        have MD : Hid (Marks w.heap.size (D :: ds) W4) := Lib.hid ⟨List.nodup_cons.2 ⟨fun hd => by
          have h2 := (Array.getElem?_eq_some_iff.1 (MK2.out.at_ D hd).2).1
          simp at hD
          omega, hm.nd⟩, fun E hE => by
          rcases List.mem_cons.1 hE with rfl | hE
          · exact ⟨by simp at hD; omega, hK⟩
          · exact hm.at_ E hE⟩
        have MEA : Hid (∀ cap : Nat, (ordB sh (coreL L) n).length - sliceN (.slice (some ⟨g2, 0, none⟩) (out.length + 1) cap) < (ordB sh (coreL L) n).length - sliceN vo) := Lib.hid (fun cap => by
          show (ordB sh (coreL L) n).length - (out.length + 1) < (ordB sh (coreL L) n).length - sliceN vo
          rw [SN1.out]
          have h1 := GO.out.len
          rw [List.length_append] at h1
          simp at h1
          omega)
        have hkn := HKN.out
        have hpl : (Q ++ y.core.kids.reverse).length ≤ 2000 := by rw [List.length_append, List.length_reverse]; omega
        obtain ⟨k4, hk4⟩ : ∃ k4, (Q ++ y.core.kids.reverse).length = k4 := ⟨_, rfl⟩
        have HK4 := Lib.hid hk4
        rw [hk4] at pc4 hpl
        have hrow := HH.prow
        rw [hk4] at hrow
        have HROW := Lib.hid hrow
        clear HH hrow hk4 hkl hkn
        cases sh with
        | false =>
          have HNX := Lib.hid HP.out.next
          rw [HK4.out] at HNX
          have GO3 : Hid (GoingB false (coreL L) n (out ++ [(zi : Int)]) (Q ++ y.core.kids.reverse)) := Lib.hid (by
            have := GO2.out
            unfold undB at this
            rwa [if_neg (by decide), List.append_nil] at this)
          gi_wp2
          refine ⟨⟨D :: ds, out ++ [(zi : Int)], Q ++ y.core.kids.reverse, _, W4.heap.size, ⟨g4, cp4, HNX⟩, GO3, Lib.hid (MD.out.kept (World.grownBy_alloc _ _ none) (fun r e => by cases e)), ⟨rfl, rfl⟩, rfl⟩, ?_⟩
          exact MEA.out _
        | true =>
          by_cases hu : y.core.under = -1
          · have HNX := Lib.hid HP.out.next
            rw [HK4.out] at HNX
            have GO3 : Hid (GoingB true (coreL L) n (out ++ [(zi : Int)]) (Q ++ y.core.kids.reverse)) := Lib.hid (by
              have := GO2.out
              unfold undB undL at this
              rw [if_pos rfl] at this
              rwa [if_pos hu, List.append_nil] at this)
            rw [hu] at c8
            clear hu
            gi_wp2
            refine ⟨⟨D :: ds, out ++ [(zi : Int)], Q ++ y.core.kids.reverse, _, W4.heap.size, ⟨g4, cp4, HNX⟩, GO3, Lib.hid (MD.out.kept (World.grownBy_alloc _ _ none) (fun r e => by cases e)), ⟨rfl, rfl⟩, rfl⟩, ?_⟩
            exact MEA.out _
          · obtain ⟨s, u, hs, hsg, -⟩ := right_under HRT.out (coreL_get HX.out) hu
            have hsl := (List.getElem?_eq_some_iff.1 hsg).1
            rw [coreL_len, HL.out] at hsl
            have GO3 : Hid (GoingB true (coreL L) n (out ++ [(zi : Int)]) (Q ++ y.core.kids.reverse ++ [(s : Int)])) := Lib.hid (by
              have := GO2.out
              unfold undB undL at this
              rw [if_pos rfl] at this
              rwa [if_neg hu, hs] at this)
            rw [hs] at c8
            have hsn : ((s : Int) != -1) = true := bne_iff_ne.2 (by omega)
            clear hu hs hsg
            gi_wp2_with (gi_at_builtin
                         refine wpListIn_append_keep _ rfl _ _ 51 rfl w.heap.size 3 i0 _ 1 8 Tryz.underlying51 hi0 hz0 hz1 hz2 rfl (by decide) (.slice (some ⟨g4, 0, none⟩) k4 cp4) k4 ((Q ++ y.core.kids.reverse).map encI) rfl (HROW.out.alloc _) ⟨W4.heap.size, 0, none⟩ 1 1 [encI (s : Int)] rfl rfl (cell_one_new W4 (encI (s : Int)) 3) (by simp [Value.oneCell']) (by decide) (by unfold maxLen; omega) (by omega) (by simp; omega) ?_
                         intro g6 cap6 w6 hown6 hold6 hg6 hat6 hlt6
                         obtain ⟨hb6, hh6⟩ := HP.out.push (by rw [HK4.out]; exact hown6) (by rw [HK4.out]; exact hg6) (by rw [HK4.out]; exact hat6)
                         have c6 := hb6.cell
                         have f6 := hb6.frozen
                         rw [HK4.out] at c6 hh6
                         have H6 := Lib.hid hh6
                         have M6 := Lib.hid (((MD.out.kept (World.grownBy_alloc _ (.cells #[encI (s : Int)] 3) none) (fun r e => by cases e)).kept hg6 (fun r e => .inl (own_cells (HROW.out.alloc _) r e))).kept (grownBy_setCell' w6 Bp (.slice (some ⟨g6, 0, none⟩) (k4 + 1) cap6)) (fun r e => .inl (by cases e; exact ⟨_, _, _, hb6⟩)))
                         clear hh6 hg6 hat6 hown6 hold6)
            have HNX := Lib.hid H6.out.next
            rw [List.length_append, HK4.out] at HNX
            refine ⟨⟨D :: ds, out ++ [(zi : Int)], Q ++ y.core.kids.reverse ++ [(s : Int)], _, (w6.setCell ⟨Bp, 0, none⟩ (.slice (some ⟨g6, 0, none⟩) (k4 + 1) cap6)).heap.size, ⟨g6, cap6, HNX⟩, GO3, Lib.hid (M6.out.kept (World.grownBy_alloc _ _ none) (fun r e => by cases e)), ⟨rfl, by simp [World.setCell]⟩, rfl⟩, ?_⟩
            exact MEA.out _
      case stop =>
        rintro D c pre W _ _ h _
        exact h.elim
end Go.Proofs.YtiffhlncnpppoaaGreatDoor
namespace Go.Proofs.YtiffhlncnpppoaaGreatDoor
open Go.RowKit Go.Shelf
theorem OwnPostI.new {w w' : World} {l : List Int} {e : Ending} (h : OwnPostI w l e w') (hin : ∀ z ∈ l, In64 z) : ∃ a len cap, e = .returned (.slice a len cap) ∧ IntRow w' a len cap l ∧ Below w.heap.size w w' ∧ ∀ b off, a = some ⟨b, off, none⟩ → w.heap.size ≤ b := by
  obtain ⟨v, he, ho, hb⟩ := h
  obtain ⟨a9, cap9, hv9, hr9, hlo9⟩ := IntRow.of_own_new (M := l) (n := l.length) rfl ho hin
  exact ⟨a9, l.length, cap9, by rw [he, hv9], hr9, hb, hlo9⟩
def OrdNew (w : World) (l : List Int) (e : Ending) (w' : World) : Prop := ∃ a len cap, e = .returned (.slice a len cap) ∧ IntRow w' a len cap l ∧ Below w.heap.size w w' ∧ ∀ b off, a = some ⟨b, off, none⟩ → w.heap.size ≤ b
theorem OrdNew.post {w w' : World} {l : List Int} {e : Ending} (h : OrdNew w l e w') : OrdPost w l e w' := by
  obtain ⟨a, len, cap, h1, h2, h3, _⟩ := h
  exact ⟨a, len, cap, h1, h2, h3⟩
theorem ordB_in {m : Int} {sh : Bool} {F : List Core} (hr : rightF m F = true) {n : Nat} (hn : n < F.length) : ∀ z ∈ ordB sh F (n : Int), ∃ t : Nat, z = t ∧ t < F.length := by
  intro z hz
  cases sh
  · have hz : z ∈ ordI F (n : Int) := hz
    unfold ordI at hz
    obtain ⟨k, hk, rfl⟩ := List.mem_map.1 hz
    exact ⟨k, rfl, (tree_of_right hr).ord_lt _ n hn k (by rw [Int.toNat_natCast] at hk; exact hk)⟩
  · have hz : z ∈ allI F (n : Int) := hz
    unfold allI at hz
    obtain ⟨k, hk, rfl⟩ := List.mem_map.1 hz
    exact ⟨k, rfl, (treeS hr).ord_lt _ _ hn k (by rw [Int.toNat_natCast] at hk; exact hk)⟩
set_option maxHeartbeats 4000000 in
theorem wfull_any (a : Option Addr) (len cap : Nat) (m : Int) (L : List NodeD) (n : Nat) (w : World) (h : NodeRow w a len cap L) (hs : smallF L) (hr : rightF m (coreL L) = true) (hn : n < len) :
    Calls Tryz.prog 112 #[.slice a len cap, .int .i64 n] w (OrdNew w (allI (coreL L) n)) := by
  have CO : Hid (Calls Tryz.prog 145 #[.slice a len cap, .int .i64 n, .bool true] w (OwnPostI w (allI (coreL L) n))) := Lib.hid (worder_any a len cap m L n true w h hs hr hn)
  have HIN : Hid (∀ z ∈ allI (coreL L) n, In64 z) := Lib.hid (fun z hz => by
    obtain ⟨t, rfl, ht⟩ := ordB_in (sh := true) hr (by rw [coreL_len, h.hlen]; exact hn) z hz
    rw [coreL_len, h.hlen] at ht
    have := h.len64
    exact ⟨by omega, by omega⟩)
  clear h hs hr
  go_enter Tryz.func112, Tryz.ntmps112
  go_wp2_with (go_at_call 145; (with_reducible refine CO.out.mono ?_); intro e w1 hp; obtain ⟨a9, len9, cap9, rfl, hr9, hb9, hlo9⟩ := hp.new HIN.out)
  go_ret
  exact ⟨a9, len9, cap9, rfl, hr9, hb9, hlo9⟩
end Go.Proofs.YtiffhlncnpppoaaGreatDoor
namespace Go.Proofs.YtiffhlncnpppoaaGreatDoor
open Go.RowKit Go.Shelf
end Go.Proofs.YtiffhlncnpppoaaGreatDoor
namespace Go.Proofs.YtiffhlncnpppoaaGreatDoor
open Go.RowKit
end Go.Proofs.YtiffhlncnpppoaaGreatDoor
namespace Go.Proofs.YtiffhlncnpppoaaGreatDoor
open Go.RowKit
end Go.Proofs.YtiffhlncnpppoaaGreatDoor
namespace Go.Proofs.YtiffhlncnpppoaaGreatDoor
open Go.RowKit
end Go.Proofs.YtiffhlncnpppoaaGreatDoor
namespace Go.Proofs.YtiffhlncnpppoaaGreatDoor
open Go.RowKit
theorem vknows_nat {m : Int} {F : List Core} {n p c : Int} (h : vknowsB m F n p c = true) : rightF m F = true ∧ (∃ k : Nat, n = k ∧ k < F.length) ∧ (∃ k : Nat, p = k ∧ k < F.length) ∧ (c = -1 ∨ ∃ k : Nat, c = k ∧ k < F.length) := by
  unfold vknowsB at h
  rw [Bool.and_eq_true, Bool.and_eq_true, Bool.and_eq_true, Bool.or_eq_true, beq_iff_eq] at h
  refine ⟨h.2, inF_nat h.1.1.1, inF_nat h.1.1.2, ?_⟩
  rcases h.1.2 with h | h
  · exact .inl h
  · exact .inr (inF_nat h)
set_option maxHeartbeats 4000000 in
set_option maxRecDepth 100000 in
theorem vmay_any (a : Option Addr) (len cap : Nat) (m : Int) (L : List NodeD) (n p c : Int) (w : World) (h : NodeRow w a len cap L) (hm : In64 m) (hn : In64 n) (hp : In64 p) (hc : In64 c) (hs : smallF L) :
    Calls Tryz.prog 36 #[forV a len cap m, .int .i64 n, .int .i64 p, .int .i64 c] w fun e w' => e = .returned (.int .i64 (mayZ m (coreL L) n p c)) ∧ Below w.heap.size w w' := by
  have HCL : Hid ((coreL L).length = len) := Lib.hid (by rw [coreL_len, h.hlen])
  have hlen := h.len64
  have BX := Lib.hid (Box.start (m := m) h)
  have CK : Hid (∀ W, NodeRow W a len cap L → Calls Tryz.prog 94 #[forV a len cap m, .int .i64 n, .int .i64 p, .int .i64 c] W fun e w' => e = .returned (.bool (vknowsB m (coreL L) n p c)) ∧ Below W.heap.size W w') := Lib.hid (fun W h1 => vknows_any a len cap m L n p c W h1 hm hn hp hc hs)
  have z0 := BX.out.c0
  have z1 := BX.out.c1
  cases q : vknowsB m (coreL L) n p c with
  | false =>
    rw [q] at CK
    have HR : Hid (mayZ m (coreL L) n p c = 1) := Lib.hid (by unfold mayZ; rw [q]; rfl)
    clear q h hm hn hp hc hs
    go_enter Tryz.func36, Tryz.ntmps36
    go_wp2_with (go_at_call 94; ((with_reducible refine (CK.out _ BX.out.row).mono ?_); rintro e w1 ⟨rfl, hb⟩; have BX := Lib.hid (BX.out.keep hb); have z0 := BX.out.c0; have z1 := BX.out.c1; clear hb))
    go_ret
    exact ⟨ret_int HR.out.symm, BX.out.below⟩
  | true =>
    rw [q] at CK
    obtain ⟨hr, ⟨N, rfl, hN⟩, ⟨P, rfl, hP⟩, hcc⟩ := vknows_nat q
    rw [HCL.out] at hN hP
    obtain ⟨E, hE⟩ : ∃ E, mayZ m (coreL L) N P c = E := ⟨_, rfl⟩
    have HE : Hid (∀ B : Bool, (c == -1 || parentK (coreL L) c == (P : Int)) = B → refuseE m (coreL L) N P B (-1) = E) := Lib.hid (fun B hB => by rw [← hE, ← hB]; unfold mayZ; rw [q]; rfl)
    rw [hE]
    have CEB : Hid (∀ B, refuseE m (coreL L) N P B (-1) = E → ∀ W, NodeRow W a len cap L → Calls Tryz.prog 95 #[forV a len cap m, .int .i64 N, .int .i64 P, .bool B, .int .i64 (-1)] W fun e w' => e = .returned (.int .i64 E) ∧ Below W.heap.size W w') := Lib.hid (fun B hB W h1 => by
      rw [← hB]
      exact vrefuse_any a len cap m L N P B (-1) W h1 hm inM1 hs hr hN hP)
    have HH := Lib.hid h
    clear q hE h hm hn hp hs hr
    rcases hcc with rfl | ⟨C, rfl, hC⟩
    · have CE := Lib.hid (CEB.out true (HE.out true (by simp)))
      clear CEB HE hc
      go_enter Tryz.func36, Tryz.ntmps36
      go_wp2_with (first | (go_at_call 94; ((with_reducible refine (CK.out _ BX.out.row).mono ?_); rintro e w1 ⟨rfl, hb⟩; have BX := Lib.hid (BX.out.keep hb); have z0 := BX.out.c0; have z1 := BX.out.c1; clear hb)) | (go_at_call 95; ((with_reducible refine (CE.out _ BX.out.row).mono ?_); rintro e w1 ⟨rfl, hb⟩; have BX := Lib.hid (BX.out.keep hb); have z0 := BX.out.c0; have z1 := BX.out.c1; clear hb)))
      go_ret
      exact ⟨rfl, BX.out.below⟩
    · rw [HCL.out] at hC
      have hne : ((C : Int) == -1) = false := beq_eq_false_iff_ne.2 (by omega)
      obtain ⟨b, off, x, rfl, hb, hx, hat, hok⟩ := HH.out.get hC
      have C5 := Lib.hid (stays hat.c5 hb)
      have HPK := Lib.hid (parentK_get hx)
      cases hq : (x.core.parent == (P : Int))
      all_goals
        have CE := Lib.hid (CEB.out (x.core.parent == (P : Int)) (HE.out _ (by rw [hne, HPK.out]; simp)))
        rw [hq] at CE
        clear CEB HE HPK hx hat hok
        go_enter Tryz.func36, Tryz.ntmps36
        go_wp2_with (first | ((go_at_call 94; ((with_reducible refine (CK.out _ BX.out.row).mono ?_); rintro e w1 ⟨rfl, hb⟩; have BX := Lib.hid (BX.out.keep hb); have z0 := BX.out.c0; have z1 := BX.out.c1; clear hb)); have c5 := C5.out _ BX.out.below) | (go_at_call 95; ((with_reducible refine (CE.out _ BX.out.row).mono ?_); rintro e w1 ⟨rfl, hb⟩; have BX := Lib.hid (BX.out.keep hb); have z0 := BX.out.c0; have z1 := BX.out.c1; clear hb)))
        go_ret
        exact ⟨rfl, BX.out.below⟩
theorem may_ok {m : Int} {F : List Core} {n p c : Int} (h : mayZ m F n p c = 0) : vknowsB m F n p c = true ∧ kindK F p ≠ 2 ∧ overZ m F n p = false ∧ (c = -1 ∨ parentK F c = p) ∧ kindK F n ≠ 0 ∧ kindK F n ≠ 4 ∧ (kindK F p = 0 → docTakesB F n p (-1) = true) := by
  unfold mayZ at h
  split at h
  · rename_i hk
    unfold refuseE at h
    split at h
    · cases h
    rename_i h1
    split at h
    · cases h
    rename_i h2
    split at h
    · cases h
    rename_i h3
    split at h
    · cases h
    rename_i h4
    refine ⟨hk, fun e => h1 (.inl e), ?_, ?_, fun e => h3 (.inl e), fun e => h3 (.inr e), fun e => ?_⟩
    · cases hq : overZ m F n p with
      | false => rfl
      | true => exact absurd (.inr hq) h1
    · cases hq : (c == -1 || parentK F c == p) with
      | false => exact absurd hq h2
      | true =>
        rw [Bool.or_eq_true, beq_iff_eq, beq_iff_eq] at hq
        exact hq
    · cases hq : docTakesB F n p (-1) with
      | true => rfl
      | false => exact absurd ⟨e, hq⟩ h4
  · cases h
theorem par_facts {m : Int} {F : List Core} (h : rightF m F = true) {N P : Nat} {x y : Core} (hx : F[N]? = some x) (hp : x.parent = (P : Int)) (hy : F[P]? = some y) : (x.kind = 1 ∨ x.kind = 2) ∧ y.kind ≠ 2 ∧ hasZ y.kids N = 1 := by
  have h1 := (nodeOk_iff.1 (((rightF_iff m F).1 h).2.1 N _ hx)).2.1
  unfold parOk at h1
  rw [beq_eq_false_iff_ne.2 (show x.parent ≠ -1 by omega), Bool.false_or, hp, getC_nat, hy] at h1
  simp only [Bool.and_eq_true, Bool.or_eq_true, beq_iff_eq, bne_iff_ne] at h1
  exact ⟨h1.1, h1.2.1, h1.2.2⟩
theorem place_at {m : Int} {F : List Core} (h : rightF m F = true) {N P : Nat} {x y : Core} (hx : F[N]? = some x) (hp : x.parent = (P : Int)) (hy : F[P]? = some y) : ∃ k : Nat, placeZ m F N = k ∧ k < y.kids.length ∧ y.kids[k]? = some (N : Int) := by
  have hN := (List.getElem?_eq_some_iff.1 hx).1
  have hm := hasZ_mem (par_facts h hx hp hy).2.2
  obtain ⟨p, e1, e2, e3⟩ := right_par h hx (by omega)
  obtain rfl : P = p := by omega
  obtain ⟨k, h1, h2⟩ := find_at hm
  refine ⟨k, ?_, (List.getElem?_eq_some_iff.1 h2).1, h2⟩
  unfold placeZ
  rw [thereF_of h hN, if_pos rfl, Int.toNat_natCast]
  unfold placeF
  rw [e3]
  dsimp only
  rw [hy]
  exact h1
set_option maxHeartbeats 4000000 in
set_option maxRecDepth 100000 in
theorem vbefore_any (a : Option Addr) (len cap : Nat) (m : Int) (L : List NodeD) (n p c : Int) (w : World) (h : NodeRow w a len cap L) (hm : In64 m) (hn : In64 n) (hp : In64 p) (hc : In64 c) (hs : smallF L) :
    Calls Tryz.prog 35 #[forV a len cap m, .int .i64 n, .int .i64 p, .int .i64 c] w fun e w' => e = .returned (.int .i64 (beforeZ m (coreL L) n p c)) ∧ Below w.heap.size w w' := by
  have HCL : Hid ((coreL L).length = len) := Lib.hid (by rw [coreL_len, h.hlen])
  have hlen := h.len64
  have BX := Lib.hid (Box.start (m := m) h)
  obtain ⟨M, hM⟩ : ∃ M, mayZ m (coreL L) n p c = M := ⟨_, rfl⟩
  have CM : Hid (∀ W, NodeRow W a len cap L → Calls Tryz.prog 36 #[forV a len cap m, .int .i64 n, .int .i64 p, .int .i64 c] W fun e w' => e = .returned (.int .i64 M) ∧ Below W.heap.size W w') := Lib.hid (fun W h1 => by
    rw [← hM]
    exact vmay_any a len cap m L n p c W h1 hm hn hp hc hs)
  have z0 := BX.out.c0
  have z1 := BX.out.c1
  by_cases h0 : M = 0
  · rw [h0] at CM hM
    obtain ⟨hk, h2, h3, h4, h5, h6, h7⟩ := may_ok hM
    obtain ⟨hr, ⟨N, rfl, hN⟩, ⟨P, rfl, hP⟩, hcc⟩ := vknows_nat hk
    rw [HCL.out] at hN hP
    have HH := Lib.hid h
    by_cases hcn : c = (N : Int)
    · subst hcn
      have e1 : ((N : Int) != (N : Int)) = false := by simp
      have e2 : ((N : Int) == (N : Int)) = true := by simp
      have hpar : parentK (coreL L) N = P := by rcases h4 with h4 | h4; omega; exact h4
      obtain ⟨b, off, x, rfl, hb, hx, hat, hok⟩ := HH.out.get hN
      obtain ⟨b2, off2, y, hab, hb2, hy, hat2, hok2⟩ := HH.out.get hP
      obtain ⟨rfl, rfl⟩ : b = b2 ∧ off = off2 := by injection hab with h1; injection h1 with h2 h3; exact ⟨h2, h3⟩
      rw [parentK_get hx] at hpar
      obtain ⟨pl, hpl⟩ : ∃ pl, placeZ m (coreL L) N = pl := ⟨_, rfl⟩
      have hpl2 : ∃ k : Nat, pl = k ∧ k < y.kN := by
        obtain ⟨k, h1, h2, _⟩ := place_at hr (coreL_get hx) hpar (coreL_get hy)
        exact ⟨k, by rw [← hpl, h1], by rw [hok2.kids.hlen] at h2; exact h2⟩
      obtain ⟨K, rfl, hK⟩ := hpl2
      have CP : Hid (∀ W, NodeRow W (some ⟨b, off, none⟩) len cap L → Calls Tryz.prog 93 #[forV (some ⟨b, off, none⟩) len cap m, .int .i64 N] W fun e w' => e = .returned (.int .i64 K) ∧ Below W.heap.size W w') := Lib.hid (fun W h1 => by
        rw [← hpl]
        exact placeFn_any (some ⟨b, off, none⟩) len cap m L N W h1 hm hn hs)
      have C6 := Lib.hid (stays hat2.c6 hb)
      have HKK : Hid (kidsK (coreL L) P = y.core.kids) := Lib.hid (by unfold kidsK; rw [getC_nat, coreL_get hy])
      have KR : Hid (∀ W, Below w.heap.size w W → IntRow W y.kA y.kN y.kC y.core.kids) := Lib.hid (fun W hb => hok2.kids.below hb)
      have hk64 := hok2.kids.len64
      by_cases hlt : K + 1 < y.kN
      · obtain ⟨bk, ok, z, hka, hbk, hz, hcz, hin⟩ := hok2.kids.get hlt
        have CZ := Lib.hid (stays hcz hbk)
        have HR : Hid (beforeZ m (coreL L) N P N = z) := Lib.hid (by unfold beforeZ; rw [if_pos hM, if_pos rfl, hpl, HKK.out, show ((K : Int) + 1).toNat = K + 1 by omega, hz])
        rw [hka] at C6
        obtain ⟨hz1, hz2⟩ := hin
        clear hM hk h2 h3 h4 h5 h6 h7 hr hx hy hat hat2 hok hok2 hab hb2 hpl h hm hs hz hcz hka hn hp hc h0 hpar
        go_enter Tryz.func35, Tryz.ntmps35
        go_wp2_with (first
          | (go_at_call 36; ((with_reducible refine (CM.out _ BX.out.row).mono ?_); rintro e w1 ⟨rfl, hb⟩; have BX := Lib.hid (BX.out.keep hb); have z0 := BX.out.c0; have z1 := BX.out.c1; clear hb; have c6 := C6.out _ BX.out.below))
          | (go_at_call 93; ((with_reducible refine (CP.out _ BX.out.row).mono ?_); rintro e w1 ⟨rfl, hb⟩; have BX := Lib.hid (BX.out.keep hb); have z0 := BX.out.c0; have z1 := BX.out.c1; clear hb; have c6 := C6.out _ BX.out.below; have cz := CZ.out _ BX.out.below)))
        go_ret
        exact ⟨ret_int HR.out.symm, BX.out.below⟩
      · have HR : Hid (beforeZ m (coreL L) N P N = -1) := Lib.hid (by unfold beforeZ; rw [if_pos hM, if_pos rfl, hpl, HKK.out, show ((K : Int) + 1).toNat = K + 1 by omega, List.getElem?_eq_none (by rw [hok2.kids.hlen]; omega)])
        clear hM hk h2 h3 h4 h5 h6 h7 hr hx hy hat hat2 hok hok2 hab hb2 hpl h hm hs hn hp hc h0 hpar
        go_enter Tryz.func35, Tryz.ntmps35
        go_wp2_with (first
          | (go_at_call 36; ((with_reducible refine (CM.out _ BX.out.row).mono ?_); rintro e w1 ⟨rfl, hb⟩; have BX := Lib.hid (BX.out.keep hb); have z0 := BX.out.c0; have z1 := BX.out.c1; clear hb; have c6 := C6.out _ BX.out.below))
          | (go_at_call 93; ((with_reducible refine (CP.out _ BX.out.row).mono ?_); rintro e w1 ⟨rfl, hb⟩; have BX := Lib.hid (BX.out.keep hb); have z0 := BX.out.c0; have z1 := BX.out.c1; clear hb; have c6 := C6.out _ BX.out.below)))
        go_ret
        exact ⟨ret_int HR.out.symm, BX.out.below⟩
    · have e1 : (c != (N : Int)) = true := bne_iff_ne.2 hcn
      have e2 : (c == (N : Int)) = false := beq_eq_false_iff_ne.2 hcn
      have HR : Hid (beforeZ m (coreL L) N P c = c) := Lib.hid (by unfold beforeZ; rw [if_pos hM, if_neg hcn])
      clear hM hk h2 h3 h4 h5 h6 h7 hr h hm hs hn hp hc h0 hcn hcc
      go_enter Tryz.func35, Tryz.ntmps35
      go_wp2_with (first
        | (go_at_call 36; ((with_reducible refine (CM.out _ BX.out.row).mono ?_); rintro e w1 ⟨rfl, hb⟩; have BX := Lib.hid (BX.out.keep hb); have z0 := BX.out.c0; have z1 := BX.out.c1; clear hb)))
      go_ret
      exact ⟨ret_int HR.out.symm, BX.out.below⟩
  · have HR : Hid (beforeZ m (coreL L) n p c = -1) := Lib.hid (by unfold beforeZ; rw [hM, if_neg h0])
    have e1 : (M != 0) = true := bne_iff_ne.2 h0
    have e2 : (M == 0) = false := beq_eq_false_iff_ne.2 h0
    clear hM h hm hs hn hp hc h0
    go_enter Tryz.func35, Tryz.ntmps35
    go_wp2_with (first
      | (go_at_call 36; ((with_reducible refine (CM.out _ BX.out.row).mono ?_); rintro e w1 ⟨rfl, hb⟩; have BX := Lib.hid (BX.out.keep hb); have z0 := BX.out.c0; have z1 := BX.out.c1; clear hb)))
    go_ret
    exact ⟨ret_int HR.out.symm, BX.out.below⟩
end Go.Proofs.YtiffhlncnpppoaaGreatDoor
namespace Go.Proofs.YtiffhlncnpppoaaGreatDoor
open Go.RowKit
def OutOf (m : Int) (F G : List Core) (n : Nat) : Prop := ∃ x, F[n]? = some x ∧ ((x.parent = -1 ∧ G = F) ∨ ∃ p, Out m F G n p x)
theorem out_made {m : Int} {M : List NodeD} {n p : Nat} {x y : NodeD} (hr : rightF m (coreL M) = true) (hx : M[n]? = some x) (hy : M[p]? = some y) (hp : x.core.parent = (p : Int)) {a : Option Addr} {l c : Nat} : n ≠ p ∧ Out m (coreL M) (coreL ((M.set p (withK y a l c (y.core.kids.filter (fun z => z != (n : Int))))).set n (withP x (-1)))) n p x.core := by
  have hxc := coreL_get hx
  have hyc := coreL_get hy
  have hnp : n ≠ p := fun e => by
    subst e
    have hpar : parS (coreL M) n = some n := parS_some ((next_par hxc (by omega)).trans hp)
    have := (treeS hr).rank_up n n (List.getElem?_eq_some_iff.1 hxc).1 hpar
    omega
  refine ⟨hnp, hr, hxc, hp, ⟨by unfold coreL; simp, fun j z hz => ?_⟩⟩
  obtain ⟨q, hq, rfl⟩ : ∃ q, M[j]? = some q ∧ q.core = z := by
    unfold coreL at hz
    rw [List.getElem?_map] at hz
    cases hm : M[j]? with
    | none => rw [hm] at hz; cases hz
    | some q => rw [hm] at hz; exact ⟨q, rfl, Option.some.inj hz⟩
  have hjl := (List.getElem?_eq_some_iff.1 hq).1
  unfold coreL
  rw [List.getElem?_map]
  by_cases e : j = n
  · subst e
    obtain rfl : x = q := Option.some.inj (hx.symm.trans hq)
    rw [List.getElem?_set_self (by rw [List.length_set]; exact hjl), if_pos rfl, if_neg hnp]
    rfl
  · rw [List.getElem?_set_ne (fun e2 => e e2.symm), if_neg e]
    by_cases e2 : j = p
    · subst e2
      obtain rfl : y = q := Option.some.inj (hy.symm.trans hq)
      rw [List.getElem?_set_self hjl, if_pos rfl]
      rfl
    · rw [List.getElem?_set_ne (fun e3 => e2 e3.symm), if_neg e2, hq]
      rfl
end Go.Proofs.YtiffhlncnpppoaaGreatDoor
namespace Go.Proofs.YtiffhlncnpppoaaGreatDoor
open Go.RowKit
theorem countNe_all {l : List Int} (h : ∀ z ∈ l, 0 ≤ z) : countNe l (-1) = l.length := by
  unfold countNe
  exact List.countP_eq_length.2 (fun z hz => bne_iff_ne.2 (by have := h z hz; omega))
theorem kids_nat {m : Int} {F : List Core} (h : rightF m F = true) {Y : Nat} {y : Core} (hy : F[Y]? = some y) : ∀ z ∈ y.kids, 0 ≤ z := fun z hz => by
  obtain ⟨c, h1, _⟩ := (right_node h hy).kids z hz
  exact (getC_some h1).1
theorem kidsK_get {F : List Core} {Y : Nat} {y : Core} (hy : F[Y]? = some y) : kidsK F (Y : Int) = y.kids := by unfold kidsK; rw [getC_nat, hy]
theorem kindK_at {F : List Core} {Y : Nat} {y : Core} (hy : F[Y]? = some y) : kindK F (Y : Int) = y.kind := by unfold kindK; rw [getC_nat, hy]
theorem parentK_at {F : List Core} {Y : Nat} {y : Core} (hy : F[Y]? = some y) : parentK F (Y : Int) = y.parent := by unfold parentK; rw [getC_nat, hy]
theorem parts_at {F : List Core} {Y : Nat} {y : Core} (hy : F[Y]? = some y) : partsZ F (Y : Int) = if y.kind = 3 then y.kids else [(Y : Int)] := by unfold partsZ; rw [getC_nat, hy]
end Go.Proofs.YtiffhlncnpppoaaGreatDoor
namespace Go.Proofs.YtiffhlncnpppoaaGreatDoor
open Go.RowKit
section
variable {F G : List Core} {P P' : Nat → Core → Int} {K K' : Nat → Core → List Int} {D D' : Nat → Core → Int} {M : List NodeD} {q : Nat} {x : NodeD}
theorem Edit.congr (h : Edit F G P K D) (hP : ∀ (j : Nat) c, F[j]? = some c → P j c = P' j c) (hK : ∀ (j : Nat) c, F[j]? = some c → K j c = K' j c) (hD : ∀ (j : Nat) c, F[j]? = some c → D j c = D' j c) : Edit F G P' K' D' :=
  ⟨h.len, fun j c hc => by rw [← hP j c hc, ← hK j c hc, ← hD j c hc]; exact h.at_ j c hc⟩
theorem core_set (M : List NodeD) (q : Nat) (y : NodeD) : coreL (M.set q y) = (coreL M).set q y.core := by unfold coreL; rw [List.map_set]
theorem Edit.setP (h : Edit F (coreL M) P K D) (hx : M[q]? = some x) (v : Int) : Edit F (coreL (M.set q (withP x v))) (fun j c => if j = q then v else P j c) K D := by
  refine ⟨by rw [core_set, List.length_set]; exact h.len, fun j c hc => ?_⟩
  have h1 := h.at_ j c hc
  rw [core_set]
  by_cases e : j = q
  · subst e
    rw [List.getElem?_set_self (List.getElem?_eq_some_iff.1 h1).1, if_pos rfl]
    rw [coreL_get hx] at h1
    have h2 := Option.some.inj h1
    show some (⟨x.core.kind, x.core.name, x.core.is, x.core.data, x.core.attrs, v, x.core.kids, x.core.host, x.core.under, x.core.doc⟩ : Core) = _
    rw [h2]
    rfl
  · rw [List.getElem?_set_ne (fun e2 => e e2.symm), h1, if_neg e]
theorem Edit.setD (h : Edit F (coreL M) P K D) (hx : M[q]? = some x) (v : Int) : Edit F (coreL (M.set q (withD x v))) P K (fun j c => if j = q then v else D j c) := by
  refine ⟨by rw [core_set, List.length_set]; exact h.len, fun j c hc => ?_⟩
  have h1 := h.at_ j c hc
  rw [core_set]
  by_cases e : j = q
  · subst e
    rw [List.getElem?_set_self (List.getElem?_eq_some_iff.1 h1).1, if_pos rfl]
    rw [coreL_get hx] at h1
    have h2 := Option.some.inj h1
    show some (⟨x.core.kind, x.core.name, x.core.is, x.core.data, x.core.attrs, x.core.parent, x.core.kids, x.core.host, x.core.under, v⟩ : Core) = _
    rw [h2]
    rfl
  · rw [List.getElem?_set_ne (fun e2 => e e2.symm), h1, if_neg e]
theorem Edit.setK (h : Edit F (coreL M) P K D) (hx : M[q]? = some x) (a : Option Addr) (n c0 : Nat) (l : List Int) : Edit F (coreL (M.set q (withK x a n c0 l))) P (fun j c => if j = q then l else K j c) D := by
  refine ⟨by rw [core_set, List.length_set]; exact h.len, fun j c hc => ?_⟩
  have h1 := h.at_ j c hc
  rw [core_set]
  by_cases e : j = q
  · subst e
    rw [List.getElem?_set_self (List.getElem?_eq_some_iff.1 h1).1, if_pos rfl]
    rw [coreL_get hx] at h1
    have h2 := Option.some.inj h1
    show some (⟨x.core.kind, x.core.name, x.core.is, x.core.data, x.core.attrs, x.core.parent, l, x.core.host, x.core.under, x.core.doc⟩ : Core) = _
    rw [h2]
    rfl
  · rw [List.getElem?_set_ne (fun e2 => e e2.symm), h1, if_neg e]
end
theorem SRow.take {α : Type} {enc : α → List Value} {size : Nat} {w : World} {a : Option Addr} {len cap k : Nat} {L : List α} (h : SRow enc size w a len cap L) (hk : k ≤ len) : SRow enc size w a k cap (L.take k) := by
  refine ⟨by rw [List.length_take, h.hlen]; omega, Nat.le_trans hk h.hcap, h.hmax, fun x hx => h.henc x (List.mem_of_mem_take hx), ?_⟩
  rcases h.cells with h0 | ⟨b, off, ha, hb, hc⟩
  · exact .inl (by omega)
  · refine .inr ⟨b, off, ha, hb, fun i x j v hx hv => hc i x j v ?_ hv⟩
    rw [List.getElem?_take] at hx
    split at hx
    · exact hx
    · cases hx
theorem SRow.rest {α : Type} {enc : α → List Value} {w : World} {a : Option Addr} {len cap k : Nat} {L : List α} (h : SRow enc 1 w a len cap L) (hk : k ≤ len) : SRow enc 1 w (if cap = k then a else Option.map (fun x => x.add k) a) (len - k) (cap - k) (L.drop k) := by
  have hcap := h.hcap
  have hmax := h.hmax
  refine ⟨by rw [List.length_drop, h.hlen], by omega, by omega, fun x hx => h.henc x (List.mem_of_mem_drop hx), ?_⟩
  by_cases h0 : len - k = 0
  · exact .inl h0
  rcases h.cells with h1 | ⟨b, off, ha, hb, hc⟩
  · omega
  · refine .inr ⟨b, off + k, ?_, hb, fun i x j v hx hv => ?_⟩
    · rw [if_neg (by omega), ha, Option.map_some, Go.WideShapes.add_plain]
    · rw [List.getElem?_drop] at hx
      have := hc (k + i) x j v hx hv
      rw [show off + k + i * 1 + j = off + (k + i) * 1 + j by omega]
      exact this
structure OutsOf (m : Int) (F G : List Core) (l : List Int) (k : Nat) : Prop where
  right : rightF m G = true
  ed : Edit F G (fun j c => if (l.take k).contains (j : Int) then -1 else c.parent) (fun _ c => c.kids.filter (fun z => !(l.take k).contains z)) (fun _ c => c.doc)
theorem OutsOf.start {m : Int} {F : List Core} {l : List Int} (h : rightF m F = true) : OutsOf m F F l 0 := by
  refine ⟨h, rfl, fun j c hc => ?_⟩
  have : c.kids.filter (fun z => !(l.take 0).contains z) = c.kids := by simp
  rw [this, hc]
  rfl
theorem contains_take {l : List Int} {k : Nat} {q z : Int} (hq : l[k]? = some q) : (l.take (k + 1)).contains z = ((l.take k).contains z || z == q) := by
  obtain ⟨hl, hg⟩ := List.getElem?_eq_some_iff.1 hq
  rw [List.take_succ_eq_append_getElem hl, hg, List.contains_append]
  simp
  rfl
theorem OutsOf.step {m : Int} {F G G' : List Core} {l : List Int} {k q : Nat} (h : OutsOf m F G l k) (hq : l[k]? = some (q : Int)) (ho : OutOf m G G' q) : OutsOf m F G' l (k + 1) := by
  obtain ⟨x, hx, hcase⟩ := ho
  have hf : ∀ (ks : List Int), ks.filter (fun z => !(l.take (k + 1)).contains z) = (ks.filter (fun z => !(l.take k).contains z)).filter (fun z => z != (q : Int)) := fun ks => by
    rw [List.filter_filter]
    refine List.filter_congr (fun z _ => ?_)
    rw [contains_take hq]
    cases (l.take k).contains z <;> cases hz : (z == (q : Int)) <;> simp [bne, hz]
  have notin : ∀ (j : Nat) (y : Core), G[j]? = some y → (x.parent = -1 ∨ x.parent ≠ (j : Int)) → y.kids.filter (fun z => z != (q : Int)) = y.kids := fun j y hy hp => by
    refine List.filter_eq_self.2 (fun z hz => bne_iff_ne.2 (fun e => ?_))
    subst e
    obtain ⟨c, h1, _, h3, _⟩ := (right_node h.right hy).kids _ hz
    rw [getC_nat, hx] at h1
    rw [← Option.some.inj h1] at h3
    rcases hp with hp | hp
    · omega
    · exact hp h3
  have hP : ∀ (j : Nat) (c : Core), (if (l.take (k + 1)).contains (j : Int) then (-1 : Int) else c.parent) = if j = q then -1 else if (l.take k).contains (j : Int) then -1 else c.parent := fun j c => by
    rw [contains_take hq]
    by_cases e : j = q
    · subst e; simp
    · have e2 : ((j : Int) == (q : Int)) = false := beq_eq_false_iff_ne.2 (by omega)
      rw [if_neg e, e2, Bool.or_false]
  rcases hcase with ⟨h1, rfl⟩ | ⟨p, h1⟩
  · refine ⟨h.right, h.ed.len, fun j c hc => ?_⟩
    have h2 := h.ed.at_ j c hc
    have h9 : (c.kids.filter (fun z => !(l.take k).contains z)).filter (fun z => z != (q : Int)) = c.kids.filter (fun z => !(l.take k).contains z) := notin j _ h2 (.inl h1)
    rw [h2, hf, h9, hP]
    by_cases e : j = q
    · subst e
      rw [hx] at h2
      have h3 := congrArg Core.parent (Option.some.inj h2)
      rw [if_pos rfl]
      have h3b : x.parent = (if (l.take k).contains (j : Int) then (-1 : Int) else c.parent) := h3
      have h4 : (if (l.take k).contains (j : Int) then (-1 : Int) else c.parent) = -1 := h3b.symm.trans h1
      rw [h4]
    · rw [if_neg e]
  · refine ⟨h1.rightG, by rw [h1.ed.len]; exact h.ed.len, fun j c hc => ?_⟩
    have h2 := h.ed.at_ j c hc
    rw [h1.ed.at_ j _ h2, hf, hP]
    have hk : (if j = p then (edC c (if (l.take k).contains (j : Int) then -1 else c.parent) (c.kids.filter (fun z => !(l.take k).contains z)) c.doc).kids.filter (fun z => z != (q : Int)) else (edC c (if (l.take k).contains (j : Int) then -1 else c.parent) (c.kids.filter (fun z => !(l.take k).contains z)) c.doc).kids) = (c.kids.filter (fun z => !(l.take k).contains z)).filter (fun z => z != (q : Int)) := by
      by_cases e : j = p
      · rw [if_pos e]; rfl
      · rw [if_neg e]
        exact (notin j _ h2 (.inr (by
          have h3 := h1.hx
          rw [hx] at h3
          rw [h1.hp]
          omega))).symm
    rw [hk]
    rfl
def putP (l : List Int) (p : Nat) (i j : Nat) (c : Core) : Int := if (l.take i).contains (j : Int) then (p : Int) else if l.contains (j : Int) then -1 else c.parent
def putK (l : List Int) (p : Nat) (A B : List Int) (j : Nat) (c : Core) : List Int := if j = p then A ++ l ++ B else c.kids.filter (fun z => !l.contains z)
def mvL (F : List Core) (l : List Int) (i j : Nat) : Bool := (l.take i).any (fun q => (allI F q).contains (j : Int))
def putD (F : List Core) (l : List Int) (dp : Int) (i : Nat) (r : List Int) (j : Nat) (c : Core) : Int := if mvL F l i j || r.contains (j : Int) then dp else c.doc
section
variable {m : Int} {F : List Core} {n p : Nat} {c : Int} {cn cp : Core}
structure PutOk (m : Int) (F : List Core) (n p : Nat) (c : Int) (l : List Int) (cp : Core) : Prop where
  right : rightF m F = true
  hp : F[p]? = some cp
  kp : cp.kind ≠ 2
  once : l.Nodup
  ls : ∀ z ∈ l, ∃ (q : Nat) (c : Core), z = q ∧ F[q]? = some c ∧ (c.kind = 1 ∨ c.kind = 2)
  over : ∀ q : Nat, (q : Int) ∈ l → ¬ holdsT (parS F) q p
  root : cp.kind = 0 → cp.kids.length + l.length ≤ 1 ∧ ∀ k ∈ l, kindK F k = 1
  before : beforeZ m F n p c = -1 ∨ beforeZ m F n p c ∈ cp.kids.filter (fun z => !l.contains z)
theorem PutOk.of (h : mayZ m F n p c = 0) (hp : F[p]? = some cp) : PutOk m F n p c (partsZ F n) cp := by
  obtain ⟨hk, h2, h3, h4, h5, h6, h7⟩ := may_ok h
  obtain ⟨hr, ⟨N, hN1, hN⟩, ⟨p', hp1, hpl⟩, hcc⟩ := vknows_nat hk
  obtain rfl : n = N := by omega
  obtain rfl : p = p' := by omega
  obtain ⟨cn, hn⟩ : ∃ cn, F[n]? = some cn := ⟨_, List.getElem?_eq_getElem hN⟩
  have NN := right_node hr hn
  have NP := right_node hr hp
  rw [kindK_at hp] at h2 h7
  rw [kindK_at hn] at h5 h6
  have hov : ¬ holdsT (parS F) n p := fun hh => by rw [(overZ_iff hr hN hpl).2 hh] at h3; cases h3
  have hkind := NN.kind
  have hls : ∀ z ∈ partsZ F n, ∃ (q : Nat) (c : Core), z = q ∧ F[q]? = some c ∧ (c.kind = 1 ∨ c.kind = 2) := fun z hz => by
    rw [parts_at hn] at hz
    split at hz
    · obtain ⟨c1, g1, g2, _, _⟩ := NN.kids z hz
      obtain ⟨g3, _, g4⟩ := getC_some g1
      exact ⟨z.toNat, c1, by omega, g4, g2⟩
    · rw [List.mem_singleton] at hz
      exact ⟨n, cn, hz, hn, by omega⟩
  have hfrag : ∀ z ∈ partsZ F n, z = (n : Int) ∨ (cn.kind = 3 ∧ z ∈ cn.kids) := fun z hz => by
    rw [parts_at hn] at hz
    split at hz
    · next e => exact .inr ⟨e, hz⟩
    · exact .inl (List.mem_singleton.1 hz)
  have hholds : ∀ q : Nat, (q : Int) ∈ partsZ F n → holdsT (parS F) n q := fun q hq => by
    rcases hfrag _ hq with e | ⟨_, e⟩
    · rw [show q = n by omega]; exact holds_refl n
    · obtain ⟨c1, g1, _, g3, _⟩ := NN.kids _ e
      rw [getC_nat] at g1
      exact holds_par (parS_parent g1 g3)
  refine ⟨hr, hp, h2, ?_, hls, fun q hq hh => hov (holds_trans (hholds q hq) hh), fun e => ?_, ?_⟩
  · rw [parts_at hn]
    split
    · exact NN.once
    · simp
  · have h8 := h7 e
    unfold docTakesB at h8
    rw [Bool.and_eq_true, Bool.not_eq_true', decide_eq_true_eq, kidsK_get hp, countNe_all (kids_nat hr hp)] at h8
    refine ⟨h8.2, fun k hk2 => ?_⟩
    obtain ⟨q, c1, rfl, g1, g2⟩ := hls k hk2
    have := List.any_eq_false.1 h8.1 _ hk2
    rw [kindK_at g1] at this ⊢
    rcases g2 with g2 | g2
    · exact g2
    · simp [g2] at this
  · by_cases hb : beforeZ m F n p c = -1
    · exact .inl hb
    right
    unfold beforeZ at hb ⊢
    rw [if_pos h] at hb ⊢
    rw [List.mem_filter]
    by_cases hcn : c = (n : Int)
    · rw [if_pos hcn] at hb ⊢
      have hpar : cn.parent = (p : Int) := by
        rcases h4 with h4 | h4
        · omega
        · rw [hcn, parentK_at hn] at h4; exact h4
      obtain ⟨k, e1, e2, e3⟩ := place_at hr hn hpar hp
      have hk3 := (par_facts hr hn hpar hp).1
      rw [e1, kidsK_get hp, show ((k : Int) + 1).toNat = k + 1 by omega] at hb ⊢
      cases hz : cp.kids[k + 1]? with
      | none => rw [hz] at hb; exact absurd rfl hb
      | some z =>
        dsimp only
        refine ⟨List.mem_of_getElem? hz, ?_⟩
        rw [parts_at hn, if_neg (by omega)]
        have hne : z ≠ (n : Int) := fun e => by
          subst e
          have g1 := (List.getElem?_eq_some_iff.1 e3)
          have g2 := (List.getElem?_eq_some_iff.1 hz)
          obtain ⟨g3, g4⟩ := g1
          obtain ⟨g5, g6⟩ := g2
          exact List.pairwise_iff_getElem.1 NP.once k (k + 1) g3 g5 (by omega) (by rw [g4, g6])
        simpa using hne
    · rw [if_neg hcn] at hb ⊢
      have hpc : parentK F c = p := h4.resolve_left hb
      rcases hcc with e | ⟨C, rfl, hC⟩
      · exact absurd e hb
      obtain ⟨cc, hcc⟩ : ∃ cc, F[C]? = some cc := ⟨_, List.getElem?_eq_getElem hC⟩
      rw [parentK_at hcc] at hpc
      have hm := hasZ_mem (par_facts hr hcc hpc hp).2.2
      refine ⟨hm, ?_⟩
      have hnl : (C : Int) ∉ partsZ F n := fun hh => by
        rcases hfrag _ hh with e | ⟨_, e⟩
        · exact hcn e
        · obtain ⟨c1, g1, _, g3, _⟩ := NN.kids _ e
          rw [getC_nat, hcc] at g1
          rw [← Option.some.inj g1, hpc] at g3
          exact hov (by rw [show p = n by omega]; exact holds_refl n)
      simpa using hnl
theorem PutOk.rightG {l A B : List Int} {G : List Core} (h : PutOk m F n p c l cp) (hab : A ++ B = cp.kids.filter (fun z => !l.contains z)) (he : Edit F G (putP l p l.length) (putK l p A B) (putD F l cp.doc l.length [])) : rightF m G = true := by
  have T := PutIn.rightG (m := m) (F := F) (G := G) (l := l) (p := p) (cp := cp) (A := A) (B := B) (mv := mvL F l l.length)
  refine T ⟨h.right, h.hp, h.kp, h.once, h.ls, h.over, hab, fun e => ?_, fun j hj => ?_, he.congr (fun j c _ => ?_) (fun j c _ => rfl) (fun j c _ => ?_)⟩
  · obtain ⟨h1, h2⟩ := h.root e
    have hl : (A ++ l ++ B).length = (cp.kids.filter (fun z => !l.contains z)).length + l.length := by rw [← hab]; simp only [List.length_append]; omega
    refine ⟨by rw [hl]; have := List.length_filter_le (fun z => !l.contains z) cp.kids; omega, fun k hk => ?_⟩
    have hk2 : k ∈ l ∨ k ∈ A ++ B := by
      simp only [List.mem_append] at hk ⊢
      rcases hk with (h | h) | h
      · exact .inr (.inl h)
      · exact .inl h
      · exact .inr (.inr h)
    rcases hk2 with hk2 | hk2
    · exact h2 k hk2
    · rw [hab] at hk2
      exact ((right_node h.right h.hp).root e).2 k (List.mem_filter.1 hk2).1
  · unfold mvL
    rw [List.take_length, List.any_eq_true]
    constructor
    · rintro ⟨z, hz, hm⟩
      obtain ⟨q, c1, rfl, g1, _⟩ := h.ls z hz
      have hql := (List.getElem?_eq_some_iff.1 g1).1
      refine ⟨q, hz, (overZ_iff h.right hql hj).1 ?_⟩
      cases ho : overZ m F q j with
      | true => rfl
      | false =>
        have := hasZ_all h.right hql hj
        rw [ho] at this
        have h3 := hasZ_pos (List.contains_iff_mem.1 hm)
        rw [this] at h3
        exact absurd h3 (by decide)
    · rintro ⟨q, hq, hh⟩
      obtain ⟨q2, c1, e, g1, _⟩ := h.ls _ hq
      obtain rfl : q = q2 := by omega
      have hql := (List.getElem?_eq_some_iff.1 g1).1
      refine ⟨_, hq, List.contains_iff_mem.2 (hasZ_mem ?_)⟩
      rw [hasZ_all h.right hql hj, (overZ_iff h.right hql hj).2 hh]
      rfl
  · unfold putP
    rw [List.take_length]
    by_cases e : l.contains (j : Int) = true
    · rw [if_pos e, if_pos e]
    · rw [if_neg e, if_neg e, if_neg e]
  · unfold putD
    simp
end
end Go.Proofs.YtiffhlncnpppoaaGreatDoor
namespace Go.Proofs.YtiffhlncnpppoaaGreatDoor
open Go.RowKit
def edF (F : List Core) (P : Nat → Core → Int) (K : Nat → Core → List Int) (D : Nat → Core → Int) : List Core := F.mapIdx fun j c => edC c (P j c) (K j c) (D j c)
theorem edF_edit (F : List Core) (P : Nat → Core → Int) (K : Nat → Core → List Int) (D : Nat → Core → Int) : Edit F (edF F P K D) P K D :=
  ⟨by unfold edF; simp, fun j c hc => by unfold edF; rw [List.getElem?_mapIdx, hc]; rfl⟩
section
variable {F G : List Core} {P P' : Nat → Core → Int} {K K' : Nat → Core → List Int} {D D' : Nat → Core → Int}
theorem Edit.eq (h : Edit F G P K D) : G = edF F P K D := by
  apply List.ext_getElem?
  intro i
  by_cases hi : i < F.length
  · have hc : F[i]? = some F[i] := List.getElem?_eq_getElem hi
    rw [h.at_ i _ hc, (edF_edit F P K D).at_ i _ hc]
  · rw [List.getElem?_eq_none (by rw [h.len]; omega), List.getElem?_eq_none (by rw [(edF_edit F P K D).len]; omega)]
theorem Edit.cong (h : Edit F G P K D) (hh : ∀ (j : Nat) c, F[j]? = some c → P j c = P' j c ∧ K j c = K' j c ∧ D j c = D' j c) : Edit F G P' K' D' :=
  ⟨h.len, fun j c hc => by obtain ⟨e1, e2, e3⟩ := hh j c hc; rw [h.at_ j c hc, e1, e2, e3]⟩
end
def mvOut (F : List Core) (n : Nat) : List Core := edF F (fun j c => if j = n then -1 else c.parent) (fun j c => if (j : Int) = parentK F n then c.kids.filter (fun z => z != (n : Int)) else c.kids) (fun _ c => c.doc)
def mvDoc (F : List Core) (n : Nat) (d : Int) : List Core := edF F (fun _ c => c.parent) (fun _ c => c.kids) (fun j c => if (j : Int) ∈ allI F n then d else c.doc)
def insB (l : List Int) (b n : Int) : List Int := if b = -1 then l ++ [n] else l.take (findN l b) ++ n :: l.drop (findN l b)
def mvIn (F : List Core) (n p : Nat) (b : Int) : List Core := edF F (fun j c => if j = n then (p : Int) else c.parent) (fun j c => if j = p then insB c.kids b n else c.kids) (fun _ c => c.doc)
abbrev note (k : Int) : NoteD := ⟨k, 0, 0, 0, ⟨#[]⟩, false, false, ⟨#[]⟩, ⟨#[]⟩⟩
def noteAt (x : NoteD) (z : Int) : NoteD := ⟨x.kind, z, x.src, x.dst, x.name, x.had, x.has, x.old, x.new⟩
def tellN (F : List Core) (n : Nat) (x : NoteD) : List NoteD := ((allI F n).filter (fun z => kindK F z == 1)).map (noteAt x)
def connF (F : List Core) (n : Nat) : Bool := kindK F (topF F n) == 0
abbrev St := List Core × List NoteD
def outS (S : St) (n : Nat) : St := if parentK S.1 n = -1 then S else (mvOut S.1 n, if connF S.1 n then S.2 ++ tellN S.1 n (note 2) else S.2)
def docK (F : List Core) (n : Int) : Int := match getC F n with | some x => x.doc | none => 0
def overS (S : St) (n : Nat) (d : Int) : St := let T := outS S n; if docK T.1 n = d then T else (mvDoc T.1 n d, T.2 ++ tellN T.1 n ⟨3, 0, docK T.1 n, d, ⟨#[]⟩, false, false, ⟨#[]⟩, ⟨#[]⟩⟩)
def inS (p : Nat) (b : Int) (S : St) (q : Nat) : St := let T := overS S q (docK S.1 p); let G := mvIn T.1 q p b; (G, if connF G q then T.2 ++ tellN G q (note 1) else T.2)
def putS (S : St) (n p : Nat) (b : Int) : St :=
  let l := (partsZ S.1 n).map Int.toNat
  let T := if kindK S.1 n = 3 then l.foldl outS S else S
  l.foldl (inS p b) T
section
variable {m : Int} {F G : List Core}
theorem right_len400 (h : rightF m F = true) : F.length ≤ 400 := by
  obtain ⟨⟨_, h2, h3, _⟩, _⟩ := (rightF_iff m F).1 h
  omega
theorem right_kids (h : rightF m F = true) {i : Nat} {x : Core} (hx : F[i]? = some x) : x.kids.length ≤ 400 := by
  have T := tree_of_right h
  have e : kidsF F i = x.kids.map Int.toNat := by unfold kidsF; rw [hx]
  have h1 := nodup_lt F.length (kidsF F i) (T.nodup i) (fun k hk => T.kid_lt i k hk)
  rw [e, List.length_map] at h1
  exact Nat.le_trans h1 (right_len400 h)
theorem small_edit {M M' : List NodeD} {P : Nat → Core → Int} {K : Nat → Core → List Int} {D : Nat → Core → Int} (hs : smallF M) (he : Edit (coreL M) (coreL M') P K D) (hr : rightF m (coreL M') = true) : smallF M' := by
  refine ⟨?_, fun x hx => ?_⟩
  · have := he.len
    rw [coreL_len, coreL_len] at this
    rw [this]
    exact hs.1
  · obtain ⟨i, hi⟩ := List.getElem?_of_mem hx
    have hc := coreL_get hi
    obtain ⟨c, h1, h2⟩ := he.back hc
    obtain ⟨y, hy, rfl⟩ : ∃ y ∈ M, y.core = c := by
      have := List.mem_of_getElem? h1
      unfold coreL at this
      obtain ⟨y, h3, h4⟩ := List.mem_map.1 this
      exact ⟨y, h3, h4⟩
    have h5 := hs.2 y hy
    refine ⟨Nat.le_trans (right_kids hr hc) (by decide), ?_, ?_⟩
    · rw [h2]; exact h5.2.1
    · rw [h2]; exact h5.2.2
theorem docK_at {n : Nat} {x : Core} (hx : F[n]? = some x) : docK F (n : Int) = x.doc := by unfold docK; rw [getC_nat, hx]
theorem mvOut_out (h : rightF m F = true) {n : Nat} {x : Core} (hx : F[n]? = some x) (hp : x.parent ≠ -1) : ∃ p : Nat, x.parent = p ∧ p < F.length ∧ Out m F (mvOut F n) n p x := by
  obtain ⟨p, h1, h2, _⟩ := right_par h hx hp
  refine ⟨p, h1, h2, h, hx, h1, (edF_edit F _ _ _).cong (fun j c hc => ⟨rfl, ?_, rfl⟩)⟩
  rw [parentK_at hx, h1]
  by_cases e : j = p
  · rw [if_pos e, if_pos (by omega)]
  · rw [if_neg e, if_neg (by omega)]
theorem mem_all (h : rightF m F = true) {n j : Nat} (hn : n < F.length) (hj : j < F.length) : (j : Int) ∈ allI F n ↔ holdsT (parS F) n j := by
  rw [mem_allI, Int.toNat_natCast]
  exact (treeS h).mem_ord _ _ hn (by omega) j hj
theorem doc_up (h : rightF m F = true) {j q : Nat} (hj : j < F.length) (hq : parS F j = some q) : docK F j = docK F q := by
  have hc : F[j]? = some F[j] := List.getElem?_eq_getElem hj
  have N := right_node h hc
  obtain ⟨hn, hql⟩ := parS_next h hj hq
  have hcq : F[q]? = some F[q] := List.getElem?_eq_getElem hql
  rw [docK_at hc, docK_at hcq]
  rw [nextUp_at hc] at hn
  by_cases hp : F[j].parent = -1
  · have hn : F[j].host = (q : Int) := by
      have : (if F[j].parent = -1 then F[j].host else F[j].parent) = (q : Int) := hn
      rwa [if_pos hp] at this
    have hk : F[j].kind = 4 := by
      by_cases e : F[j].kind = 4
      · exact e
      · have := N.free e
        omega
    obtain ⟨d, h1, _, _, h4⟩ := N.host hk
    rw [hn, getC_nat, hcq] at h1
    rw [Option.some.inj h1]
    exact h4.symm
  · have hn : F[j].parent = (q : Int) := by
      have : (if F[j].parent = -1 then F[j].host else F[j].parent) = (q : Int) := hn
      rwa [if_neg hp] at this
    rcases N.par with e | ⟨_, d, h1, _, h3⟩
    · exact absurd e hp
    · rw [hn, getC_nat, hcq] at h1
      obtain rfl := Option.some.inj h1
      obtain ⟨c, h4, _, _, h6⟩ := (right_node h hcq).kids _ h3
      rw [getC_nat, hc] at h4
      rw [Option.some.inj h4]
      exact h6
theorem doc_over (h : rightF m F = true) {a : Nat} : ∀ (k b : Nat), b < F.length → upN (parS F) k b = some a → docK F b = docK F a
  | 0, b, _, hu => by rw [Option.some.inj hu]
  | k + 1, b, hb, hu => by
    unfold upN at hu
    cases hq : parS F b with
    | none => rw [hq] at hu; cases hu
    | some q =>
      rw [hq] at hu
      rw [doc_up h hb hq]
      exact doc_over h k q (parS_next h hb hq).2 hu
theorem doc_all (h : rightF m F = true) {n j : Nat} (hn : n < F.length) (hj : (j : Int) ∈ allI F n) (hjl : j < F.length) : docK F j = docK F n := by
  obtain ⟨k, hk⟩ := (mem_all h hn hjl).1 hj
  exact doc_over h k j hjl hk
structure Taken (m : Int) (F G : List Core) (n : Nat) (d : Int) : Prop where
  right : rightF m F = true
  lt : n < F.length
  top : parS F n = none
  kind : kindK F n ≠ 0
  doc : ∃ c, getC F d = some c ∧ c.kind = 0
  ed : Edit F G (fun _ c => c.parent) (fun _ c => c.kids) (fun j c => if (j : Int) ∈ allI F n then d else c.doc)
section
variable {n : Nat} {d : Int}
theorem Taken.up (h : Taken m F G n d) {j q : Nat} (hj : j < F.length) (hq : parS F j = some q) : (j : Int) ∈ allI F n ↔ (q : Int) ∈ allI F n := by
  have hql := (parS_next h.right hj hq).2
  rw [mem_all h.right h.lt hj, mem_all h.right h.lt hql]
  constructor
  · intro hh
    rcases holds_up hh with e | ⟨s, e1, e2⟩
    · rw [← e, h.top] at hq
      cases hq
    · rw [hq] at e1
      rw [Option.some.inj e1]
      exact e2
  · exact fun hh => holds_trans hh (holds_par hq)
theorem Taken.node (h : Taken m F G n d) {j : Nat} {y : Core} (hy : G[j]? = some y) : NodeP G j y := by
  obtain ⟨c, hc, rfl⟩ := h.ed.back hy
  have hjl := (List.getElem?_eq_some_iff.1 hc).1
  have N := right_node h.right hc
  refine ⟨N.kind, ?_, fun e => ?_, ?_, N.once, fun k hk => ?_, N.leaf, fun e => ?_, fun e => ?_, N.free, ?_, N.text⟩
  · show ∃ d', getC G (if (j : Int) ∈ allI F n then d else c.doc) = some d' ∧ d'.kind = 0
    split
    · obtain ⟨d', h1, h2⟩ := h.doc
      exact ⟨_, h.ed.getC h1, h2⟩
    · obtain ⟨d', h1, h2⟩ := N.doc
      exact ⟨_, h.ed.getC h1, h2⟩
  · show (if (j : Int) ∈ allI F n then d else c.doc) = (j : Int)
    have e : c.kind = 0 := e
    have hnm : ¬ (j : Int) ∈ allI F n := fun hm => by
      rcases holds_up ((mem_all h.right h.lt hjl).1 hm) with e1 | ⟨s, e1, _⟩
      · exact h.kind (by rw [e1, kindK_at hc]; exact e)
      · have hn := (parS_next h.right hjl e1).1
        rw [nextUp_at hc] at hn
        have hn2 : (if c.parent = -1 then c.host else c.parent) = (s : Int) := hn
        have hpar : c.parent = -1 := by
          rcases N.par with h3 | ⟨h3, _⟩
          · exact h3
          · omega
        rw [if_pos hpar, N.free (by omega)] at hn2
        omega
    rw [if_neg hnm]
    exact N.own e
  · rcases N.par with h1 | ⟨h1, q, h2, h3, h4⟩
    · exact .inl h1
    · exact .inr ⟨h1, _, h.ed.getC h2, h3, h4⟩
  · obtain ⟨c', h1, h2, h3, h4⟩ := N.kids k hk
    obtain ⟨g0, g1, g2⟩ := getC_some h1
    have hkn : ((k.toNat : Nat) : Int) = k := by omega
    refine ⟨_, h.ed.getC h1, h2, h3, ?_⟩
    show (if ((k.toNat : Nat) : Int) ∈ allI F n then d else c'.doc) = if (j : Int) ∈ allI F n then d else c.doc
    have hu := h.up g1 (parS_parent g2 h3)
    by_cases e : (j : Int) ∈ allI F n
    · rw [if_pos e, if_pos (hu.2 e)]
    · rw [if_neg e, if_neg (fun e2 => e (hu.1 e2)), h4]
  · obtain ⟨h1, h2⟩ := N.root e
    exact ⟨h1, fun k hk => by rw [h.ed.kindK]; exact h2 k hk⟩
  · obtain ⟨d', h1, h2, h3, h4⟩ := N.host e
    obtain ⟨g0, g1, g2⟩ := getC_some h1
    refine ⟨_, h.ed.getC h1, h2, h3, ?_⟩
    show (if ((c.host.toNat : Nat) : Int) ∈ allI F n then d else d'.doc) = if (j : Int) ∈ allI F n then d else c.doc
    have e4 : c.kind = 4 := e
    have hpar : c.parent = -1 := by
      rcases N.par with h5 | ⟨h5, _⟩
      · exact h5
      · omega
    have hu := h.up hjl (parS_host hc hpar (show c.host = ((c.host.toNat : Nat) : Int) by omega))
    by_cases e : (j : Int) ∈ allI F n
    · rw [if_pos e, if_pos (hu.1 e)]
    · rw [if_neg e, if_neg (fun e2 => e (hu.2 e2)), h4]
  · rcases N.under with h1 | ⟨h1, u, h2, h3, h4⟩
    · exact .inl h1
    · exact .inr ⟨h1, _, h.ed.getC h2, h3, h4⟩
theorem Taken.next (h : Taken m F G n d) (j : Nat) : nextUp G (j : Int) = nextUp F j := by
  by_cases hj : j < F.length
  · have hc : F[j]? = some F[j] := List.getElem?_eq_getElem hj
    rw [h.ed.next hc, nextUp_at hc]
    rfl
  · unfold nextUp
    rw [getC_nat, getC_nat, List.getElem?_eq_none (by rw [h.ed.len]; omega), List.getElem?_eq_none (by omega)]
theorem Taken.rightG (h : Taken m F G n d) : rightF m G = true := by
  obtain ⟨⟨h1, h2, h3, h4⟩, _, _⟩ := (rightF_iff m F).1 h.right
  refine right_of h1 h2 (by rw [h.ed.len]; exact h3) (h.ed.head h4) (fun i y hy => h.node hy) (rankF F) (fun i hi => ?_)
  rw [h.ed.len] at hi ⊢
  rw [h.next]
  exact rank_next h.right hi
end
end
end Go.Proofs.YtiffhlncnpppoaaGreatDoor
