/- Texts joined in build order: WalkOrdMath WalkOrder ForestOrderFn. -/
import Derived.Test.YtkgbgnmmgmnnlaaGreatDoorE19
import Derived.Test.YtkgbgnmmgmnnlaaGreatDoorE11
import Derived.Test.YtkgbgnmmgmnnlaaGreatDoorE17
import Derived.Test.YtkgbgnmmgmnnlaaGreatDoorE15
namespace Go.Proofs.YtkgbgnmmgmnnlaaGreatDoor
open Go.RowKit Go.Shelf
def ordI (F : List Core) (z : Int) : List Int := (ordF F z.toNat).map Int.ofNat
structure Going (F : List Core) (n : Nat) (out P : List Int) : Prop where
  eq : out ++ P.reverse.flatMap (ordI F) = ordI F (n : Int)
  inF : ∀ z ∈ P, 0 ≤ z ∧ z < (F.length : Int)
theorem Going.start {F : List Core} {n : Nat} (h : n < F.length) : Going F n [] [(n : Int)] := ⟨by simp, fun z hz => by
  obtain rfl : z = (n : Int) := by simpa using hz
  omega⟩
theorem Going.step {m : Int} {F : List Core} (hr : rightF m F = true) {n : Nat} {out Q : List Int} {z : Int} {x : Core} (h : Going F n out (Q ++ [z])) (hx : F[z.toNat]? = some x) : Going F n (out ++ [z]) (Q ++ x.kids.reverse) := by
  have T := tree_of_right hr
  obtain ⟨hz0, hz1⟩ := h.inF z (by simp)
  have hzl : z.toNat < F.length := by omega
  have hk : kidsF F z.toNat = x.kids.map Int.toNat := by unfold kidsF; rw [hx]
  have kin : ∀ k ∈ x.kids, 0 ≤ k ∧ k < (F.length : Int) := fun k hkk => by
    have hm : k.toNat ∈ kidsF F z.toNat := by rw [hk]; exact List.mem_map.2 ⟨k, hkk, rfl⟩
    have h1 := T.kid_lt _ _ hm
    have h2 := (nodeOk_iff.1 (((rightF_iff m F).1 hr).2.1 _ x hx)).2.2.1 k hkk
    obtain ⟨c, hc, _⟩ := kidB_iff.1 (kidOk_iff.1 h2).2
    obtain ⟨e1, _, _⟩ := getC_some hc
    omega
  have hord : ordI F z = z :: x.kids.flatMap (ordI F) := by
    unfold ordI ordF
    have h1 := T.ord_more (F.length + 1) z.toNat hzl (by omega)
    have h2 : ordN (kidsF F) (F.length + 1 + 1) z.toNat = z.toNat :: (kidsF F z.toNat).flatMap (ordN (kidsF F) (F.length + 1)) := rfl
    rw [← h1, h2, hk, List.map_cons, List.flatMap_map, List.map_flatMap]
    have e0 : Int.ofNat z.toNat = z := by show ((z.toNat : Nat) : Int) = z; omega
    rw [e0]
  refine ⟨?_, fun y hy => ?_⟩
  · rw [← h.eq, List.reverse_append, List.reverse_append, List.reverse_reverse, List.flatMap_append, List.reverse_singleton, List.singleton_append, List.flatMap_cons, hord]
    simp
  · rcases List.mem_append.1 hy with hy | hy
    · exact h.inF y (by simp [hy])
    · exact kin y (by simpa using hy)
theorem Going.len {F : List Core} {n : Nat} {out P : List Int} (h : Going F n out P) : out.length + P.length ≤ (ordI F (n : Int)).length := by
  have h1 := congrArg List.length h.eq
  rw [List.length_append] at h1
  have h2 : ∀ l : List Int, l.length ≤ (l.flatMap (ordI F)).length := fun l => by
    induction l with
    | nil => simp
    | cons a r ih =>
      have : 0 < (ordI F a).length := by
        unfold ordI ordF
        obtain ⟨t, ht⟩ := ordN_head (kids := kidsF F) (F.length + 1) a.toNat
        rw [ht]
        simp
      rw [List.flatMap_cons, List.length_append, List.length_cons]
      omega
  have h3 := h2 P.reverse
  rw [List.length_reverse] at h3
  omega
theorem ordI_len {m : Int} {F : List Core} (hr : rightF m F = true) {n : Nat} (hn : n < F.length) : (ordI F (n : Int)).length ≤ F.length := by
  have T := tree_of_right hr
  unfold ordI
  rw [List.length_map, Int.toNat_natCast]
  exact nodup_lt F.length _ (T.ord_nodup _ n hn (by omega)) (fun x hx => T.ord_lt _ n hn x hx)
theorem map_encI : ∀ l : List Int, l.map encI = l.flatMap encZ
  | [] => rfl
  | c :: r => by rw [List.map_cons, List.flatMap_cons, map_encI r]; rfl
def sliceN : Value → Nat
  | .slice _ l _ => l
  | _ => 0
theorem sliceN_own {w : World} {base : Nat} {e : TypeId} {size n : Nat} {v : Value} {xs : List Value} (h : w.ownsRow base e size v n xs) : sliceN v = n := by
  rcases h.2 with ⟨rfl, h0⟩ | ⟨g, cap, cur, rfl, _⟩
  · exact h0.symm
  · rfl
theorem backTo_snd (K : List Int) : (backTo K K.length).map Prod.snd = K.reverse := by
  apply List.ext_getElem
  · simp [backTo]
  · intro i h1 h2
    have hi : i < K.length := by simpa using h2
    simp [backTo, backF]
    rw [List.getElem?_eq_getElem (by omega)]
    rfl
def undL (x : Core) : List Int := if x.under = -1 then [] else [x.under]
structure GoingS (F : List Core) (n : Nat) (out P : List Int) : Prop where
  eq : out ++ P.reverse.flatMap (allI F) = allI F (n : Int)
  inF : ∀ z ∈ P, 0 ≤ z ∧ z < (F.length : Int)
theorem GoingS.start {F : List Core} {n : Nat} (h : n < F.length) : GoingS F n [] [(n : Int)] := ⟨by simp, fun z hz => by
  obtain rfl : z = (n : Int) := by simpa using hz
  omega⟩
theorem GoingS.step {m : Int} {F : List Core} (hr : rightF m F = true) {n : Nat} {out Q : List Int} {z : Int} {x : Core} (h : GoingS F n out (Q ++ [z])) (hx : F[z.toNat]? = some x) : GoingS F n (out ++ [z]) (Q ++ x.kids.reverse ++ undL x) := by
  have T := treeS hr
  obtain ⟨hz0, hz1⟩ := h.inF z (by simp)
  have hzl : z.toNat < F.length := by omega
  have kin : ∀ k ∈ x.kids, 0 ≤ k ∧ k < (F.length : Int) := fun k hkk => by
    have h2 := (nodeOk_iff.1 (((rightF_iff m F).1 hr).2.1 _ x hx)).2.2.1 k hkk
    obtain ⟨c, hc, _⟩ := kidB_iff.1 (kidOk_iff.1 h2).2
    obtain ⟨e1, e2, _⟩ := getC_some hc
    omega
  have hord : allI F z = z :: (undL x ++ x.kids.flatMap (allI F)).take 0 ++ ((if x.under = -1 then [] else allI F x.under) ++ x.kids.flatMap (allI F)) := by
    have := allI_open hr hx
    rw [show ((z.toNat : Nat) : Int) = z by omega] at this
    rw [this]
    simp
  refine ⟨?_, fun y hy => ?_⟩
  · rw [← h.eq, List.reverse_append, List.reverse_append, List.reverse_append, List.reverse_reverse, List.flatMap_append, List.flatMap_append, List.reverse_singleton, List.singleton_append, List.flatMap_cons, hord]
    unfold undL
    by_cases hu : x.under = -1
    · rw [if_pos hu, if_pos hu]
      simp
    · rw [if_neg hu, if_neg hu]
      simp
  · rcases List.mem_append.1 hy with hy | hy
    · rcases List.mem_append.1 hy with hy | hy
      · exact h.inF y (by simp [hy])
      · exact kin y (by simpa using hy)
    · unfold undL at hy
      by_cases hu : x.under = -1
      · rw [if_pos hu] at hy; cases hy
      · rw [if_neg hu] at hy
        obtain ⟨s, u, e1, e2, _⟩ := right_under hr hx hu
        have := (List.getElem?_eq_some_iff.1 e2).1
        obtain rfl : y = x.under := by simpa using hy
        omega
theorem GoingS.len {F : List Core} {n : Nat} {out P : List Int} (h : GoingS F n out P) : out.length + P.length ≤ (allI F (n : Int)).length := by
  have h1 := congrArg List.length h.eq
  rw [List.length_append] at h1
  have h2 : ∀ l : List Int, l.length ≤ (l.flatMap (allI F)).length := fun l => by
    induction l with
    | nil => simp
    | cons a r ih =>
      have : 0 < (allI F a).length := by
        unfold allI allF
        obtain ⟨t, ht⟩ := ordN_head (kids := kidsS F) (F.length + 1) a.toNat
        rw [ht]
        simp
      rw [List.flatMap_cons, List.length_append, List.length_cons]
      omega
  have h3 := h2 P.reverse
  rw [List.length_reverse] at h3
  omega
def ordB (sh : Bool) (F : List Core) (n : Int) : List Int := if sh then allI F n else ordI F n
def undB (sh : Bool) (x : Core) : List Int := if sh then undL x else []
def GoingB (sh : Bool) (F : List Core) (n : Nat) (out P : List Int) : Prop := if sh then GoingS F n out P else Going F n out P
section
variable {sh : Bool} {F : List Core} {n : Nat} {out P Q : List Int}
theorem GoingB.start (h : n < F.length) : GoingB sh F n [] [(n : Int)] := by
  cases sh
  · exact Going.start h
  · exact GoingS.start h
theorem GoingB.eq (h : GoingB sh F n out P) : out ++ P.reverse.flatMap (ordB sh F) = ordB sh F (n : Int) := by
  cases sh
  · exact Going.eq h
  · exact GoingS.eq h
theorem GoingB.inF (h : GoingB sh F n out P) : ∀ z ∈ P, 0 ≤ z ∧ z < (F.length : Int) := by
  cases sh
  · exact Going.inF h
  · exact GoingS.inF h
theorem GoingB.len (h : GoingB sh F n out P) : out.length + P.length ≤ (ordB sh F (n : Int)).length := by
  cases sh
  · exact Going.len h
  · exact GoingS.len h
theorem GoingB.step {m : Int} (hr : rightF m F = true) {z : Int} {x : Core} (h : GoingB sh F n out (Q ++ [z])) (hx : F[z.toNat]? = some x) : GoingB sh F n (out ++ [z]) (Q ++ x.kids.reverse ++ undB sh x) := by
  cases sh
  · have := Going.step hr h hx
    show Going F n (out ++ [z]) (Q ++ x.kids.reverse ++ [])
    rw [List.append_nil]
    exact this
  · exact GoingS.step hr h hx
theorem ordB_len {m : Int} (hr : rightF m F = true) (hn : n < F.length) : (ordB sh F (n : Int)).length ≤ F.length := by
  cases sh
  · exact ordI_len hr hn
  · exact allI_len hr hn
end
end Go.Proofs.YtkgbgnmmgmnnlaaGreatDoor
namespace Go.Proofs.YtkgbgnmmgmnnlaaGreatDoor
open Go.RowKit Go.Shelf
attribute [local go_sem] Oper.semAt_some
set_option maxHeartbeats 8000000 in
set_option maxRecDepth 100000 in
theorem worder_any (a : Option Addr) (len cap : Nat) (m : Int) (L : List NodeD) (n : Nat) (sh : Bool) (w : World) (h : NodeRow w a len cap L) (hs : smallF L) (hr : rightF m (coreL L) = true) (hkl : n < len) :
    Calls Tryz.prog 70 #[.slice a len cap, .int .i64 n, .bool sh] w (OwnPostI w (ordB sh (coreL L) n)) := by
  have hk : n < (coreL L).length := by rw [coreL_len, h.hlen]; exact hkl
  have hn : In64 (n : Int) := ⟨by omega, by have := h.len64; omega⟩
  have NR := Lib.hid h
  have HRT := Lib.hid hr
  have HL := Lib.hid h.hlen
  have HS := Lib.hid hs
  obtain ⟨b, off, x0, rfl, hb1, -, -, -⟩ := h.get (k := n) hkl
  clear h hs hn hr
  refine callsIn_wide (n := 8) |>.1 ?_
  refine callsIn_of_wp_marks Tryz.func70 rfl trivial ?_ rfl
  simp only [Tryz.ntmps70, List.size_toArray, List.length_cons, List.length_nil, Nat.reduceAdd, Nat.reduceSub, Array.replicate_succ, Array.replicate_zero, List.push_toArray, List.append_toArray, List.nil_append, List.cons_append]
  gi_wp2
  obtain ⟨i0, hi0, hz0, hz1, hz2⟩ := info_parts int_info
  have HN : Hid ((ordB sh (coreL L) n).length ≤ 1000) := Lib.hid (Nat.le_trans (ordB_len HRT.out hk) (by rw [coreL_len]; exact HS.out.1))
  have GO0 := Lib.hid (GoingB.start (sh := sh) hk)
  have HA0 : Hid (Hand w ((w.alloc (.cells #[.int .i64 n] 3)).alloc (.cells #[.slice (some ⟨w.heap.size, 0, none⟩) 1 1] 27)) w.heap.size (w.heap.size + 1) w.heap.size 1 (.slice none 0 0) [] [(n : Int)]) := Lib.hid (by
    have h1 : (w.alloc (.cells #[.int .i64 n] 3)).heap.size = w.heap.size + 1 := by simp
    have h2 := World.ownsRow_lit (base := w.heap.size) (e := 3) (size := 1) w #[.int .i64 n] 1 (Nat.le_refl _) (by unfold maxLen; omega) (by simp)
    refine ⟨(below_box w _).alloc (by simp) _, ?_, by omega, h2.alloc _, World.ownsRow_nil _ _ _ _, by simp [Value.ownBlock]⟩
    have := Boxed.new (w.alloc (.cells #[.int .i64 n] 3)) 27 (.slice (some ⟨w.heap.size, 0, none⟩) 1 1)
    rwa [h1] at this)
  have HKN0 := Lib.hid hk
  clear hk
  refine wpIn_loop (fun a' W => ∃ (ds : List Nat) (out P : List Int) (vo : Value) (Bp g cp : Nat) (u9 u10 u11 u12 u13 u16 u17 u18 u19 u20 u21 u22 u23 u24 u25 u26 u27 u28 u29 u30 u31 u32 u33 u34 u35 u36 u37 u38 u39 u40 u41 u42 u43 u44 u45 u46 u47 u48 u49 u50 u51 u52 u53 u54 u55 u56 u57 u58 u59 u60 : Value), Hid (Hand w W w.heap.size Bp g cp vo out P) ∧ Hid (GoingB sh (coreL L) n out P) ∧ Hid (Marks w.heap.size ds W) ∧ a' = { tmps := #[.slice (some ⟨b, off, none⟩) len cap, .int .i64 n, .bool sh, undef, undef, undef, .slice none 0 0, vo, .pointer (some ⟨Bp, 0, none⟩), u9, u10, u11, u12, u13, .int .i64 n, .slice (some ⟨w.heap.size, 0, none⟩) 1 1, u16, u17, u18, u19, u20, u21, u22, u23, u24, u25, u26, u27, u28, u29, u30, u31, u32, u33, u34, u35, u36, u37, u38, u39, u40, u41, u42, u43, u44, u45, u46, u47, u48, u49, u50, u51, u52, u53, u54, u55, u56, u57, u58, u59, u60], defers := ds.map markD })
    (fun a' _ => (ordB sh (coreL L) n).length - sliceN (a'.tmps.getD 7 undef)) ?_ ?_
  · exact ⟨[], [], [(n : Int)], _, _, _, _, _, _, _, _, _, _, _, _, _, _, _, _, _, _, _, _, _, _, _, _, _, _, _, _, _, _, _, _, _, _, _, _, _, _, _, _, _, _, _, _, _, _, _, _, _, _, _, _, _, _, HA0, GO0, Lib.hid ⟨List.nodup_nil, fun D hD => by cases hD⟩, rfl⟩
  · clear GO0 HA0
    rintro a' W ⟨ds, out, P, vo, Bp, g, cp, u9, u10, u11, u12, u13, u16, u17, u18, u19, u20, u21, u22, u23, u24, u25, u26, u27, u28, u29, u30, u31, u32, u33, u34, u35, u36, u37, u38, u39, u40, u41, u42, u43, u44, u45, u46, u47, u48, u49, u50, u51, u52, u53, u54, u55, u56, u57, u58, u59, u60, HA, GO, MK, rfl⟩
    rcases List.eq_nil_or_concat P with rfl | ⟨Q, z, hP⟩
    · have pc : W.cell? ⟨Bp, 0, none⟩ = some (.slice (some ⟨g, 0, none⟩) 0 cp) := HA.out.pile.cell
      gi_wp2
      refine leaves_marks w.heap.size (fun W => W.ownsRow w.heap.size 3 1 vo out.length (out.map encI) ∧ Below w.heap.size w W) ?_ ?_ ds W MK.out ⟨HA.out.orow, HA.out.below⟩
      · rintro W5 D ⟨h1, h2⟩ hD hK
        have hlt := (Array.getElem?_eq_some_iff.1 hK).1
        refine ⟨h1.kept (grownBy_putObj' W5 D _) ?_, (h2.grown (grownBy_putObj' W5 D _) (by omega) (fun k e => by injection e with e; omega))⟩
        cases hv : vo.ownBlock with
        | none => exact .inl rfl
        | some k =>
          refine .inr (fun e => ?_)
          injection e with e
          obtain ⟨c, t, f, hc⟩ := own_cells h1 k hv
          rw [e, hK] at hc
          cases hc
      · rintro W5 ⟨h1, h2⟩
        rw [map_encI] at h1
        have hout : out = ordB sh (coreL L) n := by
          have := GO.out.eq
          simpa using this
        rw [hout] at h1
        exact ⟨vo, by simp [results, Tryz.results70], vo, rfl, h1, h2⟩
    · rw [List.concat_eq_append] at hP
      subst hP
      have pc : W.cell? ⟨Bp, 0, none⟩ = some (.slice (some ⟨g, 0, none⟩) (Q.length + 1) cp) := by simpa using HA.out.pile.cell
      have pf := HA.out.pile.frozen
      have zc : W.cell? ⟨g, Q.length, none⟩ = some (.int .i64 z) := by
        have := HA.out.prow.cells (g := g) rfl Q.length (.int .i64 z) (by simp)
        rwa [Go.WideShapes.add_plain, Nat.zero_add] at this
      obtain ⟨hz0, hz1'⟩ := GO.out.inF z (by simp)
      obtain ⟨zi, rfl⟩ : ∃ zi : Nat, z = zi := ⟨z.toNat, by omega⟩
      have hzl : zi < len := by rw [coreL_len, HL.out] at hz1'; omega
      have hcp : (Q.length : Int) ≤ (cp : Int) := by
        rcases HA.out.prow.2 with ⟨hv, _⟩ | ⟨_, _, _, hv, _, _, h1, _⟩
        · cases hv
        · injection hv with _ _ h3
          subst h3
          simp at h1
          omega
      have HA1 := Lib.hid HA.out.pop
      have hsz := HA.out.size
      have hlen := GO.out.len
      have hln := HN.out
      have hq64 : Q.length ≤ 1000 := by simp at hlen; omega
      have ho64 : out.length ≤ 1000 := by omega
      clear hz0 hz1' hlen hln
      gi_wp2_with (first
        | (gi_at_builtin
           refine wpListIn_append_keep _ rfl _ _ 27 rfl w.heap.size 3 i0 _ 1 8 Tryz.underlying27 hi0 hz0 hz1 hz2 rfl (by decide) vo out.length (out.map encI) rfl (HA1.out.orow.alloc _) ⟨W.heap.size, 0, none⟩ 1 1 [encI (zi : Int)] rfl rfl (by simpa using cell_one_new (W.setCell ⟨Bp, 0, none⟩ (.slice (some ⟨g, 0, none⟩) Q.length cp)) (encI (zi : Int)) 3) (by simp [Value.oneCell']) (by decide) (by unfold maxLen; omega) (by omega) (by simp; omega) ?_
           intro g2 cap2 w2 hown2 hold2 hg2 hat2 hlt2
           have HA2 := Lib.hid (HA1.out.more hown2 hg2 hat2)
           have BX2 := Lib.hid (NR.out.below HA2.out.below)
           obtain ⟨b', off', y, hab, hb2, hx, hat, hok⟩ := BX2.out.get hzl
           injection hab with hab
           injection hab with e1 e2
           subst e1 e2
           have c6 := hat.c6
           have HX := Lib.hid hx
           have HKR := Lib.hid (hok.kids)
           have HKN : Hid (y.kN ≤ 1000) := Lib.hid (by rw [← hok.kids.hlen]; exact (HS.out.2 y (List.mem_of_getElem? hx)).1)
           have HLOW : Hid (∀ b' off', y.kA = some ⟨b', off', none⟩ → 0 < y.kN → b' < w.heap.size) := Lib.hid (fun b' off' ha hp => by
             obtain ⟨_, _, y2, e1, _, hy, _, hoky⟩ := NR.out.get hzl
             obtain rfl : y = y2 := Option.some.inj (hx.symm.trans hy)
             rcases hoky.kids.row.cells with h0 | ⟨b2, o2, ha2, hlt, _⟩
             · omega
             · rw [ha] at ha2
               injection ha2 with ha2
               injection ha2 with e3
               omega)
           have MK2 := Lib.hid (((MK.out.kept (grownBy_setCell' W Bp _) (fun r e => .inl (by cases e; exact ⟨_, _, _, HA.out.pile⟩))).kept (World.grownBy_alloc _ (.cells #[.int .i64 (zi : Int)] 3) none) (fun r e => by cases e)).kept hg2 (fun r e => .inl (own_cells (HA1.out.orow.alloc _) r e)))
           clear hat hx hok hold2 hown2 hg2 hat2)
        | (refine ⟨trivial, ?_⟩; gi_at_call 100; refine (callsIn_wide.2 (backward_any _ _ _ _)).mono ?_; rintro e w3 ⟨rfl, rfl⟩))
      have hbs := Boxed.new w2 27 (.slice y.kA y.kN y.kC)
      have hsz2 := HA2.out.size
      refine wpIn_rangeFunc_ownG (F := Fence.wide) (n := 8) rfl (by decide) (gf := 121) (lb := #[.pointer (some ⟨w2.heap.size, 0, none⟩)]) rfl trivial (enters_of Tryz.func121 (by kernel_rfl) rfl)
        (back_stops Fence.wide 7 trivial rfl (by decide) w2.heap.size w.heap.size y.kA y.kN y.kC y.core.kids (w2.alloc (.cells #[.slice y.kA y.kN y.kC] 27)) (by simp) hbs.cell (HKR.out.below (below_box _ _)) HLOW.out)
        (fun h k => ⟨k.1.trans h.1, h.2.trans k.2⟩) (fun W l o o' hl h hc hw => ⟨World.putObj_heap_other (by simp at hl; omega), belowK_b (w := w2.alloc (.cells #[.slice y.kA y.kN y.kC] 27)) (by simp; omega) W l o o' hl h hc hw⟩) (Below.refl _ _) (fun _ => rfl)
        (fun pre W' => ∃ g cp, Hand w W' w.heap.size Bp g cp (.slice (some ⟨g2, 0, none⟩) (out.length + 1) cap2) (out ++ [(zi : Int)]) (Q ++ pre.map Prod.snd) ∧ Boxed W' w2.heap.size 27 (.slice y.kA y.kN y.kC) ∧ Marks w.heap.size ds W')
        (fun _ _ _ => False)
        (fun pre X Y row h hg hr => by
          obtain ⟨g, cp, hh, hb, hm⟩ := h
          refine ⟨g, cp, hh.other hg (fun r e => ⟨by have := (hr r e).1; simp at this; omega, (hr r e).2⟩), hb.kept hg (fun e => ?_), hm.kept hg (fun r e => .inr (fun hd => ?_))⟩
          · have := (hr _ e.symm).1
            simp at this
            omega
          · have h1 := (hr r e).1
            have h2 := (Array.getElem?_eq_some_iff.1 (MK2.out.at_ r hd).2).1
            simp at h1
            omega)
        (fun _ _ _ _ _ hs _ _ => hs)
        ⟨g, cp, by simpa using HA2.out.alloc _, hbs, MK2.out.kept (World.grownBy_alloc _ _ none) (fun r e => by cases e)⟩
        (fun x => { tmps := #[.slice (some ⟨b, off, none⟩) len cap, .int .i64 n, .bool sh, undef, undef, undef, .slice none 0 0, .slice (some ⟨g2, 0, none⟩) (out.length + 1) cap2, .pointer (some ⟨Bp, 0, none⟩), .int .i64 (Q.length : Int), .int .i64 (zi : Int), u11, .int .i64 x.2, u13, .int .i64 n, .slice (some ⟨w.heap.size, 0, none⟩) 1 1, .slice (some ⟨g, 0, none⟩) (Q.length + 1) cp, .int .i64 ((Q.length : Int) + 1), .bool true, .slice (some ⟨g, 0, none⟩) (Q.length + 1) cp, .int .i64 ((Q.length : Int) + 1), .int .i64 (Q.length : Int), .slice (some ⟨g, 0, none⟩) (Q.length + 1) cp, .int .i64 (Q.length : Int), .pointer (some ⟨g, Q.length, none⟩), .int .i64 (zi : Int), .slice (some ⟨g, 0, none⟩) (Q.length + 1) cp, .int .i64 (Q.length : Int), .slice (some ⟨g, 0, none⟩) Q.length cp, vo, .int .i64 (zi : Int), .slice (some ⟨W.heap.size, 0, none⟩) 1 1, .slice (some ⟨g2, 0, none⟩) (out.length + 1) cap2, .slice (some ⟨b, off, none⟩) len cap, .int .i64 (zi : Int), .pointer (some ⟨b, off + zi * 10, none⟩), .pointer (some ⟨b, off + zi * 10 + 6, none⟩), .slice y.kA y.kN y.kC, .func (.func 121) #[] #[.pointer (some ⟨w2.heap.size, 0, none⟩)], .int .i64 x.1, .int .i64 x.2, u41, u42, u43, u44, u45, u46, u47, u48, u49, u50, u51, u52, u53, u54, u55, u56, u57, u58, u59, u60], defers := [] }) ?assign ?body ?done ?stop
      case assign =>
        intro l x W K hK
        gi_wp2
        exact hK
      case body =>
        rintro l pre x W5 ⟨g5, cp5, HH, hbx, hm⟩ hlt
        have pc5 := HH.pile.cell
        have hsz5 := HH.size
        have hkn := HKN.out
        have hpl : (Q ++ pre.map Prod.snd).length ≤ 2000 := by simp; omega
        obtain ⟨k5, hk5⟩ : ∃ k5, (Q ++ pre.map Prod.snd).length = k5 := ⟨_, rfl⟩
        have HK5 := Lib.hid hk5
        have HP := Lib.hid HH
        rw [hk5] at pc5 hpl
        have hrow := HH.prow
        rw [hk5] at hrow
        have HROW := Lib.hid hrow
        clear hrow hk5 HH
        gi_wp2_with (gi_at_builtin
                     refine wpListIn_append_keep _ rfl _ _ 27 rfl w.heap.size 3 i0 _ 1 8 Tryz.underlying27 hi0 hz0 hz1 hz2 rfl (by decide) (.slice (some ⟨g5, 0, none⟩) k5 cp5) k5 ((Q ++ pre.map Prod.snd).map encI) rfl (HROW.out.alloc _) ⟨W5.heap.size, 0, none⟩ 1 1 [encI x.2] rfl rfl (cell_one_new W5 (encI x.2) 3) (by simp [Value.oneCell']) (by decide) (by unfold maxLen; omega) (by omega) (by simp; omega) ?_
                     intro g6 cap6 w6 hown6 hold6 hg6 hat6 hlt6
                     obtain ⟨hb6, hh6⟩ := HP.out.push (by rw [HK5.out]; exact hown6) (by rw [HK5.out]; exact hg6) (by rw [HK5.out]; exact hat6)
                     obtain ⟨-, -, -, hk6, hbl6⟩ := HP.out.pile.appended (by decide) HP.out.prow HP.out.size HP.out.low (by rw [← HK5.out] at hown6; exact hown6) (by rw [HK5.out]; exact hg6)
                     have c6 := hb6.cell
                     have f6 := hb6.frozen
                     rw [HK5.out] at c6 hh6 hk6 hbl6)
        have hne6 : w2.heap.size ≠ Bp := Nat.ne_of_gt HA2.out.pile.lt
        have hbx6 := (hbx.alloc (.cells #[encI x.2] 3)).kept hg6 ((hbx.alloc (.cells #[encI x.2] 3)).not_row (by decide) (HROW.out.alloc _))
        have hbx7 := hbx6.kept (grownBy_setCell' w6 Bp (.slice (some ⟨g6, 0, none⟩) (k5 + 1) cap6)) (fun e => hne6 (by injection e))
        have hm6 := ((hm.kept (World.grownBy_alloc _ (.cells #[encI x.2] 3) none) (fun r e => by cases e)).kept hg6 (fun r e => .inl (own_cells (HROW.out.alloc _) r e))).kept (grownBy_setCell' w6 Bp (.slice (some ⟨g6, 0, none⟩) (k5 + 1) cap6)) (fun r e => .inl (by cases e; exact ⟨_, _, _, hb6⟩))
        exact ⟨hk6.from _, ⟨hbx7.trans hbx.symm, hbl6⟩, g6, cap6, by simpa using hh6, hbx7, hm6⟩
      case done =>
        rintro D ys W4 hD rfl ⟨g4, cp4, HH, hbx, hm⟩ hK
        have hkl := HKR.out.hlen
        rw [← hkl, backTo_snd] at HH
        have pc4 := HH.pile.cell
        have hsz4 := HH.size
        have HP := Lib.hid HH
        have GO2 := Lib.hid (GO.out.step HRT.out (z := (zi : Int)) (x := y.core) (by rw [Int.toNat_natCast]; exact coreL_get HX.out))
        have SN1 := Lib.hid (sliceN_own HA.out.orow)
        have BX4 := Lib.hid (NR.out.below HP.out.below)
        obtain ⟨b', off', y', hab, hb4, hx4, hat4, -⟩ := BX4.out.get hzl
        injection hab with hab
        injection hab with e1 e2
        subst e1 e2
        obtain rfl : y = y' := Option.some.inj (HX.out.symm.trans hx4)
        have c8 := hat4.c8
        clear hx4 hat4
        have MD : Hid (Marks w.heap.size (D :: ds) W4) := Lib.hid ⟨List.nodup_cons.2 ⟨fun hd => by
          have h2 := (Array.getElem?_eq_some_iff.1 (MK2.out.at_ D hd).2).1
          simp at hD
          omega, hm.nd⟩, fun E hE => by
          rcases List.mem_cons.1 hE with rfl | hE
          · exact ⟨by simp at hD; omega, hK⟩
          · exact hm.at_ E hE⟩
        have MEA : Hid (∀ cap : Nat, (ordB sh (coreL L) n).length - sliceN (.slice (some ⟨g2, 0, none⟩) (out.length + 1) cap) < (ordB sh (coreL L) n).length - sliceN vo) := Lib.hid (fun cap => by
          show (ordB sh (coreL L) n).length - (out.length + 1) < (ordB sh (coreL L) n).length - sliceN vo
          rw [SN1.out]
          have h1 := GO.out.len
          rw [List.length_append] at h1
          simp at h1
          omega)
        have hkn := HKN.out
        have hpl : (Q ++ y.core.kids.reverse).length ≤ 2000 := by rw [List.length_append, List.length_reverse]; omega
        obtain ⟨k4, hk4⟩ : ∃ k4, (Q ++ y.core.kids.reverse).length = k4 := ⟨_, rfl⟩
        have HK4 := Lib.hid hk4
        rw [hk4] at pc4 hpl
        have hrow := HH.prow
        rw [hk4] at hrow
        have HROW := Lib.hid hrow
        clear HH hrow hk4 hkl hkn
        cases sh with
        | false =>
          have HNX := Lib.hid HP.out.next
          rw [HK4.out] at HNX
          have GO3 : Hid (GoingB false (coreL L) n (out ++ [(zi : Int)]) (Q ++ y.core.kids.reverse)) := Lib.hid (by
            have := GO2.out
            unfold undB at this
            rwa [if_neg (by decide), List.append_nil] at this)
          gi_wp2
          refine ⟨⟨D :: ds, out ++ [(zi : Int)], Q ++ y.core.kids.reverse, _, W4.heap.size, ⟨g4, cp4, HNX⟩, GO3, Lib.hid (MD.out.kept (World.grownBy_alloc _ _ none) (fun r e => by cases e)), ⟨rfl, rfl⟩, rfl⟩, ?_⟩
          exact MEA.out _
        | true =>
          by_cases hu : y.core.under = -1
          · have HNX := Lib.hid HP.out.next
            rw [HK4.out] at HNX
            have GO3 : Hid (GoingB true (coreL L) n (out ++ [(zi : Int)]) (Q ++ y.core.kids.reverse)) := Lib.hid (by
              have := GO2.out
              unfold undB undL at this
              rw [if_pos rfl] at this
              rwa [if_pos hu, List.append_nil] at this)
            rw [hu] at c8
            clear hu
            gi_wp2
            refine ⟨⟨D :: ds, out ++ [(zi : Int)], Q ++ y.core.kids.reverse, _, W4.heap.size, ⟨g4, cp4, HNX⟩, GO3, Lib.hid (MD.out.kept (World.grownBy_alloc _ _ none) (fun r e => by cases e)), ⟨rfl, rfl⟩, rfl⟩, ?_⟩
            exact MEA.out _
          · obtain ⟨s, u, hs, hsg, -⟩ := right_under HRT.out (coreL_get HX.out) hu
            have hsl := (List.getElem?_eq_some_iff.1 hsg).1
            rw [coreL_len, HL.out] at hsl
            have GO3 : Hid (GoingB true (coreL L) n (out ++ [(zi : Int)]) (Q ++ y.core.kids.reverse ++ [(s : Int)])) := Lib.hid (by
              have := GO2.out
              unfold undB undL at this
              rw [if_pos rfl] at this
              rwa [if_neg hu, hs] at this)
            rw [hs] at c8
            have hsn : ((s : Int) != -1) = true := bne_iff_ne.2 (by omega)
            clear hu hs hsg
            gi_wp2_with (gi_at_builtin
                         refine wpListIn_append_keep _ rfl _ _ 27 rfl w.heap.size 3 i0 _ 1 8 Tryz.underlying27 hi0 hz0 hz1 hz2 rfl (by decide) (.slice (some ⟨g4, 0, none⟩) k4 cp4) k4 ((Q ++ y.core.kids.reverse).map encI) rfl (HROW.out.alloc _) ⟨W4.heap.size, 0, none⟩ 1 1 [encI (s : Int)] rfl rfl (cell_one_new W4 (encI (s : Int)) 3) (by simp [Value.oneCell']) (by decide) (by unfold maxLen; omega) (by omega) (by simp; omega) ?_
                         intro g6 cap6 w6 hown6 hold6 hg6 hat6 hlt6
                         obtain ⟨hb6, hh6⟩ := HP.out.push (by rw [HK4.out]; exact hown6) (by rw [HK4.out]; exact hg6) (by rw [HK4.out]; exact hat6)
                         have c6 := hb6.cell
                         have f6 := hb6.frozen
                         rw [HK4.out] at c6 hh6
                         have H6 := Lib.hid hh6
                         have M6 := Lib.hid (((MD.out.kept (World.grownBy_alloc _ (.cells #[encI (s : Int)] 3) none) (fun r e => by cases e)).kept hg6 (fun r e => .inl (own_cells (HROW.out.alloc _) r e))).kept (grownBy_setCell' w6 Bp (.slice (some ⟨g6, 0, none⟩) (k4 + 1) cap6)) (fun r e => .inl (by cases e; exact ⟨_, _, _, hb6⟩)))
                         clear hh6 hg6 hat6 hown6 hold6)
            have HNX := Lib.hid H6.out.next
            rw [List.length_append, HK4.out] at HNX
            refine ⟨⟨D :: ds, out ++ [(zi : Int)], Q ++ y.core.kids.reverse ++ [(s : Int)], _, (w6.setCell ⟨Bp, 0, none⟩ (.slice (some ⟨g6, 0, none⟩) (k4 + 1) cap6)).heap.size, ⟨g6, cap6, HNX⟩, GO3, Lib.hid (M6.out.kept (World.grownBy_alloc _ _ none) (fun r e => by cases e)), ⟨rfl, by simp [World.setCell]⟩, rfl⟩, ?_⟩
            exact MEA.out _
      case stop =>
        rintro D c pre W _ _ h _
        exact h.elim
end Go.Proofs.YtkgbgnmmgmnnlaaGreatDoor
namespace Go.Proofs.YtkgbgnmmgmnnlaaGreatDoor
open Go.RowKit Go.Shelf
theorem OwnPostI.new {w w' : World} {l : List Int} {e : Ending} (h : OwnPostI w l e w') (hin : ∀ z ∈ l, In64 z) : ∃ a len cap, e = .returned (.slice a len cap) ∧ IntRow w' a len cap l ∧ Below w.heap.size w w' ∧ ∀ b off, a = some ⟨b, off, none⟩ → w.heap.size ≤ b := by
  obtain ⟨v, he, ho, hb⟩ := h
  obtain ⟨a9, cap9, hv9, hr9, hlo9⟩ := IntRow.of_own_new (M := l) (n := l.length) rfl ho hin
  exact ⟨a9, l.length, cap9, by rw [he, hv9], hr9, hb, hlo9⟩
def OrdNew (w : World) (l : List Int) (e : Ending) (w' : World) : Prop := ∃ a len cap, e = .returned (.slice a len cap) ∧ IntRow w' a len cap l ∧ Below w.heap.size w w' ∧ ∀ b off, a = some ⟨b, off, none⟩ → w.heap.size ≤ b
theorem OrdNew.post {w w' : World} {l : List Int} {e : Ending} (h : OrdNew w l e w') : OrdPost w l e w' := by
  obtain ⟨a, len, cap, h1, h2, h3, _⟩ := h
  exact ⟨a, len, cap, h1, h2, h3⟩
theorem ordB_in {m : Int} {sh : Bool} {F : List Core} (hr : rightF m F = true) {n : Nat} (hn : n < F.length) : ∀ z ∈ ordB sh F (n : Int), ∃ t : Nat, z = t ∧ t < F.length := by
  intro z hz
  cases sh
  · have hz : z ∈ ordI F (n : Int) := hz
    unfold ordI at hz
    obtain ⟨k, hk, rfl⟩ := List.mem_map.1 hz
    exact ⟨k, rfl, (tree_of_right hr).ord_lt _ n hn k (by rw [Int.toNat_natCast] at hk; exact hk)⟩
  · have hz : z ∈ allI F (n : Int) := hz
    unfold allI at hz
    obtain ⟨k, hk, rfl⟩ := List.mem_map.1 hz
    exact ⟨k, rfl, (treeS hr).ord_lt _ _ hn k (by rw [Int.toNat_natCast] at hk; exact hk)⟩
set_option maxHeartbeats 4000000 in
theorem wtree_any (a : Option Addr) (len cap : Nat) (m : Int) (L : List NodeD) (n : Nat) (w : World) (h : NodeRow w a len cap L) (hs : smallF L) (hr : rightF m (coreL L) = true) (hn : n < len) :
    Calls Tryz.prog 34 #[.slice a len cap, .int .i64 n] w (OrdNew w (ordI (coreL L) n)) := by
  have CO : Hid (Calls Tryz.prog 70 #[.slice a len cap, .int .i64 n, .bool false] w (OwnPostI w (ordI (coreL L) n))) := Lib.hid (worder_any a len cap m L n false w h hs hr hn)
  have HIN : Hid (∀ z ∈ ordI (coreL L) n, In64 z) := Lib.hid (fun z hz => by
    obtain ⟨t, rfl, ht⟩ := ordB_in (sh := false) hr (by rw [coreL_len, h.hlen]; exact hn) z hz
    rw [coreL_len, h.hlen] at ht
    have := h.len64
    exact ⟨by omega, by omega⟩)
  clear h hs hr
  go_enter Tryz.func34, Tryz.ntmps34
  go_wp2_with (go_at_call 70; (with_reducible refine CO.out.mono ?_); intro e w1 hp; obtain ⟨a9, len9, cap9, rfl, hr9, hb9, hlo9⟩ := hp.new HIN.out)
  go_ret
  exact ⟨a9, len9, cap9, rfl, hr9, hb9, hlo9⟩
set_option maxHeartbeats 4000000 in
theorem wfull_any (a : Option Addr) (len cap : Nat) (m : Int) (L : List NodeD) (n : Nat) (w : World) (h : NodeRow w a len cap L) (hs : smallF L) (hr : rightF m (coreL L) = true) (hn : n < len) :
    Calls Tryz.prog 109 #[.slice a len cap, .int .i64 n] w (OrdNew w (allI (coreL L) n)) := by
  have CO : Hid (Calls Tryz.prog 70 #[.slice a len cap, .int .i64 n, .bool true] w (OwnPostI w (allI (coreL L) n))) := Lib.hid (worder_any a len cap m L n true w h hs hr hn)
  have HIN : Hid (∀ z ∈ allI (coreL L) n, In64 z) := Lib.hid (fun z hz => by
    obtain ⟨t, rfl, ht⟩ := ordB_in (sh := true) hr (by rw [coreL_len, h.hlen]; exact hn) z hz
    rw [coreL_len, h.hlen] at ht
    have := h.len64
    exact ⟨by omega, by omega⟩)
  clear h hs hr
  go_enter Tryz.func109, Tryz.ntmps109
  go_wp2_with (go_at_call 70; (with_reducible refine CO.out.mono ?_); intro e w1 hp; obtain ⟨a9, len9, cap9, rfl, hr9, hb9, hlo9⟩ := hp.new HIN.out)
  go_ret
  exact ⟨a9, len9, cap9, rfl, hr9, hb9, hlo9⟩
end Go.Proofs.YtkgbgnmmgmnnlaaGreatDoor
