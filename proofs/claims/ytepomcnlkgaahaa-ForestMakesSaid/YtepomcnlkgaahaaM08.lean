/- Texts joined in build order: ForestOrderFn ForestAheadFn. -/
import Derived.Test.YtepomcnlkgaahaaM07
/- Package forest's Order. -/
namespace Go.Proofs.Ytepomcnlkgaahaa
open Go.RowKit Go.Shelf
attribute [local go_sem] Oper.semAt_some
set_option maxHeartbeats 8000000 in
set_option maxRecDepth 100000 in
theorem orderNot_any (a : Option Addr) (len cap : Nat) (m : Int) (L : List NodeD) (n : Int) (w : World) (h : NodeRow w a len cap L) (hm : In64 m) (hn : In64 n) (hs : smallF L) (hq : thereF m (coreL L) n = false) :
    Calls Try.prog 16 #[forV a len cap m, .int .i64 n] w (OrdPost w (ordZ m (coreL L) n)) := by
  have BX := Lib.hid ((Box.start (m := m) h).keep (below_box _ (.cells #[.int .i64 n] 3)))
  have NB := Lib.hid (lit_one (w.alloc (forB a len cap m)) 3 n hn)
  have CK : Hid (∀ W b, NodeRow W a len cap L → IntRow W b 1 1 [n] → Calls Try.prog 38 #[forV a len cap m, .slice b 1 1] W fun e w' => e = .returned (.bool false) ∧ Below W.heap.size W w') := Lib.hid (fun W b h1 h2 => by
    rw [← hq, ← knowsB_one]
    exact knows_any a len cap m L b 1 1 [n] W h1 hm hs h2)
  simp only [World.size_alloc] at NB
  have z0 := BX.out.c0
  have z1 := BX.out.c1
  have HR : Hid (ordZ m (coreL L) n = []) := Lib.hid (by unfold ordZ; rw [hq]; rfl)
  clear h hm hs hn hq
  go_enter Try.func16, Try.ntmps16
  go_wp2_with (first
                  | (go_at_call 38; ((with_reducible refine (CK.out _ _ BX.out.row NB.out).mono ?_); rintro e w1 ⟨rfl, hb⟩; have BX := Lib.hid (BX.out.keep hb); have z0 := BX.out.c0; have z1 := BX.out.c1; clear hb))
                  | (go_at_call 39; ((with_reducible refine (CU.out _ BX.out.row).mono ?_); rintro e w1 ⟨rfl, rfl⟩)))
  go_ret
  exact ⟨none, 0, 0, rfl, by rw [HR.out]; exact ⟨SRow.nil, (fun z hz => by cases hz), fun _ => rfl⟩, BX.out.below⟩
/-- Tree order, as numbers. -/
def ordI (F : List Core) (z : Int) : List Int := (ordF F z.toNat).map Int.ofNat
/-- What is in order, and what is still to come. -/
structure Going (F : List Core) (n : Nat) (out P : List Int) : Prop where
  eq : out ++ P.reverse.flatMap (ordI F) = ordI F (n : Int)
  inF : ∀ z ∈ P, 0 ≤ z ∧ z < (F.length : Int)
theorem Going.start {F : List Core} {n : Nat} (h : n < F.length) : Going F n [] [(n : Int)] := ⟨by simp, fun z hz => by
  obtain rfl : z = (n : Int) := by simpa using hz
  omega⟩
theorem Going.step {m : Int} {F : List Core} (hr : rightF m F = true) {n : Nat} {out Q : List Int} {z : Int} {x : Core} (h : Going F n out (Q ++ [z])) (hx : F[z.toNat]? = some x) : Going F n (out ++ [z]) (Q ++ x.kids.reverse) := by
  have T := tree_of_right hr
  obtain ⟨hz0, hz1⟩ := h.inF z (by simp)
  have hzl : z.toNat < F.length := by omega
  have hk : kidsF F z.toNat = x.kids.map Int.toNat := by unfold kidsF; rw [hx]
  have kin : ∀ k ∈ x.kids, 0 ≤ k ∧ k < (F.length : Int) := fun k hkk => by
    have hm : k.toNat ∈ kidsF F z.toNat := by rw [hk]; exact List.mem_map.2 ⟨k, hkk, rfl⟩
    have h1 := T.kid_lt _ _ hm
    have h2 := (nodeOk_iff.1 (((rightF_iff m F).1 hr).2.1 _ x hx)).2.2.1 k hkk
    obtain ⟨c, hc, _⟩ := kidB_iff.1 (kidOk_iff.1 h2).2
    obtain ⟨e1, _, _⟩ := getC_some hc
    omega
  have hord : ordI F z = z :: x.kids.flatMap (ordI F) := by
    unfold ordI ordF
    have h1 := T.ord_more (F.length + 1) z.toNat hzl (by omega)
    have h2 : ordN (kidsF F) (F.length + 1 + 1) z.toNat = z.toNat :: (kidsF F z.toNat).flatMap (ordN (kidsF F) (F.length + 1)) := rfl
    rw [← h1, h2, hk, List.map_cons, List.flatMap_map, List.map_flatMap]
    have e0 : Int.ofNat z.toNat = z := by show ((z.toNat : Nat) : Int) = z; omega
    rw [e0]
  refine ⟨?_, fun y hy => ?_⟩
  · rw [← h.eq, List.reverse_append, List.reverse_append, List.reverse_reverse, List.flatMap_append, List.reverse_singleton, List.singleton_append, List.flatMap_cons, hord]
    simp
  · rcases List.mem_append.1 hy with hy | hy
    · exact h.inF y (by simp [hy])
    · exact kin y (by simpa using hy)
theorem Going.len {F : List Core} {n : Nat} {out P : List Int} (h : Going F n out P) : out.length + P.length ≤ (ordI F (n : Int)).length := by
  have h1 := congrArg List.length h.eq
  rw [List.length_append] at h1
  have h2 : ∀ l : List Int, l.length ≤ (l.flatMap (ordI F)).length := fun l => by
    induction l with
    | nil => simp
    | cons a r ih =>
      have : 0 < (ordI F a).length := by
        unfold ordI ordF
        obtain ⟨t, ht⟩ := ordN_head (kids := kidsF F) (F.length + 1) a.toNat
        rw [ht]
        simp
      rw [List.flatMap_cons, List.length_append, List.length_cons]
      omega
  have h3 := h2 P.reverse
  rw [List.length_reverse] at h3
  omega
theorem ordI_len {m : Int} {F : List Core} (hr : rightF m F = true) {n : Nat} (hn : n < F.length) : (ordI F (n : Int)).length ≤ F.length := by
  have T := tree_of_right hr
  unfold ordI
  rw [List.length_map, Int.toNat_natCast]
  exact nodup_lt F.length _ (T.ord_nodup _ n hn (by omega)) (fun x hx => T.ord_lt _ n hn x hx)
theorem map_encI : ∀ l : List Int, l.map encI = l.flatMap encZ
  | [] => rfl
  | c :: r => by rw [List.map_cons, List.flatMap_cons, map_encI r]; rfl
def sliceN : Value → Nat
  | .slice _ l _ => l
  | _ => 0
theorem sliceN_own {w : World} {base : Nat} {e : TypeId} {size n : Nat} {v : Value} {xs : List Value} (h : w.ownsRow base e size v n xs) : sliceN v = n := by
  rcases h.2 with ⟨rfl, h0⟩ | ⟨g, cap, cur, rfl, _⟩
  · exact h0.symm
  · rfl
theorem backTo_snd (K : List Int) : (backTo K K.length).map Prod.snd = K.reverse := by
  apply List.ext_getElem
  · simp [backTo]
  · intro i h1 h2
    have hi : i < K.length := by simpa using h2
    simp [backTo, backF]
    rw [List.getElem?_eq_getElem (by omega)]
    rfl
set_option maxHeartbeats 8000000 in
set_option maxRecDepth 100000 in
theorem orderIs_any (a : Option Addr) (len cap : Nat) (m : Int) (L : List NodeD) (n : Nat) (w : World) (h : NodeRow w a len cap L) (hm : In64 m) (hs : smallF L) (hq : thereF m (coreL L) n = true) :
    Calls Try.prog 16 #[forV a len cap m, .int .i64 n] w (OrdPost w (ordZ m (coreL L) n)) := by
  have hn : In64 (n : Int) := ⟨by omega, by have h1 := (there_nat hq).2; obtain ⟨k, h2, h3⟩ := h1; rw [coreL_len, h.hlen] at h3; have := h.len64; omega⟩
  have BX := Lib.hid ((Box.start (m := m) h).keep (below_box _ (.cells #[.int .i64 n] 3)))
  have NB := Lib.hid (lit_one (w.alloc (forB a len cap m)) 3 n hn)
  have CK : Hid (∀ W b, NodeRow W a len cap L → IntRow W b 1 1 [(n : Int)] → Calls Try.prog 38 #[forV a len cap m, .slice b 1 1] W fun e w' => e = .returned (.bool true) ∧ Below W.heap.size W w') := Lib.hid (fun W b h1 h2 => by
    rw [← hq, ← knowsB_one]
    exact knows_any a len cap m L b 1 1 [(n : Int)] W h1 hm hs h2)
  simp only [World.size_alloc] at NB
  have z0 := BX.out.c0
  have z1 := BX.out.c1
  obtain ⟨hr, k, hkn, hk⟩ := there_nat hq
  obtain rfl : n = k := Int.ofNat.inj hkn
  have HRT := Lib.hid hr
  have HL := Lib.hid h.hlen
  have HS := Lib.hid hs
  clear h hm hs hn hq hr hkn
  refine callsIn_wide (n := 8) |>.1 ?_
  refine callsIn_of_wp_marks Try.func16 rfl trivial ?_ rfl
  simp only [Try.ntmps16, List.size_toArray, List.length_cons, List.length_nil, Nat.reduceAdd, Nat.reduceSub, Array.replicate_succ, Array.replicate_zero, List.push_toArray, List.append_toArray, List.nil_append, List.cons_append]
  gi_wp2_with (refine ⟨trivial, ?_⟩; gi_at_call 38; refine (callsIn_wide.2 (CK.out _ _ BX.out.row NB.out)).mono ?_; rintro e w1 ⟨rfl, hb⟩; have BX := Lib.hid (BX.out.keep hb); have z0 := BX.out.c0; have z1 := BX.out.c1; clear hb)
  obtain ⟨b, off, x0, rfl, hb1, -, -, -⟩ := BX.out.row.get (k := n) (by rw [coreL_len, HL.out] at hk; exact hk)
  obtain ⟨i0, hi0, hz0, hz1, hz2⟩ := info_parts int_info
  have HN : Hid ((ordI (coreL L) (n : Int)).length ≤ 1000) := Lib.hid (Nat.le_trans (ordI_len HRT.out hk) (by rw [coreL_len]; exact HS.out.1))
  have GO0 := Lib.hid (Going.start hk)
  have HOZ : Hid (ordZ m (coreL L) n = ordI (coreL L) (n : Int)) := Lib.hid (by rw [ordZ_eq HRT.out hk]; unfold ordI; rw [Int.toNat_natCast])
  have HA0 : Hid (Hand w1 ((w1.alloc (.cells #[.int .i64 n] 3)).alloc (.cells #[.slice (some ⟨w1.heap.size, 0, none⟩) 1 1] 26)) w1.heap.size (w1.heap.size + 1) w1.heap.size 1 (.slice none 0 0) [] [(n : Int)]) := Lib.hid (by
    have h1 : (w1.alloc (.cells #[.int .i64 n] 3)).heap.size = w1.heap.size + 1 := by simp
    have h2 := World.ownsRow_lit (base := w1.heap.size) (e := 3) (size := 1) w1 #[.int .i64 n] 1 (Nat.le_refl _) (by unfold maxLen; omega) (by simp)
    refine ⟨(below_box w1 _).alloc (by simp) _, ?_, by omega, h2.alloc _, World.ownsRow_nil _ _ _ _, by simp [Value.ownBlock]⟩
    have := Boxed.new (w1.alloc (.cells #[.int .i64 n] 3)) 26 (.slice (some ⟨w1.heap.size, 0, none⟩) 1 1)
    rwa [h1] at this)
  have HKN0 := Lib.hid hk
  clear z0 z1 hk NB CK
  refine wpIn_loop (fun a' W => ∃ (ds : List Nat) (out P : List Int) (vo : Value) (Bp g cp : Nat) (u7 u8 u9 u10 u18 u19 u20 u21 u22 u23 u24 u25 u26 u27 u28 u29 u30 u31 u32 u33 u34 u35 u36 u37 u38 u39 u40 u41 u42 u43 u44 u45 u46 u47 u48 u49 : Value), Hid (Hand w1 W w1.heap.size Bp g cp vo out P) ∧ Hid (Going (coreL L) n out P) ∧ Hid (Marks w1.heap.size ds W) ∧ a' = { tmps := #[forV (some ⟨b, off, none⟩) len cap m, .int .i64 n, .pointer (some ⟨w.heap.size, 0, none⟩), undef, .slice none 0 0, vo, .pointer (some ⟨Bp, 0, none⟩), u7, u8, u9, u10, .agg #[.slice (some ⟨b, off, none⟩) len cap, .int .i64 m], .int .i64 n, .slice (some ⟨w.heap.size + 1, 0, none⟩) 1 1, .bool true, .bool false, .int .i64 n, .slice (some ⟨w1.heap.size, 0, none⟩) 1 1, u18, u19, u20, u21, u22, u23, u24, u25, u26, u27, u28, u29, u30, u31, u32, u33, u34, u35, u36, u37, u38, u39, u40, u41, u42, u43, u44, u45, u46, u47, u48, u49], defers := ds.map markD })
    (fun a' _ => (ordI (coreL L) (n : Int)).length - sliceN (a'.tmps.getD 5 undef)) ?_ ?_
  · exact ⟨[], [], [(n : Int)], _, _, _, _, _, _, _, _, _, _, _, _, _, _, _, _, _, _, _, _, _, _, _, _, _, _, _, _, _, _, _, _, _, _, _, _, _, _, _, _, HA0, GO0, Lib.hid ⟨List.nodup_nil, fun D hD => by cases hD⟩, rfl⟩
  · clear GO0 HA0
    rintro a' W ⟨ds, out, P, vo, Bp, g, cp, u7, u8, u9, u10, u18, u19, u20, u21, u22, u23, u24, u25, u26, u27, u28, u29, u30, u31, u32, u33, u34, u35, u36, u37, u38, u39, u40, u41, u42, u43, u44, u45, u46, u47, u48, u49, HA, GO, MK, rfl⟩
    rcases List.eq_nil_or_concat P with rfl | ⟨Q, z, hP⟩
    · have pc : W.cell? ⟨Bp, 0, none⟩ = some (.slice (some ⟨g, 0, none⟩) 0 cp) := HA.out.pile.cell
      gi_wp2
      refine leaves_marks w1.heap.size (fun W => W.ownsRow w1.heap.size 3 1 vo out.length (out.map encI) ∧ Below w.heap.size w W) ?_ ?_ ds W MK.out ⟨HA.out.orow, BX.out.below.trans (HA.out.below.mono BX.out.below.size)⟩
      · rintro W5 D ⟨h1, h2⟩ hD hK
        have hlt := (Array.getElem?_eq_some_iff.1 hK).1
        have hwb := BX.out.below.size
        refine ⟨h1.kept (grownBy_putObj' W5 D _) ?_, (h2.grown (grownBy_putObj' W5 D _) (by omega) (fun k e => by injection e with e; omega))⟩
        cases hv : vo.ownBlock with
        | none => exact .inl rfl
        | some k =>
          refine .inr (fun e => ?_)
          injection e with e
          obtain ⟨c, t, f, hc⟩ := own_cells h1 k hv
          rw [e, hK] at hc
          cases hc
      · rintro W5 ⟨h1, h2⟩
        rw [map_encI] at h1
        have hout : out = ordI (coreL L) (n : Int) := by
          have := GO.out.eq
          simpa using this
        have hin : ∀ z ∈ out, In64 z := fun z hz => by
          rw [hout] at hz
          unfold ordI at hz
          obtain ⟨k, hk, rfl⟩ := List.mem_map.1 hz
          have hkl := (tree_of_right HRT.out).ord_lt _ _ HKN0.out k (by rw [Int.toNat_natCast] at hk; exact hk)
          have := HS.out.1
          rw [coreL_len] at hkl
          exact ⟨by show (_ : Int) ≤ ((k : Nat) : Int); omega, by show ((k : Nat) : Int) ≤ _; omega⟩
        obtain ⟨a9, cap9, hv9, hr9, -⟩ := IntRow.of_own_new (M := out) (n := out.length) rfl h1 hin
        refine ⟨vo, by simp [results, Try.results16], a9, out.length, cap9, by rw [hv9], ?_, h2⟩
        rw [HOZ.out, ← hout]
        exact hr9
    · rw [List.concat_eq_append] at hP
      subst hP
      have pc : W.cell? ⟨Bp, 0, none⟩ = some (.slice (some ⟨g, 0, none⟩) (Q.length + 1) cp) := by simpa using HA.out.pile.cell
      have pf := HA.out.pile.frozen
      have zc : W.cell? ⟨g, Q.length, none⟩ = some (.int .i64 z) := by
        have := HA.out.prow.cells (g := g) rfl Q.length (.int .i64 z) (by simp)
        rwa [Go.WideShapes.add_plain, Nat.zero_add] at this
      obtain ⟨hz0, hz1'⟩ := GO.out.inF z (by simp)
      obtain ⟨zi, rfl⟩ : ∃ zi : Nat, z = zi := ⟨z.toNat, by omega⟩
      have hzl : zi < len := by rw [coreL_len, HL.out] at hz1'; omega
      have hcp : (Q.length : Int) ≤ (cp : Int) := by
        rcases HA.out.prow.2 with ⟨hv, _⟩ | ⟨_, _, _, hv, _, _, h1, _⟩
        · cases hv
        · injection hv with _ _ h3
          subst h3
          simp at h1
          omega
      have HA1 := Lib.hid HA.out.pop
      have hsz := HA.out.size
      have hlen := GO.out.len
      have hln := HN.out
      have hq64 : Q.length ≤ 1000 := by simp at hlen; omega
      have ho64 : out.length ≤ 1000 := by omega
      clear hz0 hz1' hlen hln
      gi_wp2_with (first
        | (gi_at_builtin
           refine wpListIn_append_keep _ rfl _ _ 26 rfl w1.heap.size 3 i0 _ 1 8 Try.underlying26 hi0 hz0 hz1 hz2 rfl (by decide) vo out.length (out.map encI) rfl (HA1.out.orow.alloc _) ⟨W.heap.size, 0, none⟩ 1 1 [encI (zi : Int)] rfl rfl (by simpa using cell_one_new (W.setCell ⟨Bp, 0, none⟩ (.slice (some ⟨g, 0, none⟩) Q.length cp)) (encI (zi : Int)) 3) (by simp [Value.oneCell']) (by decide) (by unfold maxLen; omega) (by omega) (by simp; omega) ?_
           intro g2 cap2 w2 hown2 hold2 hg2 hat2 hlt2
           have HA2 := Lib.hid (HA1.out.more hown2 hg2 hat2)
           have BX2 := Lib.hid (BX.out.keep HA2.out.below)
           have z0 := BX2.out.c0
           obtain ⟨b', off', y, hab, hb2, hx, hat, hok⟩ := BX2.out.row.get hzl
           injection hab with hab
           injection hab with e1 e2
           subst e1 e2
           have c6 := hat.c6
           have HX := Lib.hid hx
           have HKR := Lib.hid (hok.kids)
           have HKN : Hid (y.kN ≤ 1000) := Lib.hid (by rw [← hok.kids.hlen]; exact (HS.out.2 y (List.mem_of_getElem? hx)).1)
           have HLOW : Hid (∀ b' off', y.kA = some ⟨b', off', none⟩ → 0 < y.kN → b' < w1.heap.size) := Lib.hid (fun b' off' ha hp => by
             obtain ⟨_, _, y2, e1, _, hy, _, hoky⟩ := BX.out.row.get hzl
             obtain rfl : y = y2 := Option.some.inj (hx.symm.trans hy)
             rcases hoky.kids.row.cells with h0 | ⟨b2, o2, ha2, hlt, _⟩
             · omega
             · rw [ha] at ha2
               injection ha2 with ha2
               injection ha2 with e3
               omega)
           have MK2 := Lib.hid (((MK.out.kept (grownBy_setCell' W Bp _) (fun r e => .inl (by cases e; exact ⟨_, _, _, HA.out.pile⟩))).kept (World.grownBy_alloc _ (.cells #[.int .i64 (zi : Int)] 3) none) (fun r e => by cases e)).kept hg2 (fun r e => .inl (own_cells (HA1.out.orow.alloc _) r e)))
           clear hat hx hok hold2 hown2 hg2 hat2)
        | (refine ⟨trivial, ?_⟩; gi_at_call 40; refine (callsIn_wide.2 (backward_any _ _ _ _)).mono ?_; rintro e w3 ⟨rfl, rfl⟩))
      have hbs := Boxed.new w2 26 (.slice y.kA y.kN y.kC)
      have hsz2 := HA2.out.size
      refine wpIn_rangeFunc_ownG (F := Fence.wide) (n := 8) rfl (by decide) (gf := 55) (lb := #[.pointer (some ⟨w2.heap.size, 0, none⟩)]) rfl trivial (enters_of Try.func55 (by kernel_rfl) rfl)
        (back_stops Fence.wide 7 trivial rfl (by decide) w2.heap.size w1.heap.size y.kA y.kN y.kC y.core.kids (w2.alloc (.cells #[.slice y.kA y.kN y.kC] 26)) (by simp) hbs.cell (HKR.out.below (below_box _ _)) HLOW.out)
        (fun h k => ⟨k.1.trans h.1, h.2.trans k.2⟩) (fun W l o o' hl h hc hw => ⟨World.putObj_heap_other (by simp at hl; omega), belowK_b (w := w2.alloc (.cells #[.slice y.kA y.kN y.kC] 26)) (by simp; omega) W l o o' hl h hc hw⟩) (Below.refl _ _) (fun _ => rfl)
        (fun pre W' => ∃ g cp, Hand w1 W' w1.heap.size Bp g cp (.slice (some ⟨g2, 0, none⟩) (out.length + 1) cap2) (out ++ [(zi : Int)]) (Q ++ pre.map Prod.snd) ∧ Boxed W' w2.heap.size 26 (.slice y.kA y.kN y.kC) ∧ Marks w1.heap.size ds W')
        (fun _ _ _ => False)
        (fun pre X Y row h hg hr => by
          obtain ⟨g, cp, hh, hb, hm⟩ := h
          refine ⟨g, cp, hh.other hg (fun r e => ⟨by have := (hr r e).1; simp at this; omega, (hr r e).2⟩), hb.kept hg (fun e => ?_), hm.kept hg (fun r e => .inr (fun hd => ?_))⟩
          · have := (hr _ e.symm).1
            simp at this
            omega
          · have h1 := (hr r e).1
            have h2 := (Array.getElem?_eq_some_iff.1 (MK2.out.at_ r hd).2).1
            simp at h1
            omega)
        (fun _ _ _ _ _ hs _ _ => hs)
        ⟨g, cp, by simpa using HA2.out.alloc _, hbs, MK2.out.kept (World.grownBy_alloc _ _ none) (fun r e => by cases e)⟩
        (fun x => { tmps := #[forV (some ⟨b, off, none⟩) len cap m, .int .i64 n, .pointer (some ⟨w.heap.size, 0, none⟩), undef, .slice none 0 0, .slice (some ⟨g2, 0, none⟩) (out.length + 1) cap2, .pointer (some ⟨Bp, 0, none⟩), .int .i64 (Q.length : Int), .int .i64 (zi : Int), u9, .int .i64 x.2, .agg #[.slice (some ⟨b, off, none⟩) len cap, .int .i64 m], .int .i64 n, .slice (some ⟨w.heap.size + 1, 0, none⟩) 1 1, .bool true, .bool false, .int .i64 n, .slice (some ⟨w1.heap.size, 0, none⟩) 1 1, .slice (some ⟨g, 0, none⟩) (Q.length + 1) cp, .int .i64 ((Q.length : Int) + 1), .bool true, .slice (some ⟨g, 0, none⟩) (Q.length + 1) cp, .int .i64 ((Q.length : Int) + 1), .int .i64 (Q.length : Int), .slice (some ⟨g, 0, none⟩) (Q.length + 1) cp, .int .i64 (Q.length : Int), .pointer (some ⟨g, Q.length, none⟩), .int .i64 (zi : Int), .slice (some ⟨g, 0, none⟩) (Q.length + 1) cp, .int .i64 (Q.length : Int), .slice (some ⟨g, 0, none⟩) Q.length cp, vo, .int .i64 (zi : Int), .slice (some ⟨W.heap.size, 0, none⟩) 1 1, .slice (some ⟨g2, 0, none⟩) (out.length + 1) cap2, .pointer (some ⟨w.heap.size, 0, none⟩), .slice (some ⟨b, off, none⟩) len cap, .int .i64 (zi : Int), .pointer (some ⟨b, off + zi * 10, none⟩), .pointer (some ⟨b, off + zi * 10 + 6, none⟩), .slice y.kA y.kN y.kC, .func (.func 55) #[] #[.pointer (some ⟨w2.heap.size, 0, none⟩)], .int .i64 x.1, .int .i64 x.2, u44, u45, u46, u47, u48, u49], defers := [] }) ?assign ?body ?done ?stop
      case assign =>
        intro l x W K hK
        gi_wp2
        exact hK
      case body =>
        rintro l pre x W5 ⟨g5, cp5, HH, hbx, hm⟩ hlt
        have pc5 := HH.pile.cell
        have hsz5 := HH.size
        have hkn := HKN.out
        have hpl : (Q ++ pre.map Prod.snd).length ≤ 2000 := by simp; omega
        obtain ⟨k5, hk5⟩ : ∃ k5, (Q ++ pre.map Prod.snd).length = k5 := ⟨_, rfl⟩
        have HK5 := Lib.hid hk5
        have HP := Lib.hid HH
        rw [hk5] at pc5 hpl
        have hrow := HH.prow
        rw [hk5] at hrow
        have HROW := Lib.hid hrow
        clear hrow hk5 HH
        gi_wp2_with (gi_at_builtin
                     refine wpListIn_append_keep _ rfl _ _ 26 rfl w1.heap.size 3 i0 _ 1 8 Try.underlying26 hi0 hz0 hz1 hz2 rfl (by decide) (.slice (some ⟨g5, 0, none⟩) k5 cp5) k5 ((Q ++ pre.map Prod.snd).map encI) rfl (HROW.out.alloc _) ⟨W5.heap.size, 0, none⟩ 1 1 [encI x.2] rfl rfl (cell_one_new W5 (encI x.2) 3) (by simp [Value.oneCell']) (by decide) (by unfold maxLen; omega) (by omega) (by simp; omega) ?_
                     intro g6 cap6 w6 hown6 hold6 hg6 hat6 hlt6
                     obtain ⟨hb6, hh6⟩ := HP.out.push (by rw [HK5.out]; exact hown6) (by rw [HK5.out]; exact hg6) (by rw [HK5.out]; exact hat6)
                     obtain ⟨-, -, -, hk6, hbl6⟩ := HP.out.pile.appended (by decide) HP.out.prow HP.out.size HP.out.low (by rw [← HK5.out] at hown6; exact hown6) (by rw [HK5.out]; exact hg6)
                     have c6 := hb6.cell
                     have f6 := hb6.frozen
                     rw [HK5.out] at c6 hh6 hk6 hbl6)
        have hne6 : w2.heap.size ≠ Bp := Nat.ne_of_gt HA2.out.pile.lt
        have hbx6 := (hbx.alloc (.cells #[encI x.2] 3)).kept hg6 ((hbx.alloc (.cells #[encI x.2] 3)).not_row (by decide) (HROW.out.alloc _))
        have hbx7 := hbx6.kept (grownBy_setCell' w6 Bp (.slice (some ⟨g6, 0, none⟩) (k5 + 1) cap6)) (fun e => hne6 (by injection e))
        have hm6 := ((hm.kept (World.grownBy_alloc _ (.cells #[encI x.2] 3) none) (fun r e => by cases e)).kept hg6 (fun r e => .inl (own_cells (HROW.out.alloc _) r e))).kept (grownBy_setCell' w6 Bp (.slice (some ⟨g6, 0, none⟩) (k5 + 1) cap6)) (fun r e => .inl (by cases e; exact ⟨_, _, _, hb6⟩))
        exact ⟨hk6.from _, ⟨hbx7.trans hbx.symm, hbl6⟩, g6, cap6, by simpa using hh6, hbx7, hm6⟩
      case done =>
        rintro D ys W4 hD rfl ⟨g4, cp4, HH, hbx, hm⟩ hK
        have hkl := HKR.out.hlen
        rw [← hkl, backTo_snd] at HH
        have pc4 := HH.pile.cell
        have hsz4 := HH.size
        have HP := Lib.hid HH
        have HM := Lib.hid hm
        have GO2 := Lib.hid (GO.out.step HRT.out (z := (zi : Int)) (x := y.core) (by rw [Int.toNat_natCast]; exact coreL_get HX.out))
        have SN1 := Lib.hid (sliceN_own HA.out.orow)
        have HNX := Lib.hid HP.out.next
        rw [show (Q ++ y.core.kids.reverse).length = Q.length + y.kN by rw [List.length_append, List.length_reverse, hkl]] at HNX
        have MD : Hid (Marks w1.heap.size (D :: ds) W4) := Lib.hid ⟨List.nodup_cons.2 ⟨fun hd => by
          have h2 := (Array.getElem?_eq_some_iff.1 (MK2.out.at_ D hd).2).1
          simp at hD
          omega, hm.nd⟩, fun E hE => by
          rcases List.mem_cons.1 hE with rfl | hE
          · exact ⟨by simp at hD; omega, hK⟩
          · exact hm.at_ E hE⟩
        clear HH
        gi_wp2
        refine ⟨⟨D :: ds, out ++ [(zi : Int)], Q ++ y.core.kids.reverse, _, W4.heap.size, g4, cp4, _, _, _, _, _, _, _, _, _, _, _, _, _, _, _, _, _, _, _, _, _, _, _, _, _, _, _, _, _, _, _, _, _, _, _, _, HNX, GO2, Lib.hid (MD.out.kept (World.grownBy_alloc _ _ none) (fun r e => by cases e)), rfl⟩, ?_⟩
        · show (ordI (coreL L) (n : Int)).length - sliceN (.slice (some ⟨g2, 0, none⟩) (out.length + 1) cap2) < (ordI (coreL L) (n : Int)).length - sliceN vo
          rw [SN1.out]
          have h1 := GO.out.len
          rw [List.length_append] at h1
          show _ - (out.length + 1) < _
          simp at h1
          omega
      case stop =>
        rintro D c pre W _ _ h _
        exact h.elim
end Go.Proofs.Ytepomcnlkgaahaa
/- Package forest's Ahead; all of its functions' contracts. -/
namespace Go.Proofs.Ytepomcnlkgaahaa
open Go.RowKit
theorem orderFn_any (a : Option Addr) (len cap : Nat) (m : Int) (L : List NodeD) (n : Int) (w : World) (h : NodeRow w a len cap L) (hm : In64 m) (hn : In64 n) (hs : smallF L) :
    Calls Try.prog 16 #[forV a len cap m, .int .i64 n] w (OrdPost w (ordZ m (coreL L) n)) := by
  cases hq : thereF m (coreL L) n with
  | false => exact orderNot_any a len cap m L n w h hm hn hs hq
  | true =>
    obtain ⟨_, k, rfl, _⟩ := there_nat hq
    exact orderIs_any a len cap m L k w h hm hs hq
theorem ahead_find {m : Int} {F : List Core} (hr : rightF m F = true) {x y : Nat} (hx : x < F.length) (hy : y < F.length) : aheadZ m F (x : Int) (y : Int) = decide (findZ (ordZ m F (rootF F x : Nat)) (x : Int) < findZ (ordZ m F (rootF F x : Nat)) (y : Int)) := by
  have T := tree_of_right hr
  have hrl := rootF_lt hr hx
  rw [aheadZ_eq hr hx hy, ordZ_eq hr hrl]
  have hf : ∀ (l : List Nat) (z : Nat), findZ (l.map Int.ofNat) (z : Int) = if posN l z < l.length then (posN l z : Int) else -1 := fun l z => by
    have h1 : findN (l.map Int.ofNat) (z : Int) = posN l z := by
      unfold findN posN
      rw [List.findIdx_map]
      congr 1
      funext q
      show (Int.ofNat q == (z : Int)) = (q == z)
      rw [Bool.eq_iff_iff]
      simp
      omega
    unfold findZ
    rw [h1, List.length_map]
  rw [hf, hf]
  have hxin : x ∈ ordF F (rootF F x) := T.in_root (f := F.length + 1) hx (by omega)
  have hpx := posN_mem hxin
  rw [if_pos hpx]
  unfold aheadF
  by_cases he : rootF F x = rootF F y
  · rw [decide_eq_true he, Bool.true_and]
    have hyin : y ∈ ordF F (rootF F x) := by
      rw [he]
      exact T.in_root (f := F.length + 1) hy (by omega)
    rw [if_pos (posN_mem hyin)]
    exact decide_eq_decide.2 (by omega)
  · rw [decide_eq_false he, Bool.false_and]
    have hyn : y ∉ ordF F (rootF F x) := fun hm => by
      have hh := (T.mem_ord _ _ hrl (by omega) y hy).1 hm
      have h2 : parF F (rootF F x) = none := T.root_top _ x hx (by have := T.rank_le x hx; omega)
      exact he (T.root_of (f := F.length + 1) hy (by have := T.rank_le y hy; omega) hh h2).symm
    have hpy : ¬ posN (ordF F (rootF F x)) y < (ordF F (rootF F x)).length := fun h => by
      have h2 : ((ordF F (rootF F x))[posN (ordF F (rootF F x)) y] == y) = true := List.findIdx_getElem (w := h)
      have h3 : (ordF F (rootF F x))[posN (ordF F (rootF F x)) y] = y := by simpa using h2
      exact hyn (h3 ▸ List.getElem_mem h)
    rw [if_neg hpy]
    exact (decide_eq_false (by omega)).symm
set_option maxHeartbeats 4000000 in
set_option maxRecDepth 100000 in
theorem aheadFn_any (a : Option Addr) (len cap : Nat) (m : Int) (L : List NodeD) (x y : Int) (w : World) (h : NodeRow w a len cap L) (hm : In64 m) (hx : In64 x) (hy : In64 y) (hs : smallF L) :
    Calls Try.prog 19 #[forV a len cap m, .int .i64 x, .int .i64 y] w fun e w' => e = .returned (.bool (aheadZ m (coreL L) x y)) ∧ Below w.heap.size w w' := by
  have HCL : Hid ((coreL L).length = len) := Lib.hid (by rw [coreL_len, h.hlen])
  have hlen := h.len64
  have BX := Lib.hid ((Box.start (m := m) h).keep (below_box _ (.cells #[.int .i64 x, .int .i64 y] 3)))
  have NB := Lib.hid (lit_two (w.alloc (forB a len cap m)) 3 x y hx hy)
  have CK : Hid (∀ W b, NodeRow W a len cap L → IntRow W b 2 2 [x, y] → Calls Try.prog 38 #[forV a len cap m, .slice b 2 2] W fun e w' => e = .returned (.bool (thereF m (coreL L) x && thereF m (coreL L) y)) ∧ Below W.heap.size W w') := Lib.hid (fun W b h1 h2 => by
    rw [← knowsB_two]
    exact knows_any a len cap m L b 2 2 [x, y] W h1 hm hs h2)
  simp only [World.size_alloc] at NB
  have z0 := BX.out.c0
  have z1 := BX.out.c1
  cases q : (thereF m (coreL L) x && thereF m (coreL L) y) with
  | false =>
    rw [q] at CK
    have HR : Hid (aheadZ m (coreL L) x y = false) := Lib.hid (by unfold aheadZ; rw [q]; rfl)
    clear q h hm hs hx hy
    go_enter Try.func19, Try.ntmps19
    go_wp2_with (first
                    | (go_at_call 38; ((with_reducible refine (CK.out _ _ BX.out.row NB.out).mono ?_); rintro e w1 ⟨rfl, hb⟩; have BX := Lib.hid (BX.out.keep hb); have z0 := BX.out.c0; have z1 := BX.out.c1; clear hb))
                    | (go_at_call 39; ((with_reducible refine (CU.out _ BX.out.row).mono ?_); rintro e w1 ⟨rfl, rfl⟩)))
    go_ret
    exact ⟨ret_bool HR.out.symm, BX.out.below⟩
  | true =>
    rw [q] at CK
    rw [Bool.and_eq_true] at q
    obtain ⟨hr, X, rfl, hX⟩ := there_nat q.1
    obtain ⟨-, Y, rfl, hY⟩ := there_nat q.2
    have HA := Lib.hid (ahead_find hr hX hY)
    have hRl := rootF_lt hr hX
    have CU : Hid (∀ W, NodeRow W a len cap L → Calls Try.prog 39 #[.slice a len cap, .int .i64 X] W fun e w' => e = .returned (.int .i64 (rootF (coreL L) X : Nat)) ∧ W = w') := Lib.hid (fun W h => rootUp_any a len cap m L X W h hr (by rw [← HCL.out]; exact hX))
    obtain ⟨R, hR⟩ : ∃ R, rootF (coreL L) X = R := ⟨_, rfl⟩
    rw [hR] at HA CU hRl
    have CO : Hid (∀ W, NodeRow W a len cap L → Calls Try.prog 16 #[forV a len cap m, .int .i64 R] W (OrdPost W (ordZ m (coreL L) R))) := Lib.hid (fun W h => orderFn_any a len cap m L R W h hm ⟨by omega, by rw [HCL.out] at hRl; omega⟩ hs)
    clear q h hm hs hx hy hR hr
    go_enter Try.func19, Try.ntmps19
    go_wp2_with (first
                    | (go_at_call 38; ((with_reducible refine (CK.out _ _ BX.out.row NB.out).mono ?_); rintro e w1 ⟨rfl, hb⟩; have BX := Lib.hid (BX.out.keep hb); have z0 := BX.out.c0; have z1 := BX.out.c1; clear hb))
                    | (go_at_call 39; ((with_reducible refine (CU.out _ BX.out.row).mono ?_); rintro e w1 ⟨rfl, rfl⟩)))
    go_region_held3 (fun w' => w'.cell? ⟨w.heap.size, 0, none⟩ = some (.slice a len cap) ∧ w'.cell? ⟨w.heap.size, 1, none⟩ = some (.int .i64 m)) (go_keep)
      (first
        | (go_at_call 39; refine (CU.out _ (by first | exact BX.out.row | exact BX.out.row.drew)).mono ?_; rintro e w2 ⟨rfl, rfl⟩)
        | (go_at_call 16; refine (CO.out _ (by first | exact BX.out.row | exact BX.out.row.drew)).mono ?_; intro e w2 hp; obtain ⟨a2, n2, c2, rfl, hrow, hb⟩ := hp; have IR := Lib.hid hrow; have BX := Lib.hid (BX.out.keep ((Below.refl _ _).drew.trans hb)); have z0 := BX.out.c0; have z1 := BX.out.c1; clear hrow hb))
    go_wp2_with (go_at_call 41; refine (index_any _ _ _ _ _ _ IR.out).mono ?_; rintro e w3 ⟨rfl, rfl⟩)
    go_ret
    exact ⟨ret_bool HA.out.symm, BX.out.below⟩
theorem forestFns : ForestFns where
  right := fun a len cap m L w h hm hs => rightF_any a len cap m L w h hm hs
  new := fun most w hm => newFn_any most w hm
  make := fun a len cap m L x w h hx hm hs hsx => makeFn_any a len cap m L x w h hx hm hs hsx
  root := fun a len cap m L n w h hm hn hs => rootFn_any a len cap m L n w h hm hn hs
  order := fun a len cap m L n w h hm hn hs => orderFn_any a len cap m L n w h hm hn hs
  holds := fun a len cap m L x y w h hm hx hy hs => holdsFn_any a len cap m L x y w h hm hx hy hs
  place := fun a len cap m L n w h hm hn hs => placeFn_any a len cap m L n w h hm hn hs
  ahead := fun a len cap m L x y w h hm hx hy hs => aheadFn_any a len cap m L x y w h hm hx hy hs
end Go.Proofs.Ytepomcnlkgaahaa
