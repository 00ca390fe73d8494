/- Texts joined in build order: ForestOrderFn ForestAheadFn ShadeTree ShadeFns ShadeFacts AttrOpen ForestOpen. -/
import Derived.Test.YtllfkiifkkcinaaP07
import Derived.Test.YtllfkiifkkcinaaP05
import Derived.Test.YtllfkiifkkcinaaP01
import Derived.Test.YtllfkiifkkcinaaChecked
import Derived.Deep.SlicePairs
import Derived.ProofKit
import Derived.OpenShut
/- Package forest's Order. -/
namespace Go.Proofs.Ytllfkiifkkcinaa
open Go.RowKit Go.Shelf
attribute [local go_sem] Oper.semAt_some
set_option maxHeartbeats 8000000 in
set_option maxRecDepth 100000 in
theorem orderNot_any (a : Option Addr) (len cap : Nat) (m : Int) (L : List NodeD) (n : Int) (w : World) (h : NodeRow w a len cap L) (hm : In64 m) (hn : In64 n) (hs : smallF L) (hq : thereF m (coreL L) n = false) :
    Calls Try.prog 23 #[forV a len cap m, .int .i64 n] w (OrdPost w (ordZ m (coreL L) n)) := by
  have BX := Lib.hid ((Box.start (m := m) h).keep (below_box _ (.cells #[.int .i64 n] 3)))
  have NB := Lib.hid (lit_one (w.alloc (forB a len cap m)) 3 n hn)
  have CK : Hid (∀ W b, NodeRow W a len cap L → IntRow W b 1 1 [n] → Calls Try.prog 64 #[forV a len cap m, .slice b 1 1] W fun e w' => e = .returned (.bool false) ∧ Below W.heap.size W w') := Lib.hid (fun W b h1 h2 => by
    rw [← hq, ← knowsB_one]
    exact knows_any a len cap m L b 1 1 [n] W h1 hm hs h2)
  simp only [World.size_alloc] at NB
  have z0 := BX.out.c0
  have z1 := BX.out.c1
  have HR : Hid (ordZ m (coreL L) n = []) := Lib.hid (by unfold ordZ; rw [hq]; rfl)
  clear h hm hs hn hq
  go_enter Try.func23, Try.ntmps23
  go_wp2_with (first
                  | (go_at_call 64; ((with_reducible refine (CK.out _ _ BX.out.row NB.out).mono ?_); rintro e w1 ⟨rfl, hb⟩; have BX := Lib.hid (BX.out.keep hb); have z0 := BX.out.c0; have z1 := BX.out.c1; clear hb))
                  | (go_at_call 65; ((with_reducible refine (CU.out _ BX.out.row).mono ?_); rintro e w1 ⟨rfl, rfl⟩)))
  go_ret
  exact ⟨none, 0, 0, rfl, by rw [HR.out]; exact ⟨SRow.nil, (fun z hz => by cases hz), fun _ => rfl⟩, BX.out.below⟩
/-- Tree order, as numbers. -/
def ordI (F : List Core) (z : Int) : List Int := (ordF F z.toNat).map Int.ofNat
/-- What is in order, and what is still to come. -/
structure Going (F : List Core) (n : Nat) (out P : List Int) : Prop where
  eq : out ++ P.reverse.flatMap (ordI F) = ordI F (n : Int)
  inF : ∀ z ∈ P, 0 ≤ z ∧ z < (F.length : Int)
theorem Going.start {F : List Core} {n : Nat} (h : n < F.length) : Going F n [] [(n : Int)] := ⟨by simp, fun z hz => by
  obtain rfl : z = (n : Int) := by simpa using hz
  omega⟩
theorem Going.step {m : Int} {F : List Core} (hr : rightF m F = true) {n : Nat} {out Q : List Int} {z : Int} {x : Core} (h : Going F n out (Q ++ [z])) (hx : F[z.toNat]? = some x) : Going F n (out ++ [z]) (Q ++ x.kids.reverse) := by
  have T := tree_of_right hr
  obtain ⟨hz0, hz1⟩ := h.inF z (by simp)
  have hzl : z.toNat < F.length := by omega
  have hk : kidsF F z.toNat = x.kids.map Int.toNat := by unfold kidsF; rw [hx]
  have kin : ∀ k ∈ x.kids, 0 ≤ k ∧ k < (F.length : Int) := fun k hkk => by
    have hm : k.toNat ∈ kidsF F z.toNat := by rw [hk]; exact List.mem_map.2 ⟨k, hkk, rfl⟩
    have h1 := T.kid_lt _ _ hm
    have h2 := (nodeOk_iff.1 (((rightF_iff m F).1 hr).2.1 _ x hx)).2.2.1 k hkk
    obtain ⟨c, hc, _⟩ := kidB_iff.1 (kidOk_iff.1 h2).2
    obtain ⟨e1, _, _⟩ := getC_some hc
    omega
  have hord : ordI F z = z :: x.kids.flatMap (ordI F) := by
    unfold ordI ordF
    have h1 := T.ord_more (F.length + 1) z.toNat hzl (by omega)
    have h2 : ordN (kidsF F) (F.length + 1 + 1) z.toNat = z.toNat :: (kidsF F z.toNat).flatMap (ordN (kidsF F) (F.length + 1)) := rfl
    rw [← h1, h2, hk, List.map_cons, List.flatMap_map, List.map_flatMap]
    have e0 : Int.ofNat z.toNat = z := by show ((z.toNat : Nat) : Int) = z; omega
    rw [e0]
  refine ⟨?_, fun y hy => ?_⟩
  · rw [← h.eq, List.reverse_append, List.reverse_append, List.reverse_reverse, List.flatMap_append, List.reverse_singleton, List.singleton_append, List.flatMap_cons, hord]
    simp
  · rcases List.mem_append.1 hy with hy | hy
    · exact h.inF y (by simp [hy])
    · exact kin y (by simpa using hy)
theorem Going.len {F : List Core} {n : Nat} {out P : List Int} (h : Going F n out P) : out.length + P.length ≤ (ordI F (n : Int)).length := by
  have h1 := congrArg List.length h.eq
  rw [List.length_append] at h1
  have h2 : ∀ l : List Int, l.length ≤ (l.flatMap (ordI F)).length := fun l => by
    induction l with
    | nil => simp
    | cons a r ih =>
      have : 0 < (ordI F a).length := by
        unfold ordI ordF
        obtain ⟨t, ht⟩ := ordN_head (kids := kidsF F) (F.length + 1) a.toNat
        rw [ht]
        simp
      rw [List.flatMap_cons, List.length_append, List.length_cons]
      omega
  have h3 := h2 P.reverse
  rw [List.length_reverse] at h3
  omega
theorem ordI_len {m : Int} {F : List Core} (hr : rightF m F = true) {n : Nat} (hn : n < F.length) : (ordI F (n : Int)).length ≤ F.length := by
  have T := tree_of_right hr
  unfold ordI
  rw [List.length_map, Int.toNat_natCast]
  exact nodup_lt F.length _ (T.ord_nodup _ n hn (by omega)) (fun x hx => T.ord_lt _ n hn x hx)
theorem map_encI : ∀ l : List Int, l.map encI = l.flatMap encZ
  | [] => rfl
  | c :: r => by rw [List.map_cons, List.flatMap_cons, map_encI r]; rfl
def sliceN : Value → Nat
  | .slice _ l _ => l
  | _ => 0
theorem sliceN_own {w : World} {base : Nat} {e : TypeId} {size n : Nat} {v : Value} {xs : List Value} (h : w.ownsRow base e size v n xs) : sliceN v = n := by
  rcases h.2 with ⟨rfl, h0⟩ | ⟨g, cap, cur, rfl, _⟩
  · exact h0.symm
  · rfl
theorem backTo_snd (K : List Int) : (backTo K K.length).map Prod.snd = K.reverse := by
  apply List.ext_getElem
  · simp [backTo]
  · intro i h1 h2
    have hi : i < K.length := by simpa using h2
    simp [backTo, backF]
    rw [List.getElem?_eq_getElem (by omega)]
    rfl
set_option maxHeartbeats 8000000 in
set_option maxRecDepth 100000 in
theorem orderIs_any (a : Option Addr) (len cap : Nat) (m : Int) (L : List NodeD) (n : Nat) (w : World) (h : NodeRow w a len cap L) (hm : In64 m) (hs : smallF L) (hq : thereF m (coreL L) n = true) :
    Calls Try.prog 23 #[forV a len cap m, .int .i64 n] w (OrdPost w (ordZ m (coreL L) n)) := by
  have hn : In64 (n : Int) := ⟨by omega, by have h1 := (there_nat hq).2; obtain ⟨k, h2, h3⟩ := h1; rw [coreL_len, h.hlen] at h3; have := h.len64; omega⟩
  have BX := Lib.hid ((Box.start (m := m) h).keep (below_box _ (.cells #[.int .i64 n] 3)))
  have NB := Lib.hid (lit_one (w.alloc (forB a len cap m)) 3 n hn)
  have CK : Hid (∀ W b, NodeRow W a len cap L → IntRow W b 1 1 [(n : Int)] → Calls Try.prog 64 #[forV a len cap m, .slice b 1 1] W fun e w' => e = .returned (.bool true) ∧ Below W.heap.size W w') := Lib.hid (fun W b h1 h2 => by
    rw [← hq, ← knowsB_one]
    exact knows_any a len cap m L b 1 1 [(n : Int)] W h1 hm hs h2)
  simp only [World.size_alloc] at NB
  have z0 := BX.out.c0
  have z1 := BX.out.c1
  obtain ⟨hr, k, hkn, hk⟩ := there_nat hq
  obtain rfl : n = k := Int.ofNat.inj hkn
  have HRT := Lib.hid hr
  have HL := Lib.hid h.hlen
  have HS := Lib.hid hs
  clear h hm hs hn hq hr hkn
  refine callsIn_wide (n := 8) |>.1 ?_
  refine callsIn_of_wp_marks Try.func23 rfl trivial ?_ rfl
  simp only [Try.ntmps23, List.size_toArray, List.length_cons, List.length_nil, Nat.reduceAdd, Nat.reduceSub, Array.replicate_succ, Array.replicate_zero, List.push_toArray, List.append_toArray, List.nil_append, List.cons_append]
  gi_wp2_with (refine ⟨trivial, ?_⟩; gi_at_call 64; refine (callsIn_wide.2 (CK.out _ _ BX.out.row NB.out)).mono ?_; rintro e w1 ⟨rfl, hb⟩; have BX := Lib.hid (BX.out.keep hb); have z0 := BX.out.c0; have z1 := BX.out.c1; clear hb)
  obtain ⟨b, off, x0, rfl, hb1, -, -, -⟩ := BX.out.row.get (k := n) (by rw [coreL_len, HL.out] at hk; exact hk)
  obtain ⟨i0, hi0, hz0, hz1, hz2⟩ := info_parts int_info
  have HN : Hid ((ordI (coreL L) (n : Int)).length ≤ 1000) := Lib.hid (Nat.le_trans (ordI_len HRT.out hk) (by rw [coreL_len]; exact HS.out.1))
  have GO0 := Lib.hid (Going.start hk)
  have HOZ : Hid (ordZ m (coreL L) n = ordI (coreL L) (n : Int)) := Lib.hid (by rw [ordZ_eq HRT.out hk]; unfold ordI; rw [Int.toNat_natCast])
  have HA0 : Hid (Hand w1 ((w1.alloc (.cells #[.int .i64 n] 3)).alloc (.cells #[.slice (some ⟨w1.heap.size, 0, none⟩) 1 1] 26)) w1.heap.size (w1.heap.size + 1) w1.heap.size 1 (.slice none 0 0) [] [(n : Int)]) := Lib.hid (by
    have h1 : (w1.alloc (.cells #[.int .i64 n] 3)).heap.size = w1.heap.size + 1 := by simp
    have h2 := World.ownsRow_lit (base := w1.heap.size) (e := 3) (size := 1) w1 #[.int .i64 n] 1 (Nat.le_refl _) (by unfold maxLen; omega) (by simp)
    refine ⟨(below_box w1 _).alloc (by simp) _, ?_, by omega, h2.alloc _, World.ownsRow_nil _ _ _ _, by simp [Value.ownBlock]⟩
    have := Boxed.new (w1.alloc (.cells #[.int .i64 n] 3)) 26 (.slice (some ⟨w1.heap.size, 0, none⟩) 1 1)
    rwa [h1] at this)
  have HKN0 := Lib.hid hk
  clear z0 z1 hk NB CK
  refine wpIn_loop (fun a' W => ∃ (ds : List Nat) (out P : List Int) (vo : Value) (Bp g cp : Nat) (u7 u8 u9 u10 u18 u19 u20 u21 u22 u23 u24 u25 u26 u27 u28 u29 u30 u31 u32 u33 u34 u35 u36 u37 u38 u39 u40 u41 u42 u43 u44 u45 u46 u47 u48 u49 : Value), Hid (Hand w1 W w1.heap.size Bp g cp vo out P) ∧ Hid (Going (coreL L) n out P) ∧ Hid (Marks w1.heap.size ds W) ∧ a' = { tmps := #[forV (some ⟨b, off, none⟩) len cap m, .int .i64 n, .pointer (some ⟨w.heap.size, 0, none⟩), undef, .slice none 0 0, vo, .pointer (some ⟨Bp, 0, none⟩), u7, u8, u9, u10, .agg #[.slice (some ⟨b, off, none⟩) len cap, .int .i64 m], .int .i64 n, .slice (some ⟨w.heap.size + 1, 0, none⟩) 1 1, .bool true, .bool false, .int .i64 n, .slice (some ⟨w1.heap.size, 0, none⟩) 1 1, u18, u19, u20, u21, u22, u23, u24, u25, u26, u27, u28, u29, u30, u31, u32, u33, u34, u35, u36, u37, u38, u39, u40, u41, u42, u43, u44, u45, u46, u47, u48, u49], defers := ds.map markD })
    (fun a' _ => (ordI (coreL L) (n : Int)).length - sliceN (a'.tmps.getD 5 undef)) ?_ ?_
  · exact ⟨[], [], [(n : Int)], _, _, _, _, _, _, _, _, _, _, _, _, _, _, _, _, _, _, _, _, _, _, _, _, _, _, _, _, _, _, _, _, _, _, _, _, _, _, _, _, HA0, GO0, Lib.hid ⟨List.nodup_nil, fun D hD => by cases hD⟩, rfl⟩
  · clear GO0 HA0
    rintro a' W ⟨ds, out, P, vo, Bp, g, cp, u7, u8, u9, u10, u18, u19, u20, u21, u22, u23, u24, u25, u26, u27, u28, u29, u30, u31, u32, u33, u34, u35, u36, u37, u38, u39, u40, u41, u42, u43, u44, u45, u46, u47, u48, u49, HA, GO, MK, rfl⟩
    rcases List.eq_nil_or_concat P with rfl | ⟨Q, z, hP⟩
    · have pc : W.cell? ⟨Bp, 0, none⟩ = some (.slice (some ⟨g, 0, none⟩) 0 cp) := HA.out.pile.cell
      gi_wp2
      refine leaves_marks w1.heap.size (fun W => W.ownsRow w1.heap.size 3 1 vo out.length (out.map encI) ∧ Below w.heap.size w W) ?_ ?_ ds W MK.out ⟨HA.out.orow, BX.out.below.trans (HA.out.below.mono BX.out.below.size)⟩
      · rintro W5 D ⟨h1, h2⟩ hD hK
        have hlt := (Array.getElem?_eq_some_iff.1 hK).1
        have hwb := BX.out.below.size
        refine ⟨h1.kept (grownBy_putObj' W5 D _) ?_, (h2.grown (grownBy_putObj' W5 D _) (by omega) (fun k e => by injection e with e; omega))⟩
        cases hv : vo.ownBlock with
        | none => exact .inl rfl
        | some k =>
          refine .inr (fun e => ?_)
          injection e with e
          obtain ⟨c, t, f, hc⟩ := own_cells h1 k hv
          rw [e, hK] at hc
          cases hc
      · rintro W5 ⟨h1, h2⟩
        rw [map_encI] at h1
        have hout : out = ordI (coreL L) (n : Int) := by
          have := GO.out.eq
          simpa using this
        have hin : ∀ z ∈ out, In64 z := fun z hz => by
          rw [hout] at hz
          unfold ordI at hz
          obtain ⟨k, hk, rfl⟩ := List.mem_map.1 hz
          have hkl := (tree_of_right HRT.out).ord_lt _ _ HKN0.out k (by rw [Int.toNat_natCast] at hk; exact hk)
          have := HS.out.1
          rw [coreL_len] at hkl
          exact ⟨by show (_ : Int) ≤ ((k : Nat) : Int); omega, by show ((k : Nat) : Int) ≤ _; omega⟩
        obtain ⟨a9, cap9, hv9, hr9, -⟩ := IntRow.of_own_new (M := out) (n := out.length) rfl h1 hin
        refine ⟨vo, by simp [results, Try.results23], a9, out.length, cap9, by rw [hv9], ?_, h2⟩
        rw [HOZ.out, ← hout]
        exact hr9
    · rw [List.concat_eq_append] at hP
      subst hP
      have pc : W.cell? ⟨Bp, 0, none⟩ = some (.slice (some ⟨g, 0, none⟩) (Q.length + 1) cp) := by simpa using HA.out.pile.cell
      have pf := HA.out.pile.frozen
      have zc : W.cell? ⟨g, Q.length, none⟩ = some (.int .i64 z) := by
        have := HA.out.prow.cells (g := g) rfl Q.length (.int .i64 z) (by simp)
        rwa [Go.WideShapes.add_plain, Nat.zero_add] at this
      obtain ⟨hz0, hz1'⟩ := GO.out.inF z (by simp)
      obtain ⟨zi, rfl⟩ : ∃ zi : Nat, z = zi := ⟨z.toNat, by omega⟩
      have hzl : zi < len := by rw [coreL_len, HL.out] at hz1'; omega
      have hcp : (Q.length : Int) ≤ (cp : Int) := by
        rcases HA.out.prow.2 with ⟨hv, _⟩ | ⟨_, _, _, hv, _, _, h1, _⟩
        · cases hv
        · injection hv with _ _ h3
          subst h3
          simp at h1
          omega
      have HA1 := Lib.hid HA.out.pop
      have hsz := HA.out.size
      have hlen := GO.out.len
      have hln := HN.out
      have hq64 : Q.length ≤ 1000 := by simp at hlen; omega
      have ho64 : out.length ≤ 1000 := by omega
      clear hz0 hz1' hlen hln
      gi_wp2_with (first
        | (gi_at_builtin
           refine wpListIn_append_keep _ rfl _ _ 26 rfl w1.heap.size 3 i0 _ 1 8 Try.underlying26 hi0 hz0 hz1 hz2 rfl (by decide) vo out.length (out.map encI) rfl (HA1.out.orow.alloc _) ⟨W.heap.size, 0, none⟩ 1 1 [encI (zi : Int)] rfl rfl (by simpa using cell_one_new (W.setCell ⟨Bp, 0, none⟩ (.slice (some ⟨g, 0, none⟩) Q.length cp)) (encI (zi : Int)) 3) (by simp [Value.oneCell']) (by decide) (by unfold maxLen; omega) (by omega) (by simp; omega) ?_
           intro g2 cap2 w2 hown2 hold2 hg2 hat2 hlt2
           have HA2 := Lib.hid (HA1.out.more hown2 hg2 hat2)
           have BX2 := Lib.hid (BX.out.keep HA2.out.below)
           have z0 := BX2.out.c0
           obtain ⟨b', off', y, hab, hb2, hx, hat, hok⟩ := BX2.out.row.get hzl
           injection hab with hab
           injection hab with e1 e2
           subst e1 e2
           have c6 := hat.c6
           have HX := Lib.hid hx
           have HKR := Lib.hid (hok.kids)
           have HKN : Hid (y.kN ≤ 1000) := Lib.hid (by rw [← hok.kids.hlen]; exact (HS.out.2 y (List.mem_of_getElem? hx)).1)
           have HLOW : Hid (∀ b' off', y.kA = some ⟨b', off', none⟩ → 0 < y.kN → b' < w1.heap.size) := Lib.hid (fun b' off' ha hp => by
             obtain ⟨_, _, y2, e1, _, hy, _, hoky⟩ := BX.out.row.get hzl
             obtain rfl : y = y2 := Option.some.inj (hx.symm.trans hy)
             rcases hoky.kids.row.cells with h0 | ⟨b2, o2, ha2, hlt, _⟩
             · omega
             · rw [ha] at ha2
               injection ha2 with ha2
               injection ha2 with e3
               omega)
           have MK2 := Lib.hid (((MK.out.kept (grownBy_setCell' W Bp _) (fun r e => .inl (by cases e; exact ⟨_, _, _, HA.out.pile⟩))).kept (World.grownBy_alloc _ (.cells #[.int .i64 (zi : Int)] 3) none) (fun r e => by cases e)).kept hg2 (fun r e => .inl (own_cells (HA1.out.orow.alloc _) r e)))
           clear hat hx hok hold2 hown2 hg2 hat2)
        | (refine ⟨trivial, ?_⟩; gi_at_call 66; refine (callsIn_wide.2 (backward_any _ _ _ _)).mono ?_; rintro e w3 ⟨rfl, rfl⟩))
      have hbs := Boxed.new w2 26 (.slice y.kA y.kN y.kC)
      have hsz2 := HA2.out.size
      refine wpIn_rangeFunc_ownG (F := Fence.wide) (n := 8) rfl (by decide) (gf := 89) (lb := #[.pointer (some ⟨w2.heap.size, 0, none⟩)]) rfl trivial (enters_of Try.func89 (by kernel_rfl) rfl)
        (back_stops Fence.wide 7 trivial rfl (by decide) w2.heap.size w1.heap.size y.kA y.kN y.kC y.core.kids (w2.alloc (.cells #[.slice y.kA y.kN y.kC] 26)) (by simp) hbs.cell (HKR.out.below (below_box _ _)) HLOW.out)
        (fun h k => ⟨k.1.trans h.1, h.2.trans k.2⟩) (fun W l o o' hl h hc hw => ⟨World.putObj_heap_other (by simp at hl; omega), belowK_b (w := w2.alloc (.cells #[.slice y.kA y.kN y.kC] 26)) (by simp; omega) W l o o' hl h hc hw⟩) (Below.refl _ _) (fun _ => rfl)
        (fun pre W' => ∃ g cp, Hand w1 W' w1.heap.size Bp g cp (.slice (some ⟨g2, 0, none⟩) (out.length + 1) cap2) (out ++ [(zi : Int)]) (Q ++ pre.map Prod.snd) ∧ Boxed W' w2.heap.size 26 (.slice y.kA y.kN y.kC) ∧ Marks w1.heap.size ds W')
        (fun _ _ _ => False)
        (fun pre X Y row h hg hr => by
          obtain ⟨g, cp, hh, hb, hm⟩ := h
          refine ⟨g, cp, hh.other hg (fun r e => ⟨by have := (hr r e).1; simp at this; omega, (hr r e).2⟩), hb.kept hg (fun e => ?_), hm.kept hg (fun r e => .inr (fun hd => ?_))⟩
          · have := (hr _ e.symm).1
            simp at this
            omega
          · have h1 := (hr r e).1
            have h2 := (Array.getElem?_eq_some_iff.1 (MK2.out.at_ r hd).2).1
            simp at h1
            omega)
        (fun _ _ _ _ _ hs _ _ => hs)
        ⟨g, cp, by simpa using HA2.out.alloc _, hbs, MK2.out.kept (World.grownBy_alloc _ _ none) (fun r e => by cases e)⟩
        (fun x => { tmps := #[forV (some ⟨b, off, none⟩) len cap m, .int .i64 n, .pointer (some ⟨w.heap.size, 0, none⟩), undef, .slice none 0 0, .slice (some ⟨g2, 0, none⟩) (out.length + 1) cap2, .pointer (some ⟨Bp, 0, none⟩), .int .i64 (Q.length : Int), .int .i64 (zi : Int), u9, .int .i64 x.2, .agg #[.slice (some ⟨b, off, none⟩) len cap, .int .i64 m], .int .i64 n, .slice (some ⟨w.heap.size + 1, 0, none⟩) 1 1, .bool true, .bool false, .int .i64 n, .slice (some ⟨w1.heap.size, 0, none⟩) 1 1, .slice (some ⟨g, 0, none⟩) (Q.length + 1) cp, .int .i64 ((Q.length : Int) + 1), .bool true, .slice (some ⟨g, 0, none⟩) (Q.length + 1) cp, .int .i64 ((Q.length : Int) + 1), .int .i64 (Q.length : Int), .slice (some ⟨g, 0, none⟩) (Q.length + 1) cp, .int .i64 (Q.length : Int), .pointer (some ⟨g, Q.length, none⟩), .int .i64 (zi : Int), .slice (some ⟨g, 0, none⟩) (Q.length + 1) cp, .int .i64 (Q.length : Int), .slice (some ⟨g, 0, none⟩) Q.length cp, vo, .int .i64 (zi : Int), .slice (some ⟨W.heap.size, 0, none⟩) 1 1, .slice (some ⟨g2, 0, none⟩) (out.length + 1) cap2, .pointer (some ⟨w.heap.size, 0, none⟩), .slice (some ⟨b, off, none⟩) len cap, .int .i64 (zi : Int), .pointer (some ⟨b, off + zi * 10, none⟩), .pointer (some ⟨b, off + zi * 10 + 6, none⟩), .slice y.kA y.kN y.kC, .func (.func 89) #[] #[.pointer (some ⟨w2.heap.size, 0, none⟩)], .int .i64 x.1, .int .i64 x.2, u44, u45, u46, u47, u48, u49], defers := [] }) ?assign ?body ?done ?stop
      case assign =>
        intro l x W K hK
        gi_wp2
        exact hK
      case body =>
        rintro l pre x W5 ⟨g5, cp5, HH, hbx, hm⟩ hlt
        have pc5 := HH.pile.cell
        have hsz5 := HH.size
        have hkn := HKN.out
        have hpl : (Q ++ pre.map Prod.snd).length ≤ 2000 := by simp; omega
        obtain ⟨k5, hk5⟩ : ∃ k5, (Q ++ pre.map Prod.snd).length = k5 := ⟨_, rfl⟩
        have HK5 := Lib.hid hk5
        have HP := Lib.hid HH
        rw [hk5] at pc5 hpl
        have hrow := HH.prow
        rw [hk5] at hrow
        have HROW := Lib.hid hrow
        clear hrow hk5 HH
        gi_wp2_with (gi_at_builtin
                     refine wpListIn_append_keep _ rfl _ _ 26 rfl w1.heap.size 3 i0 _ 1 8 Try.underlying26 hi0 hz0 hz1 hz2 rfl (by decide) (.slice (some ⟨g5, 0, none⟩) k5 cp5) k5 ((Q ++ pre.map Prod.snd).map encI) rfl (HROW.out.alloc _) ⟨W5.heap.size, 0, none⟩ 1 1 [encI x.2] rfl rfl (cell_one_new W5 (encI x.2) 3) (by simp [Value.oneCell']) (by decide) (by unfold maxLen; omega) (by omega) (by simp; omega) ?_
                     intro g6 cap6 w6 hown6 hold6 hg6 hat6 hlt6
                     obtain ⟨hb6, hh6⟩ := HP.out.push (by rw [HK5.out]; exact hown6) (by rw [HK5.out]; exact hg6) (by rw [HK5.out]; exact hat6)
                     obtain ⟨-, -, -, hk6, hbl6⟩ := HP.out.pile.appended (by decide) HP.out.prow HP.out.size HP.out.low (by rw [← HK5.out] at hown6; exact hown6) (by rw [HK5.out]; exact hg6)
                     have c6 := hb6.cell
                     have f6 := hb6.frozen
                     rw [HK5.out] at c6 hh6 hk6 hbl6)
        have hne6 : w2.heap.size ≠ Bp := Nat.ne_of_gt HA2.out.pile.lt
        have hbx6 := (hbx.alloc (.cells #[encI x.2] 3)).kept hg6 ((hbx.alloc (.cells #[encI x.2] 3)).not_row (by decide) (HROW.out.alloc _))
        have hbx7 := hbx6.kept (grownBy_setCell' w6 Bp (.slice (some ⟨g6, 0, none⟩) (k5 + 1) cap6)) (fun e => hne6 (by injection e))
        have hm6 := ((hm.kept (World.grownBy_alloc _ (.cells #[encI x.2] 3) none) (fun r e => by cases e)).kept hg6 (fun r e => .inl (own_cells (HROW.out.alloc _) r e))).kept (grownBy_setCell' w6 Bp (.slice (some ⟨g6, 0, none⟩) (k5 + 1) cap6)) (fun r e => .inl (by cases e; exact ⟨_, _, _, hb6⟩))
        exact ⟨hk6.from _, ⟨hbx7.trans hbx.symm, hbl6⟩, g6, cap6, by simpa using hh6, hbx7, hm6⟩
      case done =>
        rintro D ys W4 hD rfl ⟨g4, cp4, HH, hbx, hm⟩ hK
        have hkl := HKR.out.hlen
        rw [← hkl, backTo_snd] at HH
        have pc4 := HH.pile.cell
        have hsz4 := HH.size
        have HP := Lib.hid HH
        have HM := Lib.hid hm
        have GO2 := Lib.hid (GO.out.step HRT.out (z := (zi : Int)) (x := y.core) (by rw [Int.toNat_natCast]; exact coreL_get HX.out))
        have SN1 := Lib.hid (sliceN_own HA.out.orow)
        have HNX := Lib.hid HP.out.next
        rw [show (Q ++ y.core.kids.reverse).length = Q.length + y.kN by rw [List.length_append, List.length_reverse, hkl]] at HNX
        have MD : Hid (Marks w1.heap.size (D :: ds) W4) := Lib.hid ⟨List.nodup_cons.2 ⟨fun hd => by
          have h2 := (Array.getElem?_eq_some_iff.1 (MK2.out.at_ D hd).2).1
          simp at hD
          omega, hm.nd⟩, fun E hE => by
          rcases List.mem_cons.1 hE with rfl | hE
          · exact ⟨by simp at hD; omega, hK⟩
          · exact hm.at_ E hE⟩
        clear HH
        gi_wp2
        refine ⟨⟨D :: ds, out ++ [(zi : Int)], Q ++ y.core.kids.reverse, _, W4.heap.size, g4, cp4, _, _, _, _, _, _, _, _, _, _, _, _, _, _, _, _, _, _, _, _, _, _, _, _, _, _, _, _, _, _, _, _, _, _, _, _, HNX, GO2, Lib.hid (MD.out.kept (World.grownBy_alloc _ _ none) (fun r e => by cases e)), rfl⟩, ?_⟩
        · show (ordI (coreL L) (n : Int)).length - sliceN (.slice (some ⟨g2, 0, none⟩) (out.length + 1) cap2) < (ordI (coreL L) (n : Int)).length - sliceN vo
          rw [SN1.out]
          have h1 := GO.out.len
          rw [List.length_append] at h1
          show _ - (out.length + 1) < _
          simp at h1
          omega
      case stop =>
        rintro D c pre W _ _ h _
        exact h.elim
end Go.Proofs.Ytllfkiifkkcinaa
/- Package forest's Ahead; all of its functions' contracts. -/
namespace Go.Proofs.Ytllfkiifkkcinaa
open Go.RowKit
theorem orderFn_any (a : Option Addr) (len cap : Nat) (m : Int) (L : List NodeD) (n : Int) (w : World) (h : NodeRow w a len cap L) (hm : In64 m) (hn : In64 n) (hs : smallF L) :
    Calls Try.prog 23 #[forV a len cap m, .int .i64 n] w (OrdPost w (ordZ m (coreL L) n)) := by
  cases hq : thereF m (coreL L) n with
  | false => exact orderNot_any a len cap m L n w h hm hn hs hq
  | true =>
    obtain ⟨_, k, rfl, _⟩ := there_nat hq
    exact orderIs_any a len cap m L k w h hm hs hq
theorem ahead_find {m : Int} {F : List Core} (hr : rightF m F = true) {x y : Nat} (hx : x < F.length) (hy : y < F.length) : aheadZ m F (x : Int) (y : Int) = decide (findZ (ordZ m F (rootF F x : Nat)) (x : Int) < findZ (ordZ m F (rootF F x : Nat)) (y : Int)) := by
  have T := tree_of_right hr
  have hrl := rootF_lt hr hx
  rw [aheadZ_eq hr hx hy, ordZ_eq hr hrl]
  have hf : ∀ (l : List Nat) (z : Nat), findZ (l.map Int.ofNat) (z : Int) = if posN l z < l.length then (posN l z : Int) else -1 := fun l z => by
    have h1 : findN (l.map Int.ofNat) (z : Int) = posN l z := by
      unfold findN posN
      rw [List.findIdx_map]
      congr 1
      funext q
      show (Int.ofNat q == (z : Int)) = (q == z)
      rw [Bool.eq_iff_iff]
      simp
      omega
    unfold findZ
    rw [h1, List.length_map]
  rw [hf, hf]
  have hxin : x ∈ ordF F (rootF F x) := T.in_root (f := F.length + 1) hx (by omega)
  have hpx := posN_mem hxin
  rw [if_pos hpx]
  unfold aheadF
  by_cases he : rootF F x = rootF F y
  · rw [decide_eq_true he, Bool.true_and]
    have hyin : y ∈ ordF F (rootF F x) := by
      rw [he]
      exact T.in_root (f := F.length + 1) hy (by omega)
    rw [if_pos (posN_mem hyin)]
    exact decide_eq_decide.2 (by omega)
  · rw [decide_eq_false he, Bool.false_and]
    have hyn : y ∉ ordF F (rootF F x) := fun hm => by
      have hh := (T.mem_ord _ _ hrl (by omega) y hy).1 hm
      have h2 : parF F (rootF F x) = none := T.root_top _ x hx (by have := T.rank_le x hx; omega)
      exact he (T.root_of (f := F.length + 1) hy (by have := T.rank_le y hy; omega) hh h2).symm
    have hpy : ¬ posN (ordF F (rootF F x)) y < (ordF F (rootF F x)).length := fun h => by
      have h2 : ((ordF F (rootF F x))[posN (ordF F (rootF F x)) y] == y) = true := List.findIdx_getElem (w := h)
      have h3 : (ordF F (rootF F x))[posN (ordF F (rootF F x)) y] = y := by simpa using h2
      exact hyn (h3 ▸ List.getElem_mem h)
    rw [if_neg hpy]
    exact (decide_eq_false (by omega)).symm
set_option maxHeartbeats 4000000 in
set_option maxRecDepth 100000 in
theorem aheadFn_any (a : Option Addr) (len cap : Nat) (m : Int) (L : List NodeD) (x y : Int) (w : World) (h : NodeRow w a len cap L) (hm : In64 m) (hx : In64 x) (hy : In64 y) (hs : smallF L) :
    Calls Try.prog 26 #[forV a len cap m, .int .i64 x, .int .i64 y] w fun e w' => e = .returned (.bool (aheadZ m (coreL L) x y)) ∧ Below w.heap.size w w' := by
  have HCL : Hid ((coreL L).length = len) := Lib.hid (by rw [coreL_len, h.hlen])
  have hlen := h.len64
  have BX := Lib.hid ((Box.start (m := m) h).keep (below_box _ (.cells #[.int .i64 x, .int .i64 y] 3)))
  have NB := Lib.hid (lit_two (w.alloc (forB a len cap m)) 3 x y hx hy)
  have CK : Hid (∀ W b, NodeRow W a len cap L → IntRow W b 2 2 [x, y] → Calls Try.prog 64 #[forV a len cap m, .slice b 2 2] W fun e w' => e = .returned (.bool (thereF m (coreL L) x && thereF m (coreL L) y)) ∧ Below W.heap.size W w') := Lib.hid (fun W b h1 h2 => by
    rw [← knowsB_two]
    exact knows_any a len cap m L b 2 2 [x, y] W h1 hm hs h2)
  simp only [World.size_alloc] at NB
  have z0 := BX.out.c0
  have z1 := BX.out.c1
  cases q : (thereF m (coreL L) x && thereF m (coreL L) y) with
  | false =>
    rw [q] at CK
    have HR : Hid (aheadZ m (coreL L) x y = false) := Lib.hid (by unfold aheadZ; rw [q]; rfl)
    clear q h hm hs hx hy
    go_enter Try.func26, Try.ntmps26
    go_wp2_with (first
                    | (go_at_call 64; ((with_reducible refine (CK.out _ _ BX.out.row NB.out).mono ?_); rintro e w1 ⟨rfl, hb⟩; have BX := Lib.hid (BX.out.keep hb); have z0 := BX.out.c0; have z1 := BX.out.c1; clear hb))
                    | (go_at_call 65; ((with_reducible refine (CU.out _ BX.out.row).mono ?_); rintro e w1 ⟨rfl, rfl⟩)))
    go_ret
    exact ⟨ret_bool HR.out.symm, BX.out.below⟩
  | true =>
    rw [q] at CK
    rw [Bool.and_eq_true] at q
    obtain ⟨hr, X, rfl, hX⟩ := there_nat q.1
    obtain ⟨-, Y, rfl, hY⟩ := there_nat q.2
    have HA := Lib.hid (ahead_find hr hX hY)
    have hRl := rootF_lt hr hX
    have CU : Hid (∀ W, NodeRow W a len cap L → Calls Try.prog 65 #[.slice a len cap, .int .i64 X] W fun e w' => e = .returned (.int .i64 (rootF (coreL L) X : Nat)) ∧ W = w') := Lib.hid (fun W h => rootUp_any a len cap m L X W h hr (by rw [← HCL.out]; exact hX))
    obtain ⟨R, hR⟩ : ∃ R, rootF (coreL L) X = R := ⟨_, rfl⟩
    rw [hR] at HA CU hRl
    have CO : Hid (∀ W, NodeRow W a len cap L → Calls Try.prog 23 #[forV a len cap m, .int .i64 R] W (OrdPost W (ordZ m (coreL L) R))) := Lib.hid (fun W h => orderFn_any a len cap m L R W h hm ⟨by omega, by rw [HCL.out] at hRl; omega⟩ hs)
    clear q h hm hs hx hy hR hr
    go_enter Try.func26, Try.ntmps26
    go_wp2_with (first
                    | (go_at_call 64; ((with_reducible refine (CK.out _ _ BX.out.row NB.out).mono ?_); rintro e w1 ⟨rfl, hb⟩; have BX := Lib.hid (BX.out.keep hb); have z0 := BX.out.c0; have z1 := BX.out.c1; clear hb))
                    | (go_at_call 65; ((with_reducible refine (CU.out _ BX.out.row).mono ?_); rintro e w1 ⟨rfl, rfl⟩)))
    go_region_held3 (fun w' => w'.cell? ⟨w.heap.size, 0, none⟩ = some (.slice a len cap) ∧ w'.cell? ⟨w.heap.size, 1, none⟩ = some (.int .i64 m)) (go_keep)
      (first
        | (go_at_call 65; refine (CU.out _ (by first | exact BX.out.row | exact BX.out.row.drew)).mono ?_; rintro e w2 ⟨rfl, rfl⟩)
        | (go_at_call 23; refine (CO.out _ (by first | exact BX.out.row | exact BX.out.row.drew)).mono ?_; intro e w2 hp; obtain ⟨a2, n2, c2, rfl, hrow, hb⟩ := hp; have IR := Lib.hid hrow; have BX := Lib.hid (BX.out.keep ((Below.refl _ _).drew.trans hb)); have z0 := BX.out.c0; have z1 := BX.out.c1; clear hrow hb))
    go_wp2_with (go_at_call 67; refine (index_any _ _ _ _ _ _ IR.out).mono ?_; rintro e w3 ⟨rfl, rfl⟩)
    go_ret
    exact ⟨ret_bool HA.out.symm, BX.out.below⟩
theorem forestFns : ForestFns where
  right := fun a len cap m L w h hm hs => rightF_any a len cap m L w h hm hs
  new := fun most w hm => newFn_any most w hm
  make := fun a len cap m L x w h hx hm hs hsx => makeFn_any a len cap m L x w h hx hm hs hsx
  root := fun a len cap m L n w h hm hn hs => rootFn_any a len cap m L n w h hm hn hs
  order := fun a len cap m L n w h hm hn hs => orderFn_any a len cap m L n w h hm hn hs
  holds := fun a len cap m L x y w h hm hx hy hs => holdsFn_any a len cap m L x y w h hm hx hy hs
  place := fun a len cap m L n w h hm hn hs => placeFn_any a len cap m L n w h hm hn hs
  ahead := fun a len cap m L x y w h hm hx hy hs => aheadFn_any a len cap m L x y w h hm hx hy hs
end Go.Proofs.Ytllfkiifkkcinaa
/- Shadows, over data: who comes next up, full order; a forest that is right is trees with shadows, too. Plain mathematics, no program. -/
namespace Go.Proofs.Ytllfkiifkkcinaa
open Go.RowKit
/-! ### trees in general -/
section
variable {n : Nat} {par : Nat → Option Nat} {kids : Nat → List Nat} {rank : Nat → Nat}
theorem Tree.ord_fuel (T : Tree n par kids rank) {f g i : Nat} (hi : i < n) (hf : n + 1 ≤ rank i + f) (hg : n + 1 ≤ rank i + g) : ordN kids f i = ordN kids g i := by
  have key : ∀ d, ordN kids (f + d) i = ordN kids f i := fun d => by
    induction d with
    | zero => rfl
    | succ d ih => rw [← ih]; exact T.ord_more (f + d) i hi (by omega)
  have key2 : ∀ d, ordN kids (g + d) i = ordN kids g i := fun d => by
    induction d with
    | zero => rfl
    | succ d ih => rw [← ih]; exact T.ord_more (g + d) i hi (by omega)
  rw [← key g, ← key2 f, Nat.add_comm]
/-- Order from a node: it, then order from each of its children. -/
theorem Tree.ord_open (T : Tree n par kids rank) {i : Nat} (hi : i < n) : ordN kids (n + 1) i = i :: (kids i).flatMap (ordN kids (n + 1)) := by
  rw [← T.ord_more (n + 1) i hi (by omega)]
  rfl
theorem Tree.block_kids (T : Tree n par kids rank) {f i : Nat} (ih : ∀ k ∈ kids i, ∀ j x, (ordN kids f k)[j]? = some x → ∃ pre post, ordN kids f k = pre ++ ordN kids (n + 1) x ++ post ∧ pre.length = j) :
    ∀ (ks : List Nat), (∀ k ∈ ks, k ∈ kids i) → ∀ j x, (ks.flatMap (ordN kids f))[j]? = some x → ∃ pre post, ks.flatMap (ordN kids f) = pre ++ ordN kids (n + 1) x ++ post ∧ pre.length = j
  | [], _, j, x, h => by simp at h
  | k :: r, hk, j, x, h => by
    rw [List.flatMap_cons] at h ⊢
    by_cases hj : j < (ordN kids f k).length
    · rw [List.getElem?_append_left hj] at h
      obtain ⟨pre, post, e, hl⟩ := ih k (hk k (by simp)) j x h
      exact ⟨pre, post ++ r.flatMap (ordN kids f), by rw [e]; simp, hl⟩
    · rw [List.getElem?_append_right (by omega)] at h
      obtain ⟨pre, post, e, hl⟩ := T.block_kids ih r (fun q hq => hk q (by simp [hq])) _ x h
      exact ⟨ordN kids f k ++ pre, post, by rw [e]; simp, by rw [List.length_append]; omega⟩
/-- Where a node stands in an order, its own order follows. -/
theorem Tree.ord_block (T : Tree n par kids rank) : ∀ (f i : Nat), i < n → n + 1 ≤ rank i + f → ∀ j x, (ordN kids f i)[j]? = some x → ∃ pre post, ordN kids f i = pre ++ ordN kids (n + 1) x ++ post ∧ pre.length = j
  | 0, i, hi, hf, j, x, h => by
    have e : ordN kids (n + 1) i = ordN kids 0 i := T.ord_fuel hi (by omega) hf
    unfold ordN at h
    obtain ⟨hj, hx⟩ := List.getElem?_eq_some_iff.1 h
    have hj0 : j = 0 := by simpa using hj
    subst hj0
    have hxi : i = x := by simpa using hx
    subst hxi
    exact ⟨[], [], by rw [e]; simp, rfl⟩
  | f + 1, i, hi, hf, j, x, h => by
    match j, h with
    | 0, h =>
      have hxi : i = x := by simpa [ordN] using h
      subst hxi
      exact ⟨[], [], by rw [T.ord_fuel (g := n + 1) hi hf (by omega)]; simp, rfl⟩
    | j + 1, h =>
      have h2 : ((kids i).flatMap (ordN kids f))[j]? = some x := by simpa [ordN] using h
      obtain ⟨pre, post, e, hl⟩ := T.block_kids (fun k hk => T.ord_block f k (T.kid_rank hk).1 (by have := (T.kid_rank hk).2; omega)) (kids i) (fun k hk => hk) j x h2
      refine ⟨i :: pre, post, ?_, by rw [List.length_cons, hl]⟩
      show i :: (kids i).flatMap (ordN kids f) = _
      rw [e]
      simp
end
theorem flat_sub {α β : Type} {f g : α → List β} (hfg : ∀ x, (f x).Sublist (g x)) : ∀ {l m : List α}, l.Sublist m → (l.flatMap f).Sublist (m.flatMap g)
  | _, _, .slnil => by simp
  | _, _, .cons a h => by
    rw [List.flatMap_cons]
    exact (flat_sub hfg h).trans (List.sublist_append_right _ _)
  | _, _, .cons_cons a h => by
    rw [List.flatMap_cons, List.flatMap_cons]
    exact (hfg a).append (flat_sub hfg h)
/-- Who has more children has more in order. -/
theorem ord_sub {kids kids' : Nat → List Nat} (h : ∀ i, (kids i).Sublist (kids' i)) : ∀ (f i : Nat), (ordN kids f i).Sublist (ordN kids' f i)
  | 0, _ => List.Sublist.refl _
  | f + 1, i => .cons_cons i (flat_sub (fun k => ord_sub h f k) (h i))
theorem findN_cons {y z : Int} {l : List Int} : findN (y :: l) z = if y = z then 0 else findN l z + 1 := by
  unfold findN
  rw [List.findIdx_cons]
  by_cases e : y = z
  · subst e; simp
  · rw [if_neg e, beq_eq_false_iff_ne.2 e]; rfl
theorem findN_mem {l : List Int} {z : Int} (h : z ∈ l) : findN l z < l.length := List.findIdx_lt_length_of_exists ⟨z, h, by simp⟩
theorem findZ_mem {l : List Int} {z : Int} (h : z ∈ l) : findZ l z = (findN l z : Int) := by unfold findZ; rw [if_pos (findN_mem h)]
/-- In a part of a list that has nothing twice, who comes later stands further behind in the whole. -/
theorem sub_find {o l : List Int} (hs : o.Sublist l) : l.Nodup → ∀ (i : Nat) (a b : Int), o[i]? = some a → o[i + 1]? = some b → findN l a < findN l b := by
  induction hs with
  | slnil => intro _ i a b ha; simp at ha
  | @cons o' l' y h ih =>
    intro hn i a b ha hb
    rw [List.nodup_cons] at hn
    have h1 : y ≠ a := fun e => hn.1 (e ▸ h.subset (List.mem_of_getElem? ha))
    have h2 : y ≠ b := fun e => hn.1 (e ▸ h.subset (List.mem_of_getElem? hb))
    rw [findN_cons, findN_cons, if_neg h1, if_neg h2]
    have := ih hn.2 i a b ha hb
    omega
  | @cons_cons o' l' y h ih =>
    intro hn i a b ha hb
    rw [List.nodup_cons] at hn
    rw [List.getElem?_cons_succ] at hb
    have h2 : y ≠ b := fun e => hn.1 (e ▸ h.subset (List.mem_of_getElem? hb))
    rw [findN_cons, findN_cons, if_neg h2]
    match i, ha, hb with
    | 0, ha, hb =>
      have : y = a := by simpa using ha
      rw [if_pos this]
      omega
    | i + 1, ha, hb =>
      rw [List.getElem?_cons_succ] at ha
      have h1 : y ≠ a := fun e => hn.1 (e ▸ h.subset (List.mem_of_getElem? ha))
      rw [if_neg h1]
      have := ih hn.2 i a b ha hb
      omega
/-! ### nodes of a forest that is right -/
theorem right_up {m : Int} {F : List Core} (h : rightF m F = true) : upIn F F.length := by
  have := nodes_eq.1 ((rightF_iff m F).1 h).2.1
  exact fit_up this.1 this.2
theorem next_par {F : List Core} {i : Nat} {x : Core} (hx : F[i]? = some x) (hp : x.parent ≠ -1) : nextUp F (i : Int) = x.parent := by
  rw [nextUp_at hx]
  unfold upC
  rw [if_neg hp]
theorem next_host {F : List Core} {i : Nat} {x : Core} (hx : F[i]? = some x) (hp : x.parent = -1) : nextUp F (i : Int) = x.host := by
  rw [nextUp_at hx]
  unfold upC
  rw [if_pos hp]
theorem right_kind {m : Int} {F : List Core} (h : rightF m F = true) {i : Nat} {x : Core} (hx : F[i]? = some x) : 0 ≤ x.kind ∧ x.kind ≤ 4 := by
  have h1 := (nodeOk_iff.1 (((rightF_iff m F).1 h).2.1 i x hx)).1
  unfold docOk at h1
  simp only [Bool.and_eq_true, decide_eq_true_eq] at h1
  exact ⟨h1.1.1.1, h1.1.1.2⟩
/-- Who has a parent is an Elem or a Text. -/
theorem right_held {m : Int} {F : List Core} (h : rightF m F = true) {i : Nat} {x : Core} (hx : F[i]? = some x) (hp : x.parent ≠ -1) : x.kind = 1 ∨ x.kind = 2 := by
  have h1 := (nodeOk_iff.1 (((rightF_iff m F).1 h).2.1 i x hx)).2.1
  unfold parOk at h1
  rw [beq_eq_false_iff_ne.2 hp, Bool.false_or, Bool.and_eq_true] at h1
  simpa using h1.1
theorem right_under {m : Int} {F : List Core} (h : rightF m F = true) {i : Nat} {x : Core} (hx : F[i]? = some x) (hu : x.under ≠ -1) : ∃ (s : Nat) (u : Core), x.under = s ∧ F[s]? = some u ∧ u.kind = 4 ∧ u.host = i ∧ u.parent = -1 ∧ x.kind = 1 := by
  have h1 := (nodeOk_iff.1 (((rightF_iff m F).1 h).2.1 i x hx)).2.2.2.2.1
  rw [Bool.and_eq_true] at h1
  have h2 := h1.2
  unfold underOk at h2
  rw [beq_eq_false_iff_ne.2 hu, Bool.false_or, Bool.and_eq_true] at h2
  cases hg : getC F x.under with
  | none => rw [hg] at h2; simp at h2
  | some u =>
    rw [hg] at h2
    simp only [Bool.and_eq_true, beq_iff_eq] at h2
    obtain ⟨e1, e2, e3⟩ := getC_some hg
    refine ⟨x.under.toNat, u, by omega, e3, h2.2.1, h2.2.2, ?_, h2.1⟩
    by_cases hp : u.parent = -1
    · exact hp
    · rcases right_held h e3 hp with k | k
      · rw [k] at h2; exact absurd h2.2.1 (by decide)
      · rw [k] at h2; exact absurd h2.2.1 (by decide)
theorem right_host {m : Int} {F : List Core} (h : rightF m F = true) {k : Nat} {u : Core} (hu : F[k]? = some u) (hh : u.host ≠ -1) : u.kind = 4 ∧ ∃ (i : Nat) (x : Core), u.host = i ∧ F[i]? = some x ∧ x.kind = 1 ∧ x.under = k ∧ x.doc = u.doc := by
  have h1 := (nodeOk_iff.1 (((rightF_iff m F).1 h).2.1 k u hu)).2.2.2.2.1
  rw [Bool.and_eq_true] at h1
  have h2 := h1.1
  unfold hostOk at h2
  by_cases k4 : u.kind = 4
  · rw [if_pos k4] at h2
    cases hg : getC F u.host with
    | none => rw [hg] at h2; simp at h2
    | some x =>
      rw [hg] at h2
      simp only [Bool.and_eq_true, beq_iff_eq] at h2
      obtain ⟨e1, e2, e3⟩ := getC_some hg
      exact ⟨k4, u.host.toNat, x, by omega, e3, h2.1.1, h2.1.2, h2.2⟩
  · rw [if_neg k4] at h2
    exact absurd (beq_iff_eq.1 h2) hh
/-! ### as trees -/
def parS (F : List Core) (i : Nat) : Option Nat := if nextUp F (i : Int) = -1 then none else some (nextUp F (i : Int)).toNat
def undS (F : List Core) (i : Nat) : List Nat := match F[i]? with | some c => if c.under = -1 then [] else [c.under.toNat] | none => []
def kidsS (F : List Core) (i : Nat) : List Nat := undS F i ++ kidsF F i
theorem parS_some {F : List Core} {k i : Nat} (h : nextUp F (k : Int) = i) : parS F k = some i := by
  unfold parS
  rw [h, if_neg (by omega), Int.toNat_natCast]
theorem parS_none {F : List Core} {k : Nat} (h : nextUp F (k : Int) = -1) : parS F k = none := by
  unfold parS
  rw [if_pos h]
theorem parS_next {m : Int} {F : List Core} (hr : rightF m F = true) {k i : Nat} (hk : k < F.length) (h : parS F k = some i) : nextUp F (k : Int) = i ∧ i < F.length := by
  unfold parS at h
  by_cases he : nextUp F (k : Int) = -1
  · rw [if_pos he] at h; cases h
  · rw [if_neg he] at h
    injection h with h
    rcases right_up hr k (by omega) (by omega) with e | ⟨e1, e2⟩
    · exact absurd e he
    · exact ⟨by omega, by omega⟩
theorem undS_mem {m : Int} {F : List Core} (hr : rightF m F = true) {i k : Nat} (h : k ∈ undS F i) : ∃ x u, F[i]? = some x ∧ x.under = (k : Int) ∧ F[k]? = some u ∧ u.kind = 4 ∧ u.host = i ∧ u.parent = -1 := by
  unfold undS at h
  cases hx : F[i]? with
  | none => rw [hx] at h; simp at h
  | some x =>
    rw [hx] at h
    dsimp only at h
    by_cases hu : x.under = -1
    · rw [if_pos hu] at h; simp at h
    · rw [if_neg hu] at h
      obtain ⟨s, u, e1, e2, e3, e4, e5, _⟩ := right_under hr hx hu
      have : k = s := by
        have := List.mem_singleton.1 h
        omega
      subst this
      exact ⟨x, u, rfl, e1, e2, e3, e4, e5⟩
theorem treeS {m : Int} {F : List Core} (hr : rightF m F = true) : Tree F.length (parS F) (kidsS F) (rankF F) := by
  have T := tree_of_right hr
  have E := ((rightF_iff m F).1 hr).2.2
  have kid : ∀ i k, k ∈ kidsF F i → k < F.length ∧ nextUp F (k : Int) = i := fun i k hk => by
    have hl := T.kid_lt i k hk
    have hp := T.kid_par i k hk
    have hx : F[k]? = some F[k] := List.getElem?_eq_getElem hl
    by_cases he : F[k].parent = -1
    · rw [right_top hx he] at hp; cases hp
    · obtain ⟨p, h1, _, h3⟩ := right_par hr hx he
      rw [h3] at hp
      injection hp with hp
      subst hp
      exact ⟨hl, (next_par hx he).trans h1⟩
  have all : ∀ i k, k ∈ kidsS F i → k < F.length ∧ nextUp F (k : Int) = i := fun i k hk => by
    rcases List.mem_append.1 hk with hk | hk
    · obtain ⟨x, u, hx, _, hu, _, hh, hp⟩ := undS_mem hr hk
      exact ⟨(List.getElem?_eq_some_iff.1 hu).1, (next_host hu hp).trans hh⟩
    · exact kid i k hk
  refine ⟨fun i k hk => (all i k hk).1, fun i k hk => parS_some (all i k hk).2, fun i k hk hp => ?_, fun i => ?_, fun i k hk hp => ?_, fun i hi => rankZ_le (n := F.length) (E i hi)⟩
  · obtain ⟨h1, h2⟩ := parS_next hr hk hp
    refine ⟨h2, List.mem_append.2 ?_⟩
    have hx : F[k]? = some F[k] := List.getElem?_eq_getElem hk
    by_cases he : F[k].parent = -1
    · rw [next_host hx he] at h1
      obtain ⟨_, j, y, e1, e2, _, e4, _⟩ := right_host hr hx (by omega)
      have : j = i := by omega
      subst this
      left
      unfold undS
      rw [e2]
      dsimp only
      rw [if_neg (by omega), e4, Int.toNat_natCast]
      simp
    · rw [next_par hx he] at h1
      obtain ⟨p, e1, _, e3⟩ := right_par hr hx he
      have : p = i := by omega
      subst this
      exact .inr (T.par_kid p k hk e3).2
  · unfold kidsS
    rw [List.nodup_append]
    refine ⟨?_, T.nodup i, fun a ha b hb e => ?_⟩
    · unfold undS
      cases F[i]? with
      | none => simp
      | some c => dsimp only; split <;> simp
    · subst e
      obtain ⟨x, u, hx, _, hu, _, hh, hp⟩ := undS_mem hr ha
      have := T.kid_par i a hb
      rw [right_top hu hp] at this
      cases this
  · obtain ⟨h1, h2⟩ := parS_next hr hk hp
    unfold rankF
    rw [rankZ_up (nxt := nextUp F) (n := F.length) (i := (k : Int)) (by omega) (E k hk) (by rw [h1]; exact E i h2), h1]
/-! ### what is asked -/
def topF (F : List Core) (a : Nat) : Nat := rootN (parS F) (F.length + 1) a
def allF (F : List Core) (a : Nat) : List Nat := ordN (kidsS F) (F.length + 1) a
def overF (F : List Core) (a b : Nat) : Bool := decide (b ∈ allF F a)
def topZ (m : Int) (F : List Core) (n : Int) : Int := if thereF m F n then (topF F n.toNat : Int) else -1
def allI (F : List Core) (z : Int) : List Int := (allF F z.toNat).map Int.ofNat
def allZ (m : Int) (F : List Core) (n : Int) : List Int := if thereF m F n then allI F n else []
def overZ (m : Int) (F : List Core) (a b : Int) : Bool := thereF m F a && thereF m F b && overF F a.toNat b.toNat
def connZ (m : Int) (F : List Core) (n : Int) : Bool := thereF m F n && kindK F (topZ m F n) == 0
def elemsZ (m : Int) (F : List Core) (n : Int) : List Int := (allZ m F n).filter (fun k => kindK F k == 1)
theorem topZ_eq {m : Int} {F : List Core} (h : rightF m F = true) {a : Nat} (ha : a < F.length) : topZ m F (a : Int) = (topF F a : Nat) := by
  unfold topZ
  rw [thereF_of h ha]
  rfl
theorem allZ_eq {m : Int} {F : List Core} (h : rightF m F = true) {a : Nat} (ha : a < F.length) : allZ m F (a : Int) = allI F a := by
  unfold allZ
  rw [thereF_of h ha]
  rfl
theorem overZ_iff {m : Int} {F : List Core} (h : rightF m F = true) {a b : Nat} (ha : a < F.length) (hb : b < F.length) : overZ m F (a : Int) (b : Int) = true ↔ holdsT (parS F) a b := by
  unfold overZ
  rw [thereF_of h ha, thereF_of h hb, Bool.true_and, Bool.true_and]
  unfold overF allF
  rw [decide_eq_true_iff]
  exact (treeS h).mem_ord _ _ ha (by omega) _ hb
theorem topF_lt {m : Int} {F : List Core} (h : rightF m F = true) {a : Nat} (ha : a < F.length) : topF F a < F.length := (treeS h).root_lt ha
theorem allI_open {m : Int} {F : List Core} (h : rightF m F = true) {a : Nat} {x : Core} (hx : F[a]? = some x) : allI F (a : Int) = (a : Int) :: ((if x.under = -1 then [] else allI F x.under) ++ x.kids.flatMap (allI F)) := by
  have T := treeS h
  have ha := (List.getElem?_eq_some_iff.1 hx).1
  unfold allI allF
  rw [Int.toNat_natCast, T.ord_open ha, List.map_cons]
  congr 1
  have hk : kidsF F a = x.kids.map Int.toNat := by unfold kidsF; rw [hx]
  rw [show kidsS F a = undS F a ++ kidsF F a from rfl, List.flatMap_append, List.map_append, hk]
  congr 1
  · unfold undS
    rw [hx]
    dsimp only
    by_cases hu : x.under = -1
    · rw [if_pos hu, if_pos hu]; rfl
    · rw [if_neg hu, if_neg hu]; simp
  · rw [List.flatMap_map, List.map_flatMap]
end Go.Proofs.Ytllfkiifkkcinaa
/- What is asked of package shade's functions: their contracts, as one property. -/
namespace Go.Proofs.Ytllfkiifkkcinaa
open Go.RowKit
/-- May a node have a shadow? -/
def hostsC (x : Core) : Bool := x.kind == 1 && (x.name.toList == [100, 105, 118] || x.name.toList == [112] || x.name.toList == [115, 112, 97, 110] || customL x.name.toList)
/-- The Shade that is made. -/
def shadeC (n d : Int) : Core := ⟨4, ⟨#[]⟩, ⟨#[]⟩, ⟨#[]⟩, [], -1, [], n, -1, d⟩
def attE (m : Int) (F : List Core) (n : Int) : Int :=
  if thereF m F n then (match getC F n with
    | some x => if hostsC x then (if x.under = -1 then (if (F.length : Int) = m then 8 else 0) else 10) else 5
    | none => 1) else 1
def docZ (F : List Core) (n : Int) : Int := match getC F n with | some x => x.doc | none => 0
def withU (x : Core) (u : Int) : Core := ⟨x.kind, x.name, x.is, x.data, x.attrs, x.parent, x.kids, x.host, u, x.doc⟩
/-- The forest with a shadow more. -/
def attC (F : List Core) (n : Int) : List Core := match getC F n with | some x => F.set n.toNat (withU x (F.length : Int)) ++ [shadeC n x.doc] | none => F
def attL (m : Int) (F : List Core) (n : Int) : List Core := if attE m F n = 0 then attC F n else F
def attN (m : Int) (F : List Core) (n : Int) : Int := if attE m F n = 0 then (F.length : Int) else -1
structure ShadeFns : Prop where
  attach : ∀ (a : Option Addr) (len cap : Nat) (m : Int) (L : List NodeD) (n : Int) (w : World), NodeRow w a len cap L → In64 m → In64 n → smallF L →
    Calls Try.prog 38 #[forV a len cap m, .int .i64 n] w (ForPost w (attL m (coreL L) n) m [.int .i64 (attN m (coreL L) n), .int .i64 (attE m (coreL L) n)])
  top : ∀ (a : Option Addr) (len cap : Nat) (m : Int) (L : List NodeD) (n : Int) (w : World), NodeRow w a len cap L → In64 m → In64 n → smallF L →
    Calls Try.prog 39 #[forV a len cap m, .int .i64 n] w fun e w' => e = .returned (.int .i64 (topZ m (coreL L) n)) ∧ Below w.heap.size w w'
  conn : ∀ (a : Option Addr) (len cap : Nat) (m : Int) (L : List NodeD) (n : Int) (w : World), NodeRow w a len cap L → In64 m → In64 n → smallF L →
    Calls Try.prog 40 #[forV a len cap m, .int .i64 n] w fun e w' => e = .returned (.bool (connZ m (coreL L) n)) ∧ Below w.heap.size w w'
  all : ∀ (a : Option Addr) (len cap : Nat) (m : Int) (L : List NodeD) (n : Int) (w : World), NodeRow w a len cap L → In64 m → In64 n → smallF L →
    Calls Try.prog 41 #[forV a len cap m, .int .i64 n] w (OrdPost w (allZ m (coreL L) n))
  over : ∀ (a : Option Addr) (len cap : Nat) (m : Int) (L : List NodeD) (x y : Int) (w : World), NodeRow w a len cap L → In64 m → In64 x → In64 y → smallF L →
    Calls Try.prog 43 #[forV a len cap m, .int .i64 x, .int .i64 y] w fun e w' => e = .returned (.bool (overZ m (coreL L) x y)) ∧ Below w.heap.size w w'
  elems : ∀ (a : Option Addr) (len cap : Nat) (m : Int) (L : List NodeD) (n : Int) (w : World), NodeRow w a len cap L → In64 m → In64 n → smallF L →
    Calls Try.prog 42 #[forV a len cap m, .int .i64 n] w (OrdPost w (elemsZ m (coreL L) n))
end Go.Proofs.Ytllfkiifkkcinaa
/- What the laws of layer 4 ask, over data: facts of forests that are right. Plain mathematics, no program. -/
namespace Go.Proofs.Ytllfkiifkkcinaa
open Go.RowKit
/-! ### ShadeOver -/
/-- What is asked of three nodes. -/
structure OverFacts (m : Int) (F : List Core) (x y z : Nat) (c : Core) : Prop where
  self : overZ m F x x = true
  trans : overZ m F x y = true → overZ m F y z = true → overZ m F x z = true
  anti : x ≠ y → overZ m F x y = true → overZ m F y x = false
  held : holdsZ m F x y = true → overZ m F x y = true
  doc : c.kind = 0 → connZ m F x = true ∧ topZ m F x = x
  par : c.kind ≠ 0 → c.parent ≠ -1 → ∃ p : Nat, c.parent = p ∧ p < F.length ∧ connZ m F x = connZ m F p ∧ topZ m F x = topZ m F p
  host : c.kind ≠ 0 → c.parent = -1 → c.host ≠ -1 → ∃ p : Nat, c.host = p ∧ p < F.length ∧ connZ m F x = connZ m F p ∧ topZ m F x = topZ m F p
  alone : c.kind ≠ 0 → c.parent = -1 → c.host = -1 → connZ m F x = false ∧ topZ m F x = x
theorem connZ_eq {m : Int} {F : List Core} (h : rightF m F = true) {a : Nat} (ha : a < F.length) : connZ m F (a : Int) = (kindK F (topZ m F a) == 0) := by
  unfold connZ
  rw [thereF_of h ha, Bool.true_and]
theorem holds_over {m : Int} {F : List Core} (h : rightF m F = true) {a b : Nat} (hb : b < F.length) (hh : holdsT (parF F) a b) : holdsT (parS F) a b := by
  obtain ⟨k, hk⟩ := hh
  have T := tree_of_right h
  have key : ∀ (k b : Nat), b < F.length → upN (parF F) k b = some a → upN (parS F) k b = some a := by
    intro k
    induction k with
    | zero => intro b _ h; exact h
    | succ k ih =>
      intro b hb hu
      unfold upN at hu ⊢
      cases hp : parF F b with
      | none => rw [hp] at hu; cases hu
      | some p =>
        rw [hp] at hu
        have hx : F[b]? = some F[b] := List.getElem?_eq_getElem hb
        have hpar : F[b].parent ≠ -1 := fun e => by rw [right_top hx e] at hp; cases hp
        obtain ⟨q, e1, e2, e3⟩ := right_par h hx hpar
        rw [hp] at e3
        injection e3 with e3
        subst e3
        rw [parS_some ((next_par hx hpar).trans e1)]
        exact ih p e2 hu
  exact ⟨k, key k b hb hk⟩
theorem over_facts {m : Int} {F : List Core} (h : rightF m F = true) {x y z : Nat} {c : Core} (hx : x < F.length) (hy : y < F.length) (hz : z < F.length) (hc : F[x]? = some c) : OverFacts m F x y z c := by
  have T := treeS h
  have upto : ∀ p : Nat, nextUp F (x : Int) = p → p < F.length → connZ m F x = connZ m F p ∧ topZ m F x = topZ m F p := fun p hn hp => by
    have e : topZ m F x = topZ m F p := by
      rw [topZ_eq h hx, topZ_eq h hp]
      unfold topF
      rw [T.root_held hx (Nat.le_refl _) (holds_par (parS_some hn))]
    rw [connZ_eq h hx, connZ_eq h hp, e]
    exact ⟨rfl, rfl⟩
  have top : nextUp F (x : Int) = -1 → topZ m F x = x := fun hn => by
    rw [topZ_eq h hx]
    unfold topF
    rw [rootN_none (parS_none hn)]
  have kind : kindK F (x : Int) = c.kind := by unfold kindK; rw [getC_nat, hc]
  refine ⟨(overZ_iff h hx hx).2 (holds_refl x), fun h1 h2 => ?_, fun hne h1 => ?_, fun h1 => ?_, fun hk => ?_, fun hk hp => ?_, fun hk hp hh => ?_, fun hk hp hh => ?_⟩
  · exact (overZ_iff h hx hz).2 (holds_trans ((overZ_iff h hx hy).1 h1) ((overZ_iff h hy hz).1 h2))
  · cases h2 : overZ m F y x with
    | false => rfl
    | true => exact absurd (T.holds_anti hx hy ((overZ_iff h hx hy).1 h1) ((overZ_iff h hy hx).1 h2)) hne
  · exact (overZ_iff h hx hy).2 (holds_over h hy ((holdsZ_iff h hx hy).1 h1))
  · have hp : c.parent = -1 := by
      by_cases hp : c.parent = -1
      · exact hp
      · rcases right_held h hc hp with e | e <;> omega
    have hh : c.host = -1 := by
      by_cases hh : c.host = -1
      · exact hh
      · have := (right_host h hc hh).1
        omega
    have ht := top ((next_host hc hp).trans hh)
    rw [connZ_eq h hx, ht, kind, hk]
    exact ⟨rfl, rfl⟩
  · obtain ⟨p, e1, e2, _⟩ := right_par h hc hp
    obtain ⟨h1, h2⟩ := upto p ((next_par hc hp).trans e1) e2
    exact ⟨p, e1, e2, h1, h2⟩
  · obtain ⟨_, p, y, e1, e2, _⟩ := right_host h hc hh
    have hl := (List.getElem?_eq_some_iff.1 e2).1
    obtain ⟨h1, h2⟩ := upto p ((next_host hc hp).trans e1) hl
    exact ⟨p, e1, hl, h1, h2⟩
  · have ht := top ((next_host hc hp).trans hh)
    rw [connZ_eq h hx, ht, kind]
    exact ⟨beq_eq_false_iff_ne.2 hk, rfl⟩
/-! ### ShadeAll -/
structure AllFacts (m : Int) (F : List Core) (x : Nat) (l o : List Int) : Prop where
  pos : l[0]? = some (x : Int)
  len : l.length ≤ F.length
  olen : o.length ≤ l.length
  num : ∀ (i : Nat) z, l[i]? = some z → ∃ n : Nat, z = (n : Int) ∧ n < F.length
  many : ∀ n : Nat, n < F.length → hasZ l (n : Int) = if overZ m F x n then 1 else 0
  tops : ∀ n : Nat, n < F.length → overZ m F x n = true → topZ m F n = topZ m F x
  inc : ∀ (i : Nat) a b, o[i]? = some a → o[i + 1]? = some b → findZ l a < findZ l b
  und : ∀ (i : Nat) (n : Nat) c, l[i]? = some (n : Int) → F[n]? = some c → c.under ≠ -1 → ∃ s : Nat, c.under = s ∧ s < F.length ∧ l[i + 1]? = some (s : Int) ∧ ∀ k0, c.kids[0]? = some k0 → findZ l k0 = (i : Int) + 1 + (allZ m F s).length
  conn : connZ m F x = (kindK F (topZ m F x) == 0)
  top : ∃ t : Nat, topZ m F x = t ∧ t < F.length
theorem mem_allI {F : List Core} {z : Int} {n : Nat} : (n : Int) ∈ allI F z ↔ n ∈ allF F z.toNat := by
  unfold allI
  constructor
  · intro hm
    obtain ⟨k, hk, e⟩ := List.mem_map.1 hm
    rwa [Int.ofNat.inj e] at hk
  · intro hm
    exact List.mem_map.2 ⟨n, hm, rfl⟩
theorem allI_nodup {m : Int} {F : List Core} (h : rightF m F = true) {x : Nat} (hx : x < F.length) : (allI F x).Nodup := by
  have hN : (allF F x).Nodup := (treeS h).ord_nodup _ _ hx (by omega)
  unfold allI
  rw [Int.toNat_natCast]
  exact List.Pairwise.map Int.ofNat (fun a b hab e => hab (Int.ofNat.inj e)) hN
theorem allI_num {m : Int} {F : List Core} (h : rightF m F = true) {x : Nat} (hx : x < F.length) {z : Int} (hz : z ∈ allI F x) : ∃ n : Nat, z = (n : Int) ∧ n < F.length := by
  unfold allI at hz
  rw [Int.toNat_natCast] at hz
  obtain ⟨n, hn, rfl⟩ := List.mem_map.1 hz
  exact ⟨n, rfl, (treeS h).ord_lt _ _ hx n hn⟩
theorem allI_len {m : Int} {F : List Core} (h : rightF m F = true) {x : Nat} (hx : x < F.length) : (allI F x).length ≤ F.length := by
  unfold allI
  rw [Int.toNat_natCast, List.length_map]
  exact nodup_sub _ _ ((treeS h).ord_nodup _ _ hx (by omega)) ((treeS h).ord_lt _ _ hx)
theorem hasZ_all {m : Int} {F : List Core} (h : rightF m F = true) {x n : Nat} (hx : x < F.length) (hn : n < F.length) : hasZ (allI F x) (n : Int) = if overZ m F x n then 1 else 0 := by
  rw [hasZ_nodup (allI_nodup h hx)]
  have e2 : overZ m F x n = decide (n ∈ allF F x) := by
    unfold overZ
    rw [thereF_of h hx, thereF_of h hn]
    rfl
  have e1 : ((n : Int) ∈ allI F x) ↔ n ∈ allF F x := by rw [mem_allI, Int.toNat_natCast]
  rw [e2]
  by_cases hm : n ∈ allF F x
  · rw [if_pos (e1.2 hm), decide_eq_true hm, if_pos rfl]
  · rw [if_neg (fun g => hm (e1.1 g)), decide_eq_false hm, if_neg (by decide)]
theorem top_over {m : Int} {F : List Core} (h : rightF m F = true) {x n : Nat} (hx : x < F.length) (hn : n < F.length) (ho : overZ m F x n = true) : topZ m F n = topZ m F x := by
  rw [topZ_eq h hx, topZ_eq h hn]
  unfold topF
  rw [(treeS h).root_held hn (Nat.le_refl _) ((overZ_iff h hx hn).1 ho)]
theorem findZ_app {pre l : List Int} {z : Int} (hn : (pre ++ l).Nodup) (hz : z ∈ l) : findZ (pre ++ l) z = (pre.length : Int) + findZ l z := by
  obtain ⟨k, h1, h2⟩ := find_at hz
  rw [h1, findZ_at hn (j := pre.length + k) (by rw [List.getElem?_append_right (by omega)]; rw [show pre.length + k - pre.length = k by omega]; exact h2)]
  omega
theorem all_facts {m : Int} {F : List Core} (h : rightF m F = true) {x : Nat} (hx : x < F.length) : AllFacts m F x (allZ m F x) (ordZ m F x) := by
  have T := treeS h
  have hN := allI_nodup h hx
  have hsub : ((ordF F x).map Int.ofNat).Sublist (allI F x) := by
    unfold allI ordF allF
    rw [Int.toNat_natCast]
    exact (ord_sub (fun i => List.sublist_append_right _ _) _ _).map _
  rw [allZ_eq h hx, ordZ_eq h hx]
  refine ⟨?_, allI_len h hx, hsub.length_le, fun i z e => allI_num h hx (List.mem_of_getElem? e), fun n hn => hasZ_all h hx hn, fun n hn ho => top_over h hx hn ho, fun i a b ha hb => ?_, fun i n c hi hc hu => ?_, connZ_eq h hx, ⟨topF F x, topZ_eq h hx, topF_lt h hx⟩⟩
  · rw [allI_open h (List.getElem?_eq_getElem hx)]
    rfl
  · have ma := hsub.subset (List.mem_of_getElem? ha)
    have mb := hsub.subset (List.mem_of_getElem? hb)
    rw [findZ_mem ma, findZ_mem mb]
    have := sub_find hsub hN i a b ha hb
    omega
  · obtain ⟨s, u, e1, e2, _⟩ := right_under h hc hu
    have hs := (List.getElem?_eq_some_iff.1 e2).1
    obtain ⟨pre, post, e3, e4⟩ : ∃ pre post, allI F x = pre ++ allI F n ++ post ∧ pre.length = i := by
      have hg : (ordN (kidsS F) (F.length + 1) x)[i]? = some n := by
        unfold allI allF at hi
        rw [Int.toNat_natCast, List.getElem?_map] at hi
        cases hq : (ordN (kidsS F) (F.length + 1) x)[i]? with
        | none => rw [hq] at hi; cases hi
        | some q =>
          rw [hq] at hi
          exact congrArg some (Int.ofNat.inj (Option.some.inj hi))
      obtain ⟨pre, post, e, hl⟩ := T.ord_block _ _ hx (by omega) i n hg
      refine ⟨pre.map Int.ofNat, post.map Int.ofNat, ?_, by rw [List.length_map, hl]⟩
      unfold allI allF
      rw [Int.toNat_natCast, Int.toNat_natCast, e, List.map_append, List.map_append]
    have e5 : allI F n = (n : Int) :: (allI F s ++ c.kids.flatMap (allI F)) := by
      rw [allI_open h hc, if_neg hu, e1]
    obtain ⟨r, hr⟩ : ∃ r, allI F (s : Int) = (s : Int) :: r := ⟨_, allI_open h e2⟩
    refine ⟨s, e1, hs, ?_, fun k0 hk0 => ?_⟩
    · rw [e3, e5, hr, ← e4, List.append_assoc, List.getElem?_append_right (by omega), show pre.length + 1 - pre.length = 1 by omega]
      rfl
    · rw [allZ_eq h hs]
      obtain ⟨ks, hks⟩ : ∃ ks, c.kids = k0 :: ks := by
        cases hq : c.kids with
        | nil => rw [hq] at hk0; cases hk0
        | cons a r => rw [hq] at hk0; exact ⟨r, by rw [show a = k0 by simpa using hk0]⟩
      have hk1 : kidOk F n c k0 = true := (nodeOk_iff.1 (((rightF_iff m F).1 h).2.1 n c hc)).2.2.1 k0 (by rw [hks]; simp)
      obtain ⟨d, hd, _⟩ := kidB_iff.1 (kidOk_iff.1 hk1).2
      obtain ⟨g1, g2, g3⟩ := getC_some hd
      obtain ⟨r0, hr0⟩ : ∃ r0, allI F k0 = k0 :: r0 := by
        have := allI_open h g3
        rw [show ((k0.toNat : Nat) : Int) = k0 by omega] at this
        exact ⟨_, this⟩
      have e6 : allI F x = (pre ++ ((n : Int) :: allI F s)) ++ (k0 :: (r0 ++ ks.flatMap (allI F) ++ post)) := by
        rw [e3, e5, hks, List.flatMap_cons, hr0]
        simp
      have e7 := findZ_app (z := k0) (by rw [← e6]; exact hN) (by simp)
      rw [← e6] at e7
      rw [e7, List.length_append, List.length_cons, e4]
      have : findZ (k0 :: (r0 ++ ks.flatMap (allI F) ++ post)) k0 = 0 := by
        unfold findZ
        rw [findN_cons, if_pos rfl, if_pos (by simp)]
        rfl
      rw [this]
      omega
end Go.Proofs.Ytllfkiifkkcinaa
/- An argument that is a list of attributes, opened. -/
namespace Go.Proofs.Ytllfkiifkkcinaa
open Go.RowKit Go.Deep Go.ChangeShapes Go.WideShapes
theorem block_lt {W : World} {p : Addr} {v : Value} (h : W.cell? p = some v) : p.block < W.heap.size := by
  rcases Nat.lt_or_ge p.block W.heap.size with h1 | h1
  · exact h1
  · unfold World.cell? at h
    rw [Array.getElem?_eq_none h1] at h
    simp at h
theorem open_attrs {H : Type} {enc : TypeId × Value → H} {W : World} {a : Option Addr} {len cap : Nat} {d : DataW H} {p : List MemPlace}
    (h : DataW.Trod enc Try.prog W 0 (fun _ => true) true 25 (.slice a len cap) d p) : ∃ L, AttrRow W a len cap L := by
  obtain ⟨fuel, hf⟩ := h
  rcases open_slice_pairs Try.underlying25 Try.underlying82 (by kernel_rfl) rfl rfl (by kernel_rfl) (by kernel_rfl) hf with ⟨hcs, _⟩ | ⟨ad, l, c, m, n, V0, V1, D0, D1, P0, P1, hcs, _, hl, hm, hmm, _, hi⟩
  · simp [Value.cells] at hcs
    obtain ⟨rfl, rfl, rfl⟩ := hcs
    exact ⟨[], SRow.nil, by simp, fun _ => rfl⟩
  · simp [Value.cells] at hcs
    obtain ⟨rfl, rfl, rfl⟩ := hcs
    have hml : len ≤ m := by rw [hmm]; simpa using hl
    have each : ∀ i, i < len → ∃ x : ByteArray × ByteArray, W.cell? (ad.add (i * 2)) = some (.string x.1) ∧ W.cell? (ad.add (i * 2 + 1)) = some (.string x.2) ∧ x.1.size ≤ maxLen ∧ x.2.size ≤ maxLen := by
      intro i hil
      obtain ⟨h1, h2, h3, h4⟩ := hi i (by omega)
      obtain ⟨s, hs, _, hs3⟩ := DataW.trod_string Try.underlying9 h3
      obtain ⟨t, ht, _, ht3⟩ := DataW.trod_string Try.underlying9 h4
      simp at hs ht
      exact ⟨(s, t), by rw [h1, hs], by rw [h2, ht], hs3, ht3⟩
    obtain ⟨q, hq⟩ := choose_lt each
    refine ⟨(List.range len).map q, ⟨by simp, hl, hm, fun x _ => encA_len x, ?_⟩, ?_, fun h => by cases h⟩
    · rcases Nat.eq_zero_or_pos len with h0 | h0
      · exact .inl h0
      · obtain ⟨b, off, spot⟩ := ad
        have hc := (hq 0 h0).1
        have hspot : spot = none := by simpa [Addr.add] using World.cell?_spot hc
        subst hspot
        refine .inr ⟨b, off, rfl, ?_, ?_⟩
        · have := block_lt hc
          rwa [add_plain] at this
        · intro i x j v hx hv
          obtain ⟨hil, hgx⟩ := List.getElem?_eq_some_iff.1 hx
          have hil' : i < len := by simpa using hil
          simp at hgx
          obtain ⟨h1, h2, _⟩ := hq i hil'
          rw [add_plain] at h1 h2
          rw [hgx] at h1 h2
          obtain ⟨hjl, hgv⟩ := List.getElem?_eq_some_iff.1 hv
          match j, hjl with
          | 0, _ => simp [encA] at hgv; subst hgv; exact h1
          | 1, _ => simp [encA] at hgv; subst hgv; simpa [Nat.add_assoc] using h2
    · intro x hx
      obtain ⟨i, hi1, rfl⟩ := List.mem_map.1 hx
      have := hq i (List.mem_range.1 hi1)
      exact ⟨this.2.2.1, this.2.2.2⟩
end Go.Proofs.Ytllfkiifkkcinaa
/- Arguments that are forests and nodes, opened. -/
namespace Go.Proofs.Ytllfkiifkkcinaa
open Go.RowKit Go.Deep Go.ChangeShapes Go.WideShapes
theorem in64_of {z : Int} (h : (Lit.int .i64 z).wf = true) : In64 z := by
  exact bounds_i64 h
/-- A slice of numbers. -/
theorem open_introw {H : Type} {enc : TypeId × Value → H} {W : World} {a : Option Addr} {len cap : Nat} {d : DataW H} {p : List MemPlace}
    (h : DataW.Trod enc Try.prog W 0 (fun _ => true) true 26 (.slice a len cap) d p) : ∃ L, IntRow W a len cap L := by
  obtain ⟨fuel, hf⟩ := h
  rcases open_slice Try.underlying26 hf with ⟨hcs, _⟩ | ⟨ad, l, c, m, n, D, Pl, hcs, _, hl, hm, hmm, _, hi⟩
  · simp [Value.cells] at hcs
    obtain ⟨rfl, rfl, rfl⟩ := hcs
    exact ⟨[], SRow.nil, by simp, fun _ => rfl⟩
  · simp [Value.cells] at hcs
    obtain ⟨rfl, rfl, rfl⟩ := hcs
    have hml : len ≤ m := by rw [hmm]; simpa using hl
    have ce : Try.prog.cellsOf 3 = 1 := by kernel_rfl
    have each : ∀ i, i < len → ∃ x : Int, W.cell? (ad.add i) = some (.int .i64 x) ∧ In64 x := by
      intro i hil
      obtain ⟨cs', h1, h2⟩ := hi i (by omega)
      rw [ce] at h1
      obtain ⟨_, hlen, hcell⟩ := World.cells?_some h1
      match cs', hlen with
      | [v0], _ =>
        have e0 := hcell 0 (by omega)
        rw [add_add] at e0
        obtain ⟨n0, hn0, _, hw0⟩ := DataW.trod_int Try.underlying3 h2
        simp at hn0
        subst hn0
        exact ⟨n0, by simpa using e0, in64_of hw0⟩
    obtain ⟨q, hq⟩ : ∃ q : Nat → Int, ∀ i, i < len → W.cell? (ad.add i) = some (.int .i64 (q i)) ∧ In64 (q i) := by
      refine ⟨fun i => if h : i < len then (each i h).choose else 0, fun i hil => ?_⟩
      simp only [dif_pos hil]
      exact (each i hil).choose_spec
    refine ⟨(List.range len).map q, ⟨by simp, hl, hm, fun x _ => rfl, ?_⟩, ?_, fun h => by cases h⟩
    · rcases Nat.eq_zero_or_pos len with h0 | h0
      · exact .inl h0
      · obtain ⟨b, off, spot⟩ := ad
        have hc := (hq 0 h0).1
        have hspot : spot = none := by simpa [Addr.add] using World.cell?_spot hc
        subst hspot
        refine .inr ⟨b, off, rfl, ?_, ?_⟩
        · have := block_lt hc
          rwa [add_plain] at this
        · intro i x j v hx hv
          obtain ⟨hil, hgx⟩ := List.getElem?_eq_some_iff.1 hx
          have hil' : i < len := by simpa using hil
          simp at hgx
          obtain ⟨h1, _⟩ := hq i hil'
          rw [add_plain] at h1
          rw [hgx] at h1
          obtain ⟨hjl, hgv⟩ := List.getElem?_eq_some_iff.1 hv
          match j, hjl with
          | 0, _ => simp [encZ] at hgv; subst hgv; simpa using h1
    · intro x hx
      obtain ⟨i, hi1, rfl⟩ := List.mem_map.1 hx
      exact (hq i (List.mem_range.1 hi1)).2
theorem slice_cells {H : Type} {enc : TypeId × Value → H} {W : World} {t e : TypeId} {fuel : Nat} {v : Value} {x : DataW H × List MemPlace} (ht : Try.prog.underlying t = some (.slice e))
    (h : DataW.trod enc Try.prog W 0 (fun _ => true) true fuel t [v] = some x) : ∃ a n c, v = .slice a n c := by
  rcases open_slice ht h with ⟨hcs, _⟩ | ⟨ad, l, c, m, n, D, Pl, hcs, _⟩
  · exact ⟨none, 0, 0, by simpa using hcs⟩
  · exact ⟨some ad, l, c, by simpa using hcs⟩
set_option maxRecDepth 100000 in
/-- The cells of a node, read as data. -/
theorem open_nodecells {H : Type} {enc : TypeId × Value → H} {W : World} {cs : List Value} {d : DataW H} {p : List MemPlace} {fuel : Nat} (hc : cs.length = 10)
    (h : DataW.trod enc Try.prog W 0 (fun _ => true) true fuel 28 cs = some (d, p)) : ∃ x : NodeD, cs = encN x ∧ NodeOk W x := by
  obtain ⟨xs, k, _, _, _, hxl, hff⟩ := DataW.trod_struct Try.underlying28 h
  have c3 : Try.prog.cellsOf 3 = 1 := by kernel_rfl
  have c9 : Try.prog.cellsOf 9 = 1 := by kernel_rfl
  have ca : Try.prog.cellsOf 25 = 1 := by kernel_rfl
  have ci : Try.prog.cellsOf 26 = 1 := by kernel_rfl
  match cs, hc with
  | [v0, v1, v2, v3, v4, v5, v6, v7, v8, v9], _ =>
    match xs, hxl with
    | [y0, y1, y2, y3, y4, y5, y6, y7, y8, y9], _ =>
      have g0 := hff 0 _ rfl
      have g1 := hff 1 _ rfl
      have g2 := hff 2 _ rfl
      have g3 := hff 3 _ rfl
      have g4 := hff 4 _ rfl
      have g5 := hff 5 _ rfl
      have g6 := hff 6 _ rfl
      have g7 := hff 7 _ rfl
      have g8 := hff 8 _ rfl
      have g9 := hff 9 _ rfl
      simp [c3, c9, ca, ci] at g0 g1 g2 g3 g4 g5 g6 g7 g8 g9
      obtain ⟨n0, hn0, _, hw0⟩ := DataW.trod_int Try.underlying3 g0
      obtain ⟨s1, hs1, _, hl1⟩ := DataW.trod_string Try.underlying9 g1
      obtain ⟨s2, hs2, _, hl2⟩ := DataW.trod_string Try.underlying9 g2
      obtain ⟨s3, hs3, _, hl3⟩ := DataW.trod_string Try.underlying9 g3
      obtain ⟨n5, hn5, _, hw5⟩ := DataW.trod_int Try.underlying3 g5
      obtain ⟨n7, hn7, _, hw7⟩ := DataW.trod_int Try.underlying3 g7
      obtain ⟨n8, hn8, _, hw8⟩ := DataW.trod_int Try.underlying3 g8
      obtain ⟨n9, hn9, _, hw9⟩ := DataW.trod_int Try.underlying3 g9
      simp at hn0 hs1 hs2 hs3 hn5 hn7 hn8 hn9
      subst hn0 hs1 hs2 hs3 hn5 hn7 hn8 hn9
      obtain ⟨a4, l4, c4, rfl⟩ := slice_cells Try.underlying25 g4
      obtain ⟨a6, l6, c6, rfl⟩ := slice_cells Try.underlying26 g6
      obtain ⟨A, hA⟩ := open_attrs (enc := enc) (W := W) (a := a4) (len := l4) (cap := c4) (d := y4.1) (p := y4.2) ⟨k, by simpa [Value.cells] using g4⟩
      obtain ⟨K, hK⟩ := open_introw (enc := enc) (W := W) (a := a6) (len := l6) (cap := c6) (d := y6.1) (p := y6.2) ⟨k, by simpa [Value.cells] using g6⟩
      exact ⟨⟨⟨n0, s1, s2, s3, A, n5, K, n7, n8, n9⟩, a4, l4, c4, a6, l6, c6⟩, rfl, hA, hK, hl1, hl2, hl3, in64_of hw0, in64_of hw5, in64_of hw7, in64_of hw8, in64_of hw9⟩
/-- A slice of nodes. -/
theorem open_noderow {H : Type} {enc : TypeId × Value → H} {W : World} {a : Option Addr} {len cap : Nat} {d : DataW H} {p : List MemPlace}
    (h : DataW.Trod enc Try.prog W 0 (fun _ => true) true 22 (.slice a len cap) d p) : ∃ L, NodeRow W a len cap L := by
  obtain ⟨fuel, hf⟩ := h
  rcases open_slice Try.underlying22 hf with ⟨hcs, _⟩ | ⟨ad, l, c, m, n, D, Pl, hcs, _, hl, hm, hmm, _, hi⟩
  · simp [Value.cells] at hcs
    obtain ⟨rfl, rfl, rfl⟩ := hcs
    exact ⟨[], SRow.nil, by simp, fun _ => rfl⟩
  · simp [Value.cells] at hcs
    obtain ⟨rfl, rfl, rfl⟩ := hcs
    have hml : len ≤ m := by rw [hmm]; simpa using hl
    have ce : Try.prog.cellsOf 28 = 10 := by kernel_rfl
    have each : ∀ i, i < len → ∃ x : NodeD, NodeOk W x ∧ ∀ j v, (encN x)[j]? = some v → W.cell? (ad.add (i * 10 + j)) = some v := by
      intro i hil
      obtain ⟨cs', h1, h2⟩ := hi i (by omega)
      rw [ce] at h1
      obtain ⟨_, hlen, hcell⟩ := World.cells?_some h1
      obtain ⟨x, hx, hok⟩ := open_nodecells hlen h2
      refine ⟨x, hok, fun j v hv => ?_⟩
      have hj : j < 10 := (List.getElem?_eq_some_iff.1 hv).1
      have e0 := hcell j hj
      rw [add_add, hx, hv] at e0
      exact e0
    obtain ⟨q, hq⟩ : ∃ q : Nat → NodeD, ∀ i, i < len → NodeOk W (q i) ∧ ∀ j v, (encN (q i))[j]? = some v → W.cell? (ad.add (i * 10 + j)) = some v := by
      rcases Nat.eq_zero_or_pos len with h0 | h0
      · exact ⟨fun _ => ⟨⟨0, ByteArray.empty, ByteArray.empty, ByteArray.empty, [], 0, [], 0, 0, 0⟩, none, 0, 0, none, 0, 0⟩, fun i hi => by omega⟩
      · refine ⟨fun i => if h : i < len then (each i h).choose else (each 0 h0).choose, fun i hil => ?_⟩
        simp only [dif_pos hil]
        exact (each i hil).choose_spec
    refine ⟨(List.range len).map q, ⟨by simp, hl, hm, fun x _ => rfl, ?_⟩, ?_, fun h => by cases h⟩
    · rcases Nat.eq_zero_or_pos len with h0 | h0
      · exact .inl h0
      · obtain ⟨b, off, spot⟩ := ad
        have hc := (hq 0 h0).2 0 _ rfl
        have hspot : spot = none := by simpa [Addr.add] using World.cell?_spot hc
        subst hspot
        refine .inr ⟨b, off, rfl, ?_, ?_⟩
        · have := block_lt hc
          rwa [add_plain] at this
        · intro i x j v hx hv
          obtain ⟨hil, hgx⟩ := List.getElem?_eq_some_iff.1 hx
          have hil' : i < len := by simpa using hil
          simp at hgx
          have h1 := (hq i hil').2 j v (by rw [hgx]; exact hv)
          rw [add_plain] at h1
          simpa [Nat.add_assoc] using h1
    · intro x hx
      obtain ⟨i, hi1, rfl⟩ := List.mem_map.1 hx
      exact (hq i (List.mem_range.1 hi1)).1
/-- A forest, by value. -/
theorem open_forest {H : Type} {enc : TypeId × Value → H} {W : World} {r : Reach} {b0 : Nat} {v : Value} {d : DataW H} {p : List MemPlace} (hv : Value.okWide Try.prog W r b0 24 v)
    (h : DataW.Trod enc Try.prog W 0 (fun _ => true) true 24 v d p) : ∃ a len cap m L, v = .agg #[.slice a len cap, .int .i64 m] ∧ NodeRow W a len cap L ∧ In64 m := by
  obtain ⟨cs, rfl, hsz⟩ := okWide_struct Try.underlying24 hv
  have hC : Try.prog.cellsOf 24 = 2 := by kernel_rfl
  have c3 : Try.prog.cellsOf 3 = 1 := by kernel_rfl
  have cn : Try.prog.cellsOf 22 = 1 := by kernel_rfl
  obtain ⟨l⟩ := cs
  match l, hsz.trans hC with
  | [v0, v1], _ =>
    obtain ⟨fuel, hf⟩ := h
    obtain ⟨xs, k, _, _, _, hxl, hff⟩ := DataW.trod_struct Try.underlying24 hf
    match xs, hxl with
    | [y0, y1], _ =>
      have g0 := hff 0 _ rfl
      have g1 := hff 1 _ rfl
      simp [c3, cn, Value.cells] at g0 g1
      obtain ⟨n1, hn1, _, hw1⟩ := DataW.trod_int Try.underlying3 g1
      simp at hn1
      subst hn1
      obtain ⟨a4, l4, c4, rfl⟩ := slice_cells Try.underlying22 g0
      obtain ⟨L, hL⟩ := open_noderow (enc := enc) (W := W) (a := a4) (len := l4) (cap := c4) (d := y0.1) (p := y0.2) ⟨k, by simpa [Value.cells] using g0⟩
      exact ⟨a4, l4, c4, n1, L, rfl, hL, in64_of hw1⟩
/-- A node, by value. -/
theorem open_node {H : Type} {enc : TypeId × Value → H} {W : World} {r : Reach} {b0 : Nat} {v : Value} {d : DataW H} {p : List MemPlace} (hv : Value.okWide Try.prog W r b0 28 v)
    (h : DataW.Trod enc Try.prog W 0 (fun _ => true) true 28 v d p) : ∃ x, v = .agg (encN x).toArray ∧ NodeOk W x := by
  obtain ⟨cs, rfl, hsz⟩ := okWide_struct Try.underlying28 hv
  have hC : Try.prog.cellsOf 28 = 10 := by kernel_rfl
  obtain ⟨l⟩ := cs
  obtain ⟨fuel, hf⟩ := h
  obtain ⟨x, hx, hok⟩ := open_nodecells (cs := l) (hsz.trans hC) (by simpa [Value.cells] using hf)
  exact ⟨x, by rw [hx], hok⟩
end Go.Proofs.Ytllfkiifkkcinaa
