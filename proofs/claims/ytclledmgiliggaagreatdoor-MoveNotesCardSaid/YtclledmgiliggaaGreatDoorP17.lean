/- Texts joined in build order: ForestNew ForestIter OrderKit. -/
import Derived.Test.YtclledmgiliggaaGreatDoorP16
import Derived.RangeFuncNested
import Derived.RangeFuncBound
import Derived.RangeFuncCalls
import Derived.RangeFuncLeaves
import Derived.RangeFuncBox
import Derived.Shelf.Abstract
import Derived.Shelf.RegionOpen
import Derived.WalkKit
import Derived.OwnWalkIn
import Derived.TacticsInMore
import Derived.LoopNIn
import Derived.LoopIn
import Derived.Test.YtclledmgiliggaaGreatDoorP03
namespace Go.Proofs.YtclledmgiliggaaGreatDoor
open Go.RowKit
def zeroD : NodeD := ⟨⟨0, ⟨#[]⟩, ⟨#[]⟩, ⟨#[]⟩, [], 0, [], 0, 0, 0⟩, none, 0, 0, none, 0, 0⟩
theorem zeroD_ok (w : World) : NodeOk w zeroD := by
  refine ⟨⟨SRow.nil, (fun z hz => by cases hz), fun _ => rfl⟩, ⟨SRow.nil, (fun z hz => by cases hz), fun _ => rfl⟩, ?_, ?_, ?_, ?_, ?_, ?_, ?_, ?_⟩
  · show 0 ≤ maxLen; decide
  · show 0 ≤ maxLen; decide
  · show 0 ≤ maxLen; decide
  all_goals exact ⟨by show (_ : Int) ≤ 0; decide, by show (0 : Int) ≤ _; decide⟩
theorem right_doc (m : Int) : rightF m [docC] = newOk m := by
  have h : ([docC].zipIdx.all (fun p => nodeOk [docC] p.2 p.1) && (List.range [docC].length).all (fun i => endsZ (nextUp [docC]) ([docC].length + 1) (i : Int)) && headDoc [docC]) = true := by decide +kernel
  simp only [Bool.and_eq_true] at h
  unfold rightF newOk
  rw [h.1.1, h.1.2, h.2, Bool.eq_iff_iff]
  simp
  omega
theorem doc_small {y : NodeD} (h : y.core = docC) : smallF [y] := by
  refine ⟨by simp, fun x hx => ?_⟩
  obtain rfl : x = y := by simpa using hx
  unfold smallN
  rw [h]
  exact ⟨by decide, by decide, by decide⟩
theorem NodeRow.boxCell {w : World} {b o g len cap : Nat} {L : List NodeD} (h : NodeRow w (some ⟨b, o, none⟩) len cap L) (hne : b ≠ g) (ha : ∀ x ∈ L, NodeAway g x) (o2 : Nat) (u : Value) : NodeRow (w.setCell ⟨g, o2, none⟩ u) (some ⟨b, o, none⟩) len cap L :=
  ⟨h.row.keep (by simp [World.setCell]) (fun b' off e _ o' => World.cell?_setCell_other _ _ _ _ (fun e2 => hne (by injection e with e; injection e with e; injection e2 with e2; omega))), fun x hx => (h.ok x hx).setCell (ha x hx) u, h.hnil⟩
set_option maxHeartbeats 8000000 in
set_option maxRecDepth 100000 in
theorem newFn_any (most : Int) (w : World) (hm : In64 most) : Calls Tryz.prog 44 #[.int .i64 most] w (ForPost w (newL most) (newM most) [.int .i64 (newE most)]) := by
  have HM := Lib.hid hm
  have CA : Hid (∀ W, Calls Tryz.prog 89 #[nodVal zeroD, .int .i64 0] W (AlonePost W zeroD.core 0)) := Lib.hid (fun W => alone_any zeroD 0 W (zeroD_ok W) ⟨by decide, by decide⟩ (by decide))
  have B0 := Lib.hid (Box2.new w (.slice none 0 0) (.int .i64 0) 24)
  clear hm
  go_enter Tryz.func44, Tryz.ntmps44
  go_wp2_with (go_at_call 89; refine (CA.out _).mono ?_; intro e w1 hp; obtain ⟨y, rfl, hyc, hyo, hb, hya, hyk⟩ := hp; have HY := Lib.hid hyo; have HYC := Lib.hid hyc; have HB := Lib.hid hb; have HYA := Lib.hid hya; have HYK := Lib.hid hyk; have B1 := Lib.hid (B0.out.keep hb); clear hyo hyc hb hya hyk)
  obtain ⟨W, hW, RW, BR, BG, BW⟩ : ∃ W, (w1.alloc (nodB y)).alloc (.cells #[.slice (some ⟨w1.heap.size, 0, none⟩) 1 1, .int .i64 most] 24) = W ∧ NodeRow W (some ⟨w1.heap.size, 0, none⟩) 1 1 [y] ∧ Box2 W w.heap.size (.slice none 0 0) (.int .i64 0) ∧ Box2 W (w1.heap.size + 1) (.slice (some ⟨w1.heap.size, 0, none⟩) 1 1) (.int .i64 most) ∧ Below w.heap.size w W := by
    have h1 : NodeRow (w1.alloc (nodB y)) (some ⟨w1.heap.size, 0, none⟩) 1 1 [y] := ⟨own_one w1 46 y (encN y).toArray (by simp) rfl, (fun z hz => by
      obtain rfl : z = y := by simpa using hz
      exact HY.out.below (below_box _ _)), fun h => by cases h⟩
    have hs : (w1.alloc (nodB y)).heap.size = w1.heap.size + 1 := by simp
    have h2 := Box2.new (w1.alloc (nodB y)) (.slice (some ⟨w1.heap.size, 0, none⟩) 1 1) (.int .i64 most) 24
    rw [hs] at h2
    exact ⟨_, rfl, h1.below (below_box _ _), (B1.out.keep (below_box _ _)).keep (below_box _ _), h2, ((below_box w _).trans ((HB.out.mono (by simp)).trans (((below_box w1 _).trans ((below_box _ _).mono (by simp))).mono (by have := HB.out.size; simp at this; omega))))⟩
  rw [hW]
  have RW := Lib.hid RW
  have BR := Lib.hid BR
  have BG := Lib.hid BG
  have BW := Lib.hid BW
  have CR : Hid (Calls Tryz.prog 20 #[forV (some ⟨w1.heap.size, 0, none⟩) 1 1 most] W fun e w' => e = .returned (.bool (newOk most)) ∧ Below W.heap.size W w') := Lib.hid (by
    have hc : coreL [y] = [docC] := by unfold coreL; rw [List.map_cons, List.map_nil, HYC.out]; rfl
    have := rightF_any (some ⟨w1.heap.size, 0, none⟩) 1 1 most [y] W RW.out HM.out (doc_small (by rw [HYC.out]; rfl))
    rwa [hc, right_doc] at this)
  clear hW
  cases hn : newOk most with
  | false =>
    rw [hn] at CR
    have HN : Hid (newL most = [] ∧ newM most = 0 ∧ newE most = 1) := Lib.hid (by unfold newL newM newE; rw [hn]; exact ⟨rfl, rfl, rfl⟩)
    clear hn
    go_wp2_with (refine CR.out.mono ?_; rintro e w2 ⟨rfl, hb⟩; have BR := Lib.hid (BR.out.keep hb); have BG := Lib.hid (BG.out.keep hb); have BW := Lib.hid (BW.out.trans (hb.mono BW.out.size)); have e0 := BR.out.c0; have e1 := BR.out.c1; have g0 := BR.out.f0; have g1 := BR.out.f1; clear hb)
    rw [HN.out.1, HN.out.2.1, HN.out.2.2]
    refine bodyPost_ret (v := .tuple #[forV none 0 0 0, .int .i64 1]) ?_ rfl ⟨none, 0, 0, [], rfl, ⟨SRow.nil, (fun x hx => by cases hx), fun _ => rfl⟩, rfl, (BW.out.setCell (p := ⟨w.heap.size, 0, none⟩) (Nat.le_refl _) _).setCell (p := ⟨w.heap.size, 1, none⟩) (Nat.le_refl _) _⟩
    simp [results, Tryz.results44, go_sem, e0, e1]
  | true =>
    rw [hn] at CR
    have HN : Hid (newL most = [docC] ∧ newM most = most ∧ newE most = 0) := Lib.hid (by unfold newL newM newE; rw [hn]; exact ⟨rfl, rfl, rfl⟩)
    have HNE : Hid (w1.heap.size ≠ w.heap.size) := Lib.hid (by have := HB.out.size; simp at this; omega)
    have HAW : Hid (∀ x ∈ [y], NodeAway w.heap.size x) := Lib.hid (fun x hx => by
      obtain rfl : x = y := by simpa using hx
      refine ⟨fun b off hb _ e => ?_, fun b off hb => by rw [HYK.out] at hb; cases hb⟩
      have := HYA.out b off hb
      simp at this
      omega)
    clear hn
    go_wp2_with (refine CR.out.mono ?_; rintro e w2 ⟨rfl, hb⟩; have BR := Lib.hid (BR.out.keep hb); have BG := Lib.hid (BG.out.keep hb); have BW := Lib.hid (BW.out.trans (hb.mono BW.out.size)); have RW := Lib.hid (RW.out.below hb); have d0 := BG.out.c0; have d1 := BG.out.c1; have e0 := BR.out.c0; have e1 := BR.out.c1; have g0 := BR.out.f0; have g1 := BR.out.f1; clear hb)
    rw [HN.out.1, HN.out.2.1, HN.out.2.2]
    refine bodyPost_ret (v := .tuple #[forV (some ⟨w1.heap.size, 0, none⟩) 1 1 most, .int .i64 0]) ?_ rfl ⟨_, 1, 1, [y], rfl, (RW.out.boxCell HNE.out HAW.out 0 _).boxCell HNE.out HAW.out 1 _, by unfold coreL; rw [List.map_cons, List.map_nil, HYC.out]; rfl, (BW.out.setCell (p := ⟨w.heap.size, 0, none⟩) (Nat.le_refl _) _).setCell (p := ⟨w.heap.size, 1, none⟩) (Nat.le_refl _) _⟩
    simp [results, Tryz.results44, go_sem, e0, e1]
end Go.Proofs.YtclledmgiliggaaGreatDoor
namespace Go.Proofs.YtclledmgiliggaaGreatDoor
open Go.RowKit Go.Shelf
attribute [local go_sem] Oper.semAt_some
set_option maxHeartbeats 2000000 in
theorem backward_any (a : Option Addr) (len cap : Nat) (w : World) :
    Calls Tryz.prog 150 #[.slice a len cap] w fun e w' => e = .returned (.func (.func 162) #[] #[.pointer (some ⟨w.heap.size, 0, none⟩)]) ∧ w' = w.alloc (.cells #[.slice a len cap] 44) := by
  go_enter Tryz.func150, Tryz.ntmps150
  go_wp2
  go_ret
  exact ⟨rfl, rfl⟩
def backF (K : List Int) (j : Nat) : Int × Int := ((K.length : Int) - 1 - j, K[K.length - 1 - j]?.getD 0)
def backTo (K : List Int) (k : Nat) : List (Int × Int) := (List.range k).map (backF K)
theorem backTo_succ (K : List Int) (k : Nat) : backTo K (k + 1) = backTo K k ++ [backF K k] := by simp [backTo, List.range_succ]
theorem backTo_length (K : List Int) (k : Nat) : (backTo K k).length = k := by simp [backTo]
def KpB (Bs n₀ : Nat) (W W' : World) : Prop := W'.heap[Bs]? = W.heap[Bs]? ∧ Below n₀ W W'
abbrev encP (x : Int × Int) : Array Value := #[.int .i64 x.1, .int .i64 x.2]
set_option maxRecDepth 100000 in
set_option maxHeartbeats 4000000 in
theorem back1_in (F : Fence) (n : Nat) (hf : F.fn 162) (hro : F.round = none) (hn : 1 ≤ n) (l Bs n₀ : Nat) (a : Option Addr) (len cap : Nat) (K : List Int) (J Jx : List (Int × Int) → World → Prop)
    (hY : ∀ pre x W, J pre W → pre.length < len → YieldAt F (n - 1) Tryz.prog l (encP x) W fun e W' =>
      (e = .returned (.bool true) ∧ J (pre ++ [x]) W' ∧ KpB Bs n₀ W W') ∨ (e = .returned (.bool false) ∧ Jx (pre ++ [x]) W'))
    (W : World) (hBs : W.cell? ⟨Bs, 0, none⟩ = some (.slice a len cap)) (hK : IntRow W a len cap K) (hlow : ∀ b off, a = some ⟨b, off, none⟩ → 0 < len → b < n₀) (h0 : J [] W) :
    CallsIn F n Tryz.prog 162 #[.func (.yield l) #[] #[], .pointer (some ⟨Bs, 0, none⟩)] W fun e W' => (∃ v, e = .returned v) ∧
      ((∃ ys, ys = backTo K len ∧ J ys W') ∨ (∃ pre, pre.length ≤ len ∧ Jx pre W')) := by
  have hl := hK.len64
  have HL := Lib.hid hK.hlen
  have HK := Lib.hid hK
  clear hK
  refine callsIn_of_wp Tryz.func162 rfl hf ?_ hro
  simp only [Tryz.ntmps162, List.size_toArray, List.length_cons, List.length_nil, Nat.reduceAdd, Nat.reduceSub, Array.replicate_succ, Array.replicate_zero, List.push_toArray, List.append_toArray, List.nil_append, List.cons_append]
  gi_wp2
  gi_loopw [3] (fun i wr => ∃ k : Nat, k ≤ len ∧ i = .int .i64 ((len : Int) - 1 - k) ∧ J (backTo K k) wr ∧ KpB Bs n₀ W wr) (fun i _ => (intOf i + 1).toNat)
  case atStart => exact ⟨0, Nat.zero_le _, by simp, h0, rfl, Below.refl _ _⟩
  case round =>
    obtain ⟨k, hk, rfl, hJs, hkp⟩ := hrel
    have hB2 : wr.cell? ⟨Bs, 0, none⟩ = some (.slice a len cap) := (World.cell?_of_block (a := ⟨Bs, 0, none⟩) hkp.1).trans hBs
    by_cases hlt : k < len
    · obtain ⟨j, hj⟩ : ∃ j : Nat, (len : Int) - 1 - k = j := ⟨len - 1 - k, by omega⟩
      obtain ⟨b, off, z, rfl, hb, hz, hcz, hin⟩ := HK.out.get (k := j) (by omega)
      have hcz2 : wr.cell? ⟨b, off + j, none⟩ = some (.int .i64 z) := (hkp.2.cell (p := ⟨b, off + j, none⟩) (hlow b off rfl (by omega))).trans hcz
      have hfk : backF K k = ((j : Int), z) := by
        unfold backF
        rw [HL.out, hj, show len - 1 - k = j by omega, hz]
        rfl
      obtain ⟨fn, tmps, assign, body, hy, hR⟩ := hY _ ((j : Int), z) wr hJs (by rw [backTo_length]; exact hlt)
      try dsimp only at hy
      rw [hj]
      have hj64 : j ≤ 9223372036854775807 := by omega
      clear hz hcz hin
      gi_wp2
      refine hR.mono ?_
      rintro e W3 (⟨rfl, hJ3, hk3⟩ | ⟨rfl, hJx3⟩)
      · gi_wp2
        go_roundw
        case rel => exact ⟨k + 1, by omega, by congr 1; omega, by rw [backTo_succ, hfk]; exact hJ3, hk3.1.trans hkp.1, hkp.2.trans hk3.2⟩
        case measure => simp [intOf]
      · gi_wp2
        refine bodyPost_ret (results_none rfl _ _ _) rfl ?_
        exact ⟨⟨_, rfl⟩, .inr ⟨_, by rw [List.length_append, backTo_length]; simp; omega, hJx3⟩⟩
    · have hkk : k = len := by omega
      subst hkk
      have e1 : (k : Int) - 1 - k = -1 := by omega
      rw [e1]
      gi_wp2
      go_end0
      exact ⟨⟨_, rfl⟩, .inl ⟨_, rfl, hJs⟩⟩
theorem back_stops (F : Fence) (n : Nat) (hf : F.fn 162) (hro : F.round = none) (hn : 1 ≤ n) (Bs n₀ : Nat) (a : Option Addr) (len cap : Nat) (K : List Int) (w : World) (hBs : Bs < w.heap.size) 
    (hc : w.cell? ⟨Bs, 0, none⟩ = some (.slice a len cap)) (hK : IntRow w a len cap K) (hlow : ∀ b off, a = some ⟨b, off, none⟩ → 0 < len → b < n₀) :
    SeqStopsK F n Tryz.prog 162 #[.pointer (some ⟨Bs, 0, none⟩)] encP (KpB Bs n₀) (fun ys => ys = backTo K len) (fun pre => pre.length ≤ len) len w := fun l J Jx W hW _ _ hY h0 =>
  back1_in F n hf hro hn l Bs n₀ a len cap K J Jx hY W ((hW.cell (p := ⟨Bs, 0, none⟩) hBs).trans hc) (hK.below hW) hlow h0
end Go.Proofs.YtclledmgiliggaaGreatDoor
namespace Go.Proofs.YtclledmgiliggaaGreatDoor
open Go.RowKit Go.Shelf
theorem wpListIn_append_keep {F : Fence} {n : Nat} {P : Program} (w : World) {ops : Array Oper} {rest : List Oper} {o : Oper} {a : Act} {Q : Exit → Act → World → Prop}
    (hg : o.guard = none) (s x : Operand) (t : TypeId) (hop : o.op = Op.call { callee := Callee.builtin Builtin.append, args := #[s, x], argTypes := #[t, t] })
    (base : Nat) (e : TypeId) (i : TypeInfo) (z : Value) (size bytes : Nat) (h1 : P.underlying t = some (.slice e)) (h2 : P.info? e = some i) (h3 : i.zero = some z) (h4 : i.size = size) (h5 : i.bytes = bytes) (h6 : z.cells.size = size) (h7 : 0 < size)
    (v : Value) (k : Nat) (xs : List Value) (hs : a.eval s = v) (hown : w.ownsRow base e size v k xs) (ad : Addr) (m c : Nat) (news : List Value) (hx : a.eval x = .slice (some ad) m c) (hn : news.length = m * size)
    (hc : ∀ j u, news[j]? = some u → w.cell? (ad.add j) = some u) (h1c : ∀ u ∈ news, u.oneCell' = true) (hm : 0 < m) (b1 : k + m ≤ maxLen) (b2 : (k + m) * bytes ≤ 140737488355328) (b3 : base ≤ w.heap.size)
    (hK : ∀ g cap w', w'.ownsRow base e size (.slice (some ⟨g, 0, none⟩) (k + m) cap) (k + m) (xs ++ news) → w'.ownsRow base e size v k xs → w.grownBy w' v.ownBlock → (v.ownBlock = some g ∨ g = w.heap.size) → g < w'.heap.size → wpListIn F n P ops Q rest (a.put o.dst (.slice (some ⟨g, 0, none⟩) (k + m) cap)) w') :
    wpListIn F n P ops Q (o :: rest) a w := by
  refine wpListIn_plain hg fun K hK' => ?_
  obtain ⟨g, cap, w', hrun, r1, r2, r3, r4, r5⟩ := run_append_keep (P := P) w t o.type base e i z size bytes h1 h2 h3 h4 h5 h6 h7 v k xs hown ad m c news hn hc h1c hm b1 b2 b3
  unfold Oper.wpIn
  refine ⟨?_, ?_⟩
  · simp [Oper.about, hop, resolve, Target.leads, Sem.run_pure]
  · rw [Oper.semAt_plain F _ _ (by rw [hop]; intro c hc'; cases hc')]
    simp [execOp, hop, resolve, invoke, builtin, hs, hx, hrun, Result.andThen]
    exact hK' _ _ (hK g cap w' r1 r2 r3 r4 r5)
abbrev markD (D : Nat) : Deferred := { target := .collected D, args := #[] }
structure Marks (B : Nat) (ds : List Nat) (W : World) : Prop where
  nd : ds.Nodup
  at_ : ∀ D ∈ ds, B ≤ D ∧ W.heap[D]? = some (.deferred (some []))
theorem Marks.kept {B : Nat} {ds : List Nat} {W W2 : World} {row : Option Nat} (h : Marks B ds W) (hg : W.grownBy W2 row) (hne : ∀ r, row = some r → (∃ c e f, W.heap[r]? = some (.cells c e f)) ∨ r ∉ ds) : Marks B ds W2 := by
  refine ⟨h.nd, fun D hD => ⟨(h.at_ D hD).1, (hg.block D (Array.getElem?_eq_some_iff.1 (h.at_ D hD).2).1 (fun e => ?_)).trans (h.at_ D hD).2⟩⟩
  rcases hne D e.symm with ⟨c, t, f, hc⟩ | hn
  · rw [(h.at_ D hD).2] at hc
    cases hc
  · exact hn hD
theorem leaves_marks {F : Fence} {n : Nat} {P : Program} {fn : Func} {tmps : Array Value} {R : Ending → World → Prop} (B : Nat) (Φ : World → Prop)
    (stab : ∀ W D, Φ W → B ≤ D → W.heap[D]? = some (.deferred (some [])) → Φ (W.putObj D (.deferred none))) (fin : ∀ W, Φ W → LeavesIn F n P fn tmps R [] .returning W) :
    ∀ (ds : List Nat) (W : World), Marks B ds W → Φ W → LeavesInM F n P fn tmps R (ds.map markD) .returning W
  | [], W, _, h => fin W h
  | D :: ds, W, hm, h => by
    have hD := hm.at_ D (by simp)
    have hnd := List.nodup_cons.1 hm.nd
    refine ⟨by simp, .inl ⟨D, _, rfl, run_takeDeferred hD.2, ?_⟩⟩
    refine leaves_marks B Φ stab fin ds _ ⟨hnd.2, fun E hE => ⟨(hm.at_ E (by simp [hE])).1, ?_⟩⟩ (stab W D h hD.1 hD.2)
    have hne : E ≠ D := fun e => hnd.1 (by rw [← e]; exact hE)
    rw [World.putObj_heap_other hne]
    exact (hm.at_ E (by simp [hE])).2
theorem own_prefix {w : World} {base : Nat} {e : TypeId} {size g k cap : Nat} {xs ys : List Value} (h : w.ownsRow base e size (.slice (some ⟨g, 0, none⟩) (k + 1) cap) (k + 1) (xs ++ ys)) (hl : xs.length = k * size) : w.ownsRow base e size (.slice (some ⟨g, 0, none⟩) k cap) k xs := by
  refine ⟨hl, ?_⟩
  rcases h.2 with ⟨hv, _⟩ | ⟨g', cap', cur, hv, hb, hg, h1, h2, h3, h4⟩
  · cases hv
  · injection hv with e1 e2 e3
    subst e3
    refine .inr ⟨g', cap, cur, by rw [e1], hb, hg, by omega, h2, h3, ?_⟩
    have := congrArg (List.take (k * size)) h4
    rw [List.take_take, Nat.min_eq_left (Nat.mul_le_mul_right _ (by omega)), ← hl, List.take_left] at this
    rw [← hl]
    exact this
structure Hand (w1 W : World) (B Bp g cp : Nat) (vo : Value) (out P : List Int) : Prop where
  below : Below B w1 W
  pile : Boxed W Bp 44 (.slice (some ⟨g, 0, none⟩) P.length cp)
  low : B ≤ Bp
  prow : W.ownsRow B 3 1 (.slice (some ⟨g, 0, none⟩) P.length cp) P.length (P.map encI)
  orow : W.ownsRow B 3 1 vo out.length (out.map encI)
  apart : vo.ownBlock ≠ some g
theorem Hand.kept {w1 W W2 : World} {B Bp g cp : Nat} {vo : Value} {out P : List Int} {row : Option Nat} (h : Hand w1 W B Bp g cp vo out P) (hg : W.grownBy W2 row) (hB : ∀ r, row = some r → B ≤ r) (h1 : some Bp ≠ row) (h2 : some g ≠ row) (h3 : vo.ownBlock = none ∨ vo.ownBlock ≠ row) (hsz : B ≤ W.heap.size) : Hand w1 W2 B Bp g cp vo out P :=
  ⟨h.below.grown hg hsz (fun k e => hB k e), h.pile.kept hg h1, h.low, h.prow.kept hg (.inr h2), h.orow.kept hg h3, h.apart⟩
theorem Hand.size {w1 W : World} {B Bp g cp : Nat} {vo : Value} {out P : List Int} (h : Hand w1 W B Bp g cp vo out P) : B ≤ W.heap.size := by
  have h1 := h.low
  have h2 := h.pile.lt
  omega
theorem own_cells {w : World} {base : Nat} {e : TypeId} {size n : Nat} {v : Value} {xs : List Value} (h : w.ownsRow base e size v n xs) : ∀ r, v.ownBlock = some r → ∃ c t f, w.heap[r]? = some (.cells c t f) := fun r hr => by
  rcases h.2 with ⟨rfl, _⟩ | ⟨g, cap, cur, rfl, _, hg, _⟩
  · cases hr
  · injection hr with hr
    have e : g = r := hr
    subst e
    exact ⟨_, _, _, hg⟩
theorem Hand.alloc {w1 W : World} {B Bp g cp : Nat} {vo : Value} {out P : List Int} (h : Hand w1 W B Bp g cp vo out P) (o : Obj) : Hand w1 (W.alloc o) B Bp g cp vo out P :=
  h.kept (World.grownBy_alloc W o none) (fun r e => by cases e) (by simp) (by simp) (by
    cases hv : vo.ownBlock with
    | none => exact .inl rfl
    | some k => exact .inr (by simp)) h.size
theorem Hand.other {w1 W W2 : World} {B Bp g cp : Nat} {vo : Value} {out P : List Int} {row : Option Nat} (h : Hand w1 W B Bp g cp vo out P) (hg : W.grownBy W2 row) (hr : ∀ r, row = some r → B ≤ r ∧ ∃ o : Obj, W.heap[r]? = some o ∧ o.isCells = false) : Hand w1 W2 B Bp g cp vo out P := by
  have no : ∀ k, (∃ c t f, W.heap[k]? = some (.cells c t f)) → some k ≠ row := fun k ⟨c, t, f, hc⟩ e => by
    obtain ⟨_, o, ho, hoc⟩ := hr k e.symm
    rw [hc] at ho
    injection ho with ho
    rw [← ho] at hoc
    cases hoc
  refine h.kept hg (fun r e => (hr r e).1) (no Bp ⟨_, _, _, h.pile⟩) (no g (own_cells h.prow g rfl)) ?_ h.size
  cases hv : vo.ownBlock with
  | none => exact .inl rfl
  | some k => exact .inr (no k (own_cells h.orow k hv))
theorem Hand.pop {w1 W : World} {B Bp g cp : Nat} {vo : Value} {out Q : List Int} {z : Int} (h : Hand w1 W B Bp g cp vo out (Q ++ [z])) : Hand w1 (W.setCell ⟨Bp, 0, none⟩ (.slice (some ⟨g, 0, none⟩) Q.length cp)) B Bp g cp vo out Q := by
  have hp := h.prow
  rw [List.length_append, List.map_append] at hp
  have hp2 := own_prefix hp (by simp)
  have hne : some Bp ≠ some g := h.pile.not_row (by decide) h.prow
  have hno := h.pile.not_row (by decide) h.orow
  refine ⟨h.below.setCell (p := ⟨Bp, 0, none⟩) h.low _, h.pile.set _, h.low, hp2.kept (grownBy_setCell' W Bp _) (.inr (fun e => hne e.symm)), h.orow.kept (grownBy_setCell' W Bp _) (.inr (fun e => hno e.symm)), h.apart⟩
theorem Hand.more {w1 W W2 : World} {B Bp g cp g2 cap : Nat} {vo : Value} {out P : List Int} {z : Int} {tmp : Obj} (h : Hand w1 W B Bp g cp vo out P)
    (ho : W2.ownsRow B 3 1 (.slice (some ⟨g2, 0, none⟩) (out.length + 1) cap) (out.length + 1) (out.map encI ++ [encI z])) (hg : (W.alloc tmp).grownBy W2 vo.ownBlock) (hat : vo.ownBlock = some g2 ∨ g2 = (W.alloc tmp).heap.size) : Hand w1 W2 B Bp g cp (.slice (some ⟨g2, 0, none⟩) (out.length + 1) cap) (out ++ [z]) P := by
  have h1 := h.alloc tmp
  have hno := h1.pile.not_row (by decide) h1.orow
  refine ⟨h1.below.grown hg h1.size (fun k e => (h1.orow.lt k e).1), h1.pile.kept hg hno, h1.low, h1.prow.kept hg (.inr (fun e => h1.apart e.symm)), by simpa using ho, fun e => ?_⟩
  have e2 : g2 = g := by injection e
  rcases hat with hat | hat
  · exact h.apart (by rw [hat, e2])
  · have := (h1.prow.lt g rfl).2
    omega
theorem Hand.push {w1 W W2 : World} {B Bp g cp g2 cap : Nat} {vo : Value} {out P : List Int} {z : Int} {tmp : Obj} (h : Hand w1 W B Bp g cp vo out P)
    (ho : W2.ownsRow B 3 1 (.slice (some ⟨g2, 0, none⟩) (P.length + 1) cap) (P.length + 1) (P.map encI ++ [encI z])) (hg : (W.alloc tmp).grownBy W2 (Value.ownBlock (.slice (some ⟨g, 0, none⟩) P.length cp))) (hat : Value.ownBlock (.slice (some ⟨g, 0, none⟩) P.length cp) = some g2 ∨ g2 = (W.alloc tmp).heap.size) :
    Boxed W2 Bp 44 (.slice (some ⟨g, 0, none⟩) P.length cp) ∧ Hand w1 (W2.setCell ⟨Bp, 0, none⟩ (.slice (some ⟨g2, 0, none⟩) (P.length + 1) cap)) B Bp g2 cap vo out (P ++ [z]) := by
  have h1 := h.alloc tmp
  have hno := h1.pile.not_row (by decide) h1.prow
  have hb := h1.pile.kept hg hno
  have hb2 := hb.not_row (by decide) ho
  have hor := h1.orow.kept hg (.inr h1.apart)
  have hno2 := hb.not_row (by decide) hor
  have e1 : (P ++ [z]).length = P.length + 1 := by simp
  refine ⟨hb, (h1.below.grown hg h1.size (fun k e => (h1.prow.lt k e).1)).setCell (p := ⟨Bp, 0, none⟩) h.low _, by rw [e1]; exact hb.set _, h.low, ?_, hor.kept (grownBy_setCell' W2 Bp _) (.inr (fun e => hno2 e.symm)), fun e => ?_⟩
  · rw [e1, List.map_append]
    exact ho.kept (grownBy_setCell' W2 Bp _) (.inr (fun e => hb2 e.symm))
  · rcases hat with hat | hat
    · have e2 : g = g2 := by injection hat
      exact h.apart (by rw [e, e2])
    · have := (h1.orow.lt g2 e).2
      omega
theorem Hand.next {w1 W : World} {B Bp g cp : Nat} {vo : Value} {out P : List Int} (h : Hand w1 W B Bp g cp vo out P) : Hand w1 (W.alloc (.cells #[.slice (some ⟨g, 0, none⟩) P.length cp] 44)) B W.heap.size g cp vo out P := by
  have h1 := h.alloc (.cells #[.slice (some ⟨g, 0, none⟩) P.length cp] 44)
  exact ⟨h1.below, Boxed.new _ _ _, h.size, h1.prow, h1.orow, h1.apart⟩
end Go.Proofs.YtclledmgiliggaaGreatDoor
