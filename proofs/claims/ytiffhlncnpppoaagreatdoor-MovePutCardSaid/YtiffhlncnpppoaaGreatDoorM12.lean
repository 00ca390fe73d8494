/- Texts joined in build order: MovePut MoveEnds MoveInsert MoveRemove AttrRem2 AttrTog2. -/
import Derived.Test.YtiffhlncnpppoaaGreatDoorM11
import Derived.Test.YtiffhlncnpppoaaGreatDoorM10
import Derived.Test.YtiffhlncnpppoaaGreatDoorM01
import Derived.Test.YtiffhlncnpppoaaGreatDoorM09
import Derived.Test.YtiffhlncnpppoaaGreatDoorM05
namespace Go.Proofs.YtiffhlncnpppoaaGreatDoor
open Go.RowKit
abbrev wkB (b : Nat) : Obj := .cells #[.pointer (some ⟨b, 0, none⟩)] 91
abbrev wkZ : Obj := .cells #[.pointer none] 91
theorem cell_box {W : World} {v : Value} {t : TypeId} : (W.alloc (.cells #[v] t)).cell? ⟨W.heap.size, 0, none⟩ = some v := by
  have := cell_of_row (W.alloc (.cells #[v] t)) W.heap.size 0 #[v] t (0, 0) (heap_alloc_new W _)
  rw [this]
  rfl
section
variable {m : Int}
theorem outS_len {S : St} (h : rightF m S.1 = true) {n : Nat} (hn : n < S.1.length) : (outS S n).2.length ≤ S.2.length + 400 := by
  unfold outS
  split
  · omega
  · have := tellN_len h hn (note 2)
    show (if connF S.1 n then S.2 ++ tellN S.1 n (note 2) else S.2).length ≤ _
    split
    · rw [List.length_append]; omega
    · omega
theorem overS_len {S : St} (h : rightF m S.1 = true) {n : Nat} (hn : n < S.1.length) (d : Int) : (overS S n d).2.length ≤ S.2.length + 800 := by
  have h1 := outS_len h hn
  obtain ⟨hr, ⟨P, K, hed⟩, _⟩ := outS_facts h hn
  unfold overS
  dsimp only
  split
  · omega
  · rw [List.length_append]
    have := tellN_len hr (n := n) (by rw [hed.len]; exact hn) ⟨3, 0, docK (outS S n).1 n, d, ⟨#[]⟩, false, false, ⟨#[]⟩, ⟨#[]⟩⟩
    omega
theorem parentK_out {F : List Core} {q z : Nat} (hz : z < F.length) (hne : z ≠ q) : parentK (mvOut F q) z = parentK F z := by
  have hc : F[z]? = some F[z] := List.getElem?_eq_getElem hz
  have hed : Edit F (mvOut F q) (fun j c => if j = q then -1 else c.parent) (fun j c => if (j : Int) = parentK F q then c.kids.filter (fun z => z != (q : Int)) else c.kids) (fun _ c => c.doc) := edF_edit _ _ _ _
  rw [parentK_at (hed.at_ z _ hc), parentK_at hc]
  exact if_neg hne
end
section
variable {ρ : Nat → Nat} {pw g cap len : Nat} {m : Int} {M : List NodeD} {v : Value} {N : List NoteD}
theorem chain_turn {ρ ρk ρ' : Nat → Nat} {w wr w' : World} (T : Turn ρ w wr) (A : ∀ k, k < w.heap.size → ρk k = ρ k) (T' : Turn ρk wr w') (A' : ∀ k, k < wr.heap.size → ρ' k = ρk k) : Turn ρ w w' ∧ ∀ k, k < w.heap.size → ρ' k = ρ k :=
  ⟨T.trans A T', fun k hk => (A' k (Nat.lt_of_lt_of_le hk T.size)).trans (A k hk)⟩
set_option maxHeartbeats 16000000 in
set_option maxRecDepth 100000 in
theorem mpart_any (w : World) (h : Wk ρ w pw g cap len m M v N) (hs : smallF M) (q p : Nat) (bz : Int) (r : List Int) (PI : PutInv m (coreL M) p ((q : Int) :: r) bz) (hN : N.length ≤ 80000000) :
    Calls Tryz.prog 103 #[ptrV pw, .int .i64 q, .int .i64 p, .int .i64 bz] w (WkPost ρ w pw g cap len m fun M' N' => (coreL M', N') = inS p bz (coreL M, N) q ∧ smallF M') := by
  have hmem : (q : Int) ∈ (q : Int) :: r := List.mem_cons_self
  have HL : (coreL M).length = len := by rw [coreL_len, h.hlen]
  obtain ⟨q', hqq, hql0, hkq⟩ := PI.ls _ hmem
  obtain rfl : q = q' := by omega
  have hql : q < len := by rw [← HL]; exact hql0
  have hpl : p < len := by rw [← HL]; exact PI.lt
  have hl1k : len ≤ 1000 := by rw [← h.hlen]; exact hs.1
  obtain ⟨y, hy⟩ : ∃ y, M[p]? = some y := ⟨_, List.getElem?_eq_getElem (by rw [h.hlen]; exact hpl)⟩
  have hdy : docK (coreL M) p = y.core.doc := docK_at (coreL_get hy)
  have hdoc := doc_is PI.right PI.lt
  rw [hdy] at hdoc
  have OV := Lib.hid (PI.overs (S := (coreL M, N)) hmem hdoc)
  have hqp : q ≠ p := fun e => PI.over q hmem (by rw [e]; exact holds_refl p)
  have CO := Lib.hid (mover_any w h PI.right hs q hql hkq y.core.doc (h.fld y (List.mem_of_getElem? hy)).doc hdoc (by omega))
  have PK2 : Hid (rightF m (inS p bz (coreL M, N) q).1 = true) := Lib.hid (PutInv.ins (S := (coreL M, N)) PI).right
  have LK2 : Hid ((overS (coreL M, N) q y.core.doc).2.length ≤ N.length + 800) := Lib.hid (overS_len (S := (coreL M, N)) PI.right hql0 _)
  have HIN : Hid (inS p bz (coreL M, N) q = (mvIn (overS (coreL M, N) q y.core.doc).1 q p bz, if connF (mvIn (overS (coreL M, N) q y.core.doc).1 q p bz) q then (overS (coreL M, N) q y.core.doc).2 ++ tellN (mvIn (overS (coreL M, N) q y.core.doc).1 q p bz) q (note 1) else (overS (coreL M, N) q y.core.doc).2)) := Lib.hid (by
    unfold inS
    simp only [hdy])
  have p0 := h.c0
  have y9 := (h.at_ hy).c9
  have hl64 : (len : Int) ≤ 9223372036854775807 := by omega
  have HN := Lib.hid hN
  clear PI hy hdy hdoc hqq hkq hmem h hs hN hql0 HL
  go_enter Tryz.func103, Tryz.ntmps103
  go_upto_if 27 with (first
    | (go_at_call 101; (with_reducible refine CO.out.mono ?_); rintro e w3 ⟨rfl, ρ3, M3, v3, N3, W3, T3, A3, E3, S3, R3⟩; have W3 := Lib.hid W3; have T3 := Lib.hid T3; have A3 := Lib.hid A3; have E3 := Lib.hid E3; have S3 := Lib.hid S3)
    | (go_at_call 147; (refine (mstand_any w3 W3.out S3.out q p hql hpl hqp bz (by have h1 := OV.out.inv.before; rw [← E3.out] at h1; exact h1.imp id And.left)).mono ?_); rintro e w4 ⟨rfl, ρ4, M4, v4, N4, W4, T4, A4, E4, rfl⟩; have W4 := Lib.hid W4; have T4 := Lib.hid T4; have A4 := Lib.hid A4; have HM4 : Hid (coreL M4 = mvIn (overS (coreL M, N) q y.core.doc).1 q p bz) := (Lib.hid (by rw [E4, ← E3.out])); have R4 : Hid (rightF m (coreL M4) = true) := (Lib.hid (by have h1 := PK2.out; rw [HIN.out] at h1; rw [HM4.out]; exact h1)); have S4 : Hid (smallF M4) := (Lib.hid (small_edit S3.out (by rw [E4]; exact edF_edit _ _ _ _) R4.out)); clear E4)
    | (go_at_call 118; (refine (mconn_any w4 W4.out R4.out q hql).mono ?_); rintro e w5 ⟨rfl, hb5⟩; have W5 := Lib.hid (W4.out.keep hb5); have HB5 := Lib.hid hb5; clear hb5))
  have HN4 : Hid (N4 = (overS (coreL M, N) q y.core.doc).2) := Lib.hid (congrArg Prod.snd E3.out)
  have hN4 : N4.length ≤ 80000800 := by have := LK2.out; rw [← HN4.out] at this; have := HN.out; omega
  obtain ⟨T6, A6⟩ := chain_turn T3.out A3.out T4.out A4.out
  have T7 := T6.keep HB5.out
  have T7 := Lib.hid T7
  have A6 := Lib.hid A6
  obtain ⟨cb, hcb⟩ : ∃ cb, connF (coreL M4) q = cb := ⟨_, rfl⟩
  rw [hcb]
  have HCB := Lib.hid hcb
  have HRES : Hid (inS p bz (coreL M, N) q = (coreL M4, if cb then N4 ++ tellN (coreL M4) q (note 1) else N4)) := Lib.hid (by
    rw [HIN.out, ← HM4.out, ← HN4.out, HCB.out])
  clear hcb T6
  cases cb with
  | false =>
    go_wp2
    refine bodyPost_ret (v := .tuple #[]) (by simp [results, Tryz.results103]) rfl ⟨rfl, ρ4, M4, v4, N4, W5.out, T7.out, A6.out, by rw [HRES.out]; rfl, S4.out⟩
  | true =>
    have CT := Lib.hid (mtell_any w5 W5.out R4.out S4.out q hql (note 1) (noteOk_note 1 ⟨by decide, by decide⟩) (by omega))
    go_wp2_with (go_at_call 121; (with_reducible refine CT.out.mono ?_); rintro e w9 ⟨rfl, ρ9, M9, v9, N9, W9, T9, A9, rfl, rfl⟩)
    obtain ⟨T10, A10⟩ := chain_turn T7.out A6.out T9 A9
    refine bodyPost_ret (v := .tuple #[]) (by simp [results, Tryz.results103]) rfl ⟨rfl, ρ9, M9, v9, _, W9, T10, A10, by rw [HRES.out]; rfl, S4.out⟩
theorem inS_len {S : St} {p q : Nat} {r : List Int} {b : Int} (h : PutInv m S.1 p ((q : Int) :: r) b) : (inS p b S q).2.length ≤ S.2.length + 1200 := by
  obtain ⟨q', e, hq, hk⟩ := h.ls _ List.mem_cons_self
  obtain rfl : q = q' := by omega
  have h1 := overS_len (S := S) h.right hq (docK S.1 p)
  have hG := h.ins.right
  have hl : (overS S q (docK S.1 p)).1.length = S.1.length := (h.overs List.mem_cons_self (doc_is h.right h.lt)).len
  unfold inS at hG ⊢
  dsimp only at hG ⊢
  split
  · rw [List.length_append]
    have := tellN_len hG (n := q) (by show q < (mvIn (overS S q (docK S.1 p)).1 q p b).length; rw [show (mvIn (overS S q (docK S.1 p)).1 q p b).length = (overS S q (docK S.1 p)).1.length from (edF_edit _ _ _ _).len, hl]; exact hq) (note 1)
    omega
  · omega
set_option maxHeartbeats 16000000 in
set_option maxRecDepth 100000 in
theorem mput_any (w : World) (h : Wk ρ w pw g cap len m M v N) (hm : In64 m) (hs : smallF M) (n p : Nat) (c : Int) (hc64 : In64 c) (hn : n < len) (hpl : p < len) (hmay : mayZ m (coreL M) n p c = 0) (hN : N.length ≤ 70000000) :
    Calls Tryz.prog 62 #[workV pw, .int .i64 n, .int .i64 p, .int .i64 c] w (WkPost ρ w pw g cap len m fun M' N' => (coreL M', N') = putS (coreL M, N) n p (beforeZ m (coreL M) n p c) ∧ smallF M' ∧ rightF m (coreL M') = true) := by
  have HL : Hid ((coreL M).length = len) := Lib.hid (by rw [coreL_len, h.hlen])
  have hl1k : len ≤ 1000 := by rw [← h.hlen]; exact hs.1
  obtain ⟨cp, hcp⟩ : ∃ cp, (coreL M)[p]? = some cp := ⟨_, List.getElem?_eq_getElem (by rw [HL.out]; exact hpl)⟩
  have PO := PutOk.of hmay hcp
  have hr := PO.right
  have PI := PO.inv
  obtain ⟨x, hx⟩ : ∃ x, M[n]? = some x := ⟨_, List.getElem?_eq_getElem (by rw [h.hlen]; exact hn)⟩
  obtain ⟨l, hl⟩ : ∃ l, partsZ (coreL M) n = l := ⟨_, rfl⟩
  obtain ⟨bz, hbz⟩ : ∃ bz, beforeZ m (coreL M) n p c = bz := ⟨_, rfl⟩
  rw [hbz, hl] at PI
  have CB : Hid (∀ W, NodeRow W (some ⟨g, 0, none⟩) len cap M → Calls Tryz.prog 35 #[forV (some ⟨g, 0, none⟩) len cap m, .int .i64 n, .int .i64 p, .int .i64 c] W fun e w' => e = .returned (.int .i64 bz) ∧ Below W.heap.size W w') := Lib.hid (fun W h1 => by
    rw [← hbz]
    exact vbefore_any _ len cap m M n p c W h1 hm (in64_nat (by omega)) (in64_nat (by omega)) hc64 hs)
  have CP : Hid (∀ W, NodeRow W (some ⟨g, 0, none⟩) len cap M → Calls Tryz.prog 34 #[forV (some ⟨g, 0, none⟩) len cap m, .int .i64 n] W (OrdNew W l)) := Lib.hid (fun W h1 => by
    rw [← hl]
    exact vpartsNew_any _ len cap m M n W h1 (in64_nat (by omega)) hs)
  have HX0 : Hid (kindK (coreL M) n = x.core.kind) := Lib.hid (kindK_at (coreL_get hx))
  have HPUT : Hid (putS (coreL M, N) n p bz = (l.map Int.toNat).foldl (inS p bz) (if x.core.kind = 3 then (l.map Int.toNat).foldl outS (coreL M, N) else (coreL M, N))) := Lib.hid (by
    unfold putS
    simp only [hl, HX0.out])
  have HLP : Hid (x.core.kind = 3 → ∀ z ∈ l, parentK (coreL M) z = n) := Lib.hid (fun e z hz => by
    rw [← hl, parts_at (coreL_get hx), if_pos e] at hz
    obtain ⟨c1, h1, _, h3, _⟩ := (right_node hr (coreL_get hx)).kids z hz
    unfold parentK
    rw [h1]
    exact h3)
  have PIV := Lib.hid PI
  have HS := Lib.hid hs
  have HW := Lib.hid h
  have HX := Lib.hid hx
  have HN := Lib.hid hN
  have hl64 : (len : Int) ≤ 9223372036854775807 := by omega
  obtain ⟨w0, hw0, W0, HBX, HBZ⟩ : ∃ w0, w.alloc (wkB pw) = w0 ∧ Hid (Wk ρ w0 pw g cap len m M v N) ∧ Hid (Below w.heap.size w w0) ∧ Hid (w0.cell? ⟨w.heap.size, 0, none⟩ = some (ptrV pw) ∧ w.heap.size < w0.heap.size) := ⟨_, rfl, Lib.hid (h.keep (below_box _ _)), Lib.hid (below_box _ _), Lib.hid ⟨cell_box, by simp⟩⟩
  have HW0 := Lib.hid hw0
  have HRB : Hid (ρ w.heap.size = 0) := Lib.hid (h.fresh _ (Nat.le_refl _))
  have p0 := W0.out.c0
  have p1 := W0.out.c1
  have zw := HBZ.out.1
  rw [hbz]
  have HLL : Hid (l.length ≤ 1000) := Lib.hid (by
    rw [← hl, parts_at (coreL_get hx)]
    split
    · exact Nat.le_trans (right_kids hr (coreL_get hx)) (by decide)
    · simp)
  clear PO PI hr hcp hbz hl h hs hx hmay hm hc64 hw0
  go_enter Tryz.func62, Tryz.ntmps62
  go_upto_region 1 with fail
  rw [HW0.out]
  go_cut [8, 9] (fun q r wx => ∃ (pa : Option Addr) (pl pc : Nat), q = .int .i64 bz ∧ r = .slice pa pl pc ∧ Hid (Below w0.heap.size w0 wx) ∧ Hid (IntRow wx pa pl pc l) ∧ Hid (∀ b off, pa = some ⟨b, off, none⟩ → w0.heap.size ≤ b))
  case first =>
    have KEEP : Hid (∀ W, Below w0.heap.size w0 W → NodeRow W (some ⟨g, 0, none⟩) len cap M ∧ W.cell? ⟨pw, 0, none⟩ = some (.slice (some ⟨g, 0, none⟩) len cap) ∧ W.cell? ⟨pw, 1, none⟩ = some (.int .i64 m) ∧ W.cell? ⟨w.heap.size, 0, none⟩ = some (ptrV pw)) := Lib.hid (fun W hb => by
      have := W0.out.keep hb
      exact ⟨this.row, this.c0, this.c1, (hb.cell (p := ⟨w.heap.size, 0, none⟩) HBZ.out.2).trans HBZ.out.1⟩)
    have B0 := Lib.hid ((Below.refl w0.heap.size w0).drew)
    go_region_with (first
      | (go_at_call 35; (refine (CB.out _ (KEEP.out _ B0.out).1).mono ?_); rintro e w1 ⟨rfl, hb⟩; have B0 := Lib.hid (B0.out.trans (hb.mono B0.out.size)); have p0 := (KEEP.out _ B0.out).2.1; have p1 := (KEEP.out _ B0.out).2.2.1; have zw := (KEEP.out _ B0.out).2.2.2; (try (have IR := Lib.hid (IR.out.below hb))); clear hb)
      | (go_at_call 34; (refine (CP.out _ (KEEP.out _ B0.out).1).mono ?_); rintro e w1 ⟨pa, pl, pc, rfl, hrl, hb, hrn⟩; have IN0 : Hid (∀ b off, pa = some ⟨b, off, none⟩ → w0.heap.size ≤ b) := Lib.hid (fun b off e => Nat.le_trans B0.out.size (hrn b off e)); have B0 := Lib.hid (B0.out.trans (hb.mono B0.out.size)); have p0 := (KEEP.out _ B0.out).2.1; have p1 := (KEEP.out _ B0.out).2.2.1; have zw := (KEEP.out _ B0.out).2.2.2; have IR := Lib.hid hrl; clear hb hrl hrn))
    all_goals go_wp2
    all_goals
      go_meet
      exact ⟨_, _, _, rfl, rfl, B0, IR, IN0⟩
  case rest =>
    obtain ⟨pa, pl, pc, rfl, rfl, HB1, IR, INW⟩ := hcut
    obtain ⟨wd, rfl⟩ : ∃ wd, wd = wc := ⟨_, rfl⟩
    have W1 := Lib.hid (W0.out.keep HB1.out)
    have IR0 : Hid (∀ b off, pa = some ⟨b, off, none⟩ → 0 < pl → ρ b = 0) := Lib.hid (fun b off e _ => W0.out.fresh b (INW.out b off e))
    have hwd : w.heap.size < wd.heap.size := Nat.lt_of_lt_of_le HBZ.out.2 HB1.out.size
    have ZWD : Hid (wd.cell? ⟨w.heap.size, 0, none⟩ = some (ptrV pw)) := Lib.hid ((HB1.out.cell (p := ⟨w.heap.size, 0, none⟩) HBZ.out.2).trans HBZ.out.1)
    have zw := ZWD.out
    have hpll : l.length = pl := IR.out.hlen
    have HPLL := Lib.hid hpll
    have hpl1k : pl ≤ 1000 := by rw [← hpll]; exact HLL.out
    clear p0 p1 hpll CB CP
    have p0 := W1.out.c0
    have x0 := (W1.out.at_ HX.out).c0
    have HQ : Hid (∀ (k : Nat) (z : Int), l[k]? = some z → ∃ q : Nat, z = q ∧ q < len) := Lib.hid (fun k z hz => by
      obtain ⟨q, h1, h2, _⟩ := PIV.out.ls z (List.mem_of_getElem? hz)
      exact ⟨q, h1, by rw [← HL.out]; exact h2⟩)
    go_upto_if 40 with fail
    go_cut [] (fun wx => True ∧ ∃ ρ1 M1 v1 N1, Hid (Wk ρ1 wx pw g cap len m M1 v1 N1) ∧ Hid (Turn ρ wd wx) ∧ Hid (∀ k, k < wd.heap.size → ρ1 k = ρ k) ∧ Hid ((coreL M1, N1) = if x.core.kind = 3 then (l.map Int.toNat).foldl outS (coreL M, N) else (coreL M, N)) ∧ Hid (smallF M1) ∧ Hid (PutInv m (coreL M1) p l bz) ∧ Hid (N1.length ≤ 72000000))
    case first =>
      by_cases hk3 : x.core.kind = 3
      · have e1 : (x.core.kind == 3) = true := beq_iff_eq.2 hk3
        have HP0 : Hid (∀ z ∈ l, parentK (coreL M) z ≠ -1) := Lib.hid (fun z hz => by rw [HLP.out hk3 z hz]; omega)
        have HK3 := Lib.hid hk3
        clear hk3
        rw [e1]
        go_wp2
        go_loopw [43] (fun i wr => ∃ (k : Nat) (ρk : Nat → Nat) (Mk : List NodeD) (vk : Value) (Nk : List NoteD), k ≤ pl ∧ i = .int .i64 k ∧ Hid (Wk ρk wr pw g cap len m Mk vk Nk) ∧ Hid (Turn ρ wd wr) ∧ Hid (∀ k, k < wd.heap.size → ρk k = ρ k) ∧ Hid ((coreL Mk, Nk) = ((l.take k).map Int.toNat).foldl outS (coreL M, N)) ∧ Hid (smallF Mk) ∧ Hid (PutInv m (coreL Mk) p l bz) ∧ Hid (∀ z ∈ l.drop k, parentK (coreL Mk) z ≠ -1) ∧ Nk.length ≤ N.length + 400 * k) (fun i _ => pl - (intOf i).toNat)
        case atStart => exact ⟨0, ρ, M, v, N, Nat.zero_le _, rfl, W1, Lib.hid (Turn.refl _ _), Lib.hid (fun _ _ => rfl), Lib.hid rfl, HS, PIV, Lib.hid HP0.out, Nat.le_refl _⟩
        case round =>
          clear p0 x0 zw
          obtain ⟨k, ρk, Mk, vk, Nk, hk, rfl, WK, TK, AK, EK, SK, PK, QK, hNk⟩ := hrel
          have zw := (TK.out.cell hwd HRB.out).trans ZWD.out
          by_cases hlt : k < pl
          · obtain ⟨bp, op, z, hpa, hbp, hz, hcz, hin⟩ := (TK.out.introw IR.out IR0.out).get hlt
            obtain ⟨q, rfl, hql⟩ := HQ.out k z hz
            have hmem := List.mem_of_getElem? hz
            have hdrop : (q : Int) ∈ l.drop k := by
              refine List.mem_of_getElem? (i := 0) ?_
              rw [List.getElem?_drop, Nat.add_zero]
              exact hz
            have CO := Lib.hid (mgoOut_any wr WK.out PK.out.right SK.out q hql (QK.out _ hdrop) (by have := HN.out; omega))
            have EK2 : Hid (((l.take (k + 1)).map Int.toNat).foldl outS (coreL M, N) = outS (coreL Mk, Nk) q) := Lib.hid (by
              rw [List.take_add_one, hz, List.map_append, List.foldl_append, ← EK.out]
              rfl)
            have PK2 : Hid (PutInv m (outS (coreL Mk, Nk) q).1 p l bz) := Lib.hid (PK.out.outs (S := (coreL Mk, Nk)) hmem)
            have HLK : Hid ((coreL Mk).length = len) := Lib.hid (by rw [coreL_len, WK.out.hlen])
            have LK2 : Hid ((outS (coreL Mk, Nk) q).2.length ≤ Nk.length + 400) := Lib.hid (outS_len (S := (coreL Mk, Nk)) PK.out.right (show q < (coreL Mk).length by rw [HLK.out]; exact hql))
            have QK2 : Hid (∀ z ∈ l.drop (k + 1), parentK (outS (coreL Mk, Nk) q).1 z ≠ -1) := Lib.hid (fun z hz2 => by
              obtain ⟨i, hi⟩ := List.getElem?_of_mem hz2
              rw [List.getElem?_drop] at hi
              obtain ⟨t, rfl, htl⟩ := HQ.out _ z hi
              have hne : t ≠ q := fun e => by
                subst e
                have := (List.getElem?_inj (List.getElem?_eq_some_iff.1 hz).1 PIV.out.once).1 (hz.trans hi.symm)
                omega
              have hd2 : (t : Int) ∈ l.drop k := List.mem_of_getElem? (i := 1 + i) (by rw [List.getElem?_drop, ← Nat.add_assoc]; exact hi)
              have h3 := QK.out _ hd2
              unfold outS
              rw [if_neg (QK.out _ hdrop)]
              show parentK (mvOut (coreL Mk) q) t ≠ -1
              rw [parentK_out (by rw [HLK.out]; exact htl) hne]
              exact h3)
            subst hpa
            have hk64 : (k : Int) + 1 ≤ 9223372036854775807 := by omega
            clear hz hin hmem hdrop
            go_wp2_with (go_at_call 64; (with_reducible refine CO.out.mono ?_); rintro e w9 ⟨rfl, ρ9, M9, v9, N9, W9, T9, A9, E9, S9, R9⟩)
            obtain ⟨TT, AA⟩ := chain_turn TK.out AK.out T9 A9
            have HE9 : Hid (coreL M9 = (outS (coreL Mk, Nk) q).1 ∧ N9 = (outS (coreL Mk, Nk) q).2) := Lib.hid ⟨congrArg Prod.fst E9, congrArg Prod.snd E9⟩
            have hN9 : N9.length ≤ N.length + 400 * (k + 1) := by have := LK2.out; rw [← HE9.out.2] at this; omega
            have E9 := Lib.hid E9
            have W9 := Lib.hid W9
            have TT := Lib.hid TT
            have AA := Lib.hid AA
            have S9 := Lib.hid S9
            clear T9 A9 R9
            go_roundw
            case rel =>
              exact ⟨k + 1, ρ9, M9, v9, N9, by omega, by go_num, W9, TT, AA, Lib.hid (by rw [EK2.out]; exact E9.out), S9, Lib.hid (by rw [HE9.out.1]; exact PK2.out), Lib.hid (by rw [HE9.out.1]; exact QK2.out), hN9⟩
            case measure => simp [intOf]; omega
          · have hkk : k = pl := by omega
            subst hkk
            have HTA : Hid (l.take k = l) := Lib.hid (List.take_of_length_le (by rw [HPLL.out]; exact Nat.le_refl _))
            go_wp2
            go_meet
            exact ⟨trivial, ρk, Mk, vk, Nk, WK, TK, AK, Lib.hid (by rw [if_pos HK3.out, EK.out, HTA.out]), SK, PK, Lib.hid (by have := HN.out; omega)⟩
      · have e1 : (x.core.kind == 3) = false := beq_eq_false_iff_ne.2 hk3
        have HK3 := Lib.hid hk3
        clear hk3
        go_wp2
        go_meet
        exact ⟨trivial, ρ, M, v, N, W1, Lib.hid (Turn.refl _ _), Lib.hid (fun _ _ => rfl), Lib.hid (by rw [if_neg HK3.out]), HS, PIV, Lib.hid (by have := HN.out; omega)⟩
    case rest =>
      obtain ⟨-, ρ1, M1, v1, N1, W2, T2, A2, E2, S2, PI2, HN2⟩ := hcut
      rw [← E2.out] at HPUT
      have IR1 : Hid (∀ b off, pa = some ⟨b, off, none⟩ → 0 < pl → ρ1 b = 0) := Lib.hid (fun b off e hp => by
        rw [A2.out b (by
          rcases IR.out.row.cells with e0 | ⟨b2, off2, ha2, hlt, _⟩
          · omega
          · rw [e] at ha2
            injection ha2 with ha2
            injection ha2 with e1
            omega)]
        exact IR0.out b off e hp)
      clear E2 HLP HX0 p0 x0 zw
      go_wp2
      go_loopw [54] (fun i wr => ∃ (k : Nat) (ρk : Nat → Nat) (Mk : List NodeD) (vk : Value) (Nk : List NoteD), k ≤ pl ∧ i = .int .i64 k ∧ Hid (Wk ρk wr pw g cap len m Mk vk Nk) ∧ Hid (Turn ρ wd wr) ∧ Hid (∀ k, k < wd.heap.size → ρk k = ρ k) ∧ Hid ((coreL Mk, Nk) = ((l.take k).map Int.toNat).foldl (inS p bz) (coreL M1, N1)) ∧ Hid (smallF Mk) ∧ Hid (PutInv m (coreL Mk) p (l.drop k) bz) ∧ Nk.length ≤ 72000000 + 1200 * k) (fun i _ => pl - (intOf i).toNat)
      case atStart => exact ⟨0, ρ1, M1, v1, N1, Nat.zero_le _, rfl, W2, T2, A2, Lib.hid rfl, S2, PI2, HN2.out⟩
      case round =>
        clear W2 T2 A2 S2 PI2 HN2
        obtain ⟨k, ρk, Mk, vk, Nk, hk, rfl, WK, TK, AK, EK, SK, PK, hNk⟩ := hrel
        have zw := (TK.out.cell hwd HRB.out).trans ZWD.out
        by_cases hlt : k < pl
        · obtain ⟨bp, op, z, hpa, hbp, hz, hcz, hin⟩ := (TK.out.introw IR.out IR0.out).get hlt
          obtain ⟨q, rfl, hql⟩ := HQ.out k z hz
          have hdr : l.drop k = (q : Int) :: l.drop (k + 1) := by
            obtain ⟨h1, h2⟩ := List.getElem?_eq_some_iff.1 hz
            rw [List.drop_eq_getElem_cons h1, h2]
          have PKq : PutInv m (coreL Mk) p ((q : Int) :: l.drop (k + 1)) bz := by rw [← hdr]; exact PK.out
          have CO := Lib.hid (mpart_any wr WK.out SK.out q p bz (l.drop (k + 1)) PKq (by omega))
          have EK2 : Hid (((l.take (k + 1)).map Int.toNat).foldl (inS p bz) (coreL M1, N1) = inS p bz (coreL Mk, Nk) q) := Lib.hid (by
            rw [List.take_add_one, hz, List.map_append, List.foldl_append, ← EK.out]
            rfl)
          have PK2 : Hid (PutInv m (inS p bz (coreL Mk, Nk) q).1 p (l.drop (k + 1)) bz) := Lib.hid (PutInv.ins (S := (coreL Mk, Nk)) PKq)
          have LK2 : Hid ((inS p bz (coreL Mk, Nk) q).2.length ≤ Nk.length + 1200) := Lib.hid (inS_len (S := (coreL Mk, Nk)) PKq)
          subst hpa
          have hk64 : (k : Int) + 1 ≤ 9223372036854775807 := by omega
          clear hz hin hdr PKq
          go_wp2_with (go_at_call 103; (with_reducible refine CO.out.mono ?_); rintro e w9 ⟨rfl, ρ9, M9, v9, N9, W9, T9, A9, E9, S9⟩)
          obtain ⟨TT, AA⟩ := chain_turn TK.out AK.out T9 A9
          have HE9 : Hid (coreL M9 = (inS p bz (coreL Mk, Nk) q).1 ∧ N9 = (inS p bz (coreL Mk, Nk) q).2) := Lib.hid ⟨congrArg Prod.fst E9, congrArg Prod.snd E9⟩
          have hN9 : N9.length ≤ 72000000 + 1200 * (k + 1) := by have := LK2.out; rw [← HE9.out.2] at this; omega
          have E9 := Lib.hid E9
          have W9 := Lib.hid W9
          have TT := Lib.hid TT
          have AA := Lib.hid AA
          have S9 := Lib.hid S9
          clear T9 A9
          go_roundw
          case rel => exact ⟨k + 1, ρ9, M9, v9, N9, by omega, by go_num, W9, TT, AA, Lib.hid (by rw [EK2.out]; exact E9.out), S9, Lib.hid (by rw [HE9.out.1]; exact PK2.out), hN9⟩
          case measure => simp [intOf]; omega
        · have hkk : k = pl := by omega
          subst hkk
          have HTA : Hid (l.take k = l) := Lib.hid (List.take_of_length_le (by rw [HPLL.out]; exact Nat.le_refl _))
          obtain ⟨TT, AA⟩ := chain_turn (Turn.of_below (ρ := ρ) (HBX.out.trans (HB1.out.mono HBX.out.size))) (fun _ _ => rfl) TK.out AK.out
          have TT := Lib.hid TT
          have AA := Lib.hid AA
          go_wp2
          refine bodyPost_ret (v := .tuple #[]) (by simp [results, Tryz.results62]) rfl ⟨rfl, ρk, Mk, vk, Nk, WK.out, TT.out, AA.out, by rw [HPUT.out, EK.out, HTA.out], SK.out, PK.out.right⟩
end
end Go.Proofs.YtiffhlncnpppoaaGreatDoor
namespace Go.Proofs.YtiffhlncnpppoaaGreatDoor
open Go.RowKit
structure Begun (w w' : World) (pw : Nat) (a2 : Option Addr) (len cap2 : Nat) (m : Int) (M : List NodeD) (F : List Core) : Prop where
  row : NodeRow w' a2 len cap2 M
  core : coreL M = F
  c0 : w'.cell? ⟨pw, 0, none⟩ = some (.slice a2 len cap2)
  c1 : w'.cell? ⟨pw, 1, none⟩ = some (.int .i64 m)
  c2 : w'.cell? ⟨pw, 2, none⟩ = some (.slice none 0 0)
  lt : pw < w'.heap.size
  plo : w.heap.size ≤ pw
  below : Below w.heap.size w w'
  new : ∀ x ∈ M, newLists w.heap.size x
  rlo : ∀ b off, a2 = some ⟨b, off, none⟩ → w.heap.size ≤ b
  wk : 0 < len → ∃ g ρ, a2 = some ⟨g, 0, none⟩ ∧ Wk ρ w' pw g cap2 len m M (.slice none 0 0) [] ∧ ∀ k, k < w.heap.size → ρ k = 0
theorem begun_of {w w1 : World} {n : Nat} {v : Value} {M : List NodeD} {F : List Core} {m : Int} (hC : Copy w.heap.size w w1 v n M F) (hN : ∀ x ∈ M, newLists w.heap.size x) (hK : ∀ g, v.ownBlock = some g → KidsOwn w.heap.size w1 g n M) :
    ∃ a2 cap2, v = .slice a2 n cap2 ∧ Begun w (w1.alloc (.cells #[.slice a2 n cap2, .int .i64 m, .slice none 0 0] 130)) w1.heap.size a2 n cap2 m M F := by
  obtain ⟨a2, cap2, hv, hr, hlo⟩ := hC.row
  have hb : Below w1.heap.size w1 (w1.alloc (.cells #[.slice a2 n cap2, .int .i64 m, .slice none 0 0] 130)) := below_box _ _
  have cell : ∀ j, (w1.alloc (.cells #[.slice a2 n cap2, .int .i64 m, .slice none 0 0] 130)).cell? ⟨w1.heap.size, j, none⟩ = (#[.slice a2 n cap2, .int .i64 m, .slice none 0 0] : Array Value)[j]? := fun j => cell_of_row _ w1.heap.size j _ 130 (0, 0) (heap_alloc_new w1 _)
  have hs := hC.below.size
  refine ⟨a2, cap2, hv, hr.below hb, hC.core, cell 0, cell 1, cell 2, by simp, hC.below.size, hC.below.trans (hb.mono hs), hN, fun b off e => (hlo b off e).1, fun h0 => ?_⟩
  obtain ⟨g, cap3, hg⟩ := own_some hC.own h0
  rw [hv] at hg
  injection hg with h1 h2 h3
  subst h1; subst h3
  have hKO := hK g (by rw [hv]; rfl)
  have hgl : w.heap.size ≤ g ∧ g < w1.heap.size := by
    have := hC.own.lt g (by rw [hv]; rfl)
    exact this
  have kl : ∀ (i : Nat) x b, M[i]? = some x → (kidV x).ownBlock = some b → w.heap.size ≤ b ∧ b < w1.heap.size ∧ b ≠ g := fun i x b hx hb2 => by
    have hi : i < n := by have := (List.getElem?_eq_some_iff.1 hx).1; rwa [hC.hl] at this
    exact ⟨(hKO.ne i x b hi hx hb2).2, own_block_lt (hKO.own i x hi hx) hb2, (hKO.ne i x b hi hx hb2).1⟩
  have il : ∀ (i : Nat) x, M[i]? = some x → i < n := fun i x hx => by have := (List.getElem?_eq_some_iff.1 hx).1; rwa [hC.hl] at this
  classical
  obtain ⟨κ, hκ1, hκ2⟩ : ∃ κ : Nat → Nat, (∀ (i : Nat) x b, M[i]? = some x → (kidV x).ownBlock = some b → κ b = i + 5) ∧ ∀ b, κ b ≠ 0 → ∃ (i : Nat) (x : NodeD), M[i]? = some x ∧ (kidV x).ownBlock = some b := by
    refine ⟨fun b => if h : ∃ i : Nat, ∃ x, M[i]? = some x ∧ (kidV x).ownBlock = some b then h.choose + 5 else 0, fun i x b hx hb2 => ?_, fun b hne => ?_⟩
    · have hex : ∃ i : Nat, ∃ x, M[i]? = some x ∧ (kidV x).ownBlock = some b := ⟨i, x, hx, hb2⟩
      simp only [dif_pos hex]
      obtain ⟨y, hy, hby⟩ := hex.choose_spec
      by_cases e : hex.choose = i
      · rw [e]
      · exact absurd rfl (hKO.kk _ _ y x b b (il _ _ hy) (il _ _ hx) hy hx e hby hb2)
    · by_cases hex : ∃ i : Nat, ∃ x, M[i]? = some x ∧ (kidV x).ownBlock = some b
      · exact hex
      · exact absurd (dif_neg hex) hne
  refine ⟨g, fun b => if b = w1.heap.size then 1 else if b = g then 2 else κ b, rfl, ?_, fun k hk => ?_⟩
  · have hH := hr.below hb
    have hsz : (w1.alloc (.cells #[.slice (some ⟨g, 0, none⟩) n cap2, .int .i64 m, .slice none 0 0] 130)).heap.size = w1.heap.size + 1 := by simp
    refine ⟨hC.hl, hr.row.hcap, hr.row.hmax, fun i x j u hx hu => ?_, fun o => ?_, by rw [hsz]; omega, fun i x hx => ?_, fun i x b hx hb2 => ?_, fun x hx => (hH.ok x hx).attrs, fun x hx b off e hp => ?_, fun x hx => ?_, cell 0, cell 1, cell 2, fun o => row_free (heap_alloc_new w1 _) o, by simp, World.ownsRow_nil _ _ _ _, (fun b e => by cases e), (fun x hx => by cases hx), if_pos rfl, ?_, fun b hb2 => ?_⟩
    · rcases hH.row.cells with h0' | ⟨b, off, ha, _, hc⟩
      · omega
      · injection ha with ha
        injection ha with e1 e2
        subst e1 e2
        have := hc i x j u hx hu
        rwa [Nat.zero_add] at this
    · rw [hv] at hC
      exact (hb.frozen (p := ⟨g, o, none⟩) hgl.2).trans (own_free hC.own o)
    · exact own_below (hKO.own i x (il i x hx) hx) hb
    · obtain ⟨h1, h2, h3⟩ := kl i x b hx hb2
      rw [if_neg (by omega), if_neg h3]
      exact hκ1 i x b hx hb2
    · obtain ⟨i, hi⟩ := List.getElem?_of_mem hx
      have h1 := hKO.alt i x b off (il i x hi) hi e hp
      have h2 := (hN x hx).1 b off e
      have h3 : b ≠ g := fun e2 => (hC.away g (.inr (by rw [hv]; rfl)) x hx).1 b off e hp e2
      refine ⟨?_, hKO.al i x b off (il i x hi) hi e hp⟩
      rw [if_neg (by omega), if_neg h3]
      by_cases h4 : κ b = 0
      · exact h4
      · obtain ⟨j, y, hy, hby⟩ := hκ2 b h4
        exact absurd rfl (hKO.ak i j x y b off b (il i x hi) (il j y hy) hi hy e hp hby)
    · have o := hH.ok x hx
      exact ⟨o.name, o.is, o.data, o.kind, o.parent, o.host, o.under, o.doc, o.kids.inb⟩
    · rw [if_neg (by omega), if_pos rfl]
    · rw [hsz] at hb2
      rw [if_neg (by omega), if_neg (by omega)]
      by_cases h4 : κ b = 0
      · exact h4
      · obtain ⟨j, y, hy, hby⟩ := hκ2 b h4
        have := (kl j y b hy hby).2.1
        omega
  · show (if k = w1.heap.size then 1 else if k = g then 2 else κ k) = 0
    rw [if_neg (by omega), if_neg (by omega)]
    by_cases h4 : κ k = 0
    · exact h4
    · obtain ⟨j, y, hy, hby⟩ := hκ2 k h4
      have := (kl j y k hy hby).1
      omega
theorem Begun.upto {w w0 w' : World} {pw : Nat} {a2 : Option Addr} {len cap2 : Nat} {m : Int} {M : List NodeD} {F : List Core} (h : Begun w0 w' pw a2 len cap2 m M F) (hb : Below w.heap.size w w0) : Begun w w' pw a2 len cap2 m M F :=
  ⟨h.row, h.core, h.c0, h.c1, h.c2, h.lt, Nat.le_trans hb.size h.plo, hb.trans (h.below.mono hb.size), fun x hx => ⟨fun b off e => Nat.le_trans hb.size ((h.new x hx).1 b off e), fun b off e => Nat.le_trans hb.size ((h.new x hx).2 b off e)⟩, fun b off e => Nat.le_trans hb.size (h.rlo b off e), fun h0 => by
    obtain ⟨g, ρ, h1, h2, h3⟩ := h.wk h0
    exact ⟨g, ρ, h1, h2, fun k hk => h3 k (Nat.lt_of_lt_of_le hk hb.size)⟩⟩
theorem NodeRow.far {W : World} {a : Option Addr} {len cap q : Nat} {M : List NodeD} (h : NodeRow W a len cap M) (ha : ∀ b off, a = some ⟨b, off, none⟩ → b ≠ q) (hM : ∀ x ∈ M, NodeAway q x) (o : Nat) (u : Value) : NodeRow (W.setCell ⟨q, o, none⟩ u) a len cap M :=
  ⟨h.row.keep (by simp [World.setCell]) (fun b off he hp o' => World.cell?_setCell_other _ _ _ _ (fun e => by injection e with e _; exact ha b off he e.symm)), fun x hx => (h.ok x hx).setCell (hM x hx) u, h.hnil⟩
theorem Wk.stored1 {ρ : Nat → Nat} {W : World} {pw g cap len : Nat} {m : Int} {M : List NodeD} {v : Value} {N : List NoteD} (h : Wk ρ W pw g cap len m M v N) {b B : Nat} (hb : b < B) (hB : B ≤ W.heap.size) (h0 : ∀ k, k < B → ρ k = 0) (o : Nat) (u : Value) :
    Wk (upd ρ (some b) 4) (W.setCell ⟨b, o, none⟩ u) pw g cap len m M v N := by
  have hbg : b < g := by
    rcases Nat.lt_or_ge g B with h1 | h1
    · have := h0 g h1
      rw [h.grole] at this
      cases this
    · omega
  have hm := h.mark (b := b) (by omega) (h0 b hb) (fun x hx b' off he hp e => by have := (h.arole x hx b' off he hp).2; omega)
  have h4 : upd ρ (some b) 4 b = 4 := by unfold upd; rw [if_pos rfl]
  exact hm.other h4 o u
theorem Begun.stored {w w0 w' : World} {pw b : Nat} {a2 : Option Addr} {len cap2 : Nat} {m : Int} {M : List NodeD} {F : List Core} (h : Begun w0 w' pw a2 len cap2 m M F) (hb : Below w.heap.size w w0) (h1 : w.heap.size ≤ b) (h2 : b < w0.heap.size) (o : Nat) (u : Value) : Begun w (w'.setCell ⟨b, o, none⟩ u) pw a2 len cap2 m M F := by
  have hp := h.plo
  have hs := h.below.size
  have cp : ∀ j, (w'.setCell ⟨b, o, none⟩ u).cell? ⟨pw, j, none⟩ = w'.cell? ⟨pw, j, none⟩ := fun j => World.cell?_setCell_other _ _ _ _ (fun e => by injection e with e _; omega)
  refine ⟨h.row.far (fun b' off e => by have := h.rlo b' off e; omega) (fun x hx => (h.new x hx).away h2) o u, h.core, (cp 0).trans h.c0, (cp 1).trans h.c1, (cp 2).trans h.c2, by simpa [World.setCell] using h.lt, Nat.le_trans hb.size hp, (hb.trans (h.below.mono hb.size)).setCell (p := ⟨b, o, none⟩) h1 u, fun x hx => ⟨fun b off e => Nat.le_trans hb.size ((h.new x hx).1 b off e), fun b off e => Nat.le_trans hb.size ((h.new x hx).2 b off e)⟩, fun b off e => Nat.le_trans hb.size (h.rlo b off e), fun h0 => ?_⟩
  obtain ⟨g, ρ, h3, h4, h5⟩ := h.wk h0
  refine ⟨g, _, h3, h4.stored1 h2 (by omega) h5 o u, fun k hk => ?_⟩
  unfold upd
  rw [if_neg (fun e => by injection e with e; omega)]
  exact h5 k (Nat.lt_of_lt_of_le hk hb.size)
structure Held (w w' : World) (pw wb : Nat) (a2 : Option Addr) (len cap2 : Nat) (m : Int) (M : List NodeD) (F : List Core) : Prop where
  row : NodeRow w' a2 len cap2 M
  core : coreL M = F
  c0 : w'.cell? ⟨pw, 0, none⟩ = some (.slice a2 len cap2)
  c1 : w'.cell? ⟨pw, 1, none⟩ = some (.int .i64 m)
  c2 : w'.cell? ⟨pw, 2, none⟩ = some (.slice none 0 0)
  lt : pw < w'.heap.size
  below : Below w.heap.size w w'
  new : ∀ x ∈ M, newLists w.heap.size x
  rlo : ∀ b off, a2 = some ⟨b, off, none⟩ → w.heap.size ≤ b
  wlt : wb < w'.heap.size
  wc : w'.cell? ⟨wb, 0, none⟩ = some (ptrV pw)
  wk : 0 < len → ∃ g ρ, a2 = some ⟨g, 0, none⟩ ∧ Wk ρ w' pw g cap2 len m M (.slice none 0 0) [] ∧ (∀ k, k < w.heap.size → ρ k = 0) ∧ ρ wb = 0
theorem Held.keep {w w' w2 : World} {pw wb : Nat} {a2 : Option Addr} {len cap2 : Nat} {m : Int} {M : List NodeD} {F : List Core} (h : Held w w' pw wb a2 len cap2 m M F) (hb : Below w'.heap.size w' w2) : Held w w2 pw wb a2 len cap2 m M F :=
  ⟨h.row.below hb, h.core, (hb.cell (p := ⟨pw, 0, none⟩) h.lt).trans h.c0, (hb.cell (p := ⟨pw, 1, none⟩) h.lt).trans h.c1, (hb.cell (p := ⟨pw, 2, none⟩) h.lt).trans h.c2, Nat.lt_of_lt_of_le h.lt hb.size, h.below.trans (hb.mono h.below.size), h.new, h.rlo, Nat.lt_of_lt_of_le h.wlt hb.size, (hb.cell (p := ⟨wb, 0, none⟩) h.wlt).trans h.wc, fun h0 => by
    obtain ⟨g, ρ, h1, h2, h3⟩ := h.wk h0
    exact ⟨g, ρ, h1, h2.keep hb, h3⟩⟩
theorem held_below (w1 : World) (pw : Nat) : Below w1.heap.size w1 (w1.alloc (wkB pw)) := below_box _ _
theorem Begun.held {w w1 : World} {pw : Nat} {a2 : Option Addr} {len cap2 : Nat} {m : Int} {M : List NodeD} {F : List Core} (h : Begun w w1 pw a2 len cap2 m M F) : Held w (w1.alloc (wkB pw)) pw w1.heap.size a2 len cap2 m M F := by
  have hb := held_below w1 pw
  exact ⟨h.row.below hb, h.core, (hb.cell (p := ⟨pw, 0, none⟩) h.lt).trans h.c0, (hb.cell (p := ⟨pw, 1, none⟩) h.lt).trans h.c1, (hb.cell (p := ⟨pw, 2, none⟩) h.lt).trans h.c2, Nat.lt_of_lt_of_le h.lt hb.size, h.below.trans (hb.mono h.below.size), h.new, h.rlo, by simp, cell_box, fun h0 => by
    obtain ⟨g, ρ, h1, h2, h3⟩ := h.wk h0
    exact ⟨g, ρ, h1, h2.keep hb, h3, h2.fresh _ (Nat.le_refl _)⟩⟩
set_option maxHeartbeats 4000000 in
set_option maxRecDepth 100000 in
theorem cbegin_any (a : Option Addr) (len cap : Nat) (m : Int) (L : List NodeD) (w : World) (h : NodeRow w a len cap L) (hs : smallF L) :
    Calls Tryz.prog 96 #[forV a len cap m] w fun e w' => ∃ pw a2 cap2 M, e = .returned (ptrV pw) ∧ Begun w w' pw a2 len cap2 m M (coreL L) := by
  have BX := Lib.hid (Box.start (m := m) h)
  have CF : Hid (∀ W, NodeRow W a len cap L → Calls Tryz.prog 115 #[forV a len cap m] W (CopyOwn W len (coreL L) m)) := Lib.hid (fun W h1 => cloneOwn_any a len cap m L W h1 hs)
  have z0 := BX.out.c0
  have z1 := BX.out.c1
  clear h hs
  go_enter Tryz.func96, Tryz.ntmps96
  go_wp2_with (go_at_call 115; (with_reducible refine (CF.out _ BX.out.row).mono ?_); rintro e w1 ⟨v, M, rfl, hC, hN, hK⟩; obtain ⟨a2, cap2, rfl, hB⟩ := begun_of (m := m) hC hN hK; have HB := Lib.hid hB; clear hC hN hK hB)
  go_ret
  exact ⟨_, a2, cap2, M, rfl, HB.out.upto BX.out.below⟩
set_option maxHeartbeats 4000000 in
set_option maxRecDepth 100000 in
theorem mbegin_any (a : Option Addr) (len cap : Nat) (m : Int) (L : List NodeD) (w : World) (h : NodeRow w a len cap L) (hs : smallF L) :
    Calls Tryz.prog 59 #[forV a len cap m] w fun e w' => ∃ pw a2 cap2 M, e = .returned (workV pw) ∧ Begun w w' pw a2 len cap2 m M (coreL L) := by
  have CF : Hid (∀ W, NodeRow W a len cap L → Calls Tryz.prog 96 #[forV a len cap m] W fun e w' => ∃ pw a2 cap2 M, e = .returned (ptrV pw) ∧ Begun W w' pw a2 len cap2 m M (coreL L)) := Lib.hid (fun W h1 => cbegin_any a len cap m L W h1 hs)
  obtain ⟨w0, hw0, BX, HB0, HZ⟩ : ∃ w0, (w.alloc (forB a len cap m)).alloc wkZ = w0 ∧ Hid (Box w w0 w.heap.size a len cap m L (coreL L)) ∧ Hid (Below w.heap.size w w0) ∧ Hid (w0.cell? ⟨w.heap.size + 1, 0, none⟩ = some (.pointer none) ∧ w0.frozen? ⟨w.heap.size + 1, 0, none⟩ = false ∧ w.heap.size + 1 < w0.heap.size) := by
    refine ⟨_, rfl, Lib.hid ((Box.start h).keep (below_box _ _)), Lib.hid ((below_box _ _).trans ((below_box _ _).mono (by simp))), Lib.hid ⟨?_, ?_, by simp⟩⟩
    · simp
    · simp
  have HW0 := Lib.hid hw0
  have z0 := BX.out.c0
  have z1 := BX.out.c1
  clear h hs hw0
  go_enter Tryz.func59, Tryz.ntmps59
  go_upto_region 1 with fail
  rw [HW0.out]
  go_wp2_with (go_at_call 96; (with_reducible refine (CF.out _ BX.out.row).mono ?_); rintro e w1 ⟨pw, a2, cap2, M, rfl, hB⟩; have HB := Lib.hid hB; have hs1 := hB.below.size; have x0 := (hB.below.cell (p := ⟨w.heap.size + 1, 0, none⟩) HZ.out.2.2).trans HZ.out.1; have f0 := (hB.below.frozen (p := ⟨w.heap.size + 1, 0, none⟩) HZ.out.2.2).trans HZ.out.2.1; clear hB)
  have q0 : (w1.setCell ⟨w.heap.size + 1, 0, none⟩ (ptrV pw)).cell? ⟨w.heap.size + 1, 0, none⟩ = some (ptrV pw) := World.cell?_setCell_same _ _ _ x0
  refine bodyPost_ret (v := workV pw) ?_ rfl ⟨pw, a2, cap2, M, rfl, HB.out.stored HB0.out (by omega) HZ.out.2.2 0 (ptrV pw)⟩
  simp [results, Tryz.results59, go_sem, q0]
set_option maxHeartbeats 8000000 in
set_option maxRecDepth 100000 in
theorem mend_any (w : World) (pw : Nat) (a2 va : Option Addr) (len cap vl vc : Nat) (m : Int) (err : Value) (no : Int) (h0 : w.cell? ⟨pw, 0, none⟩ = some (.slice a2 len cap)) (h1 : w.cell? ⟨pw, 1, none⟩ = some (.int .i64 m)) (h2 : w.cell? ⟨pw, 2, none⟩ = some (.slice va vl vc)) (hlt : pw < w.heap.size)
    (CW : ∀ W, Below w.heap.size w W → Calls Tryz.prog 116 #[err] W fun e w' => e = .returned (.int .i64 no) ∧ Below W.heap.size W w') :
    Calls Tryz.prog 60 #[workV pw, err] w fun e w' => e = .returned (.tuple #[forV a2 len cap m, .slice va vl vc, .int .i64 no]) ∧ Below w.heap.size w w' := by
  obtain ⟨w0, hw0, BX, hb0, HZ⟩ : ∃ w0, (w.alloc (wkB pw)).alloc (.cells #[.slice none 0 0, .int .i64 0] 24) = w0 ∧ Hid (Box2 w0 (w.heap.size + 1) (.slice none 0 0) (.int .i64 0)) ∧ Below w.heap.size w w0 ∧ Hid (w0.cell? ⟨w.heap.size, 0, none⟩ = some (ptrV pw) ∧ w.heap.size < w0.heap.size) := by
    refine ⟨_, rfl, Lib.hid (Box2.newAt (by simp)), (below_box _ _).trans ((below_box _ _).mono (by simp)), Lib.hid ⟨((below_box (w.alloc (wkB pw)) (.cells #[.slice none 0 0, .int .i64 0] 24)).cell (p := ⟨w.heap.size, 0, none⟩) (by simp)).trans cell_box, by simp; omega⟩⟩
  have HB0 := Lib.hid hb0
  have HW0 := Lib.hid hw0
  have K : Hid (∀ W, Below w.heap.size w W → W.cell? ⟨pw, 0, none⟩ = some (.slice a2 len cap) ∧ W.cell? ⟨pw, 1, none⟩ = some (.int .i64 m) ∧ W.cell? ⟨pw, 2, none⟩ = some (.slice va vl vc)) := Lib.hid (fun W hb => ⟨(hb.cell (p := ⟨pw, 0, none⟩) hlt).trans h0, (hb.cell (p := ⟨pw, 1, none⟩) hlt).trans h1, (hb.cell (p := ⟨pw, 2, none⟩) hlt).trans h2⟩)
  have CW := Lib.hid CW
  clear hb0 hw0 h0 h1 h2
  go_enter Tryz.func60, Tryz.ntmps60
  go_upto_region 1 with fail
  rw [HW0.out]
  have p0 := (K.out w0 HB0.out).1
  have p1 := (K.out w0 HB0.out).2.1
  have p2 := (K.out w0 HB0.out).2.2
  have zw := HZ.out.1
  go_region_with (go_at_call 116; (refine (CW.out _ HB0.out.drew).mono ?_); rintro e w1 ⟨rfl, hb⟩; have hb := (Below.refl w0.heap.size w0).drew.trans hb; have HB1 := Lib.hid (HB0.out.trans (hb.mono HB0.out.size)); have BX1 := Lib.hid (BX.out.keep hb); have zw := (hb.cell (p := ⟨w.heap.size, 0, none⟩) HZ.out.2).trans HZ.out.1; have p0 := (K.out _ HB1.out).1; have p1 := (K.out _ HB1.out).2.1; have p2 := (K.out _ HB1.out).2.2; have d0 := BX1.out.c0; have d1 := BX1.out.c1; have f0 := BX1.out.f0; have f1 := BX1.out.f1; clear hb)
  all_goals go_wp2
  all_goals
    have hlt0 := BX1.out.lt
    have q0 : ((w1.setCell ⟨w.heap.size + 1, 0, none⟩ (.slice a2 len cap)).setCell ⟨w.heap.size + 1, 1, none⟩ (.int .i64 m)).cell? ⟨w.heap.size + 1, 0, none⟩ = some (.slice a2 len cap) := (World.cell?_setCell_other _ _ _ _ (fun e => by injection e with _ e; omega)).trans (World.cell?_setCell_same _ _ _ d0)
    have q1 : ((w1.setCell ⟨w.heap.size + 1, 0, none⟩ (.slice a2 len cap)).setCell ⟨w.heap.size + 1, 1, none⟩ (.int .i64 m)).cell? ⟨w.heap.size + 1, 1, none⟩ = some (.int .i64 m) := World.cell?_setCell_same _ _ _ ((World.cell?_setCell_other _ _ _ _ (fun e => by injection e with _ e; omega)).trans d1)
    refine bodyPost_ret (v := .tuple #[forV a2 len cap m, .slice va vl vc, .int .i64 no]) ?_ rfl ⟨rfl, (HB1.out.setCell (p := ⟨w.heap.size + 1, 0, none⟩) (by show w.heap.size ≤ w.heap.size + 1; omega) _).setCell (p := ⟨w.heap.size + 1, 1, none⟩) (by show w.heap.size ≤ w.heap.size + 1; omega) _⟩
    simp [results, Tryz.results60, go_sem, q0, q1]
end Go.Proofs.YtiffhlncnpppoaaGreatDoor
namespace Go.Proofs.YtiffhlncnpppoaaGreatDoor
open Go.RowKit
structure NoteRow (w : World) (a : Option Addr) (len cap : Nat) (N : List NoteD) : Prop where
  row : SRow encO 9 w a len cap N
  ok : ∀ x ∈ N, NoteOk x
  hnil : a = none → cap = 0
theorem NoteRow.below {w w' : World} {a : Option Addr} {len cap : Nat} {N : List NoteD} (h : NoteRow w a len cap N) (hb : Below w.heap.size w w') : NoteRow w' a len cap N := ⟨h.row.below hb, h.ok, h.hnil⟩
theorem NoteRow.nil (w : World) : NoteRow w none 0 0 [] := ⟨SRow.nil, (fun x hx => by cases hx), fun _ => rfl⟩
def MvNew (B : Nat) (a va : Option Addr) (M : List NodeD) : Prop := ∀ k, k < B → (∀ b off, a = some ⟨b, off, none⟩ → b ≠ k) ∧ (∀ x ∈ M, NodeAway k x) ∧ ∀ b off, va = some ⟨b, off, none⟩ → b ≠ k
theorem MvNew.mono {B C : Nat} {a va : Option Addr} {M : List NodeD} (h : MvNew B a va M) (hc : C ≤ B) : MvNew C a va M := fun k hk => h k (Nat.lt_of_lt_of_le hk hc)
def MvPost (w : World) (m : Int) (R : List Core × List NoteD × Int) (e : Ending) (w' : World) : Prop :=
  ∃ a len cap M va vl vc, e = .returned (.tuple #[forV a len cap m, .slice va vl vc, .int .i64 R.2.2]) ∧ NodeRow w' a len cap M ∧ coreL M = R.1 ∧ smallF M ∧ NoteRow w' va vl vc R.2.1 ∧ Below w.heap.size w w' ∧ MvNew w.heap.size a va M
theorem small_core {L M : List NodeD} (h : coreL M = coreL L) (hs : smallF L) : smallF M := by
  have hl : M.length = L.length := by have := congrArg List.length h; rwa [coreL_len, coreL_len] at this
  refine ⟨by rw [hl]; exact hs.1, fun x hx => ?_⟩
  obtain ⟨i, hi⟩ := List.getElem?_of_mem hx
  have h1 := coreL_get hi
  rw [h] at h1
  have := List.mem_of_getElem? h1
  unfold coreL at this
  obtain ⟨y, hy, he⟩ := List.mem_map.1 this
  have := hs.2 y hy
  unfold smallN at this ⊢
  rw [← he]
  exact this
section
variable {ρ : Nat → Nat} {W : World} {pw g cap len : Nat} {m : Int} {M : List NodeD} {v : Value} {N : List NoteD}
theorem Wk.notes (h : Wk ρ W pw g cap len m M v N) : ∃ va vc, v = .slice va N.length vc ∧ NoteRow W va N.length vc N := by
  obtain ⟨a, c, he, hr, _⟩ := SRow.of_own (fun x _ => encO_len x) rfl h.nown
  refine ⟨a, c, he, hr, h.nok, fun e => ?_⟩
  subst e
  rcases h.nown.2 with ⟨hv, _⟩ | ⟨g', c', cur, hv, _⟩
  · rw [hv] at he
    injection he with _ _ h3
    exact h3.symm
  · rw [hv] at he
    injection he with h1
    cases h1
theorem Wk.news {B : Nat} {va : Option Addr} {vl vc : Nat} (h : Wk ρ W pw g cap len m M (.slice va vl vc) N) (h0 : ∀ k, k < B → ρ k = 0) : MvNew B (some ⟨g, 0, none⟩) va M := by
  refine fun k hk => ⟨fun b off e e2 => ?_, fun x hx => ⟨fun b off e hp e2 => ?_, fun b off e hp e2 => ?_⟩, fun b off e e2 => ?_⟩
  · injection e with e
    injection e with e3
    have h1 := h0 k hk
    rw [← e2, ← e3, h.grole] at h1
    cases h1
  · have h1 := (h.arole x hx b off e hp).2
    have h2 := h0 g (by omega)
    rw [h.grole] at h2
    cases h2
  · obtain ⟨i, hi⟩ := List.getElem?_of_mem hx
    have h1 := h.kown i x hi
    obtain ⟨g2, c2, h2⟩ := own_some h1 hp
    have h3 := h.krole i x g2 hi (by rw [h2]; rfl)
    injection h2 with h4 _ _
    rw [e] at h4
    injection h4 with h4
    injection h4 with h5
    have h6 := h0 k hk
    rw [← e2, h5, h3] at h6
    omega
  · rcases h.nown.2 with ⟨hv, _⟩ | ⟨g2, c2, cur, hv, _⟩
    · injection hv with h1
      rw [e] at h1
      cases h1
    · have h3 := h.nrole g2 (by rw [hv]; rfl)
      injection hv with h4 _ _
      rw [e] at h4
      injection h4 with h4
      injection h4 with h5
      have h6 := h0 k hk
      rw [← e2, h5, h3] at h6
      cases h6
end
theorem stored2 {W : World} {b : Nat} {x y : Value} (h : Box2 W b x y) (u v : Value) : ((W.setCell ⟨b, 0, none⟩ u).setCell ⟨b, 1, none⟩ v).cell? ⟨b, 0, none⟩ = some u ∧ ((W.setCell ⟨b, 0, none⟩ u).setCell ⟨b, 1, none⟩ v).cell? ⟨b, 1, none⟩ = some v :=
  ⟨(World.cell?_setCell_other _ _ _ _ (fun e => by injection e with _ e; omega)).trans (World.cell?_setCell_same _ _ _ h.c0), World.cell?_setCell_same _ _ _ ((World.cell?_setCell_other _ _ _ _ (fun e => by injection e with _ e; omega)).trans h.c1)⟩
theorem Wk.stored {ρ : Nat → Nat} {W : World} {pw g cap len : Nat} {m : Int} {M : List NodeD} {v : Value} {N : List NoteD} (h : Wk ρ W pw g cap len m M v N) {b B : Nat} (hb : b < B) (hB : B ≤ W.heap.size) (h0 : ∀ k, k < B → ρ k = 0) (o1 o2 : Nat) (u1 u2 : Value) :
    ∃ ρ', Wk ρ' ((W.setCell ⟨b, o1, none⟩ u1).setCell ⟨b, o2, none⟩ u2) pw g cap len m M v N := by
  have hbg : b < g := by
    rcases Nat.lt_or_ge g B with h1 | h1
    · have := h0 g h1
      rw [h.grole] at this
      cases this
    · omega
  have hm := h.mark (b := b) (by omega) (h0 b hb) (fun x hx b' off he hp e => by have := (h.arole x hx b' off he hp).2; omega)
  have h4 : upd ρ (some b) 4 b = 4 := by unfold upd; rw [if_pos rfl]
  exact ⟨_, (hm.other h4 o1 u1).other h4 o2 u2⟩
def insZ (m : Int) (F : List Core) (n p c : Int) : List Core × List NoteD × Int :=
  if mayZ m F n p c = 0 then ((putS (F, []) n.toNat p.toNat (beforeZ m F n p c)).1, (putS (F, []) n.toNat p.toNat (beforeZ m F n p c)).2, 0) else (F, [], mayZ m F n p c)
structure Two (w W : World) (a : Option Addr) (len cap : Nat) (m : Int) (L : List NodeD) : Prop where
  bx : Box w W w.heap.size a len cap m L (coreL L)
  rb : Box2 W (w.heap.size + 1) (.slice none 0 0) (.int .i64 0)
theorem Two.start {w : World} {a : Option Addr} {len cap : Nat} {m : Int} {L : List NodeD} (h : NodeRow w a len cap L) : Two w ((w.alloc (forB a len cap m)).alloc zeroFB) a len cap m L :=
  ⟨(Box.start h).keep (below_box _ _), Box2.newAt (by simp)⟩
theorem Two.keep {w W W2 : World} {a : Option Addr} {len cap : Nat} {m : Int} {L : List NodeD} (h : Two w W a len cap m L) (hb : Below W.heap.size W W2) : Two w W2 a len cap m L := ⟨h.bx.keep hb, h.rb.keep hb⟩
theorem mrefused_any {w0 w1 : World} {pw wb : Nat} {a2 : Option Addr} {len cap2 : Nat} {m : Int} {M : List NodeD} {F : List Core} (h : Held w0 w1 pw wb a2 len cap2 m M F) (hg : ErrVar w1) (s : ByteArray) (no : Int) :
    Calls Tryz.prog 60 #[workV pw, refusedV s no] w1 fun e w' => e = .returned (.tuple #[forV a2 len cap2 m, .slice none 0 0, .int .i64 no]) ∧ Below w1.heap.size w1 w' :=
  mend_any w1 pw a2 none len cap2 0 0 m _ no h.c0 h.c1 h.c2 h.lt (fun W hb => mwhy_any s no W (hg.keep hb))
theorem mended_any {w1 : World} {ρ : Nat → Nat} {pw g cap len : Nat} {m : Int} {M : List NodeD} {va : Option Addr} {vc : Nat} {N : List NoteD} (h : Wk ρ w1 pw g cap len m M (.slice va N.length vc) N) :
    Calls Tryz.prog 60 #[workV pw, .nilIface] w1 fun e w' => e = .returned (.tuple #[forV (some ⟨g, 0, none⟩) len cap m, .slice va N.length vc, .int .i64 0]) ∧ Below w1.heap.size w1 w' :=
  mend_any w1 pw (some ⟨g, 0, none⟩) va len cap N.length vc m _ 0 h.c0 h.c1 h.c2 h.plt (fun W _ => mwhyNil_any W)
set_option maxHeartbeats 8000000 in
set_option maxRecDepth 100000 in
theorem minsert_any (a : Option Addr) (len cap : Nat) (m : Int) (L : List NodeD) (n p c : Int) (w : World) (h : NodeRow w a len cap L) (hm : In64 m) (hn : In64 n) (hp : In64 p) (hc : In64 c) (hs : smallF L) (hg : ErrVar w) :
    Calls Tryz.prog 15 #[forV a len cap m, .int .i64 n, .int .i64 p, .int .i64 c] w (MvPost w m (insZ m (coreL L) n p c)) := by
  have HCL : Hid ((coreL L).length = len) := Lib.hid (by rw [coreL_len, h.hlen])
  have HS := Lib.hid hs
  have HM := Lib.hid hm
  have HC64 := Lib.hid hc
  have CB : Hid (∀ W, NodeRow W a len cap L → Calls Tryz.prog 59 #[forV a len cap m] W fun e w' => ∃ pw a2 cap2 M, e = .returned (workV pw) ∧ Begun W w' pw a2 len cap2 m M (coreL L)) := Lib.hid (fun W h1 => mbegin_any a len cap m L W h1 hs)
  obtain ⟨E, hE⟩ : ∃ E, mayZ m (coreL L) n p c = E := ⟨_, rfl⟩
  have CM : Hid (∀ W, NodeRow W a len cap L → Calls Tryz.prog 36 #[forV a len cap m, .int .i64 n, .int .i64 p, .int .i64 c] W fun e w' => e = .returned (.int .i64 E) ∧ Below W.heap.size W w') := Lib.hid (fun W h1 => by
    rw [← hE]
    exact vmay_any a len cap m L n p c W h1 hm hn hp hc hs)
  obtain ⟨w0, hw0, TW, HB0⟩ : ∃ w0, (w.alloc (forB a len cap m)).alloc zeroFB = w0 ∧ Hid (Two w w0 a len cap m L) ∧ Hid (Below w.heap.size w w0) := ⟨_, rfl, Lib.hid (Two.start h), Lib.hid ((below_box _ _).trans ((below_box _ _).mono (by simp)))⟩
  have HG := Lib.hid (hg.keep HB0.out)
  have HW0 := Lib.hid hw0
  have z0 := TW.out.bx.c0
  have z1 := TW.out.bx.c1
  have HE := Lib.hid hE
  clear h hs hm hn hp hc hg hw0
  by_cases h0 : E = 0
  · have e1 : (E != 0) = false := by rw [h0]; rfl
    have PO : mayZ m (coreL L) n p c = 0 := by rw [HE.out]; exact h0
    obtain ⟨hk, _⟩ := may_ok PO
    obtain ⟨hr, ⟨N0, rfl, hN⟩, ⟨P0, rfl, hP⟩, hcc⟩ := vknows_nat hk
    rw [HCL.out] at hN hP
    have HPO := Lib.hid PO
    have HQ : Hid (insZ m (coreL L) N0 P0 c = ((putS (coreL L, []) N0 P0 (beforeZ m (coreL L) N0 P0 c)).1, (putS (coreL L, []) N0 P0 (beforeZ m (coreL L) N0 P0 c)).2, 0)) := Lib.hid (by
      unfold insZ
      rw [if_pos HPO.out]
      simp only [Int.toNat_natCast])
    clear hk hr h0 PO hcc
    go_enter Tryz.func15, Tryz.ntmps15
    go_upto_region 1 with fail
    rw [HW0.out]
    go_upto_region 2 with (go_at_call 59; (with_reducible refine (CB.out _ TW.out.bx.row).mono ?_); rintro e w1 ⟨pw, a2, cap2, M, rfl, hB⟩; have BG := Lib.hid hB; have TW1 := Lib.hid (TW.out.keep hB.below); have z0 := TW1.out.bx.c0; have z1 := TW1.out.bx.c1; clear hB)
    (
      have HD0 := Lib.hid BG.out.held
      have HBW := Lib.hid (held_below w1 pw)
      obtain ⟨wh, hwh⟩ : ∃ wh, w1.alloc (wkB pw) = wh := ⟨_, rfl⟩
      rw [hwh] at HD0 HBW ⊢
      have TW1 := Lib.hid (TW1.out.keep HBW.out)
      clear BG z0 z1 hwh
      have BG := HD0
      clear HD0
      have z0 := TW1.out.bx.c0
      have z1 := TW1.out.bx.c1
      have zw := BG.out.wc)
    go_wp2_with (first
      | (go_at_call 36; (with_reducible refine (CM.out _ TW1.out.bx.row).mono ?_); rintro e w2 ⟨rfl, hb⟩; have BG := Lib.hid (BG.out.keep hb); have zw := BG.out.wc; clear hb)
      | (go_at_call 62; obtain ⟨g, ρ, rfl, hwk, hρ, hwb⟩ := BG.out.wk (by omega); have HBC := Lib.hid BG.out.core; (refine (mput_any _ hwk HM.out (small_core HBC.out HS.out) N0 P0 c HC64.out hN hP (by rw [HBC.out]; exact HPO.out) (by simp)).mono ?_); rintro e w3 ⟨rfl, ρ3, M3, v3, N3, hW3, hT3, hA3, hE3, hS3, hR3⟩; obtain ⟨va, vc, rfl, hNR⟩ := hW3.notes; have W3 := Lib.hid hW3; have NR := Lib.hid hNR; have E3 := Lib.hid hE3; have S3 := Lib.hid hS3; have HB3 := Lib.hid (BG.out.below.trans (hT3.below BG.out.below.size hρ)); have A3 : Hid (∀ k, k < w0.heap.size → ρ3 k = 0) := (Lib.hid (fun k hk => (hA3 k (Nat.lt_of_lt_of_le hk BG.out.below.size)).trans (hρ k hk))); have zw := (hT3.cell BG.out.wlt hwb).trans BG.out.wc; clear hW3 hT3 hA3 hE3 hS3 hR3 hNR hwk hρ hwb)
      | (go_at_call 60; (refine (mended_any W3.out).mono ?_); rintro e w4 ⟨rfl, hb⟩; have HB4 := Lib.hid (HB3.out.trans (hb.mono HB3.out.size)); have HB34 := Lib.hid hb; have TW4 := Lib.hid (TW.out.keep HB4.out); have d0 := TW4.out.rb.c0; have d1 := TW4.out.rb.c1; have f0 := TW4.out.rb.f0; have f1 := TW4.out.rb.f1; clear hb))
    obtain ⟨q0, q1⟩ := stored2 TW4.out.rb (.slice (some ⟨g, 0, none⟩) len cap2) (.int .i64 m)
    obtain ⟨ρ5, W5⟩ := (W3.out.keep (by exact HB34.out)).stored (b := w.heap.size + 1) (B := w0.heap.size) TW.out.rb.lt HB4.out.size A3.out 0 1 (.slice (some ⟨g, 0, none⟩) len cap2) (.int .i64 m)
    obtain ⟨va', vc', hv', NR5⟩ := W5.notes
    injection hv' with e2 e3 e4
    subst e2 e4
    refine bodyPost_ret (v := .tuple #[forV (some ⟨g, 0, none⟩) len cap2 m, .slice va N3.length vc, .int .i64 0]) ?_ rfl ⟨some ⟨g, 0, none⟩, len, cap2, M3, va, N3.length, vc, by rw [HQ.out], W5.row, by rw [HQ.out, ← HBC.out, ← E3.out], S3.out, by rw [HQ.out, ← HBC.out, ← E3.out]; exact NR5, ?_, (W3.out.news A3.out).mono HB0.out.size⟩
    · simp [results, Tryz.results15, go_sem, q0, q1]
    · exact ((HB0.out.trans (HB4.out.mono HB0.out.size)).setCell (p := ⟨w.heap.size + 1, 0, none⟩) (by show w.heap.size ≤ w.heap.size + 1; omega) _).setCell (p := ⟨w.heap.size + 1, 1, none⟩) (by show w.heap.size ≤ w.heap.size + 1; omega) _
  · have e1 : (E != 0) = true := bne_iff_ne.2 h0
    have HQ : Hid (insZ m (coreL L) n p c = (coreL L, [], E)) := Lib.hid (by
      unfold insZ
      rw [if_neg (by rw [HE.out]; exact h0), HE.out])
    clear h0
    go_enter Tryz.func15, Tryz.ntmps15
    go_upto_region 1 with fail
    rw [HW0.out]
    go_upto_region 2 with (go_at_call 59; (with_reducible refine (CB.out _ TW.out.bx.row).mono ?_); rintro e w1 ⟨pw, a2, cap2, M, rfl, hB⟩; have BG := Lib.hid hB; have TW1 := Lib.hid (TW.out.keep hB.below); have z0 := TW1.out.bx.c0; have z1 := TW1.out.bx.c1; clear hB)
    (
      have HD0 := Lib.hid BG.out.held
      have HBW := Lib.hid (held_below w1 pw)
      obtain ⟨wh, hwh⟩ : ∃ wh, w1.alloc (wkB pw) = wh := ⟨_, rfl⟩
      rw [hwh] at HD0 HBW ⊢
      have TW1 := Lib.hid (TW1.out.keep HBW.out)
      clear BG z0 z1 hwh
      have BG := HD0
      clear HD0
      have z0 := TW1.out.bx.c0
      have z1 := TW1.out.bx.c1
      have zw := BG.out.wc)
    go_upto_region 4 with (go_at_call 36; (with_reducible refine (CM.out _ TW1.out.bx.row).mono ?_); rintro e w2 ⟨rfl, hb⟩; have BG := Lib.hid (BG.out.keep hb); have zw := BG.out.wc; clear hb)
    (
      have BD := Lib.hid (BG.out.keep ((Below.refl _ _).drew))
      have zw := BG.out.wc
      go_region_with (first | (go_at_call 61; (refine (mrefuse_any _ _ _).mono ?_); rintro e w' ⟨rfl, rfl⟩) | (go_at_call 60; (refine (mrefused_any BD.out (HG.out.keep BD.out.below) _ _).mono ?_); rintro e w4 ⟨rfl, hb⟩; have BG4 := Lib.hid (BD.out.keep hb); have TW4 := Lib.hid (TW.out.keep BG4.out.below); have d0 := TW4.out.rb.c0; have d1 := TW4.out.rb.c1; have f0 := TW4.out.rb.f0; have f1 := TW4.out.rb.f1; clear hb))
      all_goals go_wp2)
    all_goals (
                obtain ⟨q0, q1⟩ := stored2 TW4.out.rb (.slice a2 len cap2) (.int .i64 m)
                have hlt0 := TW.out.rb.lt
                have R5 := (BG4.out.row.far (q := w.heap.size + 1) (fun b off e => by have := BG4.out.rlo b off e; omega) (fun x hx => (BG4.out.new x hx).away hlt0) 0 (.slice a2 len cap2)).far (q := w.heap.size + 1) (fun b off e => by have := BG4.out.rlo b off e; omega) (fun x hx => (BG4.out.new x hx).away hlt0) 1 (.int .i64 m)
                have HB5 := ((HB0.out.trans (BG4.out.below.mono HB0.out.size)).setCell (p := ⟨w.heap.size + 1, 0, none⟩) (by show w.heap.size ≤ w.heap.size + 1; omega) (.slice a2 len cap2)).setCell (p := ⟨w.heap.size + 1, 1, none⟩) (by show w.heap.size ≤ w.heap.size + 1; omega) (.int .i64 m)
                refine bodyPost_ret (v := .tuple #[forV a2 len cap2 m, .slice none 0 0, .int .i64 E]) ?_ rfl ⟨a2, len, cap2, M, none, 0, 0, by rw [HQ.out], R5, by rw [HQ.out, BG4.out.core], small_core BG4.out.core HS.out, by rw [HQ.out]; exact NoteRow.nil _, HB5, fun k hk => ⟨fun b off e e2 => (by have := BG4.out.rlo b off e; have := HB0.out.size; omega), fun x hx => (BG4.out.new x hx).away (Nat.lt_of_lt_of_le hk HB0.out.size), fun b off e => (by cases e)⟩⟩)
    all_goals simp [results, Tryz.results15, go_sem, q0, q1]
end Go.Proofs.YtiffhlncnpppoaaGreatDoor
namespace Go.Proofs.YtiffhlncnpppoaaGreatDoor
open Go.RowKit
theorem rootZ_iff {m : Int} {F : List Core} {n : Int} : (rootZ m F n != -1) = thereF m F n := by
  unfold rootZ
  cases thereF m F n with
  | false => rfl
  | true =>
    rw [if_pos rfl]
    exact bne_iff_ne.2 (by omega)
set_option maxHeartbeats 4000000 in
theorem mknows_any (a : Option Addr) (len cap : Nat) (m : Int) (L : List NodeD) (n : Int) (w : World) (h : NodeRow w a len cap L) (hm : In64 m) (hn : In64 n) (hs : smallF L) :
    Calls Tryz.prog 63 #[forV a len cap m, .int .i64 n] w fun e w' => e = .returned (.bool (thereF m (coreL L) n)) ∧ Below w.heap.size w w' := by
  have BX := Lib.hid (Box.start (m := m) h)
  have CR : Hid (∀ W, NodeRow W a len cap L → Calls Tryz.prog 117 #[forV a len cap m, .int .i64 n] W fun e w' => e = .returned (.int .i64 (rootZ m (coreL L) n)) ∧ Below W.heap.size W w') := Lib.hid (fun W h1 => rootFn_any a len cap m L n W h1 hm hn hs)
  have HR := Lib.hid (rootZ_iff (m := m) (F := coreL L) (n := n))
  have z0 := BX.out.c0
  have z1 := BX.out.c1
  obtain ⟨r, hr⟩ : ∃ r, rootZ m (coreL L) n = r := ⟨_, rfl⟩
  rw [hr] at CR HR
  clear h hm hn hs hr
  go_enter Tryz.func63, Tryz.ntmps63
  go_wp2_with (go_at_call 117; (with_reducible refine (CR.out _ BX.out.row).mono ?_); rintro e w1 ⟨rfl, hb⟩; have BX := Lib.hid (BX.out.keep hb); clear hb)
  go_ret
  exact ⟨ret_bool HR.out, BX.out.below⟩
def remZ (m : Int) (F : List Core) (n : Int) : List Core × List NoteD × Int :=
  if thereF m F n then (if parentK F n = -1 then (F, [], 6) else ((outS (F, []) n.toNat).1, (outS (F, []) n.toNat).2, 0)) else (F, [], 1)
set_option maxHeartbeats 8000000 in
set_option maxRecDepth 100000 in
theorem mremove_any (a : Option Addr) (len cap : Nat) (m : Int) (L : List NodeD) (n : Int) (w : World) (h : NodeRow w a len cap L) (hm : In64 m) (hn : In64 n) (hs : smallF L) (hg : ErrVar w) :
    Calls Tryz.prog 16 #[forV a len cap m, .int .i64 n] w (MvPost w m (remZ m (coreL L) n)) := by
  have HCL : Hid ((coreL L).length = len) := Lib.hid (by rw [coreL_len, h.hlen])
  have hlen := h.len64
  have HS := Lib.hid hs
  have CB : Hid (∀ W, NodeRow W a len cap L → Calls Tryz.prog 59 #[forV a len cap m] W fun e w' => ∃ pw a2 cap2 M, e = .returned (workV pw) ∧ Begun W w' pw a2 len cap2 m M (coreL L)) := Lib.hid (fun W h1 => mbegin_any a len cap m L W h1 hs)
  obtain ⟨q, hq⟩ : ∃ q, thereF m (coreL L) n = q := ⟨_, rfl⟩
  have CM : Hid (∀ W, NodeRow W a len cap L → Calls Tryz.prog 63 #[forV a len cap m, .int .i64 n] W fun e w' => e = .returned (.bool q) ∧ Below W.heap.size W w') := Lib.hid (fun W h1 => by
    rw [← hq]
    exact mknows_any a len cap m L n W h1 hm hn hs)
  obtain ⟨w0, hw0, TW, HB0⟩ : ∃ w0, (w.alloc (forB a len cap m)).alloc zeroFB = w0 ∧ Hid (Two w w0 a len cap m L) ∧ Hid (Below w.heap.size w w0) := ⟨_, rfl, Lib.hid (Two.start h), Lib.hid ((below_box _ _).trans ((below_box _ _).mono (by simp)))⟩
  have HG := Lib.hid (hg.keep HB0.out)
  have HW0 := Lib.hid hw0
  have z0 := TW.out.bx.c0
  have z1 := TW.out.bx.c1
  have HH := Lib.hid h
  clear h hs hm hn hg hw0
  cases q with
  | false =>
    obtain ⟨E, hE⟩ : ∃ E : Int, E = 1 := ⟨_, rfl⟩
    have HQ : Hid (remZ m (coreL L) n = (coreL L, [], E)) := Lib.hid (by
      unfold remZ
      rw [hq, hE]
      rfl)
    clear hq
    go_enter Tryz.func16, Tryz.ntmps16
    go_upto_region 1 with fail
    rw [HW0.out]
    go_upto_region 2 with (go_at_call 59; (with_reducible refine (CB.out _ TW.out.bx.row).mono ?_); rintro e w1 ⟨pw, a2, cap2, M, rfl, hB⟩; have BG := Lib.hid hB; have TW1 := Lib.hid (TW.out.keep hB.below); have z0 := TW1.out.bx.c0; have z1 := TW1.out.bx.c1; clear hB)
    (
      have HD0 := Lib.hid BG.out.held
      have HBW := Lib.hid (held_below w1 pw)
      obtain ⟨wh, hwh⟩ : ∃ wh, w1.alloc (wkB pw) = wh := ⟨_, rfl⟩
      rw [hwh] at HD0 HBW ⊢
      have TW1 := Lib.hid (TW1.out.keep HBW.out)
      clear BG z0 z1 hwh
      have BG := HD0
      clear HD0
      have z0 := TW1.out.bx.c0
      have z1 := TW1.out.bx.c1
      have zw := BG.out.wc)
    go_upto_region 3 with (first
      | (go_at_call 63; (with_reducible refine (CM.out _ TW1.out.bx.row).mono ?_); rintro e w2 ⟨rfl, hb⟩; have BG := Lib.hid (BG.out.keep hb); have zw := BG.out.wc; have TW1 := Lib.hid (TW1.out.keep hb); have z0 := TW1.out.bx.c0; have z1 := TW1.out.bx.c1; clear hb))
    (
      have BD := Lib.hid (BG.out.keep ((Below.refl _ _).drew))
      have zw := BG.out.wc
      go_region_with (first | (go_at_call 61; (refine (mrefuse_any _ _ _).mono ?_); rintro e w' ⟨rfl, rfl⟩) | (go_at_call 60; (refine (mrefused_any BD.out (HG.out.keep BD.out.below) _ _).mono ?_); rintro e w4 ⟨rfl, hb⟩; have BG4 := Lib.hid (BD.out.keep hb); have TW4 := Lib.hid (TW.out.keep BG4.out.below); have d0 := TW4.out.rb.c0; have d1 := TW4.out.rb.c1; have f0 := TW4.out.rb.f0; have f1 := TW4.out.rb.f1; clear hb))
      all_goals go_wp2)
    all_goals (
                obtain ⟨q0, q1⟩ := stored2 TW4.out.rb (.slice a2 len cap2) (.int .i64 m)
                have hlt0 := TW.out.rb.lt
                have R5 := (BG4.out.row.far (q := w.heap.size + 1) (fun b off e => by have := BG4.out.rlo b off e; omega) (fun x hx => (BG4.out.new x hx).away hlt0) 0 (.slice a2 len cap2)).far (q := w.heap.size + 1) (fun b off e => by have := BG4.out.rlo b off e; omega) (fun x hx => (BG4.out.new x hx).away hlt0) 1 (.int .i64 m)
                have HB5 := ((HB0.out.trans (BG4.out.below.mono HB0.out.size)).setCell (p := ⟨w.heap.size + 1, 0, none⟩) (by show w.heap.size ≤ w.heap.size + 1; omega) (.slice a2 len cap2)).setCell (p := ⟨w.heap.size + 1, 1, none⟩) (by show w.heap.size ≤ w.heap.size + 1; omega) (.int .i64 m)
                refine bodyPost_ret (v := .tuple #[forV a2 len cap2 m, .slice none 0 0, .int .i64 E]) ?_ rfl ⟨a2, len, cap2, M, none, 0, 0, by rw [HQ.out], R5, by rw [HQ.out, BG4.out.core], small_core BG4.out.core HS.out, by rw [HQ.out]; exact NoteRow.nil _, HB5, fun k hk => ⟨fun b off e e2 => (by have := BG4.out.rlo b off e; have := HB0.out.size; omega), fun x hx => (BG4.out.new x hx).away (Nat.lt_of_lt_of_le hk HB0.out.size), fun b off e => (by cases e)⟩⟩)
    all_goals simp [results, Tryz.results16, go_sem, q0, q1, hE]
  | true =>
    obtain ⟨hr, k, rfl, hk⟩ := there_nat hq
    rw [HCL.out] at hk
    obtain ⟨b, off, x, hab, hb, hx, hat, -⟩ := HH.out.get hk
    subst hab
    have C5 := Lib.hid (stays hat.c5 hb)
    have HXP : Hid (parentK (coreL L) k = x.core.parent) := Lib.hid (parentK_at (coreL_get hx))
    have HRR := Lib.hid hr
    have HQ0 := Lib.hid hq
    clear hat hx hb hq hr
    by_cases hp : x.core.parent = -1
    · obtain ⟨E, hE⟩ : ∃ E : Int, E = 6 := ⟨_, rfl⟩
      have HQ : Hid (remZ m (coreL L) k = (coreL L, [], E)) := Lib.hid (by
        unfold remZ
        rw [HQ0.out, if_pos rfl, if_pos (by rw [HXP.out]; exact hp), hE])
      have e1 : (x.core.parent == -1) = true := beq_iff_eq.2 hp
      clear hp
      go_enter Tryz.func16, Tryz.ntmps16
      go_upto_region 1 with fail
      rw [HW0.out]
      go_upto_region 2 with (go_at_call 59; (with_reducible refine (CB.out _ TW.out.bx.row).mono ?_); rintro e w1 ⟨pw, a2, cap2, M, rfl, hB⟩; have BG := Lib.hid hB; have TW1 := Lib.hid (TW.out.keep hB.below); have z0 := TW1.out.bx.c0; have z1 := TW1.out.bx.c1; clear hB)
      (
        have HD0 := Lib.hid BG.out.held
        have HBW := Lib.hid (held_below w1 pw)
        obtain ⟨wh, hwh⟩ : ∃ wh, w1.alloc (wkB pw) = wh := ⟨_, rfl⟩
        rw [hwh] at HD0 HBW ⊢
        have TW1 := Lib.hid (TW1.out.keep HBW.out)
        clear BG z0 z1 hwh
        have BG := HD0
        clear HD0
        have z0 := TW1.out.bx.c0
        have z1 := TW1.out.bx.c1
        have zw := BG.out.wc)
      go_upto_region 5 with (first
        | (go_at_call 63; (with_reducible refine (CM.out _ TW1.out.bx.row).mono ?_); rintro e w2 ⟨rfl, hb⟩; have BG := Lib.hid (BG.out.keep hb); have zw := BG.out.wc; have TW1 := Lib.hid (TW1.out.keep hb); have z0 := TW1.out.bx.c0; have z1 := TW1.out.bx.c1; have c5 := C5.out _ (HB0.out.trans (BG.out.below.mono HB0.out.size)); clear hb))
      (
        have BD := Lib.hid (BG.out.keep ((Below.refl _ _).drew))
        have zw := BG.out.wc
        go_region_with (first | (go_at_call 61; (refine (mrefuse_any _ _ _).mono ?_); rintro e w' ⟨rfl, rfl⟩) | (go_at_call 60; (refine (mrefused_any BD.out (HG.out.keep BD.out.below) _ _).mono ?_); rintro e w4 ⟨rfl, hb⟩; have BG4 := Lib.hid (BD.out.keep hb); have TW4 := Lib.hid (TW.out.keep BG4.out.below); have d0 := TW4.out.rb.c0; have d1 := TW4.out.rb.c1; have f0 := TW4.out.rb.f0; have f1 := TW4.out.rb.f1; clear hb))
        all_goals go_wp2)
      all_goals (
                  obtain ⟨q0, q1⟩ := stored2 TW4.out.rb (.slice a2 len cap2) (.int .i64 m)
                  have hlt0 := TW.out.rb.lt
                  have R5 := (BG4.out.row.far (q := w.heap.size + 1) (fun b off e => by have := BG4.out.rlo b off e; omega) (fun x hx => (BG4.out.new x hx).away hlt0) 0 (.slice a2 len cap2)).far (q := w.heap.size + 1) (fun b off e => by have := BG4.out.rlo b off e; omega) (fun x hx => (BG4.out.new x hx).away hlt0) 1 (.int .i64 m)
                  have HB5 := ((HB0.out.trans (BG4.out.below.mono HB0.out.size)).setCell (p := ⟨w.heap.size + 1, 0, none⟩) (by show w.heap.size ≤ w.heap.size + 1; omega) (.slice a2 len cap2)).setCell (p := ⟨w.heap.size + 1, 1, none⟩) (by show w.heap.size ≤ w.heap.size + 1; omega) (.int .i64 m)
                  refine bodyPost_ret (v := .tuple #[forV a2 len cap2 m, .slice none 0 0, .int .i64 E]) ?_ rfl ⟨a2, len, cap2, M, none, 0, 0, by rw [HQ.out], R5, by rw [HQ.out, BG4.out.core], small_core BG4.out.core HS.out, by rw [HQ.out]; exact NoteRow.nil _, HB5, fun k hk => ⟨fun b off e e2 => (by have := BG4.out.rlo b off e; have := HB0.out.size; omega), fun x hx => (BG4.out.new x hx).away (Nat.lt_of_lt_of_le hk HB0.out.size), fun b off e => (by cases e)⟩⟩)
      all_goals simp [results, Tryz.results16, go_sem, q0, q1, hE]
    · have HQ : Hid (remZ m (coreL L) k = ((outS (coreL L, []) k).1, (outS (coreL L, []) k).2, 0)) := Lib.hid (by
        unfold remZ
        rw [HQ0.out, if_pos rfl, if_neg (by rw [HXP.out]; exact hp), Int.toNat_natCast])
      have e1 : (x.core.parent == -1) = false := beq_eq_false_iff_ne.2 hp
      have HP := Lib.hid hp
      clear hp
      go_enter Tryz.func16, Tryz.ntmps16
      go_upto_region 1 with fail
      rw [HW0.out]
      go_upto_region 2 with (go_at_call 59; (with_reducible refine (CB.out _ TW.out.bx.row).mono ?_); rintro e w1 ⟨pw, a2, cap2, M, rfl, hB⟩; have BG := Lib.hid hB; have TW1 := Lib.hid (TW.out.keep hB.below); have z0 := TW1.out.bx.c0; have z1 := TW1.out.bx.c1; clear hB)
      (
        have HD0 := Lib.hid BG.out.held
        have HBW := Lib.hid (held_below w1 pw)
        obtain ⟨wh, hwh⟩ : ∃ wh, w1.alloc (wkB pw) = wh := ⟨_, rfl⟩
        rw [hwh] at HD0 HBW ⊢
        have TW1 := Lib.hid (TW1.out.keep HBW.out)
        clear BG z0 z1 hwh
        have BG := HD0
        clear HD0
        have z0 := TW1.out.bx.c0
        have z1 := TW1.out.bx.c1
        have zw := BG.out.wc)
      go_wp2_with (first
        | (go_at_call 63; (with_reducible refine (CM.out _ TW1.out.bx.row).mono ?_); rintro e w2 ⟨rfl, hb⟩; have BG := Lib.hid (BG.out.keep hb); have zw := BG.out.wc; have TW1 := Lib.hid (TW1.out.keep hb); have z0 := TW1.out.bx.c0; have z1 := TW1.out.bx.c1; have c5 := C5.out _ (HB0.out.trans (BG.out.below.mono HB0.out.size)); clear hb)
        | (go_at_call 64; obtain ⟨g, ρ, rfl, hwk, hρ, hwb⟩ := BG.out.wk (by omega); have HBC := Lib.hid BG.out.core; (refine (mgoOut_any _ hwk (by rw [HBC.out]; exact HRR.out) (small_core HBC.out HS.out) k hk (by rw [HBC.out, HXP.out]; exact HP.out) (by simp)).mono ?_); rintro e w3 ⟨rfl, ρ3, M3, v3, N3, hW3, hT3, hA3, hE3, hS3, hR3⟩; obtain ⟨va, vc, rfl, hNR⟩ := hW3.notes; have W3 := Lib.hid hW3; have E3 := Lib.hid hE3; have S3 := Lib.hid hS3; have HB3 := Lib.hid (BG.out.below.trans (hT3.below BG.out.below.size hρ)); have A3 : Hid (∀ k, k < w0.heap.size → ρ3 k = 0) := (Lib.hid (fun k hk => (hA3 k (Nat.lt_of_lt_of_le hk BG.out.below.size)).trans (hρ k hk))); have zw := (hT3.cell BG.out.wlt hwb).trans BG.out.wc; clear hW3 hT3 hA3 hE3 hS3 hR3 hNR hwk hρ hwb)
        | (go_at_call 60; (refine (mended_any W3.out).mono ?_); rintro e w4 ⟨rfl, hb⟩; have HB4 := Lib.hid (HB3.out.trans (hb.mono HB3.out.size)); have HB34 := Lib.hid hb; have TW4 := Lib.hid (TW.out.keep HB4.out); have d0 := TW4.out.rb.c0; have d1 := TW4.out.rb.c1; have f0 := TW4.out.rb.f0; have f1 := TW4.out.rb.f1; clear hb))
      (
        obtain ⟨q0, q1⟩ := stored2 TW4.out.rb (.slice (some ⟨g, 0, none⟩) len cap2) (.int .i64 m)
        obtain ⟨ρ5, W5⟩ := (W3.out.keep HB34.out).stored (b := w.heap.size + 1) (B := w0.heap.size) TW.out.rb.lt HB4.out.size A3.out 0 1 (.slice (some ⟨g, 0, none⟩) len cap2) (.int .i64 m)
        obtain ⟨va', vc', hv', NR5⟩ := W5.notes
        injection hv' with e2 e3 e4
        subst e2 e4
        have HB5 := ((HB0.out.trans (HB4.out.mono HB0.out.size)).setCell (p := ⟨w.heap.size + 1, 0, none⟩) (by show w.heap.size ≤ w.heap.size + 1; omega) (.slice (some ⟨g, 0, none⟩) len cap2)).setCell (p := ⟨w.heap.size + 1, 1, none⟩) (by show w.heap.size ≤ w.heap.size + 1; omega) (.int .i64 m)
        refine bodyPost_ret (v := .tuple #[forV (some ⟨g, 0, none⟩) len cap2 m, .slice va N3.length vc, .int .i64 0]) ?_ rfl ⟨some ⟨g, 0, none⟩, len, cap2, M3, va, N3.length, vc, by rw [HQ.out], W5.row, by rw [HQ.out, ← HBC.out, ← E3.out], S3.out, by rw [HQ.out, ← HBC.out, ← E3.out]; exact NR5, HB5, (W3.out.news A3.out).mono HB0.out.size⟩)
      simp [results, Tryz.results16, go_sem, q0, q1]
end Go.Proofs.YtiffhlncnpppoaaGreatDoor
namespace Go.Proofs.YtiffhlncnpppoaaGreatDoor
open Go.RowKit
def RemNew (w : World) (M : AL) (z : Bool) (e : Ending) (w' : World) : Prop := ∃ a len cap, e = .returned (.tuple #[.slice a len cap, .bool z]) ∧ AttrRow w' a len cap M ∧ Below w.heap.size w w' ∧ ∀ b off, a = some ⟨b, off, none⟩ → w.heap.size ≤ b
def TogNew (w : World) (M : AL) (t : Bool) (z : Int) (e : Ending) (w' : World) : Prop := ∃ a len cap, e = .returned (.tuple #[.slice a len cap, .bool t, .int .i64 z]) ∧ AttrRow w' a len cap M ∧ Below w.heap.size w w' ∧ ∀ b off, a = some ⟨b, off, none⟩ → w.heap.size ≤ b
theorem RemNew.post {w w' : World} {M : AL} {z : Bool} {e : Ending} (h : RemNew w M z e w') : RemPost w M z e w' := by
  obtain ⟨a, len, cap, h1, h2, h3, _⟩ := h
  exact ⟨a, len, cap, h1, h2, h3⟩
theorem TogNew.post {w w' : World} {M : AL} {t : Bool} {z : Int} {e : Ending} (h : TogNew w M t z e w') : TogPost w M t z e w' := by
  obtain ⟨a, len, cap, h1, h2, h3, _⟩ := h
  exact ⟨a, len, cap, h1, h2, h3⟩
theorem RemNew.mk {w w' : World} {M : AL} {z : Bool} {e : Ending} {v : Value} {n : Nat} (he : e = .returned (.tuple #[v, .bool z])) (hl : M.length = n) (h : w'.ownsRow w.heap.size 160 2 v n (M.flatMap encA)) (hs : ∀ x ∈ M, x.1.size ≤ maxLen ∧ x.2.size ≤ maxLen) (hb : Below w.heap.size w w') : RemNew w M z e w' := by
  obtain ⟨a, cap, rfl, h1, h2⟩ := AttrRow.of_own_new hl h hs
  exact ⟨a, n, cap, he, h1, hb, h2⟩
theorem TogNew.mk {w w' : World} {M : AL} {t : Bool} {z : Int} {e : Ending} {v : Value} {n : Nat} (he : e = .returned (.tuple #[v, .bool t, .int .i64 z])) (hl : M.length = n) (h : w'.ownsRow w.heap.size 160 2 v n (M.flatMap encA)) (hs : ∀ x ∈ M, x.1.size ≤ maxLen ∧ x.2.size ≤ maxLen) (hb : Below w.heap.size w w') : TogNew w M t z e w' := by
  obtain ⟨a, cap, rfl, h1, h2⟩ := AttrRow.of_own_new hl h hs
  exact ⟨a, n, cap, he, h1, hb, h2⟩
theorem rem_erase {L : AL} {n : List UInt8} (h : hasA L n = true) : remA L n = L.eraseIdx (placeA L n) := by
  obtain ⟨hr, hn, hp⟩ := hasA_right h
  rw [remA_yes h]
  have hf := ((rightA_iff L).1 hr).2
  have hkey : ∀ (k : Nat) x, L[k]? = some x → (offQ n x = false ↔ k = placeA L n) := fun k x hx => by
    have h1 := hf k x hx
    rw [okAt_eq] at h1
    simp at h1
    unfold offQ keyIs placeA
    constructor
    · intro h2
      have h3 : x.1.toList = smallL n := by simpa using h2
      rw [← h3]
      exact h1.2.symm
    · intro h2
      obtain ⟨y, hy, hy1⟩ := place_key hp
      have : x = y := by
        unfold placeA at hy
        rw [h2, hy] at hx
        exact (Option.some.inj hx).symm
      rw [this, hy1, toList_ofL]
      simp
  generalize placeA L n = p at hp hkey
  clear hf hr hn h
  induction L generalizing p with
  | nil => simp at hp
  | cons y r ih =>
    cases p with
    | zero =>
      have h0 := (hkey 0 y rfl).2 rfl
      rw [List.filter_cons, if_neg (by rw [h0]; decide), List.eraseIdx_cons_zero]
      refine List.filter_eq_self.2 (fun x hx => ?_)
      obtain ⟨k, hk, he⟩ := List.mem_iff_getElem.1 hx
      have h1 := hkey (k + 1) x (by simp [List.getElem?_eq_getElem hk, he])
      by_cases h2 : offQ n x = true
      · exact h2
      · have := h1.1 (by simpa using h2)
        omega
    | succ p =>
      have h0 : offQ n y = true := by
        by_cases h2 : offQ n y = true
        · exact h2
        · have := (hkey 0 y rfl).1 (by simpa using h2)
          omega
      rw [List.filter_cons, if_pos h0, List.eraseIdx_cons_succ, ih p (by simpa using hp) (fun k x hx => by
        have := hkey (k + 1) x (by simpa using hx)
        exact this.trans ⟨fun h => by omega, fun h => by omega⟩)]
set_option maxHeartbeats 16000000 in
set_option maxRecDepth 100000 in
theorem attrrem_any (a : Option Addr) (len cap : Nat) (L : AL) (n : ByteArray) (w : World) (h : AttrRow w a len cap L) (hn : n.size ≤ maxLen) (hlen : L.length ≤ 1000) :
    Calls Tryz.prog 76 #[.slice a len cap, .string n] w (RemNew w (remA L n.toList) (hasA L n.toList)) := by
  have H := Lib.hid h
  have HL := Lib.hid h.hlen
  have hl40 : len ≤ 1000 := by rw [← h.hlen]; exact hlen
  have C1 := Lib.hid (find_any a len cap L n w h hn)
  have CC : Hid (∀ W, Below w.heap.size w W → Calls Tryz.prog 134 #[.slice a len cap] W fun e w' => ∃ v, e = .returned v ∧ w'.ownsRow w.heap.size 160 2 v len (L.flatMap encA) ∧ Below w.heap.size w w') := Lib.hid (fun W hb => clone_own a len cap L w W h (by omega) hb)
  by_cases hg : (rightA L && rightL n.toList) = true
  rotate_left
  · have hg : (rightA L && rightL n.toList) = false := by simpa using hg
    have HR : hasA L n.toList = false := by unfold hasA; rw [hg]; rfl
    have HM := Lib.hid (remA_no HR)
    have EE : Hid (¬ findE L n.toList = 0) := Lib.hid (by
      unfold findE
      revert hg
      cases rightA L <;> cases rightL n.toList <;> simp)
    rw [HR]
    obtain ⟨z, hz⟩ : ∃ z, findE L n.toList = z := ⟨_, rfl⟩
    have C2 := C1.out
    rw [hz] at C2
    have C3 := Lib.hid C2
    have z0 : ¬ z = 0 := by rw [← hz]; exact EE.out
    have z1 : (z == 0) = false := beq_eq_false_iff_ne.2 z0
    have z2 : (z != 0) = true := by unfold bne; rw [z1]; rfl
    clear h hn hg hlen C1 C2 z0 hz HR
    go_enter Tryz.func76, Tryz.ntmps76
    go_wp2_with (first
      | (go_at_call 132; refine C3.out.mono ?_; rintro e w' ⟨rfl, HB⟩)
      | (go_at_call 134; refine (CC.out _ HB).mono ?_; rintro e w' ⟨v2, rfl, hown, HB2⟩; have HO := Lib.hid hown; clear hown))
    go_ret2
    rw [HM.out]
    exact RemNew.mk rfl HL.out HO.out H.out.small HB2
  obtain ⟨hr, hnr⟩ : rightA L = true ∧ rightL n.toList = true := by simpa using hg
  obtain ⟨F1, F2, F3⟩ := find_ok hr hnr
  have C2 := C1.out
  rw [F1, F2, F3] at C2
  by_cases hp : placeA L n.toList < L.length
  · have HR : hasA L n.toList = true := by unfold hasA; rw [hr, hnr, decide_eq_true hp]; rfl
    have HM := Lib.hid (rem_erase HR)
    rw [HR]
    have hat := atL_place hp
    have hp' : placeA L n.toList < len := by rw [← h.hlen]; exact hp
    rw [hat] at C2
    have HLP : Hid ((L.eraseIdx (placeA L n.toList)).length = len - 1) := Lib.hid (by rw [List.length_eraseIdx, h.hlen, if_pos hp'])
    obtain ⟨p, hpp⟩ : ∃ p, placeA L n.toList = p := ⟨_, rfl⟩
    rw [hpp] at C2 hp' HM HLP
    have C3 := Lib.hid C2
    have z1 : ((p : Int) == -1) = false := beq_eq_false_iff_ne.2 (by omega)
    clear h hn hg hlen C1 C2 hr hnr F1 F2 F3 hp HR hat hpp
    go_enter Tryz.func76, Tryz.ntmps76
    go_wp2_with (first
      | (go_at_call 132; refine C3.out.mono ?_; rintro e w' ⟨rfl, HB⟩)
      | (go_at_call 134; refine (CC.out _ HB).mono ?_; rintro e w1 ⟨v2, rfl, hown, HB2⟩
         obtain ⟨g, cap1, rfl, hgb, hglt⟩ := World.ownsRow.form hown (by omega)
         have CD := Lib.hid (delete_any w1 w.heap.size g len cap1 L p hown HL.out H.out.small hp' hl40)
         clear hown)
      | (go_at_call 137; refine CD.out.mono ?_; rintro e w2 ⟨rfl, hrow, HB3⟩; have HROW := Lib.hid hrow; clear hrow))
    go_ret2
    rw [HM.out]
    exact ⟨_, _, _, rfl, HROW.out, HB2.trans HB3, fun b off hb => by injection hb with hb; injection hb with hb; omega⟩
  · have HR : hasA L n.toList = false := by unfold hasA; rw [decide_eq_false hp]; simp
    have HM := Lib.hid (remA_no HR)
    rw [HR]
    have hat := atL_noplace hp
    rw [hat] at C2
    have C3 := Lib.hid C2
    clear h hn hg hlen C1 C2 hr hnr F1 F2 F3 hp HR hat
    go_enter Tryz.func76, Tryz.ntmps76
    go_wp2_with (first
      | (go_at_call 132; refine C3.out.mono ?_; rintro e w' ⟨rfl, HB⟩)
      | (go_at_call 134; refine (CC.out _ HB).mono ?_; rintro e w' ⟨v2, rfl, hown, HB2⟩; have HO := Lib.hid hown; clear hown))
    go_ret2
    rw [HM.out]
    exact RemNew.mk rfl HL.out HO.out H.out.small HB2
end Go.Proofs.YtiffhlncnpppoaaGreatDoor
namespace Go.Proofs.YtiffhlncnpppoaaGreatDoor
open Go.RowKit
theorem has_of {L : AL} {n : List UInt8} (hr : rightA L = true) (hn : rightL n = true) : hasA L n = decide (placeA L n < L.length) := by
  unfold hasA
  rw [hr, hn]
  rfl
set_option maxHeartbeats 16000000 in
set_option maxRecDepth 100000 in
theorem attrtog_any (a : Option Addr) (len cap : Nat) (L : AL) (n : ByteArray) (f : Int) (w : World) (h : AttrRow w a len cap L) (hn : n.size ≤ maxLen) (hlen : L.length ≤ 1000) :
    Calls Tryz.prog 77 #[.slice a len cap, .string n, .int .i64 f] w (TogNew w (togA L n.toList f) (togB L n.toList f) (togE L n.toList f)) := by
  have H := Lib.hid h
  have HN := Lib.hid hn
  have HLN := Lib.hid hlen
  have HL := Lib.hid h.hlen
  have hl40 : len ≤ 1000 := by rw [← h.hlen]; exact hlen
  have C1 := Lib.hid (find_any a len cap L n w h hn)
  have CC : Hid (∀ W, Below w.heap.size w W → Calls Tryz.prog 134 #[.slice a len cap] W fun e w' => ∃ v, e = .returned v ∧ w'.ownsRow w.heap.size 160 2 v len (L.flatMap encA) ∧ Below w.heap.size w w') := Lib.hid (fun W hb => clone_own a len cap L w W h (by omega) hb)
  by_cases hg : (rightA L && rightL n.toList) = true
  rotate_left
  · have hg : (rightA L && rightL n.toList) = false := by simpa using hg
    have EA : Hid (togA L n.toList f = L) := Lib.hid (by unfold togA; rw [hg]; rfl)
    have EB : Hid (togB L n.toList f = false) := Lib.hid (by unfold togB; rw [hg]; rfl)
    have EE : Hid (findE L n.toList = togE L n.toList f ∧ ¬ togE L n.toList f = 0) := Lib.hid (by
      unfold findE togE
      revert hg
      cases rightA L <;> cases rightL n.toList <;> simp)
    obtain ⟨z, hz⟩ : ∃ z, togE L n.toList f = z := ⟨_, rfl⟩
    have C2 := C1.out
    rw [EE.out.1, hz] at C2
    have C3 := Lib.hid C2
    have z0 : ¬ z = 0 := by rw [← hz]; exact EE.out.2
    have z1 : (z == 0) = false := beq_eq_false_iff_ne.2 z0
    have z2 : (z != 0) = true := by unfold bne; rw [z1]; rfl
    have HZ := Lib.hid hz
    clear h hn hg hlen C1 C2 z0 hz
    go_enter Tryz.func77, Tryz.ntmps77
    go_wp2_with (first
      | (go_at_call 132; refine C3.out.mono ?_; rintro e w' ⟨rfl, HB⟩)
      | (go_at_call 134; refine (CC.out _ HB).mono ?_; rintro e w' ⟨v2, rfl, hown, HB2⟩; have HO := Lib.hid hown; clear hown))
    go_ret3
    rw [EA.out, EB.out, HZ.out]
    exact TogNew.mk rfl HL.out HO.out H.out.small HB2
  obtain ⟨hr, hnr⟩ : rightA L = true ∧ rightL n.toList = true := by simpa using hg
  obtain ⟨F1, F2, F3⟩ := find_ok hr hnr
  have C2 := C1.out
  rw [F1, F2, F3] at C2
  by_cases hp : placeA L n.toList < L.length
  · have HR : hasA L n.toList = true := by rw [has_of hr hnr, decide_eq_true hp]
    have hat := atL_place hp
    have hp' : placeA L n.toList < len := by rw [← h.hlen]; exact hp
    rw [hat] at C2
    obtain ⟨p, hpp⟩ : ∃ p, placeA L n.toList = p := ⟨_, rfl⟩
    rw [hpp] at C2 hp'
    have C3 := Lib.hid C2
    have z1 : ((p : Int) == -1) = false := beq_eq_false_iff_ne.2 (by omega)
    have z2 : ((p : Int) != -1) = true := by unfold bne; rw [z1]; rfl
    by_cases hf : 0 < f
    · have EA : Hid (togA L n.toList f = L) := Lib.hid (by unfold togA; rw [hr, hnr, HR, if_pos hf]; rfl)
      have EB : Hid (togB L n.toList f = true) := Lib.hid (by unfold togB; rw [hr, hnr, HR, decide_eq_true hf]; rfl)
      have EE : Hid (togE L n.toList f = 0) := Lib.hid (by unfold togE; rw [hr, hnr, HR]; rfl)
      have y1 : decide (f ≤ 0) = false := decide_eq_false (by omega)
      clear h hn hg hlen C1 C2 hr hnr F1 F2 F3 hp HR hat hpp hf
      go_enter Tryz.func77, Tryz.ntmps77
      go_wp2_with (first
        | (go_at_call 132; refine C3.out.mono ?_; rintro e w' ⟨rfl, HB⟩)
        | (go_at_call 134; refine (CC.out _ HB).mono ?_; rintro e w' ⟨v2, rfl, hown, HB2⟩; have HO := Lib.hid hown; clear hown))
      go_ret3
      rw [EA.out, EB.out, EE.out]
      exact TogNew.mk rfl HL.out HO.out H.out.small HB2
    · have EA : Hid (togA L n.toList f = remA L n.toList) := Lib.hid (by unfold togA; rw [hr, hnr, HR, if_neg hf]; rfl)
      have EB : Hid (togB L n.toList f = false) := Lib.hid (by unfold togB; rw [hr, hnr, HR, decide_eq_false hf]; rfl)
      have EE : Hid (togE L n.toList f = 0) := Lib.hid (by unfold togE; rw [hr, hnr, HR]; rfl)
      have y1 : decide (f ≤ 0) = true := decide_eq_true (by omega)
      clear h hn hg hlen C1 C2 hr hnr F1 F2 F3 hp HR hat hpp hf
      go_enter Tryz.func77, Tryz.ntmps77
      go_wp2_with (first
        | (go_at_call 132; refine C3.out.mono ?_; rintro e w' ⟨rfl, HB⟩)
        | (go_at_call 76; refine (attrrem_any a len cap L n _ (H.out.below HB) HN.out HLN.out).mono ?_; rintro e w' ⟨a2, len2, cap2, rfl, hrow, hb, hnew⟩; have HROW := Lib.hid hrow; have HNEW := Lib.hid hnew; have HB2 := Lib.hid hb; clear hrow hnew hb))
      go_ret3
      rw [EA.out, EB.out, EE.out]
      exact ⟨_, _, _, rfl, HROW.out, HB.trans (HB2.out.mono HB.size), fun b off he => Nat.le_trans HB.size (HNEW.out b off he)⟩
  · have HR : hasA L n.toList = false := by rw [has_of hr hnr, decide_eq_false hp]
    have hat := atL_noplace hp
    rw [hat] at C2
    have C3 := Lib.hid C2
    by_cases hf : f < 0
    · have EA : Hid (togA L n.toList f = L) := Lib.hid (by unfold togA; rw [hr, hnr, HR, if_pos hf]; rfl)
      have EB : Hid (togB L n.toList f = false) := Lib.hid (by unfold togB; rw [hr, hnr, HR, if_pos hf]; rfl)
      have EE : Hid (togE L n.toList f = 0) := Lib.hid (by unfold togE; rw [hr, hnr, HR, if_pos hf]; rfl)
      have y1 : decide (0 ≤ f) = false := decide_eq_false (by omega)
      clear h hn hg hlen C1 C2 hr hnr F1 F2 F3 hp HR hat hf
      go_enter Tryz.func77, Tryz.ntmps77
      go_wp2_with (first
        | (go_at_call 132; refine C3.out.mono ?_; rintro e w' ⟨rfl, HB⟩)
        | (go_at_call 134; refine (CC.out _ HB).mono ?_; rintro e w' ⟨v2, rfl, hown, HB2⟩; have HO := Lib.hid hown; clear hown))
      go_ret3
      rw [EA.out, EB.out, EE.out]
      exact TogNew.mk rfl HL.out HO.out H.out.small HB2
    · have EA : Hid (togA L n.toList f = setA L n.toList (ofL [])) := Lib.hid (by unfold togA; rw [hr, hnr, HR, if_neg hf]; rfl)
      have EB : Hid (togB L n.toList f = (setE L n.toList (ofL []) == 0)) := Lib.hid (by unfold togB; rw [hr, hnr, HR, if_neg hf]; rfl)
      have EE : Hid (togE L n.toList f = setE L n.toList (ofL [])) := Lib.hid (by unfold togE; rw [hr, hnr, HR, if_neg hf]; rfl)
      have y1 : decide (0 ≤ f) = true := decide_eq_true (by omega)
      have HZ : Hid (ofL [] = ⟨#[]⟩) := Lib.hid rfl
      obtain ⟨z, hz⟩ : ∃ z, setE L n.toList (ofL []) = z := ⟨_, rfl⟩
      have C4 : Hid (∀ W, AttrRow W a len cap L → Calls Tryz.prog 73 #[.slice a len cap, .string n, .string ⟨#[]⟩] W (SetNew W (setA L n.toList (ofL [])) z)) := Lib.hid (fun W hW => by
        have := attrset_any a len cap L n ⟨#[]⟩ W hW HN.out (by decide) HLN.out
        rw [← HZ.out, hz] at this
        exact this)
      have HZ2 := Lib.hid hz
      clear h hn hg hlen C1 C2 hr hnr F1 F2 F3 hp HR hat hf hz
      go_enter Tryz.func77, Tryz.ntmps77
      go_wp2_with (first
        | (go_at_call 132; refine C3.out.mono ?_; rintro e w' ⟨rfl, HB⟩)
        | (go_at_call 73; refine (C4.out _ (H.out.below HB)).mono ?_; rintro e w' ⟨a2, len2, cap2, rfl, hrow, hb, hnew⟩; have HROW := Lib.hid hrow; have HNEW := Lib.hid hnew; have HB2 := Lib.hid hb; clear hrow hnew hb))
      go_ret3
      rw [EA.out, EB.out, EE.out, HZ2.out]
      exact ⟨_, _, _, rfl, HROW.out, HB.trans (HB2.out.mono HB.size), fun b off he => Nat.le_trans HB.size (HNEW.out b off he)⟩
end Go.Proofs.YtiffhlncnpppoaaGreatDoor
