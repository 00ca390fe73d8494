/- Texts joined in build order: MovePut. -/
import Derived.Test.YtkgbgnmmgmnnlaaGreatDoorE36
import Derived.Test.YtkgbgnmmgmnnlaaGreatDoorE27
import Derived.Test.YtkgbgnmmgmnnlaaGreatDoorE23
import Derived.Test.YtkgbgnmmgmnnlaaGreatDoorE05
namespace Go.Proofs.YtkgbgnmmgmnnlaaGreatDoor
open Go.RowKit
abbrev wkB (b : Nat) : Obj := .cells #[.pointer (some ⟨b, 0, none⟩)] 69
abbrev wkZ : Obj := .cells #[.pointer none] 69
theorem cell_box {W : World} {v : Value} {t : TypeId} : (W.alloc (.cells #[v] t)).cell? ⟨W.heap.size, 0, none⟩ = some v := by
  have := cell_of_row (W.alloc (.cells #[v] t)) W.heap.size 0 #[v] t (0, 0) (heap_alloc_new W _)
  rw [this]
  rfl
section
variable {m : Int}
theorem outS_len {S : St} (h : rightF m S.1 = true) {n : Nat} (hn : n < S.1.length) : (outS S n).2.length ≤ S.2.length + 400 := by
  unfold outS
  split
  · omega
  · have := tellN_len h hn (note 2)
    show (if connF S.1 n then S.2 ++ tellN S.1 n (note 2) else S.2).length ≤ _
    split
    · rw [List.length_append]; omega
    · omega
theorem overS_len {S : St} (h : rightF m S.1 = true) {n : Nat} (hn : n < S.1.length) (d : Int) : (overS S n d).2.length ≤ S.2.length + 800 := by
  have h1 := outS_len h hn
  obtain ⟨hr, ⟨P, K, hed⟩, _⟩ := outS_facts h hn
  unfold overS
  dsimp only
  split
  · omega
  · rw [List.length_append]
    have := tellN_len hr (n := n) (by rw [hed.len]; exact hn) ⟨3, 0, docK (outS S n).1 n, d, ⟨#[]⟩, false, false, ⟨#[]⟩, ⟨#[]⟩⟩
    omega
theorem parentK_out {F : List Core} {q z : Nat} (hz : z < F.length) (hne : z ≠ q) : parentK (mvOut F q) z = parentK F z := by
  have hc : F[z]? = some F[z] := List.getElem?_eq_getElem hz
  have hed : Edit F (mvOut F q) (fun j c => if j = q then -1 else c.parent) (fun j c => if (j : Int) = parentK F q then c.kids.filter (fun z => z != (q : Int)) else c.kids) (fun _ c => c.doc) := edF_edit _ _ _ _
  rw [parentK_at (hed.at_ z _ hc), parentK_at hc]
  exact if_neg hne
end
section
variable {ρ : Nat → Nat} {pw g cap len : Nat} {m : Int} {M : List NodeD} {v : Value} {N : List NoteD}
theorem chain_turn {ρ ρk ρ' : Nat → Nat} {w wr w' : World} (T : Turn ρ w wr) (A : ∀ k, k < w.heap.size → ρk k = ρ k) (T' : Turn ρk wr w') (A' : ∀ k, k < wr.heap.size → ρ' k = ρk k) : Turn ρ w w' ∧ ∀ k, k < w.heap.size → ρ' k = ρ k :=
  ⟨T.trans A T', fun k hk => (A' k (Nat.lt_of_lt_of_le hk T.size)).trans (A k hk)⟩
set_option maxHeartbeats 16000000 in
set_option maxRecDepth 100000 in
theorem mpart_any (w : World) (h : Wk ρ w pw g cap len m M v N) (hs : smallF M) (q p : Nat) (bz : Int) (r : List Int) (PI : PutInv m (coreL M) p ((q : Int) :: r) bz) (hN : N.length ≤ 80000000) :
    Calls Tryz.prog 97 #[ptrV pw, .int .i64 q, .int .i64 p, .int .i64 bz] w (WkPost ρ w pw g cap len m fun M' N' => (coreL M', N') = inS p bz (coreL M, N) q ∧ smallF M') := by
  have hmem : (q : Int) ∈ (q : Int) :: r := List.mem_cons_self
  have HL : (coreL M).length = len := by rw [coreL_len, h.hlen]
  obtain ⟨q', hqq, hql0, hkq⟩ := PI.ls _ hmem
  obtain rfl : q = q' := by omega
  have hql : q < len := by rw [← HL]; exact hql0
  have hpl : p < len := by rw [← HL]; exact PI.lt
  have hl1k : len ≤ 1000 := by rw [← h.hlen]; exact hs.1
  obtain ⟨y, hy⟩ : ∃ y, M[p]? = some y := ⟨_, List.getElem?_eq_getElem (by rw [h.hlen]; exact hpl)⟩
  have hdy : docK (coreL M) p = y.core.doc := docK_at (coreL_get hy)
  have hdoc := doc_is PI.right PI.lt
  rw [hdy] at hdoc
  have OV := Lib.hid (PI.overs (S := (coreL M, N)) hmem hdoc)
  have hqp : q ≠ p := fun e => PI.over q hmem (by rw [e]; exact holds_refl p)
  have CO := Lib.hid (mover_any w h PI.right hs q hql hkq y.core.doc (h.fld y (List.mem_of_getElem? hy)).doc hdoc (by omega))
  have PK2 : Hid (rightF m (inS p bz (coreL M, N) q).1 = true) := Lib.hid (PutInv.ins (S := (coreL M, N)) PI).right
  have LK2 : Hid ((overS (coreL M, N) q y.core.doc).2.length ≤ N.length + 800) := Lib.hid (overS_len (S := (coreL M, N)) PI.right hql0 _)
  have HIN : Hid (inS p bz (coreL M, N) q = (mvIn (overS (coreL M, N) q y.core.doc).1 q p bz, if connF (mvIn (overS (coreL M, N) q y.core.doc).1 q p bz) q then (overS (coreL M, N) q y.core.doc).2 ++ tellN (mvIn (overS (coreL M, N) q y.core.doc).1 q p bz) q (note 1) else (overS (coreL M, N) q y.core.doc).2)) := Lib.hid (by
    unfold inS
    simp only [hdy])
  have p0 := h.c0
  have y9 := (h.at_ hy).c9
  have hl64 : (len : Int) ≤ 9223372036854775807 := by omega
  have HN := Lib.hid hN
  clear PI hy hdy hdoc hqq hkq hmem h hs hN hql0 HL
  go_enter Tryz.func97, Tryz.ntmps97
  go_upto_if 27 with (first
    | (go_at_call 119; (with_reducible refine CO.out.mono ?_); rintro e w3 ⟨rfl, ρ3, M3, v3, N3, W3, T3, A3, E3, S3, R3⟩; have W3 := Lib.hid W3; have T3 := Lib.hid T3; have A3 := Lib.hid A3; have E3 := Lib.hid E3; have S3 := Lib.hid S3)
    | (go_at_call 120; (refine (mstand_any w3 W3.out S3.out q p hql hpl hqp bz (by have h1 := OV.out.inv.before; rw [← E3.out] at h1; exact h1.imp id And.left)).mono ?_); rintro e w4 ⟨rfl, ρ4, M4, v4, N4, W4, T4, A4, E4, rfl⟩; have W4 := Lib.hid W4; have T4 := Lib.hid T4; have A4 := Lib.hid A4; have HM4 : Hid (coreL M4 = mvIn (overS (coreL M, N) q y.core.doc).1 q p bz) := (Lib.hid (by rw [E4, ← E3.out])); have R4 : Hid (rightF m (coreL M4) = true) := (Lib.hid (by have h1 := PK2.out; rw [HIN.out] at h1; rw [HM4.out]; exact h1)); have S4 : Hid (smallF M4) := (Lib.hid (small_edit S3.out (by rw [E4]; exact edF_edit _ _ _ _) R4.out)); clear E4)
    | (go_at_call 87; (refine (mconn_any w4 W4.out R4.out q hql).mono ?_); rintro e w5 ⟨rfl, hb5⟩; have W5 := Lib.hid (W4.out.keep hb5); have HB5 := Lib.hid hb5; clear hb5))
  have HN4 : Hid (N4 = (overS (coreL M, N) q y.core.doc).2) := Lib.hid (congrArg Prod.snd E3.out)
  have hN4 : N4.length ≤ 80000800 := by have := LK2.out; rw [← HN4.out] at this; have := HN.out; omega
  obtain ⟨T6, A6⟩ := chain_turn T3.out A3.out T4.out A4.out
  have T7 := T6.keep HB5.out
  have T7 := Lib.hid T7
  have A6 := Lib.hid A6
  obtain ⟨cb, hcb⟩ : ∃ cb, connF (coreL M4) q = cb := ⟨_, rfl⟩
  rw [hcb]
  have HCB := Lib.hid hcb
  have HRES : Hid (inS p bz (coreL M, N) q = (coreL M4, if cb then N4 ++ tellN (coreL M4) q (note 1) else N4)) := Lib.hid (by
    rw [HIN.out, ← HM4.out, ← HN4.out, HCB.out])
  clear hcb T6
  cases cb with
  | false =>
    go_wp2
    refine bodyPost_ret (v := .tuple #[]) (by simp [results, Tryz.results97]) rfl ⟨rfl, ρ4, M4, v4, N4, W5.out, T7.out, A6.out, by rw [HRES.out]; rfl, S4.out⟩
  | true =>
    have CT := Lib.hid (mtell_any w5 W5.out R4.out S4.out q hql (note 1) (noteOk_note 1 ⟨by decide, by decide⟩) (by omega))
    go_wp2_with (go_at_call 89; (with_reducible refine CT.out.mono ?_); rintro e w9 ⟨rfl, ρ9, M9, v9, N9, W9, T9, A9, rfl, rfl⟩)
    obtain ⟨T10, A10⟩ := chain_turn T7.out A6.out T9 A9
    refine bodyPost_ret (v := .tuple #[]) (by simp [results, Tryz.results97]) rfl ⟨rfl, ρ9, M9, v9, _, W9, T10, A10, by rw [HRES.out]; rfl, S4.out⟩
theorem inS_len {S : St} {p q : Nat} {r : List Int} {b : Int} (h : PutInv m S.1 p ((q : Int) :: r) b) : (inS p b S q).2.length ≤ S.2.length + 1200 := by
  obtain ⟨q', e, hq, hk⟩ := h.ls _ List.mem_cons_self
  obtain rfl : q = q' := by omega
  have h1 := overS_len (S := S) h.right hq (docK S.1 p)
  have hG := h.ins.right
  have hl : (overS S q (docK S.1 p)).1.length = S.1.length := (h.overs List.mem_cons_self (doc_is h.right h.lt)).len
  unfold inS at hG ⊢
  dsimp only at hG ⊢
  split
  · rw [List.length_append]
    have := tellN_len hG (n := q) (by show q < (mvIn (overS S q (docK S.1 p)).1 q p b).length; rw [show (mvIn (overS S q (docK S.1 p)).1 q p b).length = (overS S q (docK S.1 p)).1.length from (edF_edit _ _ _ _).len, hl]; exact hq) (note 1)
    omega
  · omega
set_option maxHeartbeats 16000000 in
set_option maxRecDepth 100000 in
theorem mput_any (w : World) (h : Wk ρ w pw g cap len m M v N) (hm : In64 m) (hs : smallF M) (n p : Nat) (c : Int) (hc64 : In64 c) (hn : n < len) (hpl : p < len) (hmay : mayZ m (coreL M) n p c = 0) (hN : N.length ≤ 70000000) :
    Calls Tryz.prog 61 #[workV pw, .int .i64 n, .int .i64 p, .int .i64 c] w (WkPost ρ w pw g cap len m fun M' N' => (coreL M', N') = putS (coreL M, N) n p (beforeZ m (coreL M) n p c) ∧ smallF M' ∧ rightF m (coreL M') = true) := by
  have HL : Hid ((coreL M).length = len) := Lib.hid (by rw [coreL_len, h.hlen])
  have hl1k : len ≤ 1000 := by rw [← h.hlen]; exact hs.1
  obtain ⟨cp, hcp⟩ : ∃ cp, (coreL M)[p]? = some cp := ⟨_, List.getElem?_eq_getElem (by rw [HL.out]; exact hpl)⟩
  have PO := PutOk.of hmay hcp
  have hr := PO.right
  have PI := PO.inv
  obtain ⟨x, hx⟩ : ∃ x, M[n]? = some x := ⟨_, List.getElem?_eq_getElem (by rw [h.hlen]; exact hn)⟩
  obtain ⟨l, hl⟩ : ∃ l, partsZ (coreL M) n = l := ⟨_, rfl⟩
  obtain ⟨bz, hbz⟩ : ∃ bz, beforeZ m (coreL M) n p c = bz := ⟨_, rfl⟩
  rw [hbz, hl] at PI
  have CB : Hid (∀ W, NodeRow W (some ⟨g, 0, none⟩) len cap M → Calls Tryz.prog 95 #[forV (some ⟨g, 0, none⟩) len cap m, .int .i64 n, .int .i64 p, .int .i64 c] W fun e w' => e = .returned (.int .i64 bz) ∧ Below W.heap.size W w') := Lib.hid (fun W h1 => by
    rw [← hbz]
    exact vbefore_any _ len cap m M n p c W h1 hm (in64_nat (by omega)) (in64_nat (by omega)) hc64 hs)
  have CP : Hid (∀ W, NodeRow W (some ⟨g, 0, none⟩) len cap M → Calls Tryz.prog 96 #[forV (some ⟨g, 0, none⟩) len cap m, .int .i64 n] W (OrdNew W l)) := Lib.hid (fun W h1 => by
    rw [← hl]
    exact vpartsNew_any _ len cap m M n W h1 (in64_nat (by omega)) hs)
  have HX0 : Hid (kindK (coreL M) n = x.core.kind) := Lib.hid (kindK_at (coreL_get hx))
  have HPUT : Hid (putS (coreL M, N) n p bz = (l.map Int.toNat).foldl (inS p bz) (if x.core.kind = 3 then (l.map Int.toNat).foldl outS (coreL M, N) else (coreL M, N))) := Lib.hid (by
    unfold putS
    simp only [hl, HX0.out])
  have HLP : Hid (x.core.kind = 3 → ∀ z ∈ l, parentK (coreL M) z = n) := Lib.hid (fun e z hz => by
    rw [← hl, parts_at (coreL_get hx), if_pos e] at hz
    obtain ⟨c1, h1, _, h3, _⟩ := (right_node hr (coreL_get hx)).kids z hz
    unfold parentK
    rw [h1]
    exact h3)
  have PIV := Lib.hid PI
  have HS := Lib.hid hs
  have HW := Lib.hid h
  have HX := Lib.hid hx
  have HN := Lib.hid hN
  have hl64 : (len : Int) ≤ 9223372036854775807 := by omega
  obtain ⟨w0, hw0, W0, HBX, HBZ⟩ : ∃ w0, w.alloc (wkB pw) = w0 ∧ Hid (Wk ρ w0 pw g cap len m M v N) ∧ Hid (Below w.heap.size w w0) ∧ Hid (w0.cell? ⟨w.heap.size, 0, none⟩ = some (ptrV pw) ∧ w.heap.size < w0.heap.size) := ⟨_, rfl, Lib.hid (h.keep (below_box _ _)), Lib.hid (below_box _ _), Lib.hid ⟨cell_box, by simp⟩⟩
  have HW0 := Lib.hid hw0
  have HRB : Hid (ρ w.heap.size = 0) := Lib.hid (h.fresh _ (Nat.le_refl _))
  have p0 := W0.out.c0
  have p1 := W0.out.c1
  have zw := HBZ.out.1
  rw [hbz]
  have HLL : Hid (l.length ≤ 1000) := Lib.hid (by
    rw [← hl, parts_at (coreL_get hx)]
    split
    · exact Nat.le_trans (right_kids hr (coreL_get hx)) (by decide)
    · simp)
  clear PO PI hr hcp hbz hl h hs hx hmay hm hc64 hw0
  go_enter Tryz.func61, Tryz.ntmps61
  go_upto_region 1 with fail
  rw [HW0.out]
  go_cut [8, 9] (fun q r wx => ∃ (pa : Option Addr) (pl pc : Nat), q = .int .i64 bz ∧ r = .slice pa pl pc ∧ Hid (Below w0.heap.size w0 wx) ∧ Hid (IntRow wx pa pl pc l) ∧ Hid (∀ b off, pa = some ⟨b, off, none⟩ → w0.heap.size ≤ b))
  case first =>
    have KEEP : Hid (∀ W, Below w0.heap.size w0 W → NodeRow W (some ⟨g, 0, none⟩) len cap M ∧ W.cell? ⟨pw, 0, none⟩ = some (.slice (some ⟨g, 0, none⟩) len cap) ∧ W.cell? ⟨pw, 1, none⟩ = some (.int .i64 m) ∧ W.cell? ⟨w.heap.size, 0, none⟩ = some (ptrV pw)) := Lib.hid (fun W hb => by
      have := W0.out.keep hb
      exact ⟨this.row, this.c0, this.c1, (hb.cell (p := ⟨w.heap.size, 0, none⟩) HBZ.out.2).trans HBZ.out.1⟩)
    have B0 := Lib.hid ((Below.refl w0.heap.size w0).drew)
    go_region_with (first
      | (go_at_call 95; (refine (CB.out _ (KEEP.out _ B0.out).1).mono ?_); rintro e w1 ⟨rfl, hb⟩; have B0 := Lib.hid (B0.out.trans (hb.mono B0.out.size)); have p0 := (KEEP.out _ B0.out).2.1; have p1 := (KEEP.out _ B0.out).2.2.1; have zw := (KEEP.out _ B0.out).2.2.2; (try (have IR := Lib.hid (IR.out.below hb))); clear hb)
      | (go_at_call 96; (refine (CP.out _ (KEEP.out _ B0.out).1).mono ?_); rintro e w1 ⟨pa, pl, pc, rfl, hrl, hb, hrn⟩; have IN0 : Hid (∀ b off, pa = some ⟨b, off, none⟩ → w0.heap.size ≤ b) := Lib.hid (fun b off e => Nat.le_trans B0.out.size (hrn b off e)); have B0 := Lib.hid (B0.out.trans (hb.mono B0.out.size)); have p0 := (KEEP.out _ B0.out).2.1; have p1 := (KEEP.out _ B0.out).2.2.1; have zw := (KEEP.out _ B0.out).2.2.2; have IR := Lib.hid hrl; clear hb hrl hrn))
    all_goals go_wp2
    all_goals
      go_meet
      exact ⟨_, _, _, rfl, rfl, B0, IR, IN0⟩
  case rest =>
    obtain ⟨pa, pl, pc, rfl, rfl, HB1, IR, INW⟩ := hcut
    obtain ⟨wd, rfl⟩ : ∃ wd, wd = wc := ⟨_, rfl⟩
    have W1 := Lib.hid (W0.out.keep HB1.out)
    have IR0 : Hid (∀ b off, pa = some ⟨b, off, none⟩ → 0 < pl → ρ b = 0) := Lib.hid (fun b off e _ => W0.out.fresh b (INW.out b off e))
    have hwd : w.heap.size < wd.heap.size := Nat.lt_of_lt_of_le HBZ.out.2 HB1.out.size
    have ZWD : Hid (wd.cell? ⟨w.heap.size, 0, none⟩ = some (ptrV pw)) := Lib.hid ((HB1.out.cell (p := ⟨w.heap.size, 0, none⟩) HBZ.out.2).trans HBZ.out.1)
    have zw := ZWD.out
    have hpll : l.length = pl := IR.out.hlen
    have HPLL := Lib.hid hpll
    have hpl1k : pl ≤ 1000 := by rw [← hpll]; exact HLL.out
    clear p0 p1 hpll CB CP
    have p0 := W1.out.c0
    have x0 := (W1.out.at_ HX.out).c0
    have HQ : Hid (∀ (k : Nat) (z : Int), l[k]? = some z → ∃ q : Nat, z = q ∧ q < len) := Lib.hid (fun k z hz => by
      obtain ⟨q, h1, h2, _⟩ := PIV.out.ls z (List.mem_of_getElem? hz)
      exact ⟨q, h1, by rw [← HL.out]; exact h2⟩)
    go_upto_if 40 with fail
    go_cut [] (fun wx => True ∧ ∃ ρ1 M1 v1 N1, Hid (Wk ρ1 wx pw g cap len m M1 v1 N1) ∧ Hid (Turn ρ wd wx) ∧ Hid (∀ k, k < wd.heap.size → ρ1 k = ρ k) ∧ Hid ((coreL M1, N1) = if x.core.kind = 3 then (l.map Int.toNat).foldl outS (coreL M, N) else (coreL M, N)) ∧ Hid (smallF M1) ∧ Hid (PutInv m (coreL M1) p l bz) ∧ Hid (N1.length ≤ 72000000))
    case first =>
      by_cases hk3 : x.core.kind = 3
      · have e1 : (x.core.kind == 3) = true := beq_iff_eq.2 hk3
        have HP0 : Hid (∀ z ∈ l, parentK (coreL M) z ≠ -1) := Lib.hid (fun z hz => by rw [HLP.out hk3 z hz]; omega)
        have HK3 := Lib.hid hk3
        clear hk3
        rw [e1]
        go_wp2
        go_loopw [43] (fun i wr => ∃ (k : Nat) (ρk : Nat → Nat) (Mk : List NodeD) (vk : Value) (Nk : List NoteD), k ≤ pl ∧ i = .int .i64 k ∧ Hid (Wk ρk wr pw g cap len m Mk vk Nk) ∧ Hid (Turn ρ wd wr) ∧ Hid (∀ k, k < wd.heap.size → ρk k = ρ k) ∧ Hid ((coreL Mk, Nk) = ((l.take k).map Int.toNat).foldl outS (coreL M, N)) ∧ Hid (smallF Mk) ∧ Hid (PutInv m (coreL Mk) p l bz) ∧ Hid (∀ z ∈ l.drop k, parentK (coreL Mk) z ≠ -1) ∧ Nk.length ≤ N.length + 400 * k) (fun i _ => pl - (intOf i).toNat)
        case atStart => exact ⟨0, ρ, M, v, N, Nat.zero_le _, rfl, W1, Lib.hid (Turn.refl _ _), Lib.hid (fun _ _ => rfl), Lib.hid rfl, HS, PIV, Lib.hid HP0.out, Nat.le_refl _⟩
        case round =>
          clear p0 x0 zw
          obtain ⟨k, ρk, Mk, vk, Nk, hk, rfl, WK, TK, AK, EK, SK, PK, QK, hNk⟩ := hrel
          have zw := (TK.out.cell hwd HRB.out).trans ZWD.out
          by_cases hlt : k < pl
          · obtain ⟨bp, op, z, hpa, hbp, hz, hcz, hin⟩ := (TK.out.introw IR.out IR0.out).get hlt
            obtain ⟨q, rfl, hql⟩ := HQ.out k z hz
            have hmem := List.mem_of_getElem? hz
            have hdrop : (q : Int) ∈ l.drop k := by
              refine List.mem_of_getElem? (i := 0) ?_
              rw [List.getElem?_drop, Nat.add_zero]
              exact hz
            have CO := Lib.hid (mgoOut_any wr WK.out PK.out.right SK.out q hql (QK.out _ hdrop) (by have := HN.out; omega))
            have EK2 : Hid (((l.take (k + 1)).map Int.toNat).foldl outS (coreL M, N) = outS (coreL Mk, Nk) q) := Lib.hid (by
              rw [List.take_add_one, hz, List.map_append, List.foldl_append, ← EK.out]
              rfl)
            have PK2 : Hid (PutInv m (outS (coreL Mk, Nk) q).1 p l bz) := Lib.hid (PK.out.outs (S := (coreL Mk, Nk)) hmem)
            have HLK : Hid ((coreL Mk).length = len) := Lib.hid (by rw [coreL_len, WK.out.hlen])
            have LK2 : Hid ((outS (coreL Mk, Nk) q).2.length ≤ Nk.length + 400) := Lib.hid (outS_len (S := (coreL Mk, Nk)) PK.out.right (show q < (coreL Mk).length by rw [HLK.out]; exact hql))
            have QK2 : Hid (∀ z ∈ l.drop (k + 1), parentK (outS (coreL Mk, Nk) q).1 z ≠ -1) := Lib.hid (fun z hz2 => by
              obtain ⟨i, hi⟩ := List.getElem?_of_mem hz2
              rw [List.getElem?_drop] at hi
              obtain ⟨t, rfl, htl⟩ := HQ.out _ z hi
              have hne : t ≠ q := fun e => by
                subst e
                have := (List.getElem?_inj (List.getElem?_eq_some_iff.1 hz).1 PIV.out.once).1 (hz.trans hi.symm)
                omega
              have hd2 : (t : Int) ∈ l.drop k := List.mem_of_getElem? (i := 1 + i) (by rw [List.getElem?_drop, ← Nat.add_assoc]; exact hi)
              have h3 := QK.out _ hd2
              unfold outS
              rw [if_neg (QK.out _ hdrop)]
              show parentK (mvOut (coreL Mk) q) t ≠ -1
              rw [parentK_out (by rw [HLK.out]; exact htl) hne]
              exact h3)
            subst hpa
            have hk64 : (k : Int) + 1 ≤ 9223372036854775807 := by omega
            clear hz hin hmem hdrop
            go_wp2_with (go_at_call 57; (with_reducible refine CO.out.mono ?_); rintro e w9 ⟨rfl, ρ9, M9, v9, N9, W9, T9, A9, E9, S9, R9⟩)
            obtain ⟨TT, AA⟩ := chain_turn TK.out AK.out T9 A9
            have HE9 : Hid (coreL M9 = (outS (coreL Mk, Nk) q).1 ∧ N9 = (outS (coreL Mk, Nk) q).2) := Lib.hid ⟨congrArg Prod.fst E9, congrArg Prod.snd E9⟩
            have hN9 : N9.length ≤ N.length + 400 * (k + 1) := by have := LK2.out; rw [← HE9.out.2] at this; omega
            have E9 := Lib.hid E9
            have W9 := Lib.hid W9
            have TT := Lib.hid TT
            have AA := Lib.hid AA
            have S9 := Lib.hid S9
            clear T9 A9 R9
            go_roundw
            case rel =>
              exact ⟨k + 1, ρ9, M9, v9, N9, by omega, by go_num, W9, TT, AA, Lib.hid (by rw [EK2.out]; exact E9.out), S9, Lib.hid (by rw [HE9.out.1]; exact PK2.out), Lib.hid (by rw [HE9.out.1]; exact QK2.out), hN9⟩
            case measure => simp [intOf]; omega
          · have hkk : k = pl := by omega
            subst hkk
            have HTA : Hid (l.take k = l) := Lib.hid (List.take_of_length_le (by rw [HPLL.out]; exact Nat.le_refl _))
            go_wp2
            go_meet
            exact ⟨trivial, ρk, Mk, vk, Nk, WK, TK, AK, Lib.hid (by rw [if_pos HK3.out, EK.out, HTA.out]), SK, PK, Lib.hid (by have := HN.out; omega)⟩
      · have e1 : (x.core.kind == 3) = false := beq_eq_false_iff_ne.2 hk3
        have HK3 := Lib.hid hk3
        clear hk3
        go_wp2
        go_meet
        exact ⟨trivial, ρ, M, v, N, W1, Lib.hid (Turn.refl _ _), Lib.hid (fun _ _ => rfl), Lib.hid (by rw [if_neg HK3.out]), HS, PIV, Lib.hid (by have := HN.out; omega)⟩
    case rest =>
      obtain ⟨-, ρ1, M1, v1, N1, W2, T2, A2, E2, S2, PI2, HN2⟩ := hcut
      rw [← E2.out] at HPUT
      have IR1 : Hid (∀ b off, pa = some ⟨b, off, none⟩ → 0 < pl → ρ1 b = 0) := Lib.hid (fun b off e hp => by
        rw [A2.out b (by
          rcases IR.out.row.cells with e0 | ⟨b2, off2, ha2, hlt, _⟩
          · omega
          · rw [e] at ha2
            injection ha2 with ha2
            injection ha2 with e1
            omega)]
        exact IR0.out b off e hp)
      clear E2 HLP HX0 p0 x0 zw
      go_wp2
      go_loopw [54] (fun i wr => ∃ (k : Nat) (ρk : Nat → Nat) (Mk : List NodeD) (vk : Value) (Nk : List NoteD), k ≤ pl ∧ i = .int .i64 k ∧ Hid (Wk ρk wr pw g cap len m Mk vk Nk) ∧ Hid (Turn ρ wd wr) ∧ Hid (∀ k, k < wd.heap.size → ρk k = ρ k) ∧ Hid ((coreL Mk, Nk) = ((l.take k).map Int.toNat).foldl (inS p bz) (coreL M1, N1)) ∧ Hid (smallF Mk) ∧ Hid (PutInv m (coreL Mk) p (l.drop k) bz) ∧ Nk.length ≤ 72000000 + 1200 * k) (fun i _ => pl - (intOf i).toNat)
      case atStart => exact ⟨0, ρ1, M1, v1, N1, Nat.zero_le _, rfl, W2, T2, A2, Lib.hid rfl, S2, PI2, HN2.out⟩
      case round =>
        clear W2 T2 A2 S2 PI2 HN2
        obtain ⟨k, ρk, Mk, vk, Nk, hk, rfl, WK, TK, AK, EK, SK, PK, hNk⟩ := hrel
        have zw := (TK.out.cell hwd HRB.out).trans ZWD.out
        by_cases hlt : k < pl
        · obtain ⟨bp, op, z, hpa, hbp, hz, hcz, hin⟩ := (TK.out.introw IR.out IR0.out).get hlt
          obtain ⟨q, rfl, hql⟩ := HQ.out k z hz
          have hdr : l.drop k = (q : Int) :: l.drop (k + 1) := by
            obtain ⟨h1, h2⟩ := List.getElem?_eq_some_iff.1 hz
            rw [List.drop_eq_getElem_cons h1, h2]
          have PKq : PutInv m (coreL Mk) p ((q : Int) :: l.drop (k + 1)) bz := by rw [← hdr]; exact PK.out
          have CO := Lib.hid (mpart_any wr WK.out SK.out q p bz (l.drop (k + 1)) PKq (by omega))
          have EK2 : Hid (((l.take (k + 1)).map Int.toNat).foldl (inS p bz) (coreL M1, N1) = inS p bz (coreL Mk, Nk) q) := Lib.hid (by
            rw [List.take_add_one, hz, List.map_append, List.foldl_append, ← EK.out]
            rfl)
          have PK2 : Hid (PutInv m (inS p bz (coreL Mk, Nk) q).1 p (l.drop (k + 1)) bz) := Lib.hid (PutInv.ins (S := (coreL Mk, Nk)) PKq)
          have LK2 : Hid ((inS p bz (coreL Mk, Nk) q).2.length ≤ Nk.length + 1200) := Lib.hid (inS_len (S := (coreL Mk, Nk)) PKq)
          subst hpa
          have hk64 : (k : Int) + 1 ≤ 9223372036854775807 := by omega
          clear hz hin hdr PKq
          go_wp2_with (go_at_call 97; (with_reducible refine CO.out.mono ?_); rintro e w9 ⟨rfl, ρ9, M9, v9, N9, W9, T9, A9, E9, S9⟩)
          obtain ⟨TT, AA⟩ := chain_turn TK.out AK.out T9 A9
          have HE9 : Hid (coreL M9 = (inS p bz (coreL Mk, Nk) q).1 ∧ N9 = (inS p bz (coreL Mk, Nk) q).2) := Lib.hid ⟨congrArg Prod.fst E9, congrArg Prod.snd E9⟩
          have hN9 : N9.length ≤ 72000000 + 1200 * (k + 1) := by have := LK2.out; rw [← HE9.out.2] at this; omega
          have E9 := Lib.hid E9
          have W9 := Lib.hid W9
          have TT := Lib.hid TT
          have AA := Lib.hid AA
          have S9 := Lib.hid S9
          clear T9 A9
          go_roundw
          case rel => exact ⟨k + 1, ρ9, M9, v9, N9, by omega, by go_num, W9, TT, AA, Lib.hid (by rw [EK2.out]; exact E9.out), S9, Lib.hid (by rw [HE9.out.1]; exact PK2.out), hN9⟩
          case measure => simp [intOf]; omega
        · have hkk : k = pl := by omega
          subst hkk
          have HTA : Hid (l.take k = l) := Lib.hid (List.take_of_length_le (by rw [HPLL.out]; exact Nat.le_refl _))
          obtain ⟨TT, AA⟩ := chain_turn (Turn.of_below (ρ := ρ) (HBX.out.trans (HB1.out.mono HBX.out.size))) (fun _ _ => rfl) TK.out AK.out
          have TT := Lib.hid TT
          have AA := Lib.hid AA
          go_wp2
          refine bodyPost_ret (v := .tuple #[]) (by simp [results, Tryz.results61]) rfl ⟨rfl, ρk, Mk, vk, Nk, WK.out, TT.out, AA.out, by rw [HPUT.out, EK.out, HTA.out], SK.out, PK.out.right⟩
end
end Go.Proofs.YtkgbgnmmgmnnlaaGreatDoor
