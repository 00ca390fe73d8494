/- The walk of instarlaw09's DeskTells, over what is asked of package desk. -/
import Derived.Test.YtapfhgimeohmgaaDeskTellsPend
import Derived.Test.YtapfhgimeohmgaaExt
import Derived.Deep.CutBlock
namespace Go.Proofs.Ytapfhgimeohmgaa
open Go.RowKit
/-- Three bytes, made a text. -/
theorem three_text (b0 b1 b2 : UInt8) (z0 z1 z2 : Int) (h0 : z0 = (b0.toNat : Int)) (h1 : z1 = (b1.toNat : Int)) (h2 : z2 = (b2.toNat : Int)) (W : World) : (convert 49 9 (.slice (some ⟨W.heap.size, 0, none⟩) 3 3)).run Try.prog (W.alloc (.cells #[.int .u8 z0, .int .u8 z1, .int .u8 z2] 5)) = .ok (.string (ofL [b0, b1, b2])) (W.alloc (.cells #[.int .u8 z0, .int .u8 z1, .int .u8 z2] 5)) := by
  have := run_convert_bytes_back (P := Try.prog) (W.alloc (.cells #[.int .u8 z0, .int .u8 z1, .int .u8 z2] 5)) 49 9 5 ⟨W.heap.size, 0, none⟩ 3 [b0, b1, b2] Try.underlying49 Try.underlying5 Try.underlying9 (fun j hj => by
    rw [Go.WideShapes.add_plain, Nat.zero_add, cell_of_row (W.alloc (.cells #[.int .u8 z0, .int .u8 z1, .int .u8 z2] 5)) W.heap.size j _ 5 (0, 0) (heap_alloc_new W _)]
    have hj3 : j = 0 ∨ j = 1 ∨ j = 2 := by simp at hj; omega
    rcases hj3 with rfl | rfl | rfl
    · rw [h0]; rfl
    · rw [h1]; rfl
    · rw [h2]; rfl)
  exact this
theorem u8_in99 {n : Int} (h1 : 0 ≤ n) (h2 : n ≤ 255) : IntKind.u8.wrap n = n := by rw [IntKind.wrap_u8]; omega
theorem nmK_last {k : Nat} (hk : k < 6) : 97 + (k : Int) = ((97 + UInt8.ofNat k : UInt8).toNat : Int) := by
  have : ∀ k : Fin 6, 97 + (k.val : Int) = ((97 + UInt8.ofNat k.val : UInt8).toNat : Int) := by decide
  exact this ⟨k, hk⟩
def sumT (T : Nat → List Int) : Nat → Nat
  | 0 => 0
  | k + 1 => sumT T k + (T k).length
theorem sumT_six {D : DeskD} {T : Nat → List Int} {df us : Nat → Bool} (h : Tells D T df us) : sumT T 6 = D.waits.length := by
  rw [← sum_told h.all]
  unfold sumT sumT sumT sumT sumT sumT sumT
  rw [h.want 0 (by omega), h.want 1 (by omega), h.want 2 (by omega), h.want 3 (by omega), h.want 4 (by omega), h.want 5 (by omega)]
  omega
/-- How much there is at the head of round i. -/
structure Few (D : DeskD) (i : Nat) : Prop where
  d : D.defs.length ≤ i
  t : D.waits.length ≤ i
  n : D.next ≤ (i : Int)
  n0 : 0 ≤ D.next
theorem own_more {w : World} {base n : Nat} {e : TypeId} {v : Value} {xs : List Value} (h : w.ownsRow base e 1 v (n + 1) xs) : ∃ a c, v = .slice a (n + 1) c := by
  rcases h.2 with ⟨_, h0⟩ | ⟨g, cap, cur, hq, _⟩
  · exact absurd h0 (Nat.succ_ne_zero _)
  · exact ⟨_, _, hq⟩
theorem own_some {w : World} {base n : Nat} {e : TypeId} {v : Value} {xs : List Value} (h : w.ownsRow base e 1 v n xs) : ∃ a c, v = .slice a n c := by
  rcases h.2 with ⟨rfl, rfl⟩ | ⟨g, cap, cur, rfl, _⟩
  · exact ⟨_, _, rfl⟩
  · exact ⟨_, _, rfl⟩
theorem sumT_le {T : Nat → List Int} (h : ∀ j, j < 6 → (T j).length ≤ 60) : ∀ q, q ≤ 6 → sumT T q ≤ 60 * q
  | 0, _ => Nat.le_refl _
  | q + 1, hq => by
    have h1 := sumT_le h q (by omega)
    have h2 := h q (by omega)
    unfold sumT
    omega
theorem int_info9 : (Try.prog.info? 3).map (fun i => (i.zero, i.size, i.bytes)) = some (some (.int .i64 0), 1, 8) := by kernel_rfl
theorem truths_new (W : World) (cs : Array Value) (t : TypeId) (n : Nat) (f : Nat → Bool) (h : ∀ k, k < n → cs[k]? = some (.bool (f k))) : Truths (W.alloc (.cells cs t)) W.heap.size n f :=
  ⟨by simp, fun k hk => (cell_of_row _ W.heap.size k _ t (0, 0) (heap_alloc_new W _)).trans (h k hk), box_free (heap_alloc_new W _) (Below.refl _ _)⟩
theorem want_new (base : Nat) (W : World) (t : TypeId) : Want base (W.alloc (.cells #[.slice none 0 0, .slice none 0 0, .slice none 0 0, .slice none 0 0, .slice none 0 0, .slice none 0 0] t)) W.heap.size (fun _ => []) := by
  have hc : ∀ k, k < 6 → (W.alloc (.cells #[.slice none 0 0, .slice none 0 0, .slice none 0 0, .slice none 0 0, .slice none 0 0, .slice none 0 0] t)).cell? ⟨W.heap.size, k, none⟩ = some (.slice none 0 0) := fun k hk => by
    rw [cell_of_row _ W.heap.size k _ t (0, 0) (heap_alloc_new W _)]
    match k, hk with
    | 0, _ => rfl
    | 1, _ => rfl
    | 2, _ => rfl
    | 3, _ => rfl
    | 4, _ => rfl
    | 5, _ => rfl
  refine ⟨by simp, fun k hk => ⟨_, hc k hk, World.ownsRow_nil _ _ _ _, fun b hb => by cases hb⟩, fun i j v u b hi hj hne hv hu hb => ?_, box_free (heap_alloc_new W _) (Below.refl _ _)⟩
  rw [hc i hi] at hv
  obtain rfl := Option.some.inj hv
  cases hb
theorem tells_start {w V : World} (hb : Below w.heap.size w V) : TellsAt w ((((V.alloc (.cells #[.slice none 0 0, .slice none 0 0, .int .i64 0, .bool false] 25)).alloc (.cells #[.slice none 0 0, .slice none 0 0, .slice none 0 0, .slice none 0 0, .slice none 0 0, .slice none 0 0] 55)).alloc (.cells #[.bool false, .bool false, .bool false, .bool false, .bool false, .bool false] 56)).alloc (.cells #[.bool false, .bool false, .bool false, .bool false, .bool false, .bool false, .bool false, .bool false, .bool false, .bool false, .bool false, .bool false] 57)) V.heap.size none 0 0 none 0 0 ⟨[], [], 0, false⟩ (fun _ => []) (fun _ => false) (fun _ => false) := by
  obtain ⟨V1, hV1, K1, s1⟩ : ∃ V1, V.alloc (.cells #[.slice none 0 0, .slice none 0 0, .int .i64 0, .bool false] 25) = V1 ∧ KBox w V1 V.heap.size none 0 0 none 0 0 ⟨[], [], 0, false⟩ ∧ V1.heap.size = V.heap.size + 1 := ⟨_, rfl, KBox.new (D := ⟨[], [], 0, false⟩) (da := none) (dl := 0) (dc := 0) (wa := none) (wl := 0) (wc := 0) (DefRow.nil _) (WaitRow.nil _) hb, by simp⟩
  rw [hV1]
  obtain ⟨V2, hV2, T2, s2, b2⟩ : ∃ V2, V1.alloc (.cells #[.slice none 0 0, .slice none 0 0, .slice none 0 0, .slice none 0 0, .slice none 0 0, .slice none 0 0] 55) = V2 ∧ Want w.heap.size V2 V1.heap.size (fun _ => []) ∧ V2.heap.size = V1.heap.size + 1 ∧ Below V1.heap.size V1 V2 := ⟨_, rfl, want_new _ _ _, by simp, below_desk _ _⟩
  rw [hV2]
  obtain ⟨V3, hV3, F3, s3, b3⟩ : ∃ V3, V2.alloc (.cells #[.bool false, .bool false, .bool false, .bool false, .bool false, .bool false] 56) = V3 ∧ Truths V3 V2.heap.size 6 (fun _ => false) ∧ V3.heap.size = V2.heap.size + 1 ∧ Below V2.heap.size V2 V3 := ⟨_, rfl, truths_new _ _ _ _ _ (fun k hk => by
    match k, hk with
    | 0, _ => rfl
    | 1, _ => rfl
    | 2, _ => rfl
    | 3, _ => rfl
    | 4, _ => rfl
    | 5, _ => rfl), by simp, below_desk _ _⟩
  rw [hV3]
  obtain ⟨V4, hV4, U4, b4⟩ : ∃ V4, V3.alloc (.cells #[.bool false, .bool false, .bool false, .bool false, .bool false, .bool false, .bool false, .bool false, .bool false, .bool false, .bool false, .bool false] 57) = V4 ∧ Truths V4 V3.heap.size 12 (fun _ => false) ∧ Below V3.heap.size V3 V4 := ⟨_, rfl, truths_new _ _ _ _ _ (fun k hk => by
    match k, hk with
    | 0, _ => rfl
    | 1, _ => rfl
    | 2, _ => rfl
    | 3, _ => rfl
    | 4, _ => rfl
    | 5, _ => rfl
    | 6, _ => rfl
    | 7, _ => rfl
    | 8, _ => rfl
    | 9, _ => rfl
    | 10, _ => rfl
    | 11, _ => rfl), below_desk _ _⟩
  rw [hV4]
  rw [s2, s1] at F3
  rw [s3, s2, s1] at U4
  rw [s1] at T2
  have T4 := (T2.keep b3).keep b4
  have off : ∀ c, Want.Off V4 (V.heap.size + 1) c := fun c k v hk hv e => by
    obtain ⟨u, h1, h2, _⟩ := T4.row k hk
    rw [h1] at hv
    obtain rfl := Option.some.inj hv
    rcases h2.2 with ⟨hu, _⟩ | ⟨g', cap', cur, hu, _, _, _, _, _, _⟩
    · rw [hu] at e; cases e
    · have h9 := hu
      have hn : V4.cell? ⟨V.heap.size + 1, k, none⟩ = some (.slice none 0 0) := by
        have h8 : V2.cell? ⟨V.heap.size + 1, k, none⟩ = some (.slice none 0 0) := by
          rw [← hV2, ← s1, cell_of_row _ V1.heap.size k _ 55 (0, 0) (heap_alloc_new V1 _)]
          match k, hk with
          | 0, _ => rfl
          | 1, _ => rfl
          | 2, _ => rfl
          | 3, _ => rfl
          | 4, _ => rfl
          | 5, _ => rfl
        exact (b4.cell (p := ⟨V.heap.size + 1, k, none⟩) (by show V.heap.size + 1 < _; omega)).trans ((b3.cell (p := ⟨V.heap.size + 1, k, none⟩) (by show V.heap.size + 1 < _; omega)).trans h8)
      rw [h1] at hn
      rw [Option.some.inj hn] at h9
      cases h9
  exact ⟨((K1.keep b2).keep b3).keep b4, T4, F3.keep b4, U4, (fun b off e _ => by cases e), (fun b off e _ => by cases e), off _, off _, off _⟩
set_option maxHeartbeats 2000000 in
set_option maxRecDepth 100000 in
theorem deskTells_walk (F : DeskFns) (a : Option Addr) (len cap : Nat) (L : List DoD) (w : World) (h : DoRow w a len cap L) :
    Calls Try.prog 6 #[.slice a len cap] w fun e w' => e = .returned (.bool true) ∧ Below w.heap.size w w' := by
  have HF := Lib.hid F
  have HD := Lib.hid h
  have hl64 : len ≤ 9223372036854775807 := h.row.len64
  have AW : Hid (∀ V, Calls Try.prog 8 #[] V fun e w' => e = .returned (.bool true) ∧ Below V.heap.size V w') := Lib.hid (fun V => awake9_any F V)
  clear F h
  go_enter Try.func6, Try.ntmps6
  go_upto_region 7 with (go_at_call 8; (with_reducible refine (AW.out _).mono ?_); rintro e w5 ⟨rfl, hb⟩; have B5 := Lib.hid hb; clear hb)
  have TA := Lib.hid (tells_start B5.out)
  obtain ⟨W0, hW0⟩ : ∃ W0, (((w5.alloc (.cells #[.slice none 0 0, .slice none 0 0, .int .i64 0, .bool false] 25)).alloc (.cells #[.slice none 0 0, .slice none 0 0, .slice none 0 0, .slice none 0 0, .slice none 0 0, .slice none 0 0] 55)).alloc (.cells #[.bool false, .bool false, .bool false, .bool false, .bool false, .bool false] 56)).alloc (.cells #[.bool false, .bool false, .bool false, .bool false, .bool false, .bool false, .bool false, .bool false, .bool false, .bool false, .bool false, .bool false] 57) = W0 := ⟨_, rfl⟩
  rw [hW0] at TA ⊢
  obtain ⟨g, hg⟩ : ∃ g, w5.heap.size = g := ⟨_, rfl⟩
  rw [hg] at TA ⊢
  rw [show g + 1 + 1 + 1 = g + 3 from rfl, show g + 1 + 1 = g + 2 from rfl]
  clear hW0 hg B5
  go_wp2
  go_loopw [7, 8] (fun nv iv wr => ∃ (i : Nat) (da : Option Addr) (dl dc : Nat) (wa : Option Addr) (wl wc : Nat) (D : DeskD) (T : Nat → List Int) (df us : Nat → Bool), i ≤ 60 ∧ iv = .int .i64 i ∧ nv = .int .i64 D.next ∧ Hid (TellsAt w wr g da dl dc wa wl wc D T df us) ∧ Hid (Tells D T df us) ∧ Hid (Few D i)) (fun _ iv _ => 60 - (intOf iv).toNat)
  case atStart => exact ⟨0, none, 0, 0, none, 0, 0, ⟨[], [], 0, false⟩, _, _, _, by omega, rfl, rfl, TA, Lib.hid Tells.start, Lib.hid ⟨Nat.le_refl _, Nat.le_refl _, Int.le_refl _, Int.le_refl _⟩⟩
  case round =>
    clear TA
    obtain ⟨i, da, dl, dc, wa, wl, wk, D, T, df, us, hi, rfl, rfl, TA, TM, FW⟩ := hrel
    have hn0 : 0 ≤ D.next := FW.out.n0
    have hn1 : D.next ≤ 60 := by have := FW.out.n; omega
    (have z0 := TA.out.k.bx.c0; have z1 := TA.out.k.bx.c1; have z2 := TA.out.k.bx.c2; have z3 := TA.out.k.bx.c3; have y0 := TA.out.k.bx.f 0; have y1 := TA.out.k.bx.f 1; have y2 := TA.out.k.bx.f 2; have y3 := TA.out.k.bx.f 3)
    by_cases hlt : i < len ∧ i < 60
    · obtain ⟨hlt, hlt2⟩ := hlt
      have HDR := Lib.hid (HD.out.below TA.out.k.below)
      obtain ⟨b, off, ⟨kd, nm, cl⟩, rfl, hb, hx, c0, c1, c2, ⟨⟨p0, q0⟩, ⟨p1, q1⟩, ⟨p2, q2⟩⟩⟩ := HDR.out.get hlt
      dsimp only at c0 c1 c2 p0 q0 p1 q1 p2 q2
      obtain ⟨k, hk⟩ : ∃ k : Nat, nm % 6 = (k : Int) := ⟨(nm % 6).toNat, by omega⟩
      have hk6 : k < 6 := by omega
      have e9 : nm.tmod 6 = (k : Int) := by rw [Int.tmod_eq_emod_of_nonneg p1, hk]
      have HX := Lib.hid hx
      clear hk hx
      have hk9 : IntKind.u8.wrap (k : Int) = (k : Int) := u8_in99 (by omega) (by omega)
      have hk10 : IntKind.u8.wrap (97 + (k : Int)) = 97 + (k : Int) := u8_in99 (by omega) (by omega)
      have hb3 := three_text 120 45 (97 + UInt8.ofNat k) 120 45 (97 + (k : Int)) rfl rfl (nmK_last hk6) wr
      obtain ⟨o, ho⟩ : ∃ o, ofL [120, 45, 97 + UInt8.ofNat k] = o := ⟨_, rfl⟩
      rw [ho] at hb3
      have HO : Hid (o.toList = nmK k) := Lib.hid (by rw [← ho, toList_ofL]; rfl)
      have HS : Hid (o.size ≤ maxLen) := Lib.hid (by rw [← ho, size_ofL]; unfold maxLen; simp)
      clear ho
      go_upto_region 13 with fail
      obtain ⟨W1, hW1, TA⟩ : ∃ W1, wr.alloc (.cells #[.int .u8 120, .int .u8 45, .int .u8 (97 + (k : Int))] 5) = W1 ∧ Hid (TellsAt w W1 g da dl dc wa wl wk D T df us) := ⟨_, rfl, Lib.hid (TA.out.keep (below_desk _ _))⟩
      have HDR := Lib.hid (HDR.out.below (below_desk wr (.cells #[.int .u8 120, .int .u8 45, .int .u8 (97 + (k : Int))] 5)))
      rw [hW1] at HDR ⊢
      (clear z0 z1 z2 z3 y0 y1 y2 y3)
      clear hW1 hb3 hk9 hk10 e9 c0 c1 c2
      (have z0 := TA.out.k.bx.c0; have z1 := TA.out.k.bx.c1; have z2 := TA.out.k.bx.c2; have z3 := TA.out.k.bx.c3; have y0 := TA.out.k.bx.f 0; have y1 := TA.out.k.bx.f 1; have y2 := TA.out.k.bx.f 2; have y3 := TA.out.k.bx.f 3)
      obtain ⟨b', off', x', hbo, hb', hx', c0, c1, c2, -⟩ := HDR.out.get hlt
      obtain rfl : x' = ⟨kd, nm, cl⟩ := Option.some.inj (hx'.symm.trans HX.out)
      injection hbo with hbo
      injection hbo with hbo1 hbo2 _
      subst hbo1
      subst hbo2
      dsimp only at c0 c1 c2
      clear hx'
      have RK := Lib.hid TM.out.r
      have CZ : Hid (customL o.toList = true) := Lib.hid (by rw [HO.out]; exact nmK_custom hk6)
      obtain ⟨z, hz⟩ : ∃ z, namedZ D.defs o.toList = z := ⟨_, rfl⟩
      obtain ⟨dk, hdk⟩ : ∃ d, df k = d := ⟨_, rfl⟩
      have HZD : Hid ((z == -1) = !dk) := Lib.hid (by
        have h1 := TM.out.dfd k hk6
        rw [← HO.out, hz, hdk] at h1
        have h2 : -1 ≤ z := by rw [← hz]; exact (firstZ_lt _ _).1
        cases dk with
        | true => have := of_decide_eq_true h1.symm; exact beq_eq_false_iff_ne.2 (by omega)
        | false => have := of_decide_eq_false h1.symm; exact beq_iff_eq.2 (by omega))
      have NK : Hid (∀ V da dl dc wa wl wc, DefRow V da dl dc D.defs → WaitRow V wa wl wc D.waits → Calls Try.prog 12 #[deskV da dl dc wa wl wc D.next D.busy, .string o] V fun e w' => e = .returned (.int .i64 z) ∧ Below V.heap.size V w') := Lib.hid (fun V da dl dc wa wl wc h1 h2 => by
        have h := HF.out.named da dl dc wa wl wc D.next D.busy D.defs D.waits o V h1 h2 HS.out
        rw [show ifRight ⟨D.defs, D.waits, D.next, D.busy⟩ (namedZ D.defs o.toList) = z by unfold ifRight; rw [if_pos (rightK_iff.2 RK.out)]; exact hz] at h
        exact h)
      obtain ⟨E, hE⟩ : ∃ E, awaitK D o = E := ⟨_, rfl⟩
      have TM2 : Hid (Tells E (fun j => if j = k ∧ df k = false then T j ++ [D.next] else T j) df us) := Lib.hid (by rw [← hE]; exact TM.out.await hk6 HO.out (by omega))
      have HEN : Hid (E.next = D.next + 1) := Lib.hid (by rw [← hE]; rfl)
      have FE : Hid (Few E (i + 1)) := Lib.hid (by
        rw [← hE]
        refine ⟨Nat.le_succ_of_le FW.out.d, ?_, ?_, ?_⟩
        · show (if namedZ D.defs o.toList < 0 then D.waits ++ [_] else D.waits).length ≤ i + 1
          have := FW.out.t
          split
          · rw [List.length_append]; simp; omega
          · omega
        · show D.next + 1 ≤ ((i + 1 : Nat) : Int)
          have := FW.out.n
          omega
        · show 0 ≤ D.next + 1
          omega)
      have HAE : Hid (awaitR D o = (E, D.next, z, 0)) := Lib.hid (by
        unfold awaitR
        rw [if_pos (await_ok.2 ⟨RK.out, CZ.out, by omega⟩), hz, hE])
      have AK : Hid (∀ V da dl dc wa wl wc, DefRow V da dl dc D.defs → WaitRow V wa wl wc D.waits → Calls Try.prog 23 #[deskV da dl dc wa wl wc D.next D.busy, .string o] V (AwaitPost V (E, D.next, z, 0))) := Lib.hid (fun V da dl dc wa wl wc h1 h2 => by
        have h := HF.out.await da dl dc wa wl wc D.next D.busy D.defs D.waits o V h1 h2 HS.out (by unfold In64; omega) (by have := FW.out.d; omega) (by have := FW.out.t; omega)
        have e : (⟨D.defs, D.waits, D.next, D.busy⟩ : DeskD) = D := rfl
        rw [e, HAE.out] at h
        exact h)
      obtain ⟨m2, hm2⟩ : ∃ m, kd % 2 = m := ⟨_, rfl⟩
      have e10 : kd.tmod 2 = m2 := by rw [Int.tmod_eq_emod_of_nonneg p0, hm2]
      clear hm2 hz hE
      cases e11 : m2 == 0 with
      | true =>
        go_upto_region 15 with (go_at_call 23; (refine (AK.out _ _ _ _ _ _ _ TA.out.k.d TA.out.k.t).mono ?_); rintro e w6 ⟨a4, l4, c4, b4, m4, n4, rfl, hd4, ht4, hb4, hn4, hm4⟩; have E4 := Lib.hid hd4; have F4 := Lib.hid ht4; have B4 := Lib.hid hb4; have N4 := Lib.hid hn4; have M4 := Lib.hid hm4; clear hd4 ht4 hb4 hn4 hm4; (clear z0 z1 z2 z3 y0 y1 y2 y3); dsimp only)
        obtain ⟨W2, hW2, TB⟩ : ∃ W2, w6.alloc (.cells #[.slice a4 l4 c4, .slice b4 m4 n4, .int .i64 E.next, .bool E.busy] 25) = W2 ∧ Hid (TellsAt w W2 g da dl dc wa wl wk D T df us) := ⟨_, rfl, Lib.hid ((TA.out.keep B4.out).keep (below_desk _ _))⟩
        have B2 : Hid (Below W1.heap.size W1 W2) := Lib.hid (by rw [← hW2]; exact B4.out.alloc B4.out.size _)
        obtain ⟨h2, hh2⟩ : ∃ h2, w6.heap.size = h2 := ⟨_, rfl⟩
        have PE : Hid (Pend W2 g h2 a4 l4 c4 b4 m4 n4 E) := Lib.hid (by
          have h9 := B4.out.size
          have h8 := TA.out.u.lt
          have ap : ∀ b, W1.heap.size ≤ b → b < W2.heap.size → Apart W2 g b := fun b h1 h2 => ⟨TA.out.t.offKeep (TA.out.t.offNew h1) B2.out, h2, by omega, by omega, by omega, by omega⟩
          have bx : GBox W2 h2 (.slice a4 l4 c4) (.slice b4 m4 n4) E.next E.busy := by rw [← hW2, ← hh2]; exact GBox.new _ _ _ _ _
          have e5 : DefRow W2 a4 l4 c4 E.defs := by rw [← hW2]; exact E4.out.below (below_desk _ _)
          have f5 : WaitRow W2 b4 m4 n4 E.waits := by rw [← hW2]; exact F4.out.below (below_desk _ _)
          refine ⟨bx, e5, f5, ap h2 (by omega) bx.lt, fun k off e hp => ?_, fun k off e hp => ?_⟩
          · subst e
            exact ap k (N4.out k off rfl) (e5.block_lt hp)
          · subst e
            exact ap k (M4.out k off rfl) (f5.block_lt hp))
        rw [hW2, hh2]
        clear hW2 hh2 c0 c1 c2
        have TA := TB
        clear TB E4 F4 B4 N4 M4
        (have z0 := TA.out.k.bx.c0; have z1 := TA.out.k.bx.c1; have z2 := TA.out.k.bx.c2; have z3 := TA.out.k.bx.c3; have y0 := TA.out.k.bx.f 0; have y1 := TA.out.k.bx.f 1; have y2 := TA.out.k.bx.f 2; have y3 := TA.out.k.bx.f 3)
        have v0 := TA.out.f.cell k hk6
        rw [hdk] at v0
        have HW := TA.out.t.row k hk6
        obtain ⟨vk, hvk, hok, hbk⟩ := HW
        have OK := Lib.hid hok
        have OB := Lib.hid hbk
        have HTK : Hid ((T k).length ≤ 60) := Lib.hid (by
          have h1 := told_rest D.waits (nmK k)
          have h2 := FW.out.t
          rw [TM.out.want k hk6]
          omega)
        clear hok hbk
        have g0 := PE.out.box.c0
        have g1 := PE.out.box.c1
        have g2 := PE.out.box.c2
        have g3 := PE.out.box.c3
        have hen := HEN.out
        clear HDR HX CZ AK HAE AW HO HS B2
        cases dk with
        | true =>
          have t0 : (z == -1) = false := HZD.out
          have t1 : (z != -1) = true := by unfold bne; rw [t0]; rfl
          go_wp2_with (go_at_call 12; (with_reducible refine (NK.out _ _ _ _ _ _ _ TA.out.k.d TA.out.k.t).mono ?_); rintro e w7 ⟨rfl, hb⟩; (have PE := Lib.hid (PE.out.keep TA.out.t hb); have OK := Lib.hid (own_below OK.out hb); have hvk := (hb.cell (p := ⟨g + 1, k, none⟩) TA.out.t.lt).trans hvk; have TA := Lib.hid (TA.out.keep hb); clear z0 z1 z2 z3 y0 y1 y2 y3 g0 g1 g2 g3 v0; (have z0 := TA.out.k.bx.c0; have z1 := TA.out.k.bx.c1; have z2 := TA.out.k.bx.c2; have z3 := TA.out.k.bx.c3; have y0 := TA.out.k.bx.f 0; have y1 := TA.out.k.bx.f 1; have y2 := TA.out.k.bx.f 2; have y3 := TA.out.k.bx.f 3); have v0 := TA.out.f.cell k hk6; rw [hdk] at v0; have g0 := PE.out.box.c0; have g1 := PE.out.box.c1; have g2 := PE.out.box.c2; have g3 := PE.out.box.c3; clear hb))
          have eT : (fun j => if j = k ∧ df k = false then T j ++ [D.next] else T j) = T := funext fun j => if_neg (by rw [hdk]; simp)
          have TK := TA.out.takeP PE.out
          unfold put4 at TK
          rw [hen] at TK
          refine ⟨⟨i + 1, a4, l4, c4, b4, m4, n4, E, T, df, us, by omega, by go_num, by rw [hen], Lib.hid TK, by rw [← eT]; exact TM2, FE⟩, by simp [intOf]; omega⟩
        | false =>
          have t0 : (z == -1) = true := HZD.out
          have t1 : (z != -1) = false := by unfold bne; rw [t0]; rfl
          go_upto_region 19 with (go_at_call 12; (with_reducible refine (NK.out _ _ _ _ _ _ _ TA.out.k.d TA.out.k.t).mono ?_); rintro e w7 ⟨rfl, hb⟩; (have PE := Lib.hid (PE.out.keep TA.out.t hb); have OK := Lib.hid (own_below OK.out hb); have hvk := (hb.cell (p := ⟨g + 1, k, none⟩) TA.out.t.lt).trans hvk; have TA := Lib.hid (TA.out.keep hb); clear z0 z1 z2 z3 y0 y1 y2 y3 g0 g1 g2 g3 v0; (have z0 := TA.out.k.bx.c0; have z1 := TA.out.k.bx.c1; have z2 := TA.out.k.bx.c2; have z3 := TA.out.k.bx.c3; have y0 := TA.out.k.bx.f 0; have y1 := TA.out.k.bx.f 1; have y2 := TA.out.k.bx.f 2; have y3 := TA.out.k.bx.f 3); have v0 := TA.out.f.cell k hk6; rw [hdk] at v0; have g0 := PE.out.box.c0; have g1 := PE.out.box.c1; have g2 := PE.out.box.c2; have g3 := PE.out.box.c3; clear hb))
          obtain ⟨i0, hi0, hq0, hq1, hq2⟩ := info_parts3 int_info9
          have HVK := Lib.hid hvk
          have htk := HTK.out
          have hsz := TA.out.k.below.size
          go_upto_region 20 with (at_builtin; (refine wpList_append_rows rfl (.tmp 92) (.tmp 94) 31 rfl 3 i0 _ 1 8 Try.underlying31 hi0 hq0 hq1 hq2 rfl (by decide) w.heap.size vk _ (T k) [D.next] rfl (OK.out.alloc _) _ 1 1 rfl (own_one _ _ _ _ rfl rfl) (fun x _ => encZ_one x) (by unfold maxLen; omega) (by omega) (by simp; omega) (fun h => by cases h) ?_); intro v9 w9 hown9 hg9 hat9; obtain ⟨a9, c9, rfl⟩ := own_more hown9; have HO9 := Lib.hid hown9; have HG9 := Lib.hid hg9; have HA9 := Lib.hid hat9; have k1 := (World.cell?_of_block (a := ⟨g + 1, k, none⟩) (hg9.block (g + 1) (Nat.lt_of_lt_of_le TA.out.t.lt (below_desk w7 _).size) (fun e => OB.out _ e.symm rfl))).trans (((below_desk w7 _).cell (p := ⟨g + 1, k, none⟩) TA.out.t.lt).trans HVK.out); have f1 := (World.frozen?_of_block (a := ⟨g + 1, k, none⟩) (hg9.block (g + 1) (Nat.lt_of_lt_of_le TA.out.t.lt (below_desk w7 _).size) (fun e => OB.out _ e.symm rfl))).trans ((World.frozen?_of_block (a := ⟨g + 1, k, none⟩) ((below_desk w7 _).block _ TA.out.t.lt)).trans (TA.out.t.free k)); clear hown9 hg9 hat9)
          obtain ⟨W8, hW8⟩ : ∃ W8, w7.alloc (.cells #[.int .i64 D.next] 3) = W8 := ⟨_, rfl⟩
          have HB8 : Below w7.heap.size w7 W8 := by rw [← hW8]; exact below_desk _ _
          rw [hW8] at HG9 HA9
          have hv8 : W8.cell? ⟨g + 1, k, none⟩ = some vk := (HB8.cell (p := ⟨g + 1, k, none⟩) TA.out.t.lt).trans HVK.out
          have hat : ∀ b, Value.ownBlock (.slice a9 ((T k).length + 1) c9) = some b → vk.ownBlock = some b ∨ W8.heap.size ≤ b := fun b hb => by
            rcases HA9.out with h | h
            · exact .inl (h.symm.trans hb)
            · rw [h] at hb
              injection hb with hb
              exact .inr (by omega)
          have ho9 : w9.ownsRow w.heap.size 3 1 (.slice a9 ((T k).length + 1) c9) (T k ++ [D.next]).length ((T k ++ [D.next]).flatMap encZ) := by
            rw [List.length_append]
            exact HO9.out
          obtain ⟨W9, hW9, TB, PB⟩ : ∃ W9, w9.setCell ⟨g + 1, k, none⟩ (.slice a9 ((T k).length + 1) c9) = W9 ∧ Hid (TellsAt w W9 g da dl dc wa wl wk D (fun j => if j = k then T k ++ [D.next] else T j) df us) ∧ Hid (Pend W9 g h2 a4 l4 c4 b4 m4 n4 E) := ⟨_, rfl, Lib.hid ((TA.out.keep HB8).want hk6 hv8 HG9.out (.inr rfl) ho9 hat), Lib.hid ((PE.out.keep TA.out.t HB8).want (TA.out.keep HB8) hk6 hv8 HG9.out (.inr rfl) hat)⟩
          rw [hW9]
          clear hW9 hW8 HB8 hv8 hat ho9 HO9 HG9 HA9 k1 f1 z0 z1 z2 z3 y0 y1 y2 y3 g0 g1 g2 g3 hvk v0 OK OB HVK PE TA
          have TA := TB
          have PE := PB
          (have z0 := TA.out.k.bx.c0; have z1 := TA.out.k.bx.c1; have z2 := TA.out.k.bx.c2; have z3 := TA.out.k.bx.c3; have y0 := TA.out.k.bx.f 0; have y1 := TA.out.k.bx.f 1; have y2 := TA.out.k.bx.f 2; have y3 := TA.out.k.bx.f 3)
          have g0 := PE.out.box.c0
          have g1 := PE.out.box.c1
          have g2 := PE.out.box.c2
          have g3 := PE.out.box.c3
          have eT : (fun j => if j = k ∧ df k = false then T j ++ [D.next] else T j) = (fun j => if j = k then T k ++ [D.next] else T j) := funext fun j => by
            by_cases hj : j = k
            · rw [if_pos ⟨hj, hdk⟩, if_pos hj, hj]
            · rw [if_neg (fun h => hj h.1), if_neg hj]
          have TM3 : Hid (Tells E (fun j => if j = k then T k ++ [D.next] else T j) df us) := by rw [← eT]; exact TM2
          clear eT TM2 TB PB
          go_wp2
          have TK := TA.out.takeP PE.out
          unfold put4 at TK
          rw [hen] at TK
          refine ⟨⟨i + 1, a4, l4, c4, b4, m4, n4, E, _, df, us, by omega, by go_num, by rw [hen], Lib.hid TK, TM3, FE⟩, by simp [intOf]; omega⟩
      | false =>
        clear AK HAE TM2 FE HEN NK HZD
        obtain ⟨cu, hcu⟩ : ∃ c : Nat, cl % 12 = (c : Int) := ⟨(cl % 12).toNat, by omega⟩
        have hc12 : cu < 12 := by omega
        have e12 : cl.tmod 12 = (cu : Int) := by rw [Int.tmod_eq_emod_of_nonneg p2, hcu]
        clear hcu
        obtain ⟨uc, huc⟩ : ∃ u, us cu = u := ⟨_, rfl⟩
        have v0 := TA.out.f.cell k hk6
        rw [hdk] at v0
        have v1 := TA.out.u.cell cu hc12
        rw [huc] at v1
        have MZ : Hid (mayE D 12 o.toList [] (cu : Int) = if dk = true ∨ uc = true then 10 else 0) := Lib.hid (by rw [← hdk, ← huc]; exact TM.out.may hk6 HO.out hc12)
        have ADD : Hid (∀ V da dl dc wa wl wc, DefRow V da dl dc D.defs → WaitRow V wa wl wc D.waits → Calls Try.prog 18 #[deskV da dl dc wa wl wc D.next D.busy, .int .i64 12, .string o, .string ⟨#[]⟩, .int .i64 (cu : Int)] V (AddPost V (addR D 12 o ⟨#[]⟩ (cu : Int)))) := Lib.hid (fun V da dl dc wa wl wc h1 h2 => HF.out.add da dl dc wa wl wc D.next D.busy D.defs D.waits 12 o ⟨#[]⟩ cu V h1 h2 HS.out (Nat.zero_le _) (by unfold In64; omega) (by have := FW.out.d; omega) (by have := FW.out.t; omega))
        by_cases hdu : dk = true ∨ uc = true
        · have AD : Hid (∀ V da dl dc wa wl wc, DefRow V da dl dc D.defs → WaitRow V wa wl wc D.waits → Calls Try.prog 18 #[deskV da dl dc wa wl wc D.next D.busy, .int .i64 12, .string o, .string ⟨#[]⟩, .int .i64 (cu : Int)] V (AddPost V (D, -1, [], 10))) := Lib.hid (fun V da dl dc wa wl wc h1 h2 => by
            have h := ADD.out V da dl dc wa wl wc h1 h2
            have m10 : mayE D 12 o.toList (⟨#[]⟩ : ByteArray).toList (cu : Int) = 10 := by rw [eL, MZ.out, if_pos hdu]
            rw [addR_not (by rw [m10]; decide), m10] at h
            exact h)
          have FN : Hid (Few D (i + 1)) := Lib.hid ⟨Nat.le_succ_of_le FW.out.d, Nat.le_succ_of_le FW.out.t, by have := FW.out.n; omega, hn0⟩
          clear ADD MZ
          go_upto_region 23 with (go_at_call 18; (refine (AD.out _ _ _ _ _ _ _ TA.out.k.d TA.out.k.t).mono ?_); rintro e w6 ⟨a4, l4, c4, b4, m4, n4, u4, v4, k4, rfl, hd4, ht4, hi4, hb4, -, -, -⟩; have I4 := Lib.hid hi4; have B4 := Lib.hid hb4; clear hd4 ht4 hi4 hb4; (clear z0 z1 z2 z3 y0 y1 y2 y3); clear v0 v1; dsimp only)
          obtain rfl : v4 = 0 := I4.out.hlen.symm
          obtain ⟨W2, hW2, TB⟩ : ∃ W2, w6.alloc (.cells #[.slice a4 l4 c4, .slice b4 m4 n4, .int .i64 D.next, .bool D.busy] 25) = W2 ∧ Hid (TellsAt w W2 g da dl dc wa wl wk D T df us) := ⟨_, rfl, Lib.hid ((TA.out.keep B4.out).keep (below_desk _ _))⟩
          rw [hW2]
          clear hW2 c0 c1 c2 I4 B4 AD HDR
          have TA := TB
          clear TB
          have v0 := TA.out.f.cell k hk6
          rw [hdk] at v0
          have v1 := TA.out.u.cell cu hc12
          rw [huc] at v1
          rcases hdu with rfl | rfl
          · go_wp2
            refine ⟨⟨i + 1, da, dl, dc, wa, wl, wk, D, T, df, us, by omega, by go_num, rfl, TA, TM, FN⟩, by simp [intOf]; omega⟩
          · cases dk with
            | true =>
              go_wp2
              refine ⟨⟨i + 1, da, dl, dc, wa, wl, wk, D, T, df, us, by omega, by go_num, rfl, TA, TM, FN⟩, by simp [intOf]; omega⟩
            | false =>
              go_wp2
              refine ⟨⟨i + 1, da, dl, dc, wa, wl, wk, D, T, df, us, by omega, by go_num, rfl, TA, TM, FN⟩, by simp [intOf]; omega⟩
        · obtain rfl : dk = false := by cases dk with
            | true => exact absurd (.inl rfl) hdu
            | false => rfl
          obtain rfl : uc = false := by cases uc with
            | true => exact absurd (.inr rfl) hdu
            | false => rfl
          clear hdu
          obtain ⟨E2, hE2⟩ : ∃ E2, addK D o ⟨#[]⟩ (cu : Int) = E2 := ⟨_, rfl⟩
          have m0 : mayE D 12 o.toList (⟨#[]⟩ : ByteArray).toList (cu : Int) = 0 := by rw [eL, MZ.out, if_neg (by decide)]
          have MO := Lib.hid (may_ok.1 m0)
          have HDL : Hid (D.defs.length = dl) := Lib.hid TA.out.k.d.hlen
          have AD : Hid (∀ V da dl' dc wa wl wc, DefRow V da dl' dc D.defs → WaitRow V wa wl wc D.waits → Calls Try.prog 18 #[deskV da dl' dc wa wl wc D.next D.busy, .int .i64 12, .string o, .string ⟨#[]⟩, .int .i64 (cu : Int)] V (AddPost V (E2, (dl : Int), T k, 0))) := Lib.hid (fun V da dl' dc wa wl wc h1 h2 => by
            have h := ADD.out V da dl' dc wa wl wc h1 h2
            rw [addR_may MO.out, hE2, HDL.out, HO.out, ← TM.out.want k hk6] at h
            exact h)
          have RE : Hid (RightK E2) := Lib.hid (by rw [← hE2]; exact MO.out.right)
          have TM2 : Hid (Tells E2 (fun j => if j = k then [] else T j) (fun j => if j = k then true else df j) (fun j => if j = cu then true else us j)) := Lib.hid (by rw [← hE2]; exact TM.out.add hk6 HO.out hc12 hdk huc eL)
          have HEN : Hid (E2.next = D.next) := Lib.hid (by rw [← hE2]; rfl)
          have FE : Hid (Few E2 (i + 1)) := Lib.hid (by
            rw [← hE2]
            refine ⟨?_, ?_, ?_, hn0⟩
            · show (D.defs ++ [_]).length ≤ i + 1
              rw [List.length_append]
              have := FW.out.d
              simp
              omega
            · show (restT D.waits o.toList).length ≤ i + 1
              have h1 := told_rest D.waits o.toList
              have := FW.out.t
              omega
            · show D.next ≤ ((i + 1 : Nat) : Int)
              have := FW.out.n
              omega)
          have NZ : namedZ E2.defs o.toList = (dl : Int) := by
            have h1 := TM.out.dfd k hk6
            rw [hdk, ← HO.out] at h1
            rw [← hE2, named_add, if_neg (of_decide_eq_false h1.symm), if_pos rfl, HDL.out]
          have CZ2 : classedZ E2.defs (cu : Int) = (dl : Int) := by
            have h1 := TM.out.usd cu hc12
            rw [huc] at h1
            rw [← hE2, classed_add, if_neg (of_decide_eq_false h1.symm), if_pos rfl, HDL.out]
          have NK : Hid (∀ V da dl' dc wa wl wc, DefRow V da dl' dc E2.defs → WaitRow V wa wl wc E2.waits → Calls Try.prog 12 #[deskV da dl' dc wa wl wc E2.next E2.busy, .string o] V fun e w' => e = .returned (.int .i64 (dl : Int)) ∧ Below V.heap.size V w') := Lib.hid (fun V da dl' dc wa wl wc h1 h2 => by
            have h := HF.out.named da dl' dc wa wl wc E2.next E2.busy E2.defs E2.waits o V h1 h2 HS.out
            rw [show ifRight ⟨E2.defs, E2.waits, E2.next, E2.busy⟩ (namedZ E2.defs o.toList) = (dl : Int) by unfold ifRight; rw [if_pos (rightK_iff.2 RE.out)]; exact NZ] at h
            exact h)
          have CK : Hid (∀ V da dl' dc wa wl wc, DefRow V da dl' dc E2.defs → WaitRow V wa wl wc E2.waits → Calls Try.prog 13 #[deskV da dl' dc wa wl wc E2.next E2.busy, .int .i64 (cu : Int)] V fun e w' => e = .returned (.int .i64 (dl : Int)) ∧ Below V.heap.size V w') := Lib.hid (fun V da dl' dc wa wl wc h1 h2 => by
            have h := HF.out.classed da dl' dc wa wl wc E2.next E2.busy E2.defs E2.waits (cu : Int) V h1 h2
            rw [show ifRight ⟨E2.defs, E2.waits, E2.next, E2.busy⟩ (classedZ E2.defs (cu : Int)) = (dl : Int) by unfold ifRight; rw [if_pos (rightK_iff.2 RE.out)]; exact CZ2] at h
            exact h)
          have hTI : ∀ x ∈ T k, In64 x := fun x hx => by
            rw [TM.out.want k hk6] at hx
            unfold toldZ at hx
            obtain ⟨y, hy, rfl⟩ := List.mem_map.1 hx
            have h1 := RK.out.wait (List.mem_filter.1 hy).1
            have h2 := RK.out.n1
            unfold In64
            omega
          obtain ⟨vk, hvk, hok, -⟩ := TA.out.t.row k hk6
          obtain ⟨ak, ck, rfl, hik, -⟩ := IntRow.of_own9 rfl hok hTI
          have IK := Lib.hid hik
          have CI : Hid (∀ V a l c a' l' c', IntRow V a l c (T k) → IntRow V a' l' c' (T k) → Calls Try.prog 21 #[.slice a l c, .slice a' l' c'] V fun e w' => e = .returned (.bool true) ∧ Below V.heap.size V w') := Lib.hid (fun V a l c a' l' c' h h' => (refints_any a a' l c l' c' (T k) (T k) V h h').mono fun e w' ⟨he, n, hn⟩ => ⟨by rw [he]; simp, by rw [hn]; exact below_dn (Below.refl _ _) n⟩)
          clear ADD MZ m0 NZ CZ2 hTI hok hik hE2
          have v2 := hvk
          clear hvk
          go_upto_region 23 with (go_at_call 18; (refine (AD.out _ _ _ _ _ _ _ TA.out.k.d TA.out.k.t).mono ?_); rintro e w6 ⟨a4, l4, c4, b4, m4, n4, u4, v4, k4, rfl, hd4, ht4, hi4, hb4, hn4, hm4, -⟩; have E4 := Lib.hid hd4; have F4 := Lib.hid ht4; have I4 := Lib.hid hi4; have B4 := Lib.hid hb4; have N4 := Lib.hid hn4; have M4 := Lib.hid hm4; have v2 := (hb4.cell (p := ⟨g + 1, k, none⟩) TA.out.t.lt).trans v2; clear hd4 ht4 hi4 hb4 hn4 hm4; (clear z0 z1 z2 z3 y0 y1 y2 y3); clear v0 v1; dsimp only)
          obtain ⟨W2, hW2, PE⟩ : ∃ W2, w6.alloc (.cells #[.slice a4 l4 c4, .slice b4 m4 n4, .int .i64 E2.next, .bool E2.busy] 25) = W2 ∧ Hid (Pend W2 g w6.heap.size a4 l4 c4 b4 m4 n4 E2) := ⟨_, rfl, Lib.hid (Pend.make TA.out B4.out E4.out F4.out N4.out M4.out)⟩
          have B2 : Below w6.heap.size w6 W2 := by rw [← hW2]; exact below_desk _ _
          have HT1 := Lib.hid (TA.out.keep B4.out).t.lt
          have TA := Lib.hid ((TA.out.keep B4.out).keep B2)
          have I4 := Lib.hid (I4.out.below B2)
          have IK := Lib.hid ((IK.out.below B4.out).below B2)
          have v2 := (B2.cell (p := ⟨g + 1, k, none⟩) HT1.out).trans v2
          obtain ⟨h2, hh2⟩ : ∃ h2, w6.heap.size = h2 := ⟨_, rfl⟩
          rw [hW2]
          rw [hh2] at PE ⊢
          clear hW2 hh2 c0 c1 c2 B4 B2 AD HDR E4 F4 N4 M4 HT1
          have v0 := TA.out.f.cell k hk6
          rw [hdk] at v0
          have v1 := TA.out.u.cell cu hc12
          rw [huc] at v1
          have g0 := PE.out.box.c0
          have g1 := PE.out.box.c1
          have g2 := PE.out.box.c2
          have g3 := PE.out.box.c3
          have q0 := TA.out.f.free k
          have q1 := TA.out.u.free cu
          have q2 := TA.out.t.free k
          go_upto_region 29 with (first
            | (go_at_call 21; (with_reducible refine (CI.out _ _ _ _ _ _ _ I4.out IK.out).mono ?_); rintro e w7 ⟨rfl, hb⟩; (have v2 := (hb.cell (p := ⟨g + 1, k, none⟩) TA.out.t.lt).trans v2; have PE := Lib.hid (PE.out.keep TA.out.t hb); have TA := Lib.hid (TA.out.keep hb); have I4 := Lib.hid (I4.out.below hb); have IK := Lib.hid (IK.out.below hb); clear v0 v1 g0 g1 g2 g3 q0 q1 q2; have v0 := TA.out.f.cell k hk6; rw [hdk] at v0; have v1 := TA.out.u.cell cu hc12; rw [huc] at v1; have g0 := PE.out.box.c0; have g1 := PE.out.box.c1; have g2 := PE.out.box.c2; have g3 := PE.out.box.c3; have q0 := TA.out.f.free k; have q1 := TA.out.u.free cu; have q2 := TA.out.t.free k; clear hb))
            | (go_at_call 12; (with_reducible refine (NK.out _ _ _ _ _ _ _ PE.out.d PE.out.t).mono ?_); rintro e w7 ⟨rfl, hb⟩; (have v2 := (hb.cell (p := ⟨g + 1, k, none⟩) TA.out.t.lt).trans v2; have PE := Lib.hid (PE.out.keep TA.out.t hb); have TA := Lib.hid (TA.out.keep hb); have I4 := Lib.hid (I4.out.below hb); have IK := Lib.hid (IK.out.below hb); clear v0 v1 g0 g1 g2 g3 q0 q1 q2; have v0 := TA.out.f.cell k hk6; rw [hdk] at v0; have v1 := TA.out.u.cell cu hc12; rw [huc] at v1; have g0 := PE.out.box.c0; have g1 := PE.out.box.c1; have g2 := PE.out.box.c2; have g3 := PE.out.box.c3; have q0 := TA.out.f.free k; have q1 := TA.out.u.free cu; have q2 := TA.out.t.free k; clear hb))
            | (go_at_call 13; (with_reducible refine (CK.out _ _ _ _ _ _ _ PE.out.d PE.out.t).mono ?_); rintro e w7 ⟨rfl, hb⟩; (have v2 := (hb.cell (p := ⟨g + 1, k, none⟩) TA.out.t.lt).trans v2; have PE := Lib.hid (PE.out.keep TA.out.t hb); have TA := Lib.hid (TA.out.keep hb); have I4 := Lib.hid (I4.out.below hb); have IK := Lib.hid (IK.out.below hb); clear v0 v1 g0 g1 g2 g3 q0 q1 q2; have v0 := TA.out.f.cell k hk6; rw [hdk] at v0; have v1 := TA.out.u.cell cu hc12; rw [huc] at v1; have g0 := PE.out.box.c0; have g1 := PE.out.box.c1; have g2 := PE.out.box.c2; have g3 := PE.out.box.c3; have q0 := TA.out.f.free k; have q1 := TA.out.u.free cu; have q2 := TA.out.t.free k; clear hb)))
          obtain ⟨W9, hW9, TB, PB⟩ : ∃ W9, ((w7.setCell ⟨g + 2, k, none⟩ (.bool true)).setCell ⟨g + 3, cu, none⟩ (.bool true)).setCell ⟨g + 1, k, none⟩ (.slice none 0 0) = W9 ∧ Hid (TellsAt w W9 g da dl dc wa wl wk D (fun j => if j = k then [] else T j) (fun j => if j = k then true else df j) (fun j => if j = cu then true else us j)) ∧ Hid (Pend W9 g h2 a4 l4 c4 b4 m4 n4 E2) := by
            have tm := TA.out.mark hk6 hc12
            have pm := PE.out.mark (k := k) (u := cu)
            have hv := ((World.cell?_setCell_other (w7.setCell ⟨g + 2, k, none⟩ (.bool true)) ⟨g + 3, cu, none⟩ ⟨g + 1, k, none⟩ (.bool true) (fun e => by injection e with e; omega)).trans (World.cell?_setCell_other w7 ⟨g + 2, k, none⟩ ⟨g + 1, k, none⟩ (.bool true) (fun e => by injection e with e; omega))).trans v2
            exact ⟨_, rfl, Lib.hid (tm.want hk6 hv (World.grownBy.refl _ _) (.inl rfl) (World.ownsRow_nil _ _ _ _) (fun b hb => by cases hb)), Lib.hid (pm.want tm hk6 hv (World.grownBy.refl _ _) (.inl rfl) (fun b hb => by cases hb))⟩
          rw [hW9]
          clear hW9 v0 v1 v2 g0 g1 g2 g3 q0 q1 q2 PE TA I4 IK CI NK CK
          have TA := TB
          have PE := PB
          clear TB PB
          (have z0 := TA.out.k.bx.c0; have z1 := TA.out.k.bx.c1; have z2 := TA.out.k.bx.c2; have z3 := TA.out.k.bx.c3; have y0 := TA.out.k.bx.f 0; have y1 := TA.out.k.bx.f 1; have y2 := TA.out.k.bx.f 2; have y3 := TA.out.k.bx.f 3)
          have g0 := PE.out.box.c0
          have g1 := PE.out.box.c1
          have g2 := PE.out.box.c2
          have g3 := PE.out.box.c3
          go_wp2
          have TK := TA.out.takeP PE.out
          unfold put4 at TK
          refine ⟨⟨i + 1, a4, l4, c4, b4, m4, n4, E2, _, _, _, by omega, by go_num, by rw [HEN.out], Lib.hid TK, TM2, FE⟩, by simp [intOf]; omega⟩
    · have RK := Lib.hid TM.out.r
      have RC : Hid (∀ V, DefRow V da dl dc D.defs → WaitRow V wa wl wk D.waits → Calls Try.prog 14 #[deskV da dl dc wa wl wk D.next D.busy] V fun e w' => e = .returned (.bool true) ∧ Below V.heap.size V w') := Lib.hid (fun V h1 h2 => by
        have h := HF.out.right da dl dc wa wl wk D.next D.busy D.defs D.waits V h1 h2
        have e : (⟨D.defs, D.waits, D.next, D.busy⟩ : DeskD) = D := rfl
        rw [e, rightK_iff.2 RK.out] at h
        exact h)
      have hT60 : ∀ j, j < 6 → (T j).length ≤ 60 := fun j hj => by
        have h1 := told_rest D.waits (nmK j)
        have h2 := FW.out.t
        rw [TM.out.want j hj]
        omega
      have SL := Lib.hid (sumT_le hT60)
      have HT := Lib.hid hT60
      have HWL : Hid (wl = sumT T 6) := Lib.hid (by rw [sumT_six TM.out]; exact TA.out.k.t.hlen.symm)
      clear hT60
      rcases (by omega : ¬ i < len ∨ (i < len ∧ ¬ i < 60)) with h1 | ⟨h1, h2⟩
      all_goals
        go_wp2
        go_loopw [20, 21] (fun sv kv wr2 => ∃ q : Nat, q ≤ 6 ∧ kv = .int .i64 q ∧ sv = .int .i64 (sumT T q : Nat) ∧ wr2 = wr) (fun _ kv _ => 6 - (intOf kv).toNat)
        case atStart => exact ⟨0, by omega, rfl, rfl, rfl⟩
        case round =>
          obtain ⟨q, hq, rfl, rfl, rfl⟩ := hrel
          by_cases hq6 : q < 6
          · obtain ⟨vk, hvk, hok, -⟩ := TA.out.t.row q hq6
            obtain ⟨ak, ck, rfl⟩ := own_some hok
            have hs := SL.out q hq
            have ht := HT.out q hq6
            clear hok
            go_wp2
            go_roundw
            case rel => exact ⟨q + 1, by omega, by go_num, by show _ = Value.int _ ((sumT T q + (T q).length : Nat) : Int); go_num, trivial⟩
            case measure => simp [intOf]; omega
          · have hq66 : q = 6 := by omega
            subst hq66
            have hs6 : ((wl : Int) == (sumT T 6 : Int)) = true := beq_iff_eq.2 (by rw [HWL.out])
            go_wp2_with (go_at_call 14; (with_reducible refine (RC.out _ TA.out.k.d TA.out.k.t).mono ?_); rintro e w5 ⟨rfl, hb⟩; have TA := Lib.hid (TA.out.keep hb))
            go_ret
            exact ⟨rfl, TA.out.k.below⟩
end Go.Proofs.Ytapfhgimeohmgaa
