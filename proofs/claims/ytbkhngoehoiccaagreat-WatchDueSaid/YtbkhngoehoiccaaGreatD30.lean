/- Texts joined in build order: DeskPlace DeskMay HeirSmall Keep. -/
import Derived.Test.YtbkhngoehoiccaaGreatD22
import Derived.Test.YtbkhngoehoiccaaGreatD05
import Derived.Test.YtbkhngoehoiccaaGreatD14
import Derived.Test.YtbkhngoehoiccaaGreatD06
import Derived.Test.YtbkhngoehoiccaaGreatD17
import Derived.Deep.RegionHeld3
import Derived.Test.YtbkhngoehoiccaaGreatD25
namespace Go.Proofs.YtbkhngoehoiccaaGreat
open Go.RowKit
theorem ifRight_yes {D : DeskD} {z : Int} (h : rightK D = true) : ifRight D z = z := by unfold ifRight; rw [if_pos h]
theorem ifRight_no {D : DeskD} {z : Int} (h : rightK D = false) : ifRight D z = -1 := by unfold ifRight; rw [if_neg (by rw [h]; decide)]
set_option maxHeartbeats 8000000 in
set_option maxRecDepth 100000 in
theorem place_any (g : Nat) (lb : Array Value) (p : DefD → Bool) (eg : ∀ args w, (callFunc g args).run Tryz.prog w = .ok (.enter g args) w) (da : Option Addr) (dl dc : Nat) (wa : Option Addr) (wl wc : Nat) (nx : Int) (bz : Bool) (L : List DefD) (M : List WaitD) (w : World) (hd : DefRow w da dl dc L) (ht : WaitRow w wa wl wc M) (hp : PredD g lb p w) :
    Calls Tryz.prog 95 #[deskV da dl dc wa wl wc nx bz, .func (.func g) #[] lb] w fun e w' => e = .returned (.int .i64 (ifRight ⟨L, M, nx, bz⟩ (firstZ p L))) ∧ Below w.heap.size w w' := by
  have hl := hd.len64
  have HLN := Lib.hid hd.hlen
  have DB := Lib.hid (DBox.start (nx := nx) (bz := bz) hd ht)
  have HP := Lib.hid (hp.later (below_desk w (deskB da dl dc wa wl wc nx bz)))
  clear hd ht hp
  have z0 := DB.out.c0
  have z1 := DB.out.c1
  have z2 := DB.out.c2
  have z3 := DB.out.c3
  obtain ⟨q1, hq1⟩ : ∃ q, rightK ⟨L, M, nx, bz⟩ = q := ⟨_, rfl⟩
  have RI : Hid (∀ V, Below (w.alloc (deskB da dl dc wa wl wc nx bz)).heap.size (w.alloc (deskB da dl dc wa wl wc nx bz)) V → Calls Tryz.prog 49 #[deskV da dl dc wa wl wc nx bz] V fun e w' => e = .returned (.bool q1) ∧ Below V.heap.size V w') := Lib.hid (fun V hb => by
    have h := deskright_any da dl dc wa wl wc nx bz L M V (DB.out.keep hb).d (DB.out.keep hb).t
    rwa [hq1] at h)
  cases q1 with
  | false =>
    have HR : Hid (ifRight ⟨L, M, nx, bz⟩ (firstZ p L) = -1) := Lib.hid (ifRight_no hq1)
    clear hq1
    go_enter Tryz.func95, Tryz.ntmps95
    go_wp2_with (go_at_call 49; refine (RI.out _ (Below.refl _ _)).mono ?_; rintro e w5 ⟨rfl, hb⟩)
    go_ret
    exact ⟨ret_int HR.out.symm, DB.out.below.trans (hb.mono DB.out.below.size)⟩
  | true =>
    have HO : Hid (ifRight ⟨L, M, nx, bz⟩ (firstZ p L) = firstZ p L) := Lib.hid (ifRight_yes hq1)
    clear hq1
    go_enter Tryz.func95, Tryz.ntmps95
    go_wp2_with (go_at_call 49; refine (RI.out _ (Below.refl _ _)).mono ?_; rintro e w5 ⟨rfl, hb⟩; have HV := Lib.hid hb; clear z0 z1 z2 z3 hb; have z0 := (DB.out.keep HV.out).c0; have z1 := (DB.out.keep HV.out).c1; have z2 := (DB.out.keep HV.out).c2; have z3 := (DB.out.keep HV.out).c3)
    go_loopw [13] (fun i wr => ∃ k : Nat, k ≤ dl ∧ i = .int .i64 k ∧ Hid (k ≤ firstN p L) ∧ Hid (Below w5.heap.size w5 wr)) (fun i _ => dl - (intOf i).toNat)
    case atStart => exact ⟨0, Nat.zero_le _, rfl, Lib.hid (Nat.zero_le _), Lib.hid (Below.refl _ _)⟩
    case round =>
      obtain ⟨k, hk, rfl, HA, HB⟩ := hrel
      clear z0 z1 z2 z3
      have DR := Lib.hid ((DB.out.keep HV.out).keep HB.out)
      by_cases hlt : k < dl
      · obtain ⟨b, off, x, rfl, hb, hx, c0, c1, c2, -⟩ := DR.out.d.get hlt
        have HX := Lib.hid hx
        clear hx
        obtain ⟨n, o, c⟩ := x
        dsimp only at c0 c1 c2
        go_upto_region 6 with fail
        obtain ⟨W, hW, XX⟩ : ∃ W, wr.alloc (.cells #[.string n, .string o, .int .i64 c] 78) = W ∧ Hid (XBox W wr.heap.size n o c) := ⟨_, rfl, Lib.hid (XBox.new _ _ _ _)⟩
        rw [hW]
        have HBW : Hid (Below w5.heap.size w5 W) := Lib.hid (HB.out.trans (by rw [← hW]; exact (below_desk _ _).mono HB.out.size))
        clear hW c0 c1 c2
        have hcall := HP.out W n o c (HV.out.trans (HBW.out.mono HV.out.size))
        have x0 := XX.out.c0
        have x1 := XX.out.c1
        have x2 := XX.out.c2
        obtain ⟨q, hq⟩ : ∃ q, p ⟨n, o, c⟩ = q := ⟨_, rfl⟩
        rw [hq] at hcall
        cases q with
        | true =>
          have HR : Hid (ifRight ⟨L, M, nx, bz⟩ (firstZ p L) = (k : Int)) := Lib.hid (HO.out.trans (firstZ_here HA.out HX.out hq))
          clear hq
          go_wp2_with (go_at_fn g; refine hcall.mono ?_; rintro e w' ⟨rfl, hb'⟩)
          go_ret
          have h5 := DB.out.below.trans (HV.out.mono DB.out.below.size)
          have h6 := h5.trans (HBW.out.mono h5.size)
          exact ⟨ret_int HR.out.symm, h6.trans (hb'.mono h6.size)⟩
        | false =>
          have HR : Hid (k + 1 ≤ firstN p L) := Lib.hid (first_step HA.out HX.out hq)
          clear hq
          go_wp2_with (go_at_fn g; refine hcall.mono ?_; rintro e w' ⟨rfl, hb'⟩)
          go_roundw
          case rel => exact ⟨k + 1, by omega, by go_num, HR, Lib.hid (HBW.out.trans (hb'.mono HBW.out.size))⟩
          case measure => simp [intOf]; omega
      · have HR : Hid (ifRight ⟨L, M, nx, bz⟩ (firstZ p L) = -1) := Lib.hid (HO.out.trans (firstZ_none HA.out (by rw [HLN.out]; omega)))
        go_wp2
        go_ret
        exact ⟨ret_int HR.out.symm, DR.out.below⟩
theorem cell_new (w : World) (v : Value) (t : TypeId) : (w.alloc (.cells #[v] t)).cell? ⟨w.heap.size, 0, none⟩ = some v := cell_of_row _ w.heap.size 0 _ t (0, 0) (heap_alloc_new w _)
theorem DBox.two {w : World} {da wa : Option Addr} {dl dc wl wc : Nat} {nx : Int} {bz : Bool} {L : List DefD} {M : List WaitD} (hd : DefRow w da dl dc L) (ht : WaitRow w wa wl wc M) (o : Obj) : DBox w ((w.alloc (deskB da dl dc wa wl wc nx bz)).alloc o) w.heap.size da dl dc wa wl wc nx bz L M := (DBox.start hd ht).keep (below_desk _ o)
end Go.Proofs.YtbkhngoehoiccaaGreat
namespace Go.Proofs.YtbkhngoehoiccaaGreat
open Go.RowKit
theorem find_ifRight {D : DeskD} {l s : List UInt8} : ifRight D (findZ2 D.defs l s) = if ifRight D (firstZ (isOwn l) D.defs) = -1 then ifRight D (firstZ (isIs l s) D.defs) else ifRight D (firstZ (isOwn l) D.defs) := by
  have h1 := (firstZ_lt (isOwn l) D.defs).1
  unfold ifRight findZ2
  cases rightK D with
  | false => rfl
  | true =>
    rw [if_pos rfl, if_pos rfl, if_pos rfl]
    by_cases h : firstZ (isOwn l) D.defs = -1
    · rw [if_pos h, if_neg (by omega)]
    · rw [if_neg h, if_pos (by omega)]
set_option maxHeartbeats 1000000 in
set_option maxRecDepth 100000 in
theorem deskfind_any (da : Option Addr) (dl dc : Nat) (wa : Option Addr) (wl wc : Nat) (nx : Int) (bz : Bool) (L : List DefD) (M : List WaitD) (l s : ByteArray) (w : World) (hd : DefRow w da dl dc L) (ht : WaitRow w wa wl wc M) :
    Calls Tryz.prog 74 #[deskV da dl dc wa wl wc nx bz, .string l, .string s] w fun e w' => e = .returned (.int .i64 (ifRight ⟨L, M, nx, bz⟩ (findZ2 L l.toList s.toList))) ∧ Below w.heap.size w w' := by
  have eg1 : ∀ args w, (callFunc 96 args).run Tryz.prog w = .ok (.enter 96 args) w := enters_of Tryz.func96 (by kernel_rfl) rfl
  have eg2 : ∀ args w, (callFunc 97 args).run Tryz.prog w = .ok (.enter 97 args) w := enters_of Tryz.func97 (by kernel_rfl) rfl
  have HO := Lib.hid (find_ifRight (D := ⟨L, M, nx, bz⟩) (l := l.toList) (s := s.toList))
  have DX := Lib.hid ((DBox.two (nx := nx) (bz := bz) hd ht (.cells #[.string l] 9)).keep (below_desk _ (.cells #[.string s] 9)))
  have hs1 : (w.alloc (deskB da dl dc wa wl wc nx bz)).heap.size = w.heap.size + 1 := by simp
  have hs2 : ((w.alloc (deskB da dl dc wa wl wc nx bz)).alloc (.cells #[.string l] 9)).heap.size = w.heap.size + 1 + 1 := by simp
  have HC1 : Hid ((((w.alloc (deskB da dl dc wa wl wc nx bz)).alloc (.cells #[.string l] 9)).alloc (.cells #[.string s] 9)).cell? ⟨w.heap.size + 1, 0, none⟩ = some (.string l)) := Lib.hid (by
    rw [← hs1]
    exact ((below_desk _ (.cells #[.string s] 9)).cell (p := ⟨(w.alloc (deskB da dl dc wa wl wc nx bz)).heap.size, 0, none⟩) (by simp)).trans (cell_new _ _ _))
  have HC2 : Hid ((((w.alloc (deskB da dl dc wa wl wc nx bz)).alloc (.cells #[.string l] 9)).alloc (.cells #[.string s] 9)).cell? ⟨w.heap.size + 1 + 1, 0, none⟩ = some (.string s)) := Lib.hid (by
    rw [← hs2]
    exact cell_new _ _ _)
  have hs3 : (((w.alloc (deskB da dl dc wa wl wc nx bz)).alloc (.cells #[.string l] 9)).alloc (.cells #[.string s] 9)).heap.size = w.heap.size + 1 + 1 + 1 := by simp
  obtain ⟨q1, hq1⟩ : ∃ q, ifRight ⟨L, M, nx, bz⟩ (firstZ (isOwn l.toList) L) = q := ⟨_, rfl⟩
  obtain ⟨q2, hq2⟩ : ∃ q, ifRight ⟨L, M, nx, bz⟩ (firstZ (isIs l.toList s.toList) L) = q := ⟨_, rfl⟩
  obtain ⟨V, hV⟩ : ∃ V, ((w.alloc (deskB da dl dc wa wl wc nx bz)).alloc (.cells #[.string l] 9)).alloc (.cells #[.string s] 9) = V := ⟨_, rfl⟩
  rw [hV] at HC1 HC2 hs3 DX
  have P1 : Hid (∀ U, Below V.heap.size V U → Calls Tryz.prog 95 #[deskV da dl dc wa wl wc nx bz, .func (.func 96) #[] #[.pointer (some ⟨w.heap.size + 1, 0, none⟩)]] U fun e w' => e = .returned (.int .i64 q1) ∧ Below U.heap.size U w') := Lib.hid (fun U hb => by
    have h := place_any 96 #[.pointer (some ⟨w.heap.size + 1, 0, none⟩)] (isOwn l.toList) eg1 da dl dc wa wl wc nx bz L M U (DX.out.keep hb).d (DX.out.keep hb).t ((pred_own l (w.heap.size + 1) V (by omega) HC1.out).later hb)
    rw [hq1] at h
    exact h)
  have P2 : Hid (∀ U, Below V.heap.size V U → Calls Tryz.prog 95 #[deskV da dl dc wa wl wc nx bz, .func (.func 97) #[] #[.pointer (some ⟨w.heap.size + 1 + 1, 0, none⟩), .pointer (some ⟨w.heap.size + 1, 0, none⟩)]] U fun e w' => e = .returned (.int .i64 q2) ∧ Below U.heap.size U w') := Lib.hid (fun U hb => by
    have h := place_any 97 #[.pointer (some ⟨w.heap.size + 1 + 1, 0, none⟩), .pointer (some ⟨w.heap.size + 1, 0, none⟩)] (isIs l.toList s.toList) eg2 da dl dc wa wl wc nx bz L M U (DX.out.keep hb).d (DX.out.keep hb).t ((pred_is l s (w.heap.size + 1 + 1) (w.heap.size + 1) V (by omega) HC2.out (by omega) HC1.out).later hb)
    rw [hq2] at h
    exact h)
  dsimp only at HO
  rw [hq1, hq2] at HO
  have HW := Lib.hid hV
  clear hq1 hq2 eg1 eg2 hd ht HC1 HC2 hV hs1 hs2
  go_enter Tryz.func74, Tryz.ntmps74
  go_upto_region 1 with fail
  rw [HW.out]
  have z0 := DX.out.c0
  have z1 := DX.out.c1
  have z2 := DX.out.c2
  have z3 := DX.out.c3
  clear HW hs3
  cases e1 : q1 == -1 with
  | false =>
    have HR : Hid (ifRight ⟨L, M, nx, bz⟩ (findZ2 L l.toList s.toList) = q1) := Lib.hid (by rw [HO.out, if_neg (beq_eq_false_iff_ne.1 e1)])
    go_wp2_with (go_at_call 95; (with_reducible refine (P1.out _ (Below.refl _ _)).mono ?_); rintro e w5 ⟨rfl, hb⟩)
    go_ret
    exact ⟨ret_int HR.out.symm, DX.out.below.trans (hb.mono DX.out.below.size)⟩
  | true =>
    have HR : Hid (ifRight ⟨L, M, nx, bz⟩ (findZ2 L l.toList s.toList) = q2) := Lib.hid (by rw [HO.out, if_pos (beq_iff_eq.1 e1)])
    go_wp2_with (first
      | (go_at_call 95; (with_reducible refine (P1.out _ (Below.refl _ _)).mono ?_); rintro e w5 ⟨rfl, hb⟩; have HV := Lib.hid hb; clear z0 z1 z2 z3 hb; have z0 := (DX.out.keep HV.out).c0; have z1 := (DX.out.keep HV.out).c1; have z2 := (DX.out.keep HV.out).c2; have z3 := (DX.out.keep HV.out).c3)
      | (go_at_call 95; (with_reducible refine (P2.out _ HV.out).mono ?_); rintro e w6 ⟨rfl, hb⟩))
    go_ret
    exact ⟨ret_int HR.out.symm, (DX.out.keep HV.out).below.trans (hb.mono (DX.out.keep HV.out).below.size)⟩
end Go.Proofs.YtbkhngoehoiccaaGreat
namespace Go.Proofs.YtbkhngoehoiccaaGreat
open Go.RowKit
def fateC (D : DeskD) (c : Core) : Int := if c.kind = 1 ∧ c.doc = 0 then ifRight D (findZ2 D.defs c.name.toList c.is.toList) else -1
def fateZ (m : Int) (F : List Core) (n : Int) (D : DeskD) : Int := if thereF m F n then (match getC F n with | some c => fateC D c | none => -1) else -1
set_option maxHeartbeats 1000000 in
set_option maxRecDepth 100000 in
theorem hknows_any (a : Option Addr) (len cap : Nat) (m : Int) (L : List NodeD) (n : Int) (w : World) (h : NodeRow w a len cap L) (hm : In64 m) (hn : In64 n) (hs : smallF L) :
    Calls Tryz.prog 50 #[forV a len cap m, .int .i64 n] w fun e w' => e = .returned (.bool (rootZ m (coreL L) n != -1)) ∧ Below w.heap.size w w' := by
  have BX := Lib.hid (Box.start (m := m) h)
  have CR : Hid (∀ W, NodeRow W a len cap L → Calls Tryz.prog 73 #[forV a len cap m, .int .i64 n] W fun e w' => e = .returned (.int .i64 (rootZ m (coreL L) n)) ∧ Below W.heap.size W w') := Lib.hid (fun W h1 => rootFn_any a len cap m L n W h1 hm hn hs)
  obtain ⟨z, hz⟩ : ∃ z, rootZ m (coreL L) n = z := ⟨_, rfl⟩
  rw [hz] at CR ⊢
  have z0 := BX.out.c0
  have z1 := BX.out.c1
  clear h hm hn hs hz
  go_enter Tryz.func50, Tryz.ntmps50
  go_wp2_with (go_at_call 73; (with_reducible refine (CR.out _ BX.out.row).mono ?_); rintro e w1 ⟨rfl, hb⟩; have HB := Lib.hid (BX.out.below.trans (hb.mono BX.out.below.size)); clear hb)
  go_ret
  exact ⟨rfl, HB.out⟩
theorem knows_there (m : Int) (F : List Core) (n : Int) : (rootZ m F n != -1) = thereF m F n := by
  unfold rootZ
  by_cases h : thereF m F n = true
  · rw [if_pos h, h]
    exact bne_iff_ne.2 (by omega)
  · rw [if_neg h, Bool.eq_false_iff.2 h]
    rfl
end Go.Proofs.YtbkhngoehoiccaaGreat
namespace Go.Proofs.YtbkhngoehoiccaaGreat
open Go.RowKit
theorem keep_one {V W X : World} {p : Addr} {v : Option Value} {R R' : Prop} (lp : p.block < V.heap.size) (hV : V.heap.size ≤ W.heap.size) (hb : Below W.heap.size W X) (hR : R → R') (h : W.cell? p = v ∧ R) : X.cell? p = v ∧ R' :=
  ⟨(hb.cell (Nat.lt_of_lt_of_le lp hV)).trans h.1, hR h.2⟩
theorem kept6 {a0 a1 a2 a3 a4 a5 : Prop} {V W : World} (h : a0 ∧ a1 ∧ a2 ∧ a3 ∧ a4 ∧ a5 ∧ Below V.heap.size V W) : Below V.heap.size V W := h.2.2.2.2.2.2
theorem keep6 {V W X : World} {p0 p1 p2 p3 p4 p5 : Addr} {v0 v1 v2 v3 v4 v5 : Option Value} (l : p0.block < V.heap.size ∧ p1.block < V.heap.size ∧ p2.block < V.heap.size ∧ p3.block < V.heap.size ∧ p4.block < V.heap.size ∧ p5.block < V.heap.size) (h : W.cell? p0 = v0 ∧ W.cell? p1 = v1 ∧ W.cell? p2 = v2 ∧ W.cell? p3 = v3 ∧ W.cell? p4 = v4 ∧ W.cell? p5 = v5 ∧ Below V.heap.size V W) (hb : Below W.heap.size W X) : X.cell? p0 = v0 ∧ X.cell? p1 = v1 ∧ X.cell? p2 = v2 ∧ X.cell? p3 = v3 ∧ X.cell? p4 = v4 ∧ X.cell? p5 = v5 ∧ Below V.heap.size V X := by
  have hs := (kept6 h).size
  exact keep_one (l.1) hs hb (keep_one (l.2.1) hs hb (keep_one (l.2.2.1) hs hb (keep_one (l.2.2.2.1) hs hb (keep_one (l.2.2.2.2.1) hs hb (keep_one (l.2.2.2.2.2) hs hb (fun h => h.trans (hb.mono h.size))))))) h
theorem kept8 {a0 a1 a2 a3 a4 a5 a6 a7 : Prop} {V W : World} (h : a0 ∧ a1 ∧ a2 ∧ a3 ∧ a4 ∧ a5 ∧ a6 ∧ a7 ∧ Below V.heap.size V W) : Below V.heap.size V W := h.2.2.2.2.2.2.2.2
theorem keep8 {V W X : World} {p0 p1 p2 p3 p4 p5 p6 p7 : Addr} {v0 v1 v2 v3 v4 v5 v6 v7 : Option Value} (l : p0.block < V.heap.size ∧ p1.block < V.heap.size ∧ p2.block < V.heap.size ∧ p3.block < V.heap.size ∧ p4.block < V.heap.size ∧ p5.block < V.heap.size ∧ p6.block < V.heap.size ∧ p7.block < V.heap.size) (h : W.cell? p0 = v0 ∧ W.cell? p1 = v1 ∧ W.cell? p2 = v2 ∧ W.cell? p3 = v3 ∧ W.cell? p4 = v4 ∧ W.cell? p5 = v5 ∧ W.cell? p6 = v6 ∧ W.cell? p7 = v7 ∧ Below V.heap.size V W) (hb : Below W.heap.size W X) : X.cell? p0 = v0 ∧ X.cell? p1 = v1 ∧ X.cell? p2 = v2 ∧ X.cell? p3 = v3 ∧ X.cell? p4 = v4 ∧ X.cell? p5 = v5 ∧ X.cell? p6 = v6 ∧ X.cell? p7 = v7 ∧ Below V.heap.size V X := by
  have hs := (kept8 h).size
  exact keep_one (l.1) hs hb (keep_one (l.2.1) hs hb (keep_one (l.2.2.1) hs hb (keep_one (l.2.2.2.1) hs hb (keep_one (l.2.2.2.2.1) hs hb (keep_one (l.2.2.2.2.2.1) hs hb (keep_one (l.2.2.2.2.2.2.1) hs hb (keep_one (l.2.2.2.2.2.2.2) hs hb (fun h => h.trans (hb.mono h.size))))))))) h
theorem kept28 {a0 a1 a2 a3 a4 a5 a6 a7 a8 a9 a10 a11 a12 a13 a14 a15 a16 a17 a18 a19 a20 a21 a22 a23 a24 a25 a26 a27 : Prop} {V W : World} (h : a0 ∧ a1 ∧ a2 ∧ a3 ∧ a4 ∧ a5 ∧ a6 ∧ a7 ∧ a8 ∧ a9 ∧ a10 ∧ a11 ∧ a12 ∧ a13 ∧ a14 ∧ a15 ∧ a16 ∧ a17 ∧ a18 ∧ a19 ∧ a20 ∧ a21 ∧ a22 ∧ a23 ∧ a24 ∧ a25 ∧ a26 ∧ a27 ∧ Below V.heap.size V W) : Below V.heap.size V W := h.2.2.2.2.2.2.2.2.2.2.2.2.2.2.2.2.2.2.2.2.2.2.2.2.2.2.2.2
theorem keep28 {V W X : World} {p0 p1 p2 p3 p4 p5 p6 p7 p8 p9 p10 p11 p12 p13 p14 p15 p16 p17 p18 p19 p20 p21 p22 p23 p24 p25 p26 p27 : Addr} {v0 v1 v2 v3 v4 v5 v6 v7 v8 v9 v10 v11 v12 v13 v14 v15 v16 v17 v18 v19 v20 v21 v22 v23 v24 v25 v26 v27 : Option Value} (l : p0.block < V.heap.size ∧ p1.block < V.heap.size ∧ p2.block < V.heap.size ∧ p3.block < V.heap.size ∧ p4.block < V.heap.size ∧ p5.block < V.heap.size ∧ p6.block < V.heap.size ∧ p7.block < V.heap.size ∧ p8.block < V.heap.size ∧ p9.block < V.heap.size ∧ p10.block < V.heap.size ∧ p11.block < V.heap.size ∧ p12.block < V.heap.size ∧ p13.block < V.heap.size ∧ p14.block < V.heap.size ∧ p15.block < V.heap.size ∧ p16.block < V.heap.size ∧ p17.block < V.heap.size ∧ p18.block < V.heap.size ∧ p19.block < V.heap.size ∧ p20.block < V.heap.size ∧ p21.block < V.heap.size ∧ p22.block < V.heap.size ∧ p23.block < V.heap.size ∧ p24.block < V.heap.size ∧ p25.block < V.heap.size ∧ p26.block < V.heap.size ∧ p27.block < V.heap.size) (h : W.cell? p0 = v0 ∧ W.cell? p1 = v1 ∧ W.cell? p2 = v2 ∧ W.cell? p3 = v3 ∧ W.cell? p4 = v4 ∧ W.cell? p5 = v5 ∧ W.cell? p6 = v6 ∧ W.cell? p7 = v7 ∧ W.cell? p8 = v8 ∧ W.cell? p9 = v9 ∧ W.cell? p10 = v10 ∧ W.cell? p11 = v11 ∧ W.cell? p12 = v12 ∧ W.cell? p13 = v13 ∧ W.cell? p14 = v14 ∧ W.cell? p15 = v15 ∧ W.cell? p16 = v16 ∧ W.cell? p17 = v17 ∧ W.cell? p18 = v18 ∧ W.cell? p19 = v19 ∧ W.cell? p20 = v20 ∧ W.cell? p21 = v21 ∧ W.cell? p22 = v22 ∧ W.cell? p23 = v23 ∧ W.cell? p24 = v24 ∧ W.cell? p25 = v25 ∧ W.cell? p26 = v26 ∧ W.cell? p27 = v27 ∧ Below V.heap.size V W) (hb : Below W.heap.size W X) : X.cell? p0 = v0 ∧ X.cell? p1 = v1 ∧ X.cell? p2 = v2 ∧ X.cell? p3 = v3 ∧ X.cell? p4 = v4 ∧ X.cell? p5 = v5 ∧ X.cell? p6 = v6 ∧ X.cell? p7 = v7 ∧ X.cell? p8 = v8 ∧ X.cell? p9 = v9 ∧ X.cell? p10 = v10 ∧ X.cell? p11 = v11 ∧ X.cell? p12 = v12 ∧ X.cell? p13 = v13 ∧ X.cell? p14 = v14 ∧ X.cell? p15 = v15 ∧ X.cell? p16 = v16 ∧ X.cell? p17 = v17 ∧ X.cell? p18 = v18 ∧ X.cell? p19 = v19 ∧ X.cell? p20 = v20 ∧ X.cell? p21 = v21 ∧ X.cell? p22 = v22 ∧ X.cell? p23 = v23 ∧ X.cell? p24 = v24 ∧ X.cell? p25 = v25 ∧ X.cell? p26 = v26 ∧ X.cell? p27 = v27 ∧ Below V.heap.size V X := by
  have hs := (kept28 h).size
  exact keep_one (l.1) hs hb (keep_one (l.2.1) hs hb (keep_one (l.2.2.1) hs hb (keep_one (l.2.2.2.1) hs hb (keep_one (l.2.2.2.2.1) hs hb (keep_one (l.2.2.2.2.2.1) hs hb (keep_one (l.2.2.2.2.2.2.1) hs hb (keep_one (l.2.2.2.2.2.2.2.1) hs hb (keep_one (l.2.2.2.2.2.2.2.2.1) hs hb (keep_one (l.2.2.2.2.2.2.2.2.2.1) hs hb (keep_one (l.2.2.2.2.2.2.2.2.2.2.1) hs hb (keep_one (l.2.2.2.2.2.2.2.2.2.2.2.1) hs hb (keep_one (l.2.2.2.2.2.2.2.2.2.2.2.2.1) hs hb (keep_one (l.2.2.2.2.2.2.2.2.2.2.2.2.2.1) hs hb (keep_one (l.2.2.2.2.2.2.2.2.2.2.2.2.2.2.1) hs hb (keep_one (l.2.2.2.2.2.2.2.2.2.2.2.2.2.2.2.1) hs hb (keep_one (l.2.2.2.2.2.2.2.2.2.2.2.2.2.2.2.2.1) hs hb (keep_one (l.2.2.2.2.2.2.2.2.2.2.2.2.2.2.2.2.2.1) hs hb (keep_one (l.2.2.2.2.2.2.2.2.2.2.2.2.2.2.2.2.2.2.1) hs hb (keep_one (l.2.2.2.2.2.2.2.2.2.2.2.2.2.2.2.2.2.2.2.1) hs hb (keep_one (l.2.2.2.2.2.2.2.2.2.2.2.2.2.2.2.2.2.2.2.2.1) hs hb (keep_one (l.2.2.2.2.2.2.2.2.2.2.2.2.2.2.2.2.2.2.2.2.2.1) hs hb (keep_one (l.2.2.2.2.2.2.2.2.2.2.2.2.2.2.2.2.2.2.2.2.2.2.1) hs hb (keep_one (l.2.2.2.2.2.2.2.2.2.2.2.2.2.2.2.2.2.2.2.2.2.2.2.1) hs hb (keep_one (l.2.2.2.2.2.2.2.2.2.2.2.2.2.2.2.2.2.2.2.2.2.2.2.2.1) hs hb (keep_one (l.2.2.2.2.2.2.2.2.2.2.2.2.2.2.2.2.2.2.2.2.2.2.2.2.2.1) hs hb (keep_one (l.2.2.2.2.2.2.2.2.2.2.2.2.2.2.2.2.2.2.2.2.2.2.2.2.2.2.1) hs hb (keep_one (l.2.2.2.2.2.2.2.2.2.2.2.2.2.2.2.2.2.2.2.2.2.2.2.2.2.2.2) hs hb (fun h => h.trans (hb.mono h.size))))))))))))))))))))))))))))) h
end Go.Proofs.YtbkhngoehoiccaaGreat
