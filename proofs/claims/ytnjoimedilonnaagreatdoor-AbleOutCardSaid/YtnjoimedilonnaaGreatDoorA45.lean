/- Texts joined in build order: AbleAwake AbleBegin. -/
import Derived.Test.YtnjoimedilonnaaGreatDoorA43
import Derived.Test.YtnjoimedilonnaaGreatDoorA44
import Derived.Test.YtnjoimedilonnaaGreatDoorA04
import Derived.Test.YtnjoimedilonnaaGreatDoorA07
import Derived.Test.YtnjoimedilonnaaGreatDoorA21
namespace Go.Proofs.YtnjoimedilonnaaGreatDoor
open Go.RowKit
def aw14S : BL := [60, 102, 105, 101, 108, 100, 115, 101, 116, 32, 100, 105, 115, 97, 98, 108, 101, 100, 61, 34, 34, 62, 60, 108, 101, 103, 101, 110, 100, 62, 60, 105, 110, 112, 117, 116, 62, 60, 47, 105, 110, 112, 117, 116, 62, 60, 47, 108, 101, 103, 101, 110, 100, 62, 60, 105, 110, 112, 117, 116, 62, 60, 47, 105, 110, 112, 117, 116, 62, 60, 47, 102, 105, 101, 108, 100, 115, 101, 116, 62]
def aw14F : List Core := match readM 0 100 .node aw14S [docC] with | some (_, F) => F | none => []
theorem aw14a : readM 0 100 .node aw14S [docC] = some ([], aw14F) := by decide +kernel
theorem aw14b : rightF 400 aw14F = true ∧ (aw14F.length : Int) ≤ 9 := by decide +kernel
theorem aw14c : legO 9 aw14F 1 = 2 := by decide +kernel
theorem aw14d : barO 9 aw14F 1 = true ∧ barO 9 aw14F 2 = false ∧ barO 9 aw14F 3 = false ∧ barO 9 aw14F 4 = true := by decide +kernel
theorem aw14e : allB 9 aw14F = [1, 4] := by decide +kernel
theorem aw14s {L : List NodeD} (h : coreL L = aw14F) : smallF L := mvSmall h (by decide +kernel)
theorem in14 {z : Int} (h : -100 ≤ z) (h2 : z ≤ 100) : In64 z := ⟨by omega, by omega⟩
theorem lit_two14 (w : World) (e : TypeId) (n m : Int) (h1 : In64 n) (h2 : In64 m) : IntRow (w.alloc (.cells #[.int .i64 n, .int .i64 m] e)) (some ⟨w.heap.size, 0, none⟩) 2 2 [n, m] := by
  have hb := CBox.new w #[.int .i64 n, .int .i64 m] e
  refine ⟨CBox.row (L := [n, m]) (enc := encZ) hb (fun _ => rfl) rfl (by unfold maxLen; omega), fun z hz => ?_, fun h => by cases h⟩
  simp at hz
  rcases hz with rfl | rfl <;> assumption
set_option maxHeartbeats 8000000 in
set_option maxRecDepth 100000 in
theorem awake14_any (w : World) : Calls Tryz.prog 6 #[] w fun e w' => e = .returned (.bool true) ∧ Below w.heap.size w w' := by
  have in9 : In64 9 := in14 (by decide) (by decide)
  have CF : Hid (∀ W, Calls Tryz.prog 19 #[.string ⟨#[60, 102, 105, 101, 108, 100, 115, 101, 116, 32, 100, 105, 115, 97, 98, 108, 101, 100, 61, 34, 34, 62, 60, 108, 101, 103, 101, 110, 100, 62, 60, 105, 110, 112, 117, 116, 62, 60, 47, 105, 110, 112, 117, 116, 62, 60, 47, 108, 101, 103, 101, 110, 100, 62, 60, 105, 110, 112, 117, 116, 62, 60, 47, 105, 110, 112, 117, 116, 62, 60, 47, 102, 105, 101, 108, 100, 115, 101, 116, 62]⟩, .int .i64 9] W (WkFor W 9 aw14F [.int .i64 1, .int .i64 0])) := Lib.hid (fun W => pFresh_ok 9 aw14S aw14F W in9 (by decide) (by decide) (by decide) aw14a aw14b.1 aw14b.2)
  have CL : Hid (∀ W a len cap L, NodeRow W a len cap L → coreL L = aw14F → Calls Tryz.prog 10 #[forV a len cap 9, .int .i64 1] W fun e w' => e = .returned (.int .i64 2) ∧ Below W.heap.size W w') := Lib.hid (fun W a len cap L h hc => by
    have := legO_any a len cap 9 L 1 W h in9 (aw14s hc)
    rwa [hc, aw14c] at this)
  have CB1 : Hid (∀ W a len cap L, NodeRow W a len cap L → coreL L = aw14F → Calls Tryz.prog 12 #[forV a len cap 9, .int .i64 1] W fun e w' => e = .returned (.bool true) ∧ Below W.heap.size W w') := Lib.hid (fun W a len cap L h hc => by
    have := barO_any a len cap 9 L 1 W h in9 (aw14s hc)
    rwa [hc, aw14d.1] at this)
  have CB2 : Hid (∀ W a len cap L, NodeRow W a len cap L → coreL L = aw14F → Calls Tryz.prog 12 #[forV a len cap 9, .int .i64 2] W fun e w' => e = .returned (.bool false) ∧ Below W.heap.size W w') := Lib.hid (fun W a len cap L h hc => by
    have := barO_any a len cap 9 L 2 W h in9 (aw14s hc)
    rwa [hc, aw14d.2.1] at this)
  have CB3 : Hid (∀ W a len cap L, NodeRow W a len cap L → coreL L = aw14F → Calls Tryz.prog 12 #[forV a len cap 9, .int .i64 3] W fun e w' => e = .returned (.bool false) ∧ Below W.heap.size W w') := Lib.hid (fun W a len cap L h hc => by
    have := barO_any a len cap 9 L 3 W h in9 (aw14s hc)
    rwa [hc, aw14d.2.2.1] at this)
  have CB4 : Hid (∀ W a len cap L, NodeRow W a len cap L → coreL L = aw14F → Calls Tryz.prog 12 #[forV a len cap 9, .int .i64 4] W fun e w' => e = .returned (.bool true) ∧ Below W.heap.size W w') := Lib.hid (fun W a len cap L h hc => by
    have := barO_any a len cap 9 L 4 W h in9 (aw14s hc)
    rwa [hc, aw14d.2.2.2] at this)
  have CA : Hid (∀ W a len cap L, NodeRow W a len cap L → coreL L = aw14F → Calls Tryz.prog 17 #[forV a len cap 9] W (OrdNew W [1, 4])) := Lib.hid (fun W a len cap L h hc => by
    have := allB_any a len cap 9 L W h in9 (aw14s hc)
    rwa [hc, aw14e] at this)
  have CT : Hid (∀ W a b c1 c2, IntRow W a 2 c1 [1, 4] → IntRow W b 2 c2 [1, 4] → Calls Tryz.prog 18 #[.slice a 2 c1, .slice b 2 c2] W fun e w' => e = .returned (.bool true) ∧ ∃ n, w' = W.drewN n) := Lib.hid (fun W a b c1 c2 h1 h2 => refints_any a b 2 c1 2 c2 [1, 4] [1, 4] W h1 h2)
  clear in9
  go_enter Tryz.func6, Tryz.ntmps6
  go_upto_region 2 with (go_at_call 19; (with_reducible refine (CF.out _).mono ?_); rintro e w1 ⟨ρ, pw, g, cap, len, M, v, rfl, hWk, hsm, hcm, hb, -⟩; have BF := Lib.hid (MBox.new (m := 9) hb hWk.row hcm).box; clear hWk hsm hcm hb)
  have z0 := BF.out.c0
  have z1 := BF.out.c1
  clear CF
  go_wp2_with (first
    | (go_at_call 10; (with_reducible refine (CL.out _ _ _ _ _ BF.out.row BF.out.core).mono ?_); rintro e w4 ⟨rfl, hb⟩; (have BF := Lib.hid (BF.out.keep hb); clear z0 z1; have z0 := BF.out.c0; have z1 := BF.out.c1); clear hb)
    | (go_at_call 12; (with_reducible refine (CB1.out _ _ _ _ _ BF.out.row BF.out.core).mono ?_); rintro e w4 ⟨rfl, hb⟩; (have BF := Lib.hid (BF.out.keep hb); clear z0 z1; have z0 := BF.out.c0; have z1 := BF.out.c1); clear hb)
    | (go_at_call 12; (with_reducible refine (CB2.out _ _ _ _ _ BF.out.row BF.out.core).mono ?_); rintro e w4 ⟨rfl, hb⟩; (have BF := Lib.hid (BF.out.keep hb); clear z0 z1; have z0 := BF.out.c0; have z1 := BF.out.c1); clear hb)
    | (go_at_call 12; (with_reducible refine (CB3.out _ _ _ _ _ BF.out.row BF.out.core).mono ?_); rintro e w4 ⟨rfl, hb⟩; (have BF := Lib.hid (BF.out.keep hb); clear z0 z1; have z0 := BF.out.c0; have z1 := BF.out.c1); clear hb)
    | (go_at_call 12; (with_reducible refine (CB4.out _ _ _ _ _ BF.out.row BF.out.core).mono ?_); rintro e w4 ⟨rfl, hb⟩; (have BF := Lib.hid (BF.out.keep hb); clear z0 z1; have z0 := BF.out.c0; have z1 := BF.out.c1); clear hb)
    | (go_at_call 17; (with_reducible refine (CA.out _ _ _ _ _ BF.out.row BF.out.core).mono ?_); rintro e w5 ⟨a5, l5, c5, rfl, hr5, hb, -⟩; obtain rfl : 2 = l5 := hr5.hlen; have IR := Lib.hid hr5; (have BF := Lib.hid (BF.out.keep hb); clear z0 z1; have z0 := BF.out.c0; have z1 := BF.out.c1); clear hb hr5)
    | (go_at_call 18; (with_reducible refine (CT.out _ _ _ _ _ (IR.out.below (box_below _ _)) (lit_two14 _ _ _ _ (in14 (by decide) (by decide)) (in14 (by decide) (by decide)))).mono ?_); rintro e w6 ⟨rfl, n6, rfl⟩; have hb := below_drewN (box_below w5 (.cells #[.int .i64 1, .int .i64 4] 3)) n6; (have BF := Lib.hid (BF.out.keep hb); clear z0 z1; have z0 := BF.out.c0; have z1 := BF.out.c1); clear hb))
  go_ret
  exact ⟨rfl, BF.out.below⟩
end Go.Proofs.YtnjoimedilonnaaGreatDoor
namespace Go.Proofs.YtnjoimedilonnaaGreatDoor
open Go.RowKit
theorem get14 {W0 : World} {x : NodeD} (h : NodeOk W0 x) : ∀ W, Below W0.heap.size W0 W →
    Calls Tryz.prog 13 #[.slice x.aA x.aN x.aC, .string ⟨#[100, 105, 115, 97, 98, 108, 101, 100]⟩] W fun e w' => e = .returned (.tuple #[.string (valA x.core.attrs disT), .bool (hasA x.core.attrs disT)]) ∧ Below W.heap.size W w' := fun W hb => by
  have := attrget_any x.aA x.aN x.aC x.core.attrs ⟨#[100, 105, 115, 97, 98, 108, 101, 100]⟩ W (h.attrs.below hb) (by decide)
  rwa [disK] at this
theorem stays14 {W : World} {b o : Nat} {v : Option Value} (h : W.cell? ⟨b, o, none⟩ = v) (hb : b < W.heap.size) : ∀ X, Below W.heap.size W X → X.cell? ⟨b, o, none⟩ = v := fun _ hx => (hx.cell (p := ⟨b, o, none⟩) hb).trans h
end Go.Proofs.YtnjoimedilonnaaGreatDoor
