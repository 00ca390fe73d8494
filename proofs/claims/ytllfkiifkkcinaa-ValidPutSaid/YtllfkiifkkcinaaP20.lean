/- Texts joined in build order: ValidFns ValidAwake ValidAsk ValidMay ValidProof ValidFree. -/
import Derived.Test.YtllfkiifkkcinaaP08
import Derived.Test.YtllfkiifkkcinaaP16
import Derived.Test.YtllfkiifkkcinaaP06
import Derived.Test.YtllfkiifkkcinaaP18
import Derived.Test.YtllfkiifkkcinaaP04
import Derived.Deep.DeepCutAuto
/- What is asked of package valid's functions: their contracts, as one property. -/
namespace Go.Proofs.Ytllfkiifkkcinaa
open Go.RowKit
def kidsK (F : List Core) (p : Int) : List Int := match getC F p with | some x => x.kids | none => []
def parentK (F : List Core) (c : Int) : Int := match getC F c with | some x => x.parent | none => -1
/-- What is put, when a node is. -/
def partsZ (F : List Core) (n : Int) : List Int := match getC F n with | some x => if x.kind = 3 then x.kids else [n] | none => []
def countNe (l : List Int) (g : Int) : Nat := l.countP (fun z => z != g)
/-- Does a Doc take a node, when one goes? -/
def docTakesB (F : List Core) (n p gone : Int) : Bool := !(partsZ F n).any (fun k => kindK F k == 2) && decide (countNe (kidsK F p) gone + (partsZ F n).length ≤ 1)
def inF (F : List Core) (n : Int) : Bool := decide (0 ≤ n) && decide (n < (F.length : Int))
def vknowsB (m : Int) (F : List Core) (n p c : Int) : Bool := inF F n && inF F p && (c == -1 || inF F c) && rightF m F
def refuseE (m : Int) (F : List Core) (n p : Int) (placed : Bool) (gone : Int) : Int :=
  if kindK F p = 2 ∨ overZ m F n p = true then 5
  else if placed = false then 6
  else if kindK F n = 0 ∨ kindK F n = 4 then 5
  else if kindK F p = 0 ∧ docTakesB F n p gone = false then 5
  else 0
def mayZ (m : Int) (F : List Core) (n p c : Int) : Int := if vknowsB m F n p c then refuseE m F n p (c == -1 || parentK F c == p) (-1) else 1
def swapZ (m : Int) (F : List Core) (n p c : Int) : Int := if vknowsB m F n p c then refuseE m F n p (c != -1 && parentK F c == p) c else 1
def beforeZ (m : Int) (F : List Core) (n p c : Int) : Int :=
  if mayZ m F n p c = 0 then (if c = n then (match (kidsK F p)[(placeZ m F n + 1).toNat]? with | some z => z | none => -1) else c) else -1
structure ValidFns : Prop where
  may : ∀ (a : Option Addr) (len cap : Nat) (m : Int) (L : List NodeD) (n p c : Int) (w : World), NodeRow w a len cap L → In64 m → In64 n → In64 p → In64 c → smallF L →
    Calls Try.prog 51 #[forV a len cap m, .int .i64 n, .int .i64 p, .int .i64 c] w fun e w' => e = .returned (.int .i64 (mayZ m (coreL L) n p c)) ∧ Below w.heap.size w w'
  swap : ∀ (a : Option Addr) (len cap : Nat) (m : Int) (L : List NodeD) (n p c : Int) (w : World), NodeRow w a len cap L → In64 m → In64 n → In64 p → In64 c → smallF L →
    Calls Try.prog 54 #[forV a len cap m, .int .i64 n, .int .i64 p, .int .i64 c] w fun e w' => e = .returned (.int .i64 (swapZ m (coreL L) n p c)) ∧ Below w.heap.size w w'
  parts : ∀ (a : Option Addr) (len cap : Nat) (m : Int) (L : List NodeD) (n : Int) (w : World), NodeRow w a len cap L → In64 m → In64 n → smallF L →
    Calls Try.prog 53 #[forV a len cap m, .int .i64 n] w (OrdPost w (partsZ (coreL L) n))
  before : ∀ (a : Option Addr) (len cap : Nat) (m : Int) (L : List NodeD) (n p c : Int) (w : World), NodeRow w a len cap L → In64 m → In64 n → In64 p → In64 c → smallF L →
    Calls Try.prog 74 #[forV a len cap m, .int .i64 n, .int .i64 p, .int .i64 c] w fun e w' => e = .returned (.int .i64 (beforeZ m (coreL L) n p c)) ∧ Below w.heap.size w w'
end Go.Proofs.Ytllfkiifkkcinaa
/- instarlaw05's awake, over the contracts of packages forest, shade and valid. -/
namespace Go.Proofs.Ytllfkiifkkcinaa
open Go.RowKit
def textX : Core := ⟨2, ⟨#[]⟩, ⟨#[]⟩, ⟨#[]⟩, [], 0, [], 0, 0, 0⟩
def textC : Core := ⟨2, ⟨#[]⟩, ⟨#[]⟩, ⟨#[]⟩, [], -1, [], -1, -1, 0⟩
def v3 : List Core := f2 ++ [textC]
theorem va2 : makeE 5 g1 (pC 112) = 0 ∧ makeN 5 g1 (pC 112) = 1 ∧ makeL 5 g1 (pC 112) = f2 := fa2
theorem va3 : makeE 5 f2 textX = 0 ∧ makeN 5 f2 textX = 2 ∧ makeL 5 f2 textX = v3 := by decide +kernel
theorem va4 : mayZ 5 v3 1 0 (-1) = 0 ∧ mayZ 5 v3 2 0 (-1) = 5 ∧ mayZ 5 v3 2 1 0 = 6 ∧ swapZ 5 v3 2 1 (-1) = 6 ∧ partsZ v3 1 = [1] ∧ beforeZ 5 v3 2 1 (-1) = -1 := by decide +kernel
def textD : NodeD := ⟨textX, none, 0, 0, none, 0, 0⟩
theorem textD_ok (w : World) : NodeOk w textD := by
  refine ⟨⟨SRow.nil, (fun z hz => by cases hz), fun _ => rfl⟩, ⟨SRow.nil, (fun z hz => by cases hz), fun _ => rfl⟩, ?_, ?_, ?_, ?_, ?_, ?_, ?_, ?_⟩
  · show 0 ≤ maxLen; decide
  · show 0 ≤ maxLen; decide
  · show 0 ≤ maxLen; decide
  · exact ⟨by show (_ : Int) ≤ 2; decide, by show (2 : Int) ≤ _; decide⟩
  all_goals exact ⟨by show (_ : Int) ≤ 0; decide, by show (0 : Int) ≤ _; decide⟩
theorem textD_small : smallX textD := ⟨Nat.zero_le _, by show 0 ≤ 1000; decide⟩
theorem sv3 {L : List NodeD} (h : coreL L = v3) : smallF L := small_of_core h (by decide) (by intro c hc; have : c = docC ∨ c = ⟨1, ⟨#[112]⟩, ⟨#[]⟩, ⟨#[]⟩, [], -1, [], -1, -1, 0⟩ ∨ c = textC := (by simpa [v3, f2] using hc); rcases this with rfl | rfl | rfl <;> decide)
theorem bv3 {L : List NodeD} (h : coreL L = v3) : ∀ x ∈ L, x.core.kids = [] ∧ x.core.attrs = [] := bare_of_core h (by intro c hc; have : c = docC ∨ c = ⟨1, ⟨#[112]⟩, ⟨#[]⟩, ⟨#[]⟩, [], -1, [], -1, -1, 0⟩ ∨ c = textC := (by simpa [v3, f2] using hc); rcases this with rfl | rfl | rfl <;> exact ⟨rfl, rfl⟩)
abbrev textV : Value := .agg #[.int .i64 2, .string ⟨#[]⟩, .string ⟨#[]⟩, .string ⟨#[]⟩, .slice none 0 0, .int .i64 0, .slice none 0 0, .int .i64 0, .int .i64 0, .int .i64 0]
set_option maxHeartbeats 8000000 in
set_option maxRecDepth 100000 in
theorem awake5_any (F : ForestFns) (V : ValidFns) (w : World) : Calls Try.prog 50 #[] w fun e w' => e = .returned (.bool true) ∧ Below w.heap.size w w' := by
  have inm : In64 (-1) := ⟨by decide, by decide⟩
  have C0 : Hid (∀ W, Calls Try.prog 17 #[.int .i64 5] W (ForPost W g1 5 [.int .i64 0])) := Lib.hid (fun W => by
    have := F.new 5 W in5
    rwa [ga1.1, ga1.2.1, ga1.2.2] at this)
  have C1 : Hid (∀ W a len cap L, NodeRow W a len cap L → coreL L = g1 → Calls Try.prog 18 #[forV a len cap 5, pV 112] W (ForPost W f2 5 [.int .i64 1, .int .i64 0])) := Lib.hid (fun W a len cap L h hc => by
    have := F.make a len cap 5 L (pD 112) W h (pD_ok _ _) in5 (s1 hc) (pD_small _)
    rw [hc, show (pD 112).core = pC 112 from rfl, va2.1, va2.2.1, va2.2.2] at this
    exact this)
  have C2 : Hid (∀ W a len cap L, NodeRow W a len cap L → coreL L = f2 → Calls Try.prog 18 #[forV a len cap 5, textV] W (ForPost W v3 5 [.int .i64 2, .int .i64 0])) := Lib.hid (fun W a len cap L h hc => by
    have := F.make a len cap 5 L textD W h (textD_ok _) in5 (small2 hc) textD_small
    rw [hc, show textD.core = textX from rfl, va3.1, va3.2.1, va3.2.2] at this
    exact this)
  have C3 : Hid (∀ W a len cap L, NodeRow W a len cap L → coreL L = v3 → Calls Try.prog 51 #[forV a len cap 5, .int .i64 1, .int .i64 0, .int .i64 (-1)] W fun e w' => e = .returned (.int .i64 0) ∧ Below W.heap.size W w') := Lib.hid (fun W a len cap L h hc => by
    have := V.may a len cap 5 L 1 0 (-1) W h in5 in1 in0 inm (sv3 hc)
    rwa [hc, va4.1] at this)
  have C4 : Hid (∀ W a len cap L, NodeRow W a len cap L → coreL L = v3 → Calls Try.prog 51 #[forV a len cap 5, .int .i64 2, .int .i64 0, .int .i64 (-1)] W fun e w' => e = .returned (.int .i64 5) ∧ Below W.heap.size W w') := Lib.hid (fun W a len cap L h hc => by
    have := V.may a len cap 5 L 2 0 (-1) W h in5 in2 in0 inm (sv3 hc)
    rwa [hc, va4.2.1] at this)
  have C5 : Hid (∀ W a len cap L, NodeRow W a len cap L → coreL L = v3 → Calls Try.prog 51 #[forV a len cap 5, .int .i64 2, .int .i64 1, .int .i64 0] W fun e w' => e = .returned (.int .i64 6) ∧ Below W.heap.size W w') := Lib.hid (fun W a len cap L h hc => by
    have := V.may a len cap 5 L 2 1 0 W h in5 in2 in1 in0 (sv3 hc)
    rwa [hc, va4.2.2.1] at this)
  have C6 : Hid (∀ W a len cap L, NodeRow W a len cap L → coreL L = v3 → Calls Try.prog 54 #[forV a len cap 5, .int .i64 2, .int .i64 1, .int .i64 (-1)] W fun e w' => e = .returned (.int .i64 6) ∧ Below W.heap.size W w') := Lib.hid (fun W a len cap L h hc => by
    have := V.swap a len cap 5 L 2 1 (-1) W h in5 in2 in1 inm (sv3 hc)
    rwa [hc, va4.2.2.2.1] at this)
  have C7 : Hid (∀ W a len cap L, NodeRow W a len cap L → coreL L = v3 → Calls Try.prog 53 #[forV a len cap 5, .int .i64 1] W (OrdPost W [1])) := Lib.hid (fun W a len cap L h hc => by
    have := V.parts a len cap 5 L 1 W h in5 in1 (sv3 hc)
    rwa [hc, va4.2.2.2.2.1] at this)
  have C8 : Hid (∀ W a len cap L, NodeRow W a len cap L → coreL L = v3 → Calls Try.prog 74 #[forV a len cap 5, .int .i64 2, .int .i64 1, .int .i64 (-1)] W fun e w' => e = .returned (.int .i64 (-1)) ∧ Below W.heap.size W w') := Lib.hid (fun W a len cap L h hc => by
    have := V.before a len cap 5 L 2 1 (-1) W h in5 in2 in1 inm (sv3 hc)
    rwa [hc, va4.2.2.2.2.2] at this)
  clear F V inm
  go_enter Try.func50, Try.ntmps50
  go_wp2_with (first
    | (go_at_call 17; refine (C0.out _).mono ?_; rintro e w1 ⟨a1, len1, cap1, L1, rfl, hr1, hc1, hb1⟩; have BX := Lib.hid (FBox.new (m := 5) hb1 hr1 hc1); (have z0 := BX.out.box.c0; have z1 := BX.out.box.c1; have xf0 := BX.out.free 0; have xf1 := BX.out.free 1); clear hr1 hc1 hb1)
    | (go_at_call 18; ((with_reducible refine (C1.out _ _ _ _ _ BX.out.box.row BX.out.box.core).mono ?_); rintro e w2 ⟨a2, len2, cap2, L2, rfl, hr2, hc2, hb2⟩)
       have BX := Lib.hid (BX.out.keep hb2)
       (have z0 := BX.out.box.c0; have z1 := BX.out.box.c1; have xf0 := BX.out.free 0; have xf1 := BX.out.free 1)
       have BN := Lib.hid (BX.out.set (m2 := 5) hr2 hc2 (bare2 hc2))
       clear hr2 hc2 hb2)
    | (go_at_call 18; ((with_reducible refine (C2.out _ _ _ _ _ BN.out.box.row BN.out.box.core).mono ?_); rintro e w3 ⟨a3, len3, cap3, L3, rfl, hr3, hc3, hb3⟩)
       have BX := Lib.hid (BN.out.keep hb3)
       clear z0 z1 xf0 xf1
       (have z0 := BX.out.box.c0; have z1 := BX.out.box.c1; have xf0 := BX.out.free 0; have xf1 := BX.out.free 1)
       have BM := Lib.hid (BX.out.set (m2 := 5) hr3 hc3 (bv3 hc3))
       clear hr3 hc3 hb3)
    | (go_at_call 51; ((with_reducible refine (C3.out _ _ _ _ _ BM.out.box.row BM.out.box.core).mono ?_); rintro e w4 ⟨rfl, hb4⟩); have BX := Lib.hid (BM.out.keep hb4); clear z0 z1 xf0 xf1; (have z0 := BX.out.box.c0; have z1 := BX.out.box.c1; have xf0 := BX.out.free 0; have xf1 := BX.out.free 1); clear hb4)
    | (go_at_call 51; ((with_reducible refine (C4.out _ _ _ _ _ BX.out.box.row BX.out.box.core).mono ?_); rintro e w5 ⟨rfl, hb5⟩); have BX := Lib.hid (BX.out.keep hb5); clear z0 z1 xf0 xf1; (have z0 := BX.out.box.c0; have z1 := BX.out.box.c1; have xf0 := BX.out.free 0; have xf1 := BX.out.free 1); clear hb5)
    | (go_at_call 51; ((with_reducible refine (C5.out _ _ _ _ _ BX.out.box.row BX.out.box.core).mono ?_); rintro e w6 ⟨rfl, hb6⟩); have BX := Lib.hid (BX.out.keep hb6); clear z0 z1 xf0 xf1; (have z0 := BX.out.box.c0; have z1 := BX.out.box.c1; have xf0 := BX.out.free 0; have xf1 := BX.out.free 1); clear hb6)
    | (go_at_call 54; ((with_reducible refine (C6.out _ _ _ _ _ BX.out.box.row BX.out.box.core).mono ?_); rintro e w7 ⟨rfl, hb7⟩); have BX := Lib.hid (BX.out.keep hb7); clear z0 z1 xf0 xf1; (have z0 := BX.out.box.c0; have z1 := BX.out.box.c1; have xf0 := BX.out.free 0; have xf1 := BX.out.free 1); clear hb7)
    | (go_at_call 53; ((with_reducible refine (C7.out _ _ _ _ _ BX.out.box.row BX.out.box.core).mono ?_); rintro e w8 ⟨a8, len8, cap8, rfl, hr8, hb8⟩)
       have BX := Lib.hid (BX.out.keep hb8)
       clear z0 z1 xf0 xf1
       (have z0 := BX.out.box.c0; have z1 := BX.out.box.c1; have xf0 := BX.out.free 0; have xf1 := BX.out.free 1)
       obtain rfl : 1 = len8 := hr8.hlen
       clear hr8 hb8)
    | (go_at_call 74; ((with_reducible refine (C8.out _ _ _ _ _ BX.out.box.row BX.out.box.core).mono ?_); rintro e w9 ⟨rfl, hb9⟩); have BX := Lib.hid (BX.out.keep hb9); clear z0 z1 xf0 xf1; (have z0 := BX.out.box.c0; have z1 := BX.out.box.c1; have xf0 := BX.out.free 0; have xf1 := BX.out.free 1); clear hb9))
  go_ret
  exact ⟨rfl, BX.out.box.below⟩
end Go.Proofs.Ytllfkiifkkcinaa
/- Package valid's has, knows, Parts. -/
namespace Go.Proofs.Ytllfkiifkkcinaa
open Go.RowKit
theorem inF_nat {F : List Core} {n : Int} (h : inF F n = true) : ∃ k : Nat, n = k ∧ k < F.length := by
  unfold inF at h
  rw [Bool.and_eq_true, decide_eq_true_eq, decide_eq_true_eq] at h
  exact ⟨n.toNat, by omega, by omega⟩
set_option maxHeartbeats 4000000 in
set_option maxRecDepth 100000 in
theorem vhas_any (a : Option Addr) (len cap : Nat) (m : Int) (L : List NodeD) (n : Int) (w : World) (h : NodeRow w a len cap L) (hn : In64 n) :
    Calls Try.prog 77 #[forV a len cap m, .int .i64 n] w fun e w' => e = .returned (.bool (inF (coreL L) n)) ∧ Below w.heap.size w w' := by
  have HCL : Hid ((coreL L).length = len) := Lib.hid (by rw [coreL_len, h.hlen])
  have hlen := h.len64
  have BX := Lib.hid (Box.start (m := m) h)
  have z0 := BX.out.c0
  have z1 := BX.out.c1
  obtain ⟨hn1, hn2⟩ := hn
  clear h
  by_cases h0 : 0 ≤ n
  · by_cases h1 : n < (len : Int)
    · have HR : Hid (inF (coreL L) n = true) := Lib.hid (by unfold inF; rw [HCL.out, decide_eq_true h0, decide_eq_true h1]; rfl)
      go_enter Try.func77, Try.ntmps77
      go_wp2
      go_ret
      exact ⟨ret_bool HR.out.symm, BX.out.below⟩
    · have HR : Hid (inF (coreL L) n = false) := Lib.hid (by unfold inF; rw [HCL.out, decide_eq_false h1, Bool.and_false])
      go_enter Try.func77, Try.ntmps77
      go_wp2
      go_ret
      exact ⟨ret_bool HR.out.symm, BX.out.below⟩
  · have HR : Hid (inF (coreL L) n = false) := Lib.hid (by unfold inF; rw [decide_eq_false h0, Bool.false_and])
    go_enter Try.func77, Try.ntmps77
    go_wp2
    go_ret
    exact ⟨ret_bool HR.out.symm, BX.out.below⟩
set_option maxHeartbeats 4000000 in
set_option maxRecDepth 100000 in
theorem vknows_any (a : Option Addr) (len cap : Nat) (m : Int) (L : List NodeD) (n p c : Int) (w : World) (h : NodeRow w a len cap L) (hm : In64 m) (hn : In64 n) (hp : In64 p) (hc : In64 c) (hs : smallF L) :
    Calls Try.prog 75 #[forV a len cap m, .int .i64 n, .int .i64 p, .int .i64 c] w fun e w' => e = .returned (.bool (vknowsB m (coreL L) n p c)) ∧ Below w.heap.size w w' := by
  have BX := Lib.hid (Box.start (m := m) h)
  have z0 := BX.out.c0
  have z1 := BX.out.c1
  have HF : Hid (∀ W k b, NodeRow W a len cap L → In64 k → inF (coreL L) k = b → Calls Try.prog 77 #[forV a len cap m, .int .i64 k] W fun e w' => e = .returned (.bool b) ∧ Below W.heap.size W w') := Lib.hid (fun W k b h1 h2 h3 => by
    rw [← h3]
    exact vhas_any a len cap m L k W h1 h2)
  have CR : Hid (∀ W b, NodeRow W a len cap L → rightF m (coreL L) = b → Calls Try.prog 19 #[forV a len cap m] W fun e w' => e = .returned (.bool b) ∧ Below W.heap.size W w') := Lib.hid (fun W b h h1 => by
    rw [← h1]
    exact rightF_any a len cap m L W h hm hs)
  have HN := Lib.hid hn
  have HP := Lib.hid hp
  have HC := Lib.hid hc
  clear h hm hs hn hp hc
  obtain ⟨R, hR⟩ : ∃ R, rightF m (coreL L) = R := ⟨_, rfl⟩
  have HRR := Lib.hid hR
  obtain ⟨V, hV⟩ : ∃ V, vknowsB m (coreL L) n p c = V := ⟨_, rfl⟩
  have HV := Lib.hid hV
  have hV2 := hV
  unfold vknowsB at hV2
  rw [hR] at hV2
  rw [hV]
  clear hR hV
  cases q1 : inF (coreL L) n
  all_goals cases q2 : inF (coreL L) p
  all_goals by_cases q3 : c = -1
  all_goals first | (have q4 : (c == -1) = true := beq_iff_eq.2 q3) | (have q4 : (c == -1) = false := beq_eq_false_iff_ne.2 q3; cases q5 : inF (coreL L) c)
  all_goals cases R
  all_goals
    rw [q1, q2, q4] at hV2
    try rw [q5] at hV2
    obtain rfl := hV2
    clear q3
    have HQ1 := Lib.hid q1
    have HQ2 := Lib.hid q2
    first | (have HQ5 := Lib.hid q5; clear q5) | skip
    clear q1 q2
    go_enter Try.func75, Try.ntmps75
    go_wp2_with (first
      | (go_at_call 77; ((with_reducible refine (HF.out _ _ _ BX.out.row HN.out HQ1.out).mono ?_)); rintro e w1 ⟨rfl, hb⟩; have BX := Lib.hid (BX.out.keep hb); have z0 := BX.out.c0; have z1 := BX.out.c1; clear hb)
      | (go_at_call 77; ((with_reducible refine (HF.out _ _ _ BX.out.row HP.out HQ2.out).mono ?_)); rintro e w1 ⟨rfl, hb⟩; have BX := Lib.hid (BX.out.keep hb); have z0 := BX.out.c0; have z1 := BX.out.c1; clear hb)
      | (go_at_call 77; ((with_reducible refine (HF.out _ _ _ BX.out.row HC.out HQ5.out).mono ?_)); rintro e w1 ⟨rfl, hb⟩; have BX := Lib.hid (BX.out.keep hb); have z0 := BX.out.c0; have z1 := BX.out.c1; clear hb)
      | (go_at_call 19; ((with_reducible refine (CR.out _ _ BX.out.row HRR.out).mono ?_)); rintro e w1 ⟨rfl, hb⟩; have BX := Lib.hid (BX.out.keep hb); clear hb))
    go_ret
    exact ⟨rfl, BX.out.below⟩
set_option maxHeartbeats 4000000 in
set_option maxRecDepth 100000 in
theorem vparts_any (a : Option Addr) (len cap : Nat) (m : Int) (L : List NodeD) (n : Int) (w : World) (h : NodeRow w a len cap L) (hn : In64 n) (hs : smallF L) :
    Calls Try.prog 53 #[forV a len cap m, .int .i64 n] w (OrdPost w (partsZ (coreL L) n)) := by
  have HCL : Hid ((coreL L).length = len) := Lib.hid (by rw [coreL_len, h.hlen])
  have hlen := h.len64
  have BX := Lib.hid (Box.start (m := m) h)
  have HF : Hid (∀ W b, NodeRow W a len cap L → inF (coreL L) n = b → Calls Try.prog 77 #[forV a len cap m, .int .i64 n] W fun e w' => e = .returned (.bool b) ∧ Below W.heap.size W w') := Lib.hid (fun W b h1 h3 => by
    rw [← h3]
    exact vhas_any a len cap m L n W h1 hn)
  have HS := Lib.hid hs
  have HN := Lib.hid hn
  have HH := Lib.hid h
  clear h hs hn
  cases q : inF (coreL L) n with
  | false =>
    have HQ := Lib.hid q
    have HP : Hid (partsZ (coreL L) n = []) := Lib.hid (by
      unfold partsZ getC
      unfold inF at q
      by_cases h0 : 0 ≤ n
      · rw [decide_eq_true h0, Bool.true_and, decide_eq_false_iff_not] at q
        rw [if_pos h0, List.getElem?_eq_none (by omega)]
      · rw [if_neg h0])
    clear q
    have z0 := BX.out.c0
    have z1 := BX.out.c1
    go_enter Try.func53, Try.ntmps53
    go_wp2_with (go_at_call 77; (refine (HF.out _ _ BX.out.row HQ.out).mono ?_); rintro e w1 ⟨rfl, hb⟩; have BX := Lib.hid (BX.out.keep hb); have z0 := BX.out.c0; have z1 := BX.out.c1; clear hb)
    go_ret
    exact ⟨none, 0, 0, rfl, by rw [HP.out]; exact ⟨SRow.nil, by simp, fun _ => rfl⟩, BX.out.below⟩
  | true =>
    have HQ := Lib.hid q
    obtain ⟨k, rfl, hk⟩ := inF_nat q
    rw [HCL.out] at hk
    clear q
    obtain ⟨b, off, x, rfl, hb, hx, hat, hok⟩ := HH.out.get hk
    have hxc := coreL_get hx
    have C0 := Lib.hid (stays hat.c0 hb)
    have C6 := Lib.hid (stays hat.c6 hb)
    have NK := Lib.hid hok
    by_cases h3 : x.core.kind = 3
    · have HP : Hid (partsZ (coreL L) k = x.core.kids) := Lib.hid (by unfold partsZ; rw [getC_nat, hxc]; dsimp only; rw [if_pos h3])
      have hk3 : (x.core.kind == 3) = true := beq_iff_eq.2 h3
      have HKL : Hid (x.core.kids.length ≤ 1000) := Lib.hid (HS.out.2 x (List.mem_of_getElem? hx)).1
      have IN : Hid (∀ z ∈ x.core.kids, In64 z) := Lib.hid NK.out.kids.inb
      have CC : Hid (∀ W, Below w.heap.size w W → Calls Try.prog 78 #[.slice x.kA x.kN x.kC] W (OwnPostI W x.core.kids)) := Lib.hid (fun W hb => cloneI_any x.kA x.kN x.kC x.core.kids W (NK.out.kids.below hb) (by have h1 := HKL.out; have h2 := NK.out.kids.hlen; omega))
      clear hat hok hx hxc hb h3
      have z0 := BX.out.c0
      have z1 := BX.out.c1
      go_enter Try.func53, Try.ntmps53
      go_wp2_with (first
        | (go_at_call 77; ((with_reducible refine (HF.out _ _ BX.out.row HQ.out).mono ?_); rintro e w1 ⟨rfl, hb⟩; have BX := Lib.hid (BX.out.keep hb); have z0 := BX.out.c0; have z1 := BX.out.c1; clear hb; have c0 := C0.out _ BX.out.below; have c6 := C6.out _ BX.out.below))
        | (go_at_call 78; ((with_reducible refine (CC.out _ BX.out.below).mono ?_)); intro e w2 hp; obtain ⟨a2, cap2, rfl, hr2, -, hb2⟩ := OwnPostI.row hp IN.out; have BX := Lib.hid (BX.out.keep hb2); have HR2 := Lib.hid hr2; clear hp hr2 hb2))
      go_ret
      exact ⟨a2, _, cap2, rfl, by rw [HP.out]; exact HR2.out, BX.out.below⟩
    · have HP : Hid (partsZ (coreL L) k = [(k : Int)]) := Lib.hid (by unfold partsZ; rw [getC_nat, hxc]; dsimp only; rw [if_neg h3])
      have hk3 : (x.core.kind == 3) = false := beq_eq_false_iff_ne.2 h3
      clear hat hok hx hxc hb h3
      have z0 := BX.out.c0
      have z1 := BX.out.c1
      go_enter Try.func53, Try.ntmps53
      go_wp2_with (go_at_call 77; ((with_reducible refine (HF.out _ _ BX.out.row HQ.out).mono ?_); rintro e w1 ⟨rfl, hb⟩; have BX := Lib.hid (BX.out.keep hb); have z0 := BX.out.c0; have z1 := BX.out.c1; clear hb; have c0 := C0.out _ BX.out.below; have c6 := C6.out _ BX.out.below))
      go_ret
      exact ⟨_, 1, 1, rfl, by rw [HP.out]; exact lit_one _ _ _ HN.out, BX.out.below.trans ((below_box _ _).mono BX.out.below.size)⟩
end Go.Proofs.Ytllfkiifkkcinaa
/- Package valid's docTakes, refusal, May, Swap. -/
namespace Go.Proofs.Ytllfkiifkkcinaa
open Go.RowKit
theorem parts_in {m : Int} {F : List Core} (h : rightF m F = true) {n : Nat} (hn : n < F.length) {z : Int} (hz : z ∈ partsZ F n) : ∃ k : Nat, z = k ∧ k < F.length := by
  have hx : F[n]? = some F[n] := List.getElem?_eq_getElem hn
  unfold partsZ at hz
  rw [getC_nat, hx] at hz
  dsimp only at hz
  split at hz
  · have h1 := (nodeOk_iff.1 (((rightF_iff m F).1 h).2.1 n _ hx)).2.2.1 z hz
    unfold kidOk at h1
    rw [Bool.and_eq_true] at h1
    cases hg : getC F z with
    | none => rw [hg] at h1; simp at h1
    | some c =>
      obtain ⟨e1, e2, _⟩ := getC_some hg
      exact ⟨z.toNat, by omega, e2⟩
  · rw [List.mem_singleton] at hz
    exact ⟨n, hz, hn⟩
theorem countNe_step {l : List Int} {g z : Int} {k : Nat} (h : l[k]? = some z) : countNe (l.take (k + 1)) g = countNe (l.take k) g + if z != g then 1 else 0 := by
  obtain ⟨hl, hg⟩ := List.getElem?_eq_some_iff.1 h
  unfold countNe
  rw [List.take_succ_eq_append_getElem hl, hg, List.countP_append]
  simp [List.countP_cons]
theorem countNe_le (l : List Int) (g : Int) : countNe l g ≤ l.length := List.countP_le_length
set_option maxHeartbeats 4000000 in
set_option maxRecDepth 100000 in
theorem vdoc_any (a : Option Addr) (len cap : Nat) (m : Int) (L : List NodeD) (n p : Nat) (gone : Int) (w : World) (h : NodeRow w a len cap L) (hg : In64 gone) (hs : smallF L) (hr : rightF m (coreL L) = true) (hn : n < len) (hp : p < len) :
    Calls Try.prog 91 #[forV a len cap m, .int .i64 n, .int .i64 p, .int .i64 gone] w fun e w' => e = .returned (.bool (docTakesB (coreL L) n p gone)) ∧ Below w.heap.size w w' := by
  have HCL : Hid ((coreL L).length = len) := Lib.hid (by rw [coreL_len, h.hlen])
  have hlen := h.len64
  have BX := Lib.hid (Box.start (m := m) h)
  have hnn : n < (coreL L).length := by rw [HCL.out]; exact hn
  have PI := Lib.hid (fun z hz => parts_in hr hnn (z := z) hz)
  obtain ⟨P, hP⟩ : ∃ P, partsZ (coreL L) n = P := ⟨_, rfl⟩
  rw [hP] at PI
  have CP : Hid (∀ W, NodeRow W a len cap L → Calls Try.prog 53 #[forV a len cap m, .int .i64 n] W (OrdPost W P)) := Lib.hid (fun W h => by
    rw [← hP]
    exact vparts_any a len cap m L n W h ⟨by omega, by omega⟩ hs)
  have HP := Lib.hid hP
  have HPL : Hid (P.length ≤ 1000) := Lib.hid (by
    obtain ⟨b, off, x, -, -, hx, -⟩ := h.get hn
    rw [← hP]
    unfold partsZ
    rw [getC_nat, coreL_get hx]
    dsimp only
    split
    · exact (hs.2 x (List.mem_of_getElem? hx)).1
    · simp)
  obtain ⟨b, off, x, rfl, hb, hx, hat, hok⟩ := h.get hp
  have hxc := coreL_get hx
  have HK : Hid (kidsK (coreL L) p = x.core.kids) := Lib.hid (by unfold kidsK; rw [getC_nat, hxc])
  have HKL : Hid (x.core.kids.length ≤ 1000) := Lib.hid (hs.2 x (List.mem_of_getElem? hx)).1
  have KR := Lib.hid (hok.kids.below (below_box w (forB (some ⟨b, off, none⟩) len cap m)))
  have c6 := (below_box w (forB (some ⟨b, off, none⟩) len cap m)).cell (p := ⟨b, off + p * 10 + 6, none⟩) hb
  rw [hat.c6] at c6
  have hk64 := KR.out.len64
  obtain ⟨hg1, hg2⟩ := hg
  have z0 := BX.out.c0
  have z1 := BX.out.c1
  clear h hs hr hnn hx hat hok hxc hP
  go_enter Try.func91, Try.ntmps91
  go_wp2
  go_loop [9, 21] (fun e i => ∃ k : Nat, k ≤ x.kN ∧ i = .int .i64 k ∧ e = .int .i64 (countNe (x.core.kids.take k) gone : Nat)) (fun _ i => x.kN - (intOf i).toNat)
  case atStart => exact ⟨0, Nat.zero_le _, rfl, rfl⟩
  case round =>
    obtain ⟨k, hk, rfl, rfl⟩ := hrel
    have hle : countNe (x.core.kids.take k) gone ≤ 1000 := Nat.le_trans (countNe_le _ _) (Nat.le_trans (List.length_take_le' _ _) HKL.out)
    obtain ⟨q, hq⟩ : ∃ q, countNe (x.core.kids.take k) gone = q := ⟨_, rfl⟩
    rw [hq] at hle ⊢
    by_cases hlt : k < x.kN
    · obtain ⟨bk, ok, z, hka, hbk, hz, hcz, hin⟩ := KR.out.get hlt
      have HST := Lib.hid (countNe_step (g := gone) hz)
      have HQ := Lib.hid hq
      rw [hka] at c6 ⊢
      obtain ⟨hz1, hz2⟩ := hin
      clear hz hq
      by_cases he : z = gone
      · have e1 : (z != gone) = false := by rw [he]; simp
        have HE : Hid (countNe (x.core.kids.take (k + 1)) gone = q) := Lib.hid (by rw [HST.out, HQ.out, e1]; rfl)
        clear he
        go_wp2
        go_round
        case rel => exact ⟨k + 1, by omega, by go_num, by rw [HE.out]⟩
        case measure => simp [intOf]; omega
      · have e1 : (z != gone) = true := bne_iff_ne.2 he
        have HE : Hid (countNe (x.core.kids.take (k + 1)) gone = q + 1) := Lib.hid (by rw [HST.out, HQ.out, e1]; rfl)
        clear he
        go_wp2
        go_round
        case rel => exact ⟨k + 1, by omega, by go_num, by rw [HE.out]; go_num⟩
        case measure => simp [intOf]; omega
    · have HC : Hid (countNe (kidsK (coreL L) p) gone = q) := Lib.hid (by rw [HK.out, ← hq, List.take_of_length_le (by have := KR.out.hlen; omega)])
      clear hq
      go_wp2_with (go_at_call 53; ((with_reducible refine (CP.out _ BX.out.row).mono ?_); rintro e w1 ⟨ao, lo, co, rfl, hro, hb⟩; have BX := Lib.hid (BX.out.keep hb); have IR := Lib.hid hro; have z0 := BX.out.c0; have z1 := BX.out.c1; clear hb hro))
      have hl64 := IR.out.len64
      have hl1k : lo ≤ 1000 := by rw [← IR.out.hlen]; exact HPL.out
      go_loopw [9, 35] (fun e i wr => ∃ k : Nat, k ≤ lo ∧ i = .int .i64 k ∧ e = .int .i64 ((q : Int) + k) ∧ Hid (∀ (j : Nat) z, j < k → P[j]? = some z → kindK (coreL L) z ≠ 2) ∧ wr = w1) (fun _ i _ => lo - (intOf i).toNat)
      case atStart => exact ⟨0, Nat.zero_le _, rfl, by simp, Lib.hid (fun j z hj => absurd hj (by omega)), rfl⟩
      case round =>
        obtain ⟨k2, hk2, rfl, rfl, HA, rfl⟩ := hrel
        by_cases hlt : k2 < lo
        · obtain ⟨bk, ok, z, rfl, hbk, hz, hcz, hin⟩ := IR.out.get hlt
          obtain ⟨r, rfl, hrl⟩ := PI.out z (List.mem_of_getElem? hz)
          rw [HCL.out] at hrl
          obtain ⟨br, offr, xr, hab, hbr, hxr, hatr, -⟩ := BX.out.row.get hrl
          obtain ⟨rfl, rfl⟩ : b = br ∧ off = offr := by injection hab with h1; injection h1 with h2 h3; exact ⟨h2, h3⟩
          have HKD : Hid (kindK (coreL L) (r : Int) = xr.core.kind) := Lib.hid (by unfold kindK; rw [getC_nat, coreL_get hxr])
          have c0 := hatr.c0
          have HZ := Lib.hid hz
          clear hz hxr hatr hab
          by_cases hk2 : xr.core.kind = 2
          · have e1 : (xr.core.kind == 2) = true := beq_iff_eq.2 hk2
            have HR : Hid (docTakesB (coreL L) n p gone = false) := Lib.hid (by
              unfold docTakesB
              rw [HP.out, show P.any (fun k => kindK (coreL L) k == 2) = true from List.any_eq_true.2 ⟨_, List.mem_of_getElem? HZ.out, by rw [HKD.out, hk2]; rfl⟩]
              rfl)
            clear hk2
            go_wp2
            go_ret
            exact ⟨ret_bool HR.out.symm, BX.out.below⟩
          · have e1 : (xr.core.kind == 2) = false := beq_eq_false_iff_ne.2 hk2
            have HA2 : Hid (∀ (j : Nat) z, j < k2 + 1 → P[j]? = some z → kindK (coreL L) z ≠ 2) := Lib.hid (fun j z hj hz => by
              by_cases e : j = k2
              · rw [e, HZ.out] at hz
                rw [← Option.some.inj hz, HKD.out]
                exact hk2
              · exact HA.out j z (by omega) hz)
            clear hk2
            go_wp2
            go_roundw
            case rel => exact ⟨k2 + 1, by omega, by go_num, by go_num, HA2, by first | trivial | rfl⟩
            case measure => simp [intOf]; omega
        · have hkk : k2 = lo := by omega
          subst hkk
          have HR : Hid (docTakesB (coreL L) n p gone = decide ((q : Int) + (k2 : Int) ≤ 1)) := Lib.hid (by
            unfold docTakesB
            rw [HP.out, HC.out, IR.out.hlen]
            have : P.any (fun k => kindK (coreL L) k == 2) = false := by
              rw [List.any_eq_false]
              intro z hz
              obtain ⟨j, hj, he⟩ := List.mem_iff_getElem.1 hz
              have := HA.out j z (by rw [IR.out.hlen] at hj; exact hj) (by rw [List.getElem?_eq_getElem hj, he])
              simpa using this
            rw [this, Bool.not_false, Bool.true_and]
            exact decide_eq_decide.2 (by omega))
          go_wp2
          go_ret
          exact ⟨ret_bool HR.out.symm, BX.out.below⟩
theorem kindK_get {L : List NodeD} {k : Nat} {x : NodeD} (hx : L[k]? = some x) : kindK (coreL L) (k : Int) = x.core.kind := by unfold kindK; rw [getC_nat, coreL_get hx]
theorem parentK_get {L : List NodeD} {k : Nat} {x : NodeD} (hx : L[k]? = some x) : parentK (coreL L) (k : Int) = x.core.parent := by unfold parentK; rw [getC_nat, coreL_get hx]
theorem in_nat64 {k len : Nat} (h : k < len) (hl : len ≤ 9223372036854775807) : In64 (k : Int) := ⟨by omega, by omega⟩
set_option maxHeartbeats 4000000 in
set_option maxRecDepth 100000 in
theorem vrefuse_any (a : Option Addr) (len cap : Nat) (m : Int) (L : List NodeD) (n p : Nat) (placed : Bool) (gone : Int) (w : World) (h : NodeRow w a len cap L) (hm : In64 m) (hg : In64 gone) (hs : smallF L) (hr : rightF m (coreL L) = true) (hn : n < len) (hp : p < len) :
    Calls Try.prog 76 #[forV a len cap m, .int .i64 n, .int .i64 p, .bool placed, .int .i64 gone] w fun e w' => e = .returned (.int .i64 (refuseE m (coreL L) n p placed gone)) ∧ Below w.heap.size w w' := by
  have hlen := h.len64
  have BX := Lib.hid (Box.start (m := m) h)
  have GO : Hid (∀ W b, NodeRow W a len cap L → overZ m (coreL L) n p = b → Calls Try.prog 43 #[forV a len cap m, .int .i64 n, .int .i64 p] W fun e w' => e = .returned (.bool b) ∧ Below W.heap.size W w') := Lib.hid (fun W b h1 h2 => by
    rw [← h2]
    exact overFn_any a len cap m L n p W h1 hm (in_nat64 hn hlen) (in_nat64 hp hlen) hs)
  have GD : Hid (∀ W b, NodeRow W a len cap L → docTakesB (coreL L) n p gone = b → Calls Try.prog 91 #[forV a len cap m, .int .i64 n, .int .i64 p, .int .i64 gone] W fun e w' => e = .returned (.bool b) ∧ Below W.heap.size W w') := Lib.hid (fun W b h1 h2 => by
    rw [← h2]
    exact vdoc_any a len cap m L n p gone W h1 hg hs hr hn hp)
  obtain ⟨b, off, x, rfl, hb, hx, hat, hok⟩ := h.get hn
  obtain ⟨b2, off2, y, hab, hb2, hy, hat2, hok2⟩ := h.get hp
  obtain ⟨rfl, rfl⟩ : b = b2 ∧ off = off2 := by injection hab with h1; injection h1 with h2 h3; exact ⟨h2, h3⟩
  have C0 := Lib.hid (stays hat.c0 hb)
  have D0 := Lib.hid (stays hat2.c0 hb)
  have c0 := C0.out _ BX.out.below
  have d0 := D0.out _ BX.out.below
  have z0 := BX.out.c0
  have z1 := BX.out.c1
  obtain ⟨E, hE⟩ : ∃ E, refuseE m (coreL L) n p placed gone = E := ⟨_, rfl⟩
  have hE2 := hE
  rw [hE]
  unfold refuseE at hE2
  rw [kindK_get hx, kindK_get hy] at hE2
  clear h hm hs hr hx hy hat hat2 hok hok2 hab hE hg
  generalize hkx : x.core.kind = kx at *
  generalize hky : y.core.kind = ky at *
  clear hkx hky
  by_cases k2 : ky = 2
  · have e1 : (ky == 2) = true := beq_iff_eq.2 k2
    rw [if_pos (.inl k2)] at hE2
    subst hE2
    clear k2
    (go_enter Try.func76, Try.ntmps76; go_wp2; have E0 := Ext.cell z0 BX.out.lt; have E1 := Ext.cell z1 BX.out.lt; have E2 := Ext.cell c0 (by simp; omega); have E3 := Ext.cell d0 (by simp; omega); refine wp_region_ext (by kernel_rfl) (by kernel_rfl) ?_; (repeat (go_big_quiet_step (fail))); refine wpQuiet_nil ?_; intro w' hw'; obtain ⟨⟨w2, hb2⟩, hw''⟩ := hw'; dsimp only at hw''; subst hw''; clear E0 E1 E2 E3; have BX := Lib.hid (BX.out.keep hb2); clear hb2 z0 z1 c0 d0; have z0 := BX.out.c0; have z1 := BX.out.c1; go_wp2_with (first | (go_at_call 43; ((with_reducible refine (GO.out _ _ BX.out.row QO.out).mono ?_); rintro e w1 ⟨rfl, hb⟩; have BX := Lib.hid (BX.out.keep hb); have z0 := BX.out.c0; have z1 := BX.out.c1; clear hb)) | (go_at_call 91; ((with_reducible refine (GD.out _ _ BX.out.row QD.out).mono ?_); rintro e w1 ⟨rfl, hb⟩; have BX := Lib.hid (BX.out.keep hb); have z0 := BX.out.c0; have z1 := BX.out.c1; clear hb))); go_ret; exact ⟨rfl, BX.out.below⟩)
  have e1 : (ky == 2) = false := beq_eq_false_iff_ne.2 k2
  cases qo : overZ m (coreL L) n p with
  | true =>
    rw [if_pos (.inr qo)] at hE2
    subst hE2
    have QO := Lib.hid qo
    clear k2 qo
    (go_enter Try.func76, Try.ntmps76; go_wp2; have E0 := Ext.cell z0 BX.out.lt; have E1 := Ext.cell z1 BX.out.lt; have E2 := Ext.cell c0 (by simp; omega); have E3 := Ext.cell d0 (by simp; omega); refine wp_region_ext (by kernel_rfl) (by kernel_rfl) ?_; (repeat (go_big_quiet_step (fail))); refine wpQuiet_nil ?_; intro w' hw'; obtain ⟨⟨w2, hb2⟩, hw''⟩ := hw'; dsimp only at hw''; subst hw''; clear E0 E1 E2 E3; have BX := Lib.hid (BX.out.keep hb2); clear hb2 z0 z1 c0 d0; have z0 := BX.out.c0; have z1 := BX.out.c1; go_wp2_with (first | (go_at_call 43; ((with_reducible refine (GO.out _ _ BX.out.row QO.out).mono ?_); rintro e w1 ⟨rfl, hb⟩; have BX := Lib.hid (BX.out.keep hb); have z0 := BX.out.c0; have z1 := BX.out.c1; clear hb)) | (go_at_call 91; ((with_reducible refine (GD.out _ _ BX.out.row QD.out).mono ?_); rintro e w1 ⟨rfl, hb⟩; have BX := Lib.hid (BX.out.keep hb); have z0 := BX.out.c0; have z1 := BX.out.c1; clear hb))); go_ret; exact ⟨rfl, BX.out.below⟩)
  | false =>
    rw [if_neg (by rw [qo]; simp [k2])] at hE2
    have QO := Lib.hid qo
    clear k2 qo
    cases placed with
    | false =>
      rw [if_pos rfl] at hE2
      subst hE2
      (go_enter Try.func76, Try.ntmps76; go_wp2; have E0 := Ext.cell z0 BX.out.lt; have E1 := Ext.cell z1 BX.out.lt; have E2 := Ext.cell c0 (by simp; omega); have E3 := Ext.cell d0 (by simp; omega); refine wp_region_ext (by kernel_rfl) (by kernel_rfl) ?_; (repeat (go_big_quiet_step (fail))); refine wpQuiet_nil ?_; intro w' hw'; obtain ⟨⟨w2, hb2⟩, hw''⟩ := hw'; dsimp only at hw''; subst hw''; clear E0 E1 E2 E3; have BX := Lib.hid (BX.out.keep hb2); clear hb2 z0 z1 c0 d0; have z0 := BX.out.c0; have z1 := BX.out.c1; go_wp2_with (first | (go_at_call 43; ((with_reducible refine (GO.out _ _ BX.out.row QO.out).mono ?_); rintro e w1 ⟨rfl, hb⟩; have BX := Lib.hid (BX.out.keep hb); have z0 := BX.out.c0; have z1 := BX.out.c1; clear hb)) | (go_at_call 91; ((with_reducible refine (GD.out _ _ BX.out.row QD.out).mono ?_); rintro e w1 ⟨rfl, hb⟩; have BX := Lib.hid (BX.out.keep hb); have z0 := BX.out.c0; have z1 := BX.out.c1; clear hb))); go_ret; exact ⟨rfl, BX.out.below⟩)
    | true =>
      rw [if_neg (by decide)] at hE2
      by_cases k0 : kx = 0
      · have e2 : (kx == 0) = true := beq_iff_eq.2 k0
        rw [if_pos (.inl k0)] at hE2
        subst hE2
        clear k0
        (go_enter Try.func76, Try.ntmps76; go_wp2; have E0 := Ext.cell z0 BX.out.lt; have E1 := Ext.cell z1 BX.out.lt; have E2 := Ext.cell c0 (by simp; omega); have E3 := Ext.cell d0 (by simp; omega); refine wp_region_ext (by kernel_rfl) (by kernel_rfl) ?_; (repeat (go_big_quiet_step (fail))); refine wpQuiet_nil ?_; intro w' hw'; obtain ⟨⟨w2, hb2⟩, hw''⟩ := hw'; dsimp only at hw''; subst hw''; clear E0 E1 E2 E3; have BX := Lib.hid (BX.out.keep hb2); clear hb2 z0 z1 c0 d0; have z0 := BX.out.c0; have z1 := BX.out.c1; go_wp2_with (first | (go_at_call 43; ((with_reducible refine (GO.out _ _ BX.out.row QO.out).mono ?_); rintro e w1 ⟨rfl, hb⟩; have BX := Lib.hid (BX.out.keep hb); have z0 := BX.out.c0; have z1 := BX.out.c1; clear hb)) | (go_at_call 91; ((with_reducible refine (GD.out _ _ BX.out.row QD.out).mono ?_); rintro e w1 ⟨rfl, hb⟩; have BX := Lib.hid (BX.out.keep hb); have z0 := BX.out.c0; have z1 := BX.out.c1; clear hb))); go_ret; exact ⟨rfl, BX.out.below⟩)
      have e2 : (kx == 0) = false := beq_eq_false_iff_ne.2 k0
      by_cases k4 : kx = 4
      · have e3 : (kx == 4) = true := beq_iff_eq.2 k4
        rw [if_pos (.inr k4)] at hE2
        subst hE2
        clear k0 k4
        (go_enter Try.func76, Try.ntmps76; go_wp2; have E0 := Ext.cell z0 BX.out.lt; have E1 := Ext.cell z1 BX.out.lt; have E2 := Ext.cell c0 (by simp; omega); have E3 := Ext.cell d0 (by simp; omega); refine wp_region_ext (by kernel_rfl) (by kernel_rfl) ?_; (repeat (go_big_quiet_step (fail))); refine wpQuiet_nil ?_; intro w' hw'; obtain ⟨⟨w2, hb2⟩, hw''⟩ := hw'; dsimp only at hw''; subst hw''; clear E0 E1 E2 E3; have BX := Lib.hid (BX.out.keep hb2); clear hb2 z0 z1 c0 d0; have z0 := BX.out.c0; have z1 := BX.out.c1; go_wp2_with (first | (go_at_call 43; ((with_reducible refine (GO.out _ _ BX.out.row QO.out).mono ?_); rintro e w1 ⟨rfl, hb⟩; have BX := Lib.hid (BX.out.keep hb); have z0 := BX.out.c0; have z1 := BX.out.c1; clear hb)) | (go_at_call 91; ((with_reducible refine (GD.out _ _ BX.out.row QD.out).mono ?_); rintro e w1 ⟨rfl, hb⟩; have BX := Lib.hid (BX.out.keep hb); have z0 := BX.out.c0; have z1 := BX.out.c1; clear hb))); go_ret; exact ⟨rfl, BX.out.below⟩)
      have e3 : (kx == 4) = false := beq_eq_false_iff_ne.2 k4
      rw [if_neg (by simp [k0, k4])] at hE2
      clear k0 k4
      by_cases k0 : ky = 0
      · have e4 : (ky == 0) = true := beq_iff_eq.2 k0
        cases qd : docTakesB (coreL L) n p gone with
        | false =>
          rw [if_pos ⟨k0, qd⟩] at hE2
          subst hE2
          have QD := Lib.hid qd
          clear k0 qd
          (go_enter Try.func76, Try.ntmps76; go_wp2; have E0 := Ext.cell z0 BX.out.lt; have E1 := Ext.cell z1 BX.out.lt; have E2 := Ext.cell c0 (by simp; omega); have E3 := Ext.cell d0 (by simp; omega); refine wp_region_ext (by kernel_rfl) (by kernel_rfl) ?_; (repeat (go_big_quiet_step (fail))); refine wpQuiet_nil ?_; intro w' hw'; obtain ⟨⟨w2, hb2⟩, hw''⟩ := hw'; dsimp only at hw''; subst hw''; clear E0 E1 E2 E3; have BX := Lib.hid (BX.out.keep hb2); clear hb2 z0 z1 c0 d0; have z0 := BX.out.c0; have z1 := BX.out.c1; go_wp2_with (first | (go_at_call 43; ((with_reducible refine (GO.out _ _ BX.out.row QO.out).mono ?_); rintro e w1 ⟨rfl, hb⟩; have BX := Lib.hid (BX.out.keep hb); have z0 := BX.out.c0; have z1 := BX.out.c1; clear hb)) | (go_at_call 91; ((with_reducible refine (GD.out _ _ BX.out.row QD.out).mono ?_); rintro e w1 ⟨rfl, hb⟩; have BX := Lib.hid (BX.out.keep hb); have z0 := BX.out.c0; have z1 := BX.out.c1; clear hb))); go_ret; exact ⟨rfl, BX.out.below⟩)
        | true =>
          rw [if_neg (by rw [qd]; simp)] at hE2
          subst hE2
          have QD := Lib.hid qd
          clear k0 qd
          (go_enter Try.func76, Try.ntmps76; go_wp2; have E0 := Ext.cell z0 BX.out.lt; have E1 := Ext.cell z1 BX.out.lt; have E2 := Ext.cell c0 (by simp; omega); have E3 := Ext.cell d0 (by simp; omega); refine wp_region_ext (by kernel_rfl) (by kernel_rfl) ?_; (repeat (go_big_quiet_step (fail))); refine wpQuiet_nil ?_; intro w' hw'; obtain ⟨⟨w2, hb2⟩, hw''⟩ := hw'; dsimp only at hw''; subst hw''; clear E0 E1 E2 E3; have BX := Lib.hid (BX.out.keep hb2); clear hb2 z0 z1 c0 d0; have z0 := BX.out.c0; have z1 := BX.out.c1; go_wp2_with (first | (go_at_call 43; ((with_reducible refine (GO.out _ _ BX.out.row QO.out).mono ?_); rintro e w1 ⟨rfl, hb⟩; have BX := Lib.hid (BX.out.keep hb); have z0 := BX.out.c0; have z1 := BX.out.c1; clear hb)) | (go_at_call 91; ((with_reducible refine (GD.out _ _ BX.out.row QD.out).mono ?_); rintro e w1 ⟨rfl, hb⟩; have BX := Lib.hid (BX.out.keep hb); have z0 := BX.out.c0; have z1 := BX.out.c1; clear hb))); go_ret; exact ⟨rfl, BX.out.below⟩)
      · have e4 : (ky == 0) = false := beq_eq_false_iff_ne.2 k0
        rw [if_neg (by simp [k0])] at hE2
        subst hE2
        clear k0
        (go_enter Try.func76, Try.ntmps76; go_wp2; have E0 := Ext.cell z0 BX.out.lt; have E1 := Ext.cell z1 BX.out.lt; have E2 := Ext.cell c0 (by simp; omega); have E3 := Ext.cell d0 (by simp; omega); refine wp_region_ext (by kernel_rfl) (by kernel_rfl) ?_; (repeat (go_big_quiet_step (fail))); refine wpQuiet_nil ?_; intro w' hw'; obtain ⟨⟨w2, hb2⟩, hw''⟩ := hw'; dsimp only at hw''; subst hw''; clear E0 E1 E2 E3; have BX := Lib.hid (BX.out.keep hb2); clear hb2 z0 z1 c0 d0; have z0 := BX.out.c0; have z1 := BX.out.c1; go_wp2_with (first | (go_at_call 43; ((with_reducible refine (GO.out _ _ BX.out.row QO.out).mono ?_); rintro e w1 ⟨rfl, hb⟩; have BX := Lib.hid (BX.out.keep hb); have z0 := BX.out.c0; have z1 := BX.out.c1; clear hb)) | (go_at_call 91; ((with_reducible refine (GD.out _ _ BX.out.row QD.out).mono ?_); rintro e w1 ⟨rfl, hb⟩; have BX := Lib.hid (BX.out.keep hb); have z0 := BX.out.c0; have z1 := BX.out.c1; clear hb))); go_ret; exact ⟨rfl, BX.out.below⟩)
theorem refuse_64 {m : Int} {F : List Core} {n p : Int} {q : Bool} {g : Int} : refuseE m F n p q g = 0 ∨ refuseE m F n p q g = 5 ∨ refuseE m F n p q g = 6 := by
  unfold refuseE
  repeat' split
  all_goals simp
end Go.Proofs.Ytllfkiifkkcinaa
/- Package valid's May, Swap, Before: its contracts, all. -/
namespace Go.Proofs.Ytllfkiifkkcinaa
open Go.RowKit
theorem vknows_nat {m : Int} {F : List Core} {n p c : Int} (h : vknowsB m F n p c = true) : rightF m F = true ∧ (∃ k : Nat, n = k ∧ k < F.length) ∧ (∃ k : Nat, p = k ∧ k < F.length) ∧ (c = -1 ∨ ∃ k : Nat, c = k ∧ k < F.length) := by
  unfold vknowsB at h
  rw [Bool.and_eq_true, Bool.and_eq_true, Bool.and_eq_true, Bool.or_eq_true, beq_iff_eq] at h
  refine ⟨h.2, inF_nat h.1.1.1, inF_nat h.1.1.2, ?_⟩
  rcases h.1.2 with h | h
  · exact .inl h
  · exact .inr (inF_nat h)
set_option maxHeartbeats 4000000 in
set_option maxRecDepth 100000 in
theorem vmay_any (a : Option Addr) (len cap : Nat) (m : Int) (L : List NodeD) (n p c : Int) (w : World) (h : NodeRow w a len cap L) (hm : In64 m) (hn : In64 n) (hp : In64 p) (hc : In64 c) (hs : smallF L) :
    Calls Try.prog 51 #[forV a len cap m, .int .i64 n, .int .i64 p, .int .i64 c] w fun e w' => e = .returned (.int .i64 (mayZ m (coreL L) n p c)) ∧ Below w.heap.size w w' := by
  have HCL : Hid ((coreL L).length = len) := Lib.hid (by rw [coreL_len, h.hlen])
  have hlen := h.len64
  have BX := Lib.hid (Box.start (m := m) h)
  have CK : Hid (∀ W, NodeRow W a len cap L → Calls Try.prog 75 #[forV a len cap m, .int .i64 n, .int .i64 p, .int .i64 c] W fun e w' => e = .returned (.bool (vknowsB m (coreL L) n p c)) ∧ Below W.heap.size W w') := Lib.hid (fun W h1 => vknows_any a len cap m L n p c W h1 hm hn hp hc hs)
  have z0 := BX.out.c0
  have z1 := BX.out.c1
  cases q : vknowsB m (coreL L) n p c with
  | false =>
    rw [q] at CK
    have HR : Hid (mayZ m (coreL L) n p c = 1) := Lib.hid (by unfold mayZ; rw [q]; rfl)
    clear q h hm hn hp hc hs
    go_enter Try.func51, Try.ntmps51
    go_wp2_with (go_at_call 75; ((with_reducible refine (CK.out _ BX.out.row).mono ?_); rintro e w1 ⟨rfl, hb⟩; have BX := Lib.hid (BX.out.keep hb); have z0 := BX.out.c0; have z1 := BX.out.c1; clear hb))
    go_ret
    exact ⟨ret_int HR.out.symm, BX.out.below⟩
  | true =>
    rw [q] at CK
    obtain ⟨hr, ⟨N, rfl, hN⟩, ⟨P, rfl, hP⟩, hcc⟩ := vknows_nat q
    rw [HCL.out] at hN hP
    obtain ⟨E, hE⟩ : ∃ E, mayZ m (coreL L) N P c = E := ⟨_, rfl⟩
    have HE : Hid (∀ B : Bool, (c == -1 || parentK (coreL L) c == (P : Int)) = B → refuseE m (coreL L) N P B (-1) = E) := Lib.hid (fun B hB => by rw [← hE, ← hB]; unfold mayZ; rw [q]; rfl)
    rw [hE]
    have CEB : Hid (∀ B, refuseE m (coreL L) N P B (-1) = E → ∀ W, NodeRow W a len cap L → Calls Try.prog 76 #[forV a len cap m, .int .i64 N, .int .i64 P, .bool B, .int .i64 (-1)] W fun e w' => e = .returned (.int .i64 E) ∧ Below W.heap.size W w') := Lib.hid (fun B hB W h1 => by
      rw [← hB]
      exact vrefuse_any a len cap m L N P B (-1) W h1 hm inM1 hs hr hN hP)
    have HH := Lib.hid h
    clear q hE h hm hn hp hs hr
    rcases hcc with rfl | ⟨C, rfl, hC⟩
    · have CE := Lib.hid (CEB.out true (HE.out true (by simp)))
      clear CEB HE hc
      go_enter Try.func51, Try.ntmps51
      go_wp2_with (first | (go_at_call 75; ((with_reducible refine (CK.out _ BX.out.row).mono ?_); rintro e w1 ⟨rfl, hb⟩; have BX := Lib.hid (BX.out.keep hb); have z0 := BX.out.c0; have z1 := BX.out.c1; clear hb)) | (go_at_call 76; ((with_reducible refine (CE.out _ BX.out.row).mono ?_); rintro e w1 ⟨rfl, hb⟩; have BX := Lib.hid (BX.out.keep hb); have z0 := BX.out.c0; have z1 := BX.out.c1; clear hb)))
      go_ret
      exact ⟨rfl, BX.out.below⟩
    · rw [HCL.out] at hC
      have hne : ((C : Int) == -1) = false := beq_eq_false_iff_ne.2 (by omega)
      obtain ⟨b, off, x, rfl, hb, hx, hat, hok⟩ := HH.out.get hC
      have C5 := Lib.hid (stays hat.c5 hb)
      have HPK := Lib.hid (parentK_get hx)
      cases hq : (x.core.parent == (P : Int))
      all_goals
        have CE := Lib.hid (CEB.out (x.core.parent == (P : Int)) (HE.out _ (by rw [hne, HPK.out]; simp)))
        rw [hq] at CE
        clear CEB HE HPK hx hat hok
        go_enter Try.func51, Try.ntmps51
        go_wp2_with (first | ((go_at_call 75; ((with_reducible refine (CK.out _ BX.out.row).mono ?_); rintro e w1 ⟨rfl, hb⟩; have BX := Lib.hid (BX.out.keep hb); have z0 := BX.out.c0; have z1 := BX.out.c1; clear hb)); have c5 := C5.out _ BX.out.below) | (go_at_call 76; ((with_reducible refine (CE.out _ BX.out.row).mono ?_); rintro e w1 ⟨rfl, hb⟩; have BX := Lib.hid (BX.out.keep hb); have z0 := BX.out.c0; have z1 := BX.out.c1; clear hb)))
        go_ret
        exact ⟨rfl, BX.out.below⟩
set_option maxHeartbeats 4000000 in
set_option maxRecDepth 100000 in
theorem vswap_any (a : Option Addr) (len cap : Nat) (m : Int) (L : List NodeD) (n p c : Int) (w : World) (h : NodeRow w a len cap L) (hm : In64 m) (hn : In64 n) (hp : In64 p) (hc : In64 c) (hs : smallF L) :
    Calls Try.prog 54 #[forV a len cap m, .int .i64 n, .int .i64 p, .int .i64 c] w fun e w' => e = .returned (.int .i64 (swapZ m (coreL L) n p c)) ∧ Below w.heap.size w w' := by
  have HCL : Hid ((coreL L).length = len) := Lib.hid (by rw [coreL_len, h.hlen])
  have hlen := h.len64
  have BX := Lib.hid (Box.start (m := m) h)
  have CK : Hid (∀ W, NodeRow W a len cap L → Calls Try.prog 75 #[forV a len cap m, .int .i64 n, .int .i64 p, .int .i64 c] W fun e w' => e = .returned (.bool (vknowsB m (coreL L) n p c)) ∧ Below W.heap.size W w') := Lib.hid (fun W h1 => vknows_any a len cap m L n p c W h1 hm hn hp hc hs)
  have z0 := BX.out.c0
  have z1 := BX.out.c1
  cases q : vknowsB m (coreL L) n p c with
  | false =>
    rw [q] at CK
    have HR : Hid (swapZ m (coreL L) n p c = 1) := Lib.hid (by unfold swapZ; rw [q]; rfl)
    clear q h hm hn hp hc hs
    go_enter Try.func54, Try.ntmps54
    go_wp2_with (go_at_call 75; ((with_reducible refine (CK.out _ BX.out.row).mono ?_); rintro e w1 ⟨rfl, hb⟩; have BX := Lib.hid (BX.out.keep hb); have z0 := BX.out.c0; have z1 := BX.out.c1; clear hb))
    go_ret
    exact ⟨ret_int HR.out.symm, BX.out.below⟩
  | true =>
    rw [q] at CK
    obtain ⟨hr, ⟨N, rfl, hN⟩, ⟨P, rfl, hP⟩, hcc⟩ := vknows_nat q
    rw [HCL.out] at hN hP
    obtain ⟨E, hE⟩ : ∃ E, swapZ m (coreL L) N P c = E := ⟨_, rfl⟩
    have HE : Hid (∀ B : Bool, (c != -1 && parentK (coreL L) c == (P : Int)) = B → refuseE m (coreL L) N P B c = E) := Lib.hid (fun B hB => by rw [← hE, ← hB]; unfold swapZ; rw [q]; rfl)
    rw [hE]
    have CEB : Hid (∀ B, refuseE m (coreL L) N P B c = E → ∀ W, NodeRow W a len cap L → Calls Try.prog 76 #[forV a len cap m, .int .i64 N, .int .i64 P, .bool B, .int .i64 c] W fun e w' => e = .returned (.int .i64 E) ∧ Below W.heap.size W w') := Lib.hid (fun B hB W h1 => by
      rw [← hB]
      exact vrefuse_any a len cap m L N P B c W h1 hm hc hs hr hN hP)
    have HH := Lib.hid h
    clear q hE h hm hn hp hs hr
    rcases hcc with rfl | ⟨C, rfl, hC⟩
    · have CE := Lib.hid (CEB.out false (HE.out false (by simp)))
      clear CEB HE hc
      go_enter Try.func54, Try.ntmps54
      go_wp2_with (first | (go_at_call 75; ((with_reducible refine (CK.out _ BX.out.row).mono ?_); rintro e w1 ⟨rfl, hb⟩; have BX := Lib.hid (BX.out.keep hb); have z0 := BX.out.c0; have z1 := BX.out.c1; clear hb)) | (go_at_call 76; ((with_reducible refine (CE.out _ BX.out.row).mono ?_); rintro e w1 ⟨rfl, hb⟩; have BX := Lib.hid (BX.out.keep hb); have z0 := BX.out.c0; have z1 := BX.out.c1; clear hb)))
      go_ret
      exact ⟨rfl, BX.out.below⟩
    · rw [HCL.out] at hC
      have hne : ((C : Int) != -1) = true := bne_iff_ne.2 (by omega)
      obtain ⟨b, off, x, rfl, hb, hx, hat, hok⟩ := HH.out.get hC
      have C5 := Lib.hid (stays hat.c5 hb)
      have HPK := Lib.hid (parentK_get hx)
      cases hq : (x.core.parent == (P : Int))
      all_goals
        have CE := Lib.hid (CEB.out (x.core.parent == (P : Int)) (HE.out _ (by rw [hne, HPK.out]; simp)))
        rw [hq] at CE
        clear CEB HE HPK hx hat hok
        go_enter Try.func54, Try.ntmps54
        go_wp2_with (first | ((go_at_call 75; ((with_reducible refine (CK.out _ BX.out.row).mono ?_); rintro e w1 ⟨rfl, hb⟩; have BX := Lib.hid (BX.out.keep hb); have z0 := BX.out.c0; have z1 := BX.out.c1; clear hb)); have c5 := C5.out _ BX.out.below) | (go_at_call 76; ((with_reducible refine (CE.out _ BX.out.row).mono ?_); rintro e w1 ⟨rfl, hb⟩; have BX := Lib.hid (BX.out.keep hb); have z0 := BX.out.c0; have z1 := BX.out.c1; clear hb)))
        go_ret
        exact ⟨rfl, BX.out.below⟩
theorem may_ok {m : Int} {F : List Core} {n p c : Int} (h : mayZ m F n p c = 0) : vknowsB m F n p c = true ∧ kindK F p ≠ 2 ∧ overZ m F n p = false ∧ (c = -1 ∨ parentK F c = p) ∧ kindK F n ≠ 0 ∧ kindK F n ≠ 4 ∧ (kindK F p = 0 → docTakesB F n p (-1) = true) := by
  unfold mayZ at h
  split at h
  · rename_i hk
    unfold refuseE at h
    split at h
    · cases h
    rename_i h1
    split at h
    · cases h
    rename_i h2
    split at h
    · cases h
    rename_i h3
    split at h
    · cases h
    rename_i h4
    refine ⟨hk, fun e => h1 (.inl e), ?_, ?_, fun e => h3 (.inl e), fun e => h3 (.inr e), fun e => ?_⟩
    · cases hq : overZ m F n p with
      | false => rfl
      | true => exact absurd (.inr hq) h1
    · cases hq : (c == -1 || parentK F c == p) with
      | false => exact absurd hq h2
      | true =>
        rw [Bool.or_eq_true, beq_iff_eq, beq_iff_eq] at hq
        exact hq
    · cases hq : docTakesB F n p (-1) with
      | true => rfl
      | false => exact absurd ⟨e, hq⟩ h4
  · cases h
theorem par_facts {m : Int} {F : List Core} (h : rightF m F = true) {N P : Nat} {x y : Core} (hx : F[N]? = some x) (hp : x.parent = (P : Int)) (hy : F[P]? = some y) : (x.kind = 1 ∨ x.kind = 2) ∧ y.kind ≠ 2 ∧ hasZ y.kids N = 1 := by
  have h1 := (nodeOk_iff.1 (((rightF_iff m F).1 h).2.1 N _ hx)).2.1
  unfold parOk at h1
  rw [beq_eq_false_iff_ne.2 (show x.parent ≠ -1 by omega), Bool.false_or, hp, getC_nat, hy] at h1
  simp only [Bool.and_eq_true, Bool.or_eq_true, beq_iff_eq, bne_iff_ne] at h1
  exact ⟨h1.1, h1.2.1, h1.2.2⟩
/-- A node stands at its place. -/
theorem place_at {m : Int} {F : List Core} (h : rightF m F = true) {N P : Nat} {x y : Core} (hx : F[N]? = some x) (hp : x.parent = (P : Int)) (hy : F[P]? = some y) : ∃ k : Nat, placeZ m F N = k ∧ k < y.kids.length ∧ y.kids[k]? = some (N : Int) := by
  have hN := (List.getElem?_eq_some_iff.1 hx).1
  have hm := hasZ_mem (par_facts h hx hp hy).2.2
  obtain ⟨p, e1, e2, e3⟩ := right_par h hx (by omega)
  obtain rfl : P = p := by omega
  obtain ⟨k, h1, h2⟩ := find_at hm
  refine ⟨k, ?_, (List.getElem?_eq_some_iff.1 h2).1, h2⟩
  unfold placeZ
  rw [thereF_of h hN, if_pos rfl, Int.toNat_natCast]
  unfold placeF
  rw [e3]
  dsimp only
  rw [hy]
  exact h1
set_option maxHeartbeats 4000000 in
set_option maxRecDepth 100000 in
theorem vbefore_any (a : Option Addr) (len cap : Nat) (m : Int) (L : List NodeD) (n p c : Int) (w : World) (h : NodeRow w a len cap L) (hm : In64 m) (hn : In64 n) (hp : In64 p) (hc : In64 c) (hs : smallF L) :
    Calls Try.prog 74 #[forV a len cap m, .int .i64 n, .int .i64 p, .int .i64 c] w fun e w' => e = .returned (.int .i64 (beforeZ m (coreL L) n p c)) ∧ Below w.heap.size w w' := by
  have HCL : Hid ((coreL L).length = len) := Lib.hid (by rw [coreL_len, h.hlen])
  have hlen := h.len64
  have BX := Lib.hid (Box.start (m := m) h)
  obtain ⟨M, hM⟩ : ∃ M, mayZ m (coreL L) n p c = M := ⟨_, rfl⟩
  have CM : Hid (∀ W, NodeRow W a len cap L → Calls Try.prog 51 #[forV a len cap m, .int .i64 n, .int .i64 p, .int .i64 c] W fun e w' => e = .returned (.int .i64 M) ∧ Below W.heap.size W w') := Lib.hid (fun W h1 => by
    rw [← hM]
    exact vmay_any a len cap m L n p c W h1 hm hn hp hc hs)
  have z0 := BX.out.c0
  have z1 := BX.out.c1
  by_cases h0 : M = 0
  · rw [h0] at CM hM
    obtain ⟨hk, h2, h3, h4, h5, h6, h7⟩ := may_ok hM
    obtain ⟨hr, ⟨N, rfl, hN⟩, ⟨P, rfl, hP⟩, hcc⟩ := vknows_nat hk
    rw [HCL.out] at hN hP
    have HH := Lib.hid h
    by_cases hcn : c = (N : Int)
    · subst hcn
      have e1 : ((N : Int) != (N : Int)) = false := by simp
      have e2 : ((N : Int) == (N : Int)) = true := by simp
      have hpar : parentK (coreL L) N = P := by rcases h4 with h4 | h4; omega; exact h4
      obtain ⟨b, off, x, rfl, hb, hx, hat, hok⟩ := HH.out.get hN
      obtain ⟨b2, off2, y, hab, hb2, hy, hat2, hok2⟩ := HH.out.get hP
      obtain ⟨rfl, rfl⟩ : b = b2 ∧ off = off2 := by injection hab with h1; injection h1 with h2 h3; exact ⟨h2, h3⟩
      rw [parentK_get hx] at hpar
      obtain ⟨pl, hpl⟩ : ∃ pl, placeZ m (coreL L) N = pl := ⟨_, rfl⟩
      have hpl2 : ∃ k : Nat, pl = k ∧ k < y.kN := by
        obtain ⟨k, h1, h2, _⟩ := place_at hr (coreL_get hx) hpar (coreL_get hy)
        exact ⟨k, by rw [← hpl, h1], by rw [hok2.kids.hlen] at h2; exact h2⟩
      obtain ⟨K, rfl, hK⟩ := hpl2
      have CP : Hid (∀ W, NodeRow W (some ⟨b, off, none⟩) len cap L → Calls Try.prog 25 #[forV (some ⟨b, off, none⟩) len cap m, .int .i64 N] W fun e w' => e = .returned (.int .i64 K) ∧ Below W.heap.size W w') := Lib.hid (fun W h1 => by
        rw [← hpl]
        exact placeFn_any (some ⟨b, off, none⟩) len cap m L N W h1 hm hn hs)
      have C6 := Lib.hid (stays hat2.c6 hb)
      have HKK : Hid (kidsK (coreL L) P = y.core.kids) := Lib.hid (by unfold kidsK; rw [getC_nat, coreL_get hy])
      have KR : Hid (∀ W, Below w.heap.size w W → IntRow W y.kA y.kN y.kC y.core.kids) := Lib.hid (fun W hb => hok2.kids.below hb)
      have hk64 := hok2.kids.len64
      by_cases hlt : K + 1 < y.kN
      · obtain ⟨bk, ok, z, hka, hbk, hz, hcz, hin⟩ := hok2.kids.get hlt
        have CZ := Lib.hid (stays hcz hbk)
        have HR : Hid (beforeZ m (coreL L) N P N = z) := Lib.hid (by unfold beforeZ; rw [if_pos hM, if_pos rfl, hpl, HKK.out, show ((K : Int) + 1).toNat = K + 1 by omega, hz])
        rw [hka] at C6
        obtain ⟨hz1, hz2⟩ := hin
        clear hM hk h2 h3 h4 h5 h6 h7 hr hx hy hat hat2 hok hok2 hab hb2 hpl h hm hs hz hcz hka hn hp hc h0 hpar
        go_enter Try.func74, Try.ntmps74
        go_wp2_with (first
          | (go_at_call 51; ((with_reducible refine (CM.out _ BX.out.row).mono ?_); rintro e w1 ⟨rfl, hb⟩; have BX := Lib.hid (BX.out.keep hb); have z0 := BX.out.c0; have z1 := BX.out.c1; clear hb; have c6 := C6.out _ BX.out.below))
          | (go_at_call 25; ((with_reducible refine (CP.out _ BX.out.row).mono ?_); rintro e w1 ⟨rfl, hb⟩; have BX := Lib.hid (BX.out.keep hb); have z0 := BX.out.c0; have z1 := BX.out.c1; clear hb; have c6 := C6.out _ BX.out.below; have cz := CZ.out _ BX.out.below)))
        go_ret
        exact ⟨ret_int HR.out.symm, BX.out.below⟩
      · have HR : Hid (beforeZ m (coreL L) N P N = -1) := Lib.hid (by unfold beforeZ; rw [if_pos hM, if_pos rfl, hpl, HKK.out, show ((K : Int) + 1).toNat = K + 1 by omega, List.getElem?_eq_none (by rw [hok2.kids.hlen]; omega)])
        clear hM hk h2 h3 h4 h5 h6 h7 hr hx hy hat hat2 hok hok2 hab hb2 hpl h hm hs hn hp hc h0 hpar
        go_enter Try.func74, Try.ntmps74
        go_wp2_with (first
          | (go_at_call 51; ((with_reducible refine (CM.out _ BX.out.row).mono ?_); rintro e w1 ⟨rfl, hb⟩; have BX := Lib.hid (BX.out.keep hb); have z0 := BX.out.c0; have z1 := BX.out.c1; clear hb; have c6 := C6.out _ BX.out.below))
          | (go_at_call 25; ((with_reducible refine (CP.out _ BX.out.row).mono ?_); rintro e w1 ⟨rfl, hb⟩; have BX := Lib.hid (BX.out.keep hb); have z0 := BX.out.c0; have z1 := BX.out.c1; clear hb; have c6 := C6.out _ BX.out.below)))
        go_ret
        exact ⟨ret_int HR.out.symm, BX.out.below⟩
    · have e1 : (c != (N : Int)) = true := bne_iff_ne.2 hcn
      have e2 : (c == (N : Int)) = false := beq_eq_false_iff_ne.2 hcn
      have HR : Hid (beforeZ m (coreL L) N P c = c) := Lib.hid (by unfold beforeZ; rw [if_pos hM, if_neg hcn])
      clear hM hk h2 h3 h4 h5 h6 h7 hr h hm hs hn hp hc h0 hcn hcc
      go_enter Try.func74, Try.ntmps74
      go_wp2_with (first
        | (go_at_call 51; ((with_reducible refine (CM.out _ BX.out.row).mono ?_); rintro e w1 ⟨rfl, hb⟩; have BX := Lib.hid (BX.out.keep hb); have z0 := BX.out.c0; have z1 := BX.out.c1; clear hb)))
      go_ret
      exact ⟨ret_int HR.out.symm, BX.out.below⟩
  · have HR : Hid (beforeZ m (coreL L) n p c = -1) := Lib.hid (by unfold beforeZ; rw [hM, if_neg h0])
    have e1 : (M != 0) = true := bne_iff_ne.2 h0
    have e2 : (M == 0) = false := beq_eq_false_iff_ne.2 h0
    clear hM h hm hs hn hp hc h0
    go_enter Try.func74, Try.ntmps74
    go_wp2_with (first
      | (go_at_call 51; ((with_reducible refine (CM.out _ BX.out.row).mono ?_); rintro e w1 ⟨rfl, hb⟩; have BX := Lib.hid (BX.out.keep hb); have z0 := BX.out.c0; have z1 := BX.out.c1; clear hb)))
    go_ret
    exact ⟨ret_int HR.out.symm, BX.out.below⟩
theorem validFns : ValidFns where
  may := fun a len cap m L n p c w h hm hn hp hc hs => vmay_any a len cap m L n p c w h hm hn hp hc hs
  swap := fun a len cap m L n p c w h hm hn hp hc hs => vswap_any a len cap m L n p c w h hm hn hp hc hs
  parts := fun a len cap m L n w h _ hn hs => vparts_any a len cap m L n w h hn hs
  before := fun a len cap m L n p c w h hm hn hp hc hs => vbefore_any a len cap m L n p c w h hm hn hp hc hs
/-- What the laws of layer 5 ask for. -/
structure Lay5 : Prop where
  f : ForestFns
  s : ShadeFns
  v : ValidFns
theorem lay5 : Lay5 := ⟨forestFns, shadeFns, validFns⟩
end Go.Proofs.Ytllfkiifkkcinaa
/- The walk of the law ValidFree, over the contracts of packages forest, shade and valid. -/
namespace Go.Proofs.Ytllfkiifkkcinaa
open Go.RowKit
theorem inF_of {F : List Core} {k : Nat} (h : k < F.length) : inF F (k : Int) = true := by unfold inF; rw [decide_eq_true (by omega), decide_eq_true (by omega)]; rfl
theorem vknows_of {m : Int} {F : List Core} (h : rightF m F = true) {n p : Nat} (hn : n < F.length) (hp : p < F.length) {c : Int} (hc : c = -1 ∨ inF F c = true) : vknowsB m F n p c = true := by
  unfold vknowsB
  rw [inF_of hn, inF_of hp, h]
  rcases hc with rfl | hc
  · rfl
  · rw [hc]; simp
/-- What is asked of an answer of May. -/
structure FreeFacts (m : Int) (F : List Core) (X Y Z : Nat) (kx ky : Int) (over : Bool) (E : Int) : Prop where
  ok : (kx = 1 ∨ kx = 2) → (ky = 1 ∨ ky = 3 ∨ ky = 4) → over = false → E = 0
  no : kx = 0 ∨ kx = 4 ∨ ky = 2 ∨ over = true → E = 5
  away : parentK F Z ≠ (Y : Int) → ((mayZ m F X Y Z != 0) = true ∧ (swapZ m F X Y Z != 0) = true)
theorem free_facts {m : Int} {F : List Core} (h : rightF m F = true) {X Y Z : Nat} (hX : X < F.length) (hY : Y < F.length) (hZ : Z < F.length) :
    FreeFacts m F X Y Z (kindK F X) (kindK F Y) (overZ m F X Y) (mayZ m F X Y (-1)) := by
  refine ⟨fun h1 h2 h3 => ?_, fun h1 => ?_, fun hp => ?_⟩
  · unfold mayZ
    rw [vknows_of h hX hY (.inl rfl), if_pos rfl]
    unfold refuseE
    rw [if_neg (by rw [h3]; rcases h2 with e | e | e <;> rw [e] <;> simp), if_neg (by simp), if_neg (by rcases h1 with e | e <;> rw [e] <;> simp), if_neg (by rcases h2 with e | e | e <;> rw [e] <;> simp)]
  · unfold mayZ
    rw [vknows_of h hX hY (.inl rfl), if_pos rfl]
    unfold refuseE
    by_cases h2 : kindK F Y = 2 ∨ overZ m F X Y = true
    · rw [if_pos h2]
    · rw [if_neg h2, if_neg (by simp), if_pos]
      rcases h1 with e | e | e | e
      · exact .inl e
      · exact .inr e
      · exact absurd (.inl e) h2
      · exact absurd (.inr e) h2
  · have hq : (parentK F Z == (Y : Int)) = false := beq_eq_false_iff_ne.2 hp
    have h0 : ((Z : Int) == -1) = false := beq_eq_false_iff_ne.2 (by omega)
    constructor
    · unfold mayZ
      rw [vknows_of h hX hY (.inr (inF_of hZ)), if_pos rfl, hq, h0]
      unfold refuseE
      split
      · decide
      · rw [if_pos (by rfl)]; decide
    · unfold swapZ
      rw [vknows_of h hX hY (.inr (inF_of hZ)), if_pos rfl, hq, Bool.and_false]
      unfold refuseE
      split
      · decide
      · rw [if_pos rfl]; decide
set_option maxHeartbeats 16000000 in
set_option maxRecDepth 100000 in
theorem validFree_walk (P : Lay5) (a0 : Option Addr) (len0 cap0 : Nat) (m : Int) (L0 : List NodeD) (x y z : Int) (w : World)
    (h0 : NodeRow w a0 len0 cap0 L0) (hm : In64 m) (hx : 0 ≤ x ∧ x ≤ 255) (hy : 0 ≤ y ∧ y ≤ 255) (hz : 0 ≤ z ∧ z ≤ 255) :
    Calls Try.prog 13 #[forV a0 len0 cap0 m, .int .u8 x, .int .u8 y, .int .u8 z] w fun e w' => e = .returned (.bool true) ∧ Below w.heap.size w w' := by
  obtain ⟨F, S, V⟩ := P
  have AW := Lib.hid (fun W => awake5_any F V W)
  have HF := Lib.hid F
  have HS := Lib.hid S
  have HV := Lib.hid V
  have BX := Lib.hid (Box.start (m := m) h0)
  have hl0 := h0.len64
  have HL := Lib.hid h0.hlen
  have HM := Lib.hid hm
  have H00 := Lib.hid h0
  clear h0 F S V hm
  cases c0 : shortF L0 with
  | false =>
    have C0 := Lib.hid c0
    go_enter Try.func13, Try.ntmps13
    go_wp2_with (first
                    | (go_at_call 50; (with_reducible refine (AW.out _).mono ?_); rintro e w1 ⟨rfl, hb⟩; have BX := Lib.hid (BX.out.keep hb); have z0 := BX.out.c0; have z1 := BX.out.c1; clear hb)
                    | (go_at_call 15; (with_reducible refine (refshortF_any _ _ _ _ _ _ BX.out.row).mono ?_); rintro e w1 ⟨rfl, hb⟩; have BX := Lib.hid (BX.out.keep hb); have z0 := BX.out.c0; have z1 := BX.out.c1; clear hb)
                    | (go_at_call 19; (with_reducible refine (HR.out _ BX.out.row).mono ?_); rintro e w1 ⟨rfl, hb⟩; have BX := Lib.hid (BX.out.keep hb); have z0 := BX.out.c0; have z1 := BX.out.c1; clear hb))
    go_ret
    exact ⟨rfl, BX.out.below⟩
  | true =>
    have SM := Lib.hid (small_of_short c0)
    cases c1 : rightF m (coreL L0) with
    | false =>
      have HR : Hid (∀ W, NodeRow W a0 len0 cap0 L0 → Calls Try.prog 19 #[forV a0 len0 cap0 m] W fun e w' => e = .returned (.bool false) ∧ Below W.heap.size W w') := Lib.hid (fun W h => by
        have := HF.out.right a0 len0 cap0 m L0 W h HM.out SM.out
        rwa [c1] at this)
      clear c1
      go_enter Try.func13, Try.ntmps13
      go_wp2_with (first
                      | (go_at_call 50; (with_reducible refine (AW.out _).mono ?_); rintro e w1 ⟨rfl, hb⟩; have BX := Lib.hid (BX.out.keep hb); have z0 := BX.out.c0; have z1 := BX.out.c1; clear hb)
                      | (go_at_call 15; (with_reducible refine (refshortF_any _ _ _ _ _ _ BX.out.row).mono ?_); rintro e w1 ⟨rfl, hb⟩; have BX := Lib.hid (BX.out.keep hb); have z0 := BX.out.c0; have z1 := BX.out.c1; clear hb)
                      | (go_at_call 19; (with_reducible refine (HR.out _ BX.out.row).mono ?_); rintro e w1 ⟨rfl, hb⟩; have BX := Lib.hid (BX.out.keep hb); have z0 := BX.out.c0; have z1 := BX.out.c1; clear hb))
      go_ret
      exact ⟨rfl, BX.out.below⟩
    | true =>
      have HR : Hid (∀ W, NodeRow W a0 len0 cap0 L0 → Calls Try.prog 19 #[forV a0 len0 cap0 m] W fun e w' => e = .returned (.bool true) ∧ Below W.heap.size W w') := Lib.hid (fun W h => by
        have := HF.out.right a0 len0 cap0 m L0 W h HM.out SM.out
        rwa [c1] at this)
      have C1 := Lib.hid c1
      have hlc : (coreL L0).length = len0 := by
        unfold coreL
        rw [List.length_map, HL.out]
      have hlp : 0 < len0 := by
        have := right_len c1
        rwa [hlc] at this
      clear c1
      obtain ⟨X, hX⟩ : ∃ X : Nat, x % (len0 : Int) = X := ⟨(x % (len0 : Int)).toNat, by have := Int.emod_nonneg x (show (len0 : Int) ≠ 0 by omega); omega⟩
      obtain ⟨Y, hY⟩ : ∃ Y : Nat, y % (len0 : Int) = Y := ⟨(y % (len0 : Int)).toNat, by have := Int.emod_nonneg y (show (len0 : Int) ≠ 0 by omega); omega⟩
      obtain ⟨Z, hZ⟩ : ∃ Z : Nat, z % (len0 : Int) = Z := ⟨(z % (len0 : Int)).toNat, by have := Int.emod_nonneg z (show (len0 : Int) ≠ 0 by omega); omega⟩
      have hXl : X < len0 := by have := Int.emod_lt_of_pos x (show (0 : Int) < len0 by omega); omega
      have hYl : Y < len0 := by have := Int.emod_lt_of_pos y (show (0 : Int) < len0 by omega); omega
      have hZl : Z < len0 := by have := Int.emod_lt_of_pos z (show (0 : Int) < len0 by omega); omega
      obtain ⟨b, off, nx, rfl, hblt, hgx, hat, -⟩ := H00.out.get hXl
      obtain ⟨b2, off2, ny, hab, -, hgy, hat2, -⟩ := H00.out.get hYl
      obtain ⟨rfl, rfl⟩ : b = b2 ∧ off = off2 := by injection hab with h1; injection h1 with h2 h3; exact ⟨h2, h3⟩
      obtain ⟨b3, off3, nz, hab3, -, hgz, hat3, -⟩ := H00.out.get hZl
      obtain ⟨rfl, rfl⟩ : b = b3 ∧ off = off3 := by injection hab3 with h1; injection h1 with h2 h3; exact ⟨h2, h3⟩
      have CX := Lib.hid (stays hat.c0 hblt)
      have CY := Lib.hid (stays hat2.c0 hblt)
      have CZ := Lib.hid (stays hat3.c5 hblt)
      have FX := Lib.hid (free_facts (X := X) (Y := Y) (Z := Z) C1.out (by omega) (by omega) (by omega))
      rw [kindK_get hgx, kindK_get hgy] at FX
      have HPZ : Hid (parentK (coreL L0) Z = nz.core.parent) := Lib.hid (parentK_get hgz)
      obtain ⟨kx, hkx⟩ : ∃ k, nx.core.kind = k := ⟨_, rfl⟩
      obtain ⟨ky, hky⟩ : ∃ k, ny.core.kind = k := ⟨_, rfl⟩
      obtain ⟨pz, hpz⟩ : ∃ k, nz.core.parent = k := ⟨_, rfl⟩
      obtain ⟨O, hO⟩ : ∃ O, overZ m (coreL L0) X Y = O := ⟨_, rfl⟩
      obtain ⟨E, hE⟩ : ∃ O, mayZ m (coreL L0) X Y (-1) = O := ⟨_, rfl⟩
      obtain ⟨E2, hE2⟩ : ∃ O, mayZ m (coreL L0) X Y Z = O := ⟨_, rfl⟩
      obtain ⟨E3, hE3⟩ : ∃ O, swapZ m (coreL L0) X Y Z = O := ⟨_, rfl⟩
      rw [hkx] at CX FX
      rw [hky] at CY FX
      rw [hpz] at CZ HPZ
      have in_nat : ∀ k : Nat, k < len0 → In64 (k : Int) := fun k hk => ⟨by omega, by omega⟩
      have GO : Hid (∀ W, NodeRow W (some ⟨b, off, none⟩) len0 cap0 L0 → Calls Try.prog 43 #[forV (some ⟨b, off, none⟩) len0 cap0 m, .int .i64 X, .int .i64 Y] W fun e w' => e = .returned (.bool O) ∧ Below W.heap.size W w') := Lib.hid (fun W h => by
        rw [← hO]
        exact HS.out.over _ len0 cap0 m L0 X Y W h HM.out (in_nat X hXl) (in_nat Y hYl) SM.out)
      have GM : Hid (∀ W, NodeRow W (some ⟨b, off, none⟩) len0 cap0 L0 → Calls Try.prog 51 #[forV (some ⟨b, off, none⟩) len0 cap0 m, .int .i64 X, .int .i64 Y, .int .i64 (-1)] W fun e w' => e = .returned (.int .i64 E) ∧ Below W.heap.size W w') := Lib.hid (fun W h => by
        rw [← hE]
        exact HV.out.may _ len0 cap0 m L0 X Y (-1) W h HM.out (in_nat X hXl) (in_nat Y hYl) inM1 SM.out)
      have GN : Hid (∀ W, NodeRow W (some ⟨b, off, none⟩) len0 cap0 L0 → Calls Try.prog 51 #[forV (some ⟨b, off, none⟩) len0 cap0 m, .int .i64 X, .int .i64 Y, .int .i64 Z] W fun e w' => e = .returned (.int .i64 E2) ∧ Below W.heap.size W w') := Lib.hid (fun W h => by
        rw [← hE2]
        exact HV.out.may _ len0 cap0 m L0 X Y Z W h HM.out (in_nat X hXl) (in_nat Y hYl) (in_nat Z hZl) SM.out)
      have GS : Hid (∀ W, NodeRow W (some ⟨b, off, none⟩) len0 cap0 L0 → Calls Try.prog 54 #[forV (some ⟨b, off, none⟩) len0 cap0 m, .int .i64 X, .int .i64 Y, .int .i64 Z] W fun e w' => e = .returned (.int .i64 E3) ∧ Below W.heap.size W w') := Lib.hid (fun W h => by
        rw [← hE3]
        exact HV.out.swap _ len0 cap0 m L0 X Y Z W h HM.out (in_nat X hXl) (in_nat Y hYl) (in_nat Z hZl) SM.out)
      rw [hO, hE] at FX
      have HAW : Hid (pz ≠ (Y : Int) → (E2 != 0) = true ∧ (E3 != 0) = true) := Lib.hid (fun h => by
        have := FX.out.away (by rw [HPZ.out]; exact h)
        rwa [hE2, hE3] at this)
      clear SM HF HS HV hgx hgy hgz hat hat2 hat3 hab hab3 in_nat hlc hkx hky hpz hO hE hE2 hE3
      go_enter Try.func13, Try.ntmps13
      go_wp2_with (first
                      | (go_at_call 50; (with_reducible refine (AW.out _).mono ?_); rintro e w1 ⟨rfl, hb⟩; have BX := Lib.hid (BX.out.keep hb); have z0 := BX.out.c0; have z1 := BX.out.c1; clear hb)
                      | (go_at_call 15; (with_reducible refine (refshortF_any _ _ _ _ _ _ BX.out.row).mono ?_); rintro e w1 ⟨rfl, hb⟩; have BX := Lib.hid (BX.out.keep hb); have z0 := BX.out.c0; have z1 := BX.out.c1; clear hb)
                      | (go_at_call 19; (with_reducible refine (HR.out _ BX.out.row).mono ?_); rintro e w1 ⟨rfl, hb⟩; have BX := Lib.hid (BX.out.keep hb); have z0 := BX.out.c0; have z1 := BX.out.c1; clear hb))
      have E0 := Ext.cell z0 BX.out.lt
      have E1 := Ext.cell z1 BX.out.lt
      refine wp_region_ext (by kernel_rfl) (by kernel_rfl) ?_
      repeat (go_big_quiet_step (fail))
      refine wpQuiet_nil ?_
      intro w' hw'
      obtain ⟨⟨w2, hb2⟩, hw''⟩ := hw'
      dsimp only at hw''
      subst hw''
      clear E0 E1
      rw [hX, hY, hZ]
      clear hX hY hZ
      have BX := Lib.hid (BX.out.keep hb2)
      have z0 := BX.out.c0
      have z1 := BX.out.c1
      clear hb2
      go_wp2
      have cx := CX.out _ BX.out.below
      have cy := CY.out _ BX.out.below
      have E0 := Ext.cell z0 BX.out.lt
      have E1 := Ext.cell z1 BX.out.lt
      have EX := Ext.cell cx (Nat.lt_of_lt_of_le hblt BX.out.below.size)
      have EY := Ext.cell cy (Nat.lt_of_lt_of_le hblt BX.out.below.size)
      refine wp_region_ext (by kernel_rfl) (by kernel_rfl) ?_
      repeat (go_big_quiet_step (fail))
      refine wpQuiet_nil ?_
      intro w' hw'
      obtain ⟨⟨w2, hb2⟩, hw''⟩ := hw'
      dsimp only at hw''
      subst hw''
      clear E0 E1 EX EY cx cy z0 z1
      have BX := Lib.hid (BX.out.keep hb2)
      have z0 := BX.out.c0
      have z1 := BX.out.c1
      clear hb2
      go_upto_region 8 with (first
                                | (go_at_call 43; ((with_reducible refine (GO.out _ BX.out.row).mono ?_); rintro e w1 ⟨rfl, hb⟩; have BX := Lib.hid (BX.out.keep hb); have z0 := BX.out.c0; have z1 := BX.out.c1; clear hb))
                                | (go_at_call 51; ((with_reducible refine (GM.out _ BX.out.row).mono ?_); rintro e w1 ⟨rfl, hb⟩; have BX := Lib.hid (BX.out.keep hb); have z0 := BX.out.c0; have z1 := BX.out.c1; clear hb))
                                | (go_at_call 51; ((with_reducible refine (GN.out _ BX.out.row).mono ?_); rintro e w1 ⟨rfl, hb⟩; have BX := Lib.hid (BX.out.keep hb); have z0 := BX.out.c0; have z1 := BX.out.c1; clear hb))
                                | (go_at_call 54; ((with_reducible refine (GS.out _ BX.out.row).mono ?_); rintro e w1 ⟨rfl, hb⟩; have BX := Lib.hid (BX.out.keep hb); have z0 := BX.out.c0; have z1 := BX.out.c1; clear hb)))
      obtain ⟨B, hB⟩ : ∃ B, (kx == 1 || kx == 2) = B := ⟨_, rfl⟩
      obtain ⟨H, hH⟩ : ∃ H, (ky == 1 || ky == 3 || ky == 4) = H := ⟨_, rfl⟩
      have HB := Lib.hid hB
      have HH := Lib.hid hH
      clear hB hH
      go_cut [15] (fun c wx => c = .bool B ∧ wx = w1)
      case first =>
        by_cases k1 : kx = 1
        · have e1 : (kx == 1) = true := beq_iff_eq.2 k1
          have HQ : Hid (true = B) := Lib.hid (by rw [← HB.out, e1]; rfl)
          clear k1
          go_wp2
          go_meet
          rw [HQ.out]
          exact ⟨rfl, rfl⟩
        · have e1 : (kx == 1) = false := beq_eq_false_iff_ne.2 k1
          cases k2 : (kx == 2)
          all_goals
            have HQ := Lib.hid (HB.out)
            rw [e1, k2, Bool.false_or] at HQ
            clear k1
            go_wp2
            go_meet
            rw [HQ.out]
            exact ⟨rfl, rfl⟩
      case rest =>
        obtain ⟨rfl, rfl⟩ := hcut
        go_upto_region 9 with fail
        go_cut [16] (fun c wx => c = .bool H ∧ wx = wc)
        case first =>
          by_cases k1 : ky = 1
          · have e1 : (ky == 1) = true := beq_iff_eq.2 k1
            have HQ : Hid (true = H) := Lib.hid (by rw [← HH.out, e1]; rfl)
            clear k1
            go_wp2
            go_meet
            rw [HQ.out]
            exact ⟨rfl, rfl⟩
          have e1 : (ky == 1) = false := beq_eq_false_iff_ne.2 k1
          by_cases k3 : ky = 3
          · have e2 : (ky == 3) = true := beq_iff_eq.2 k3
            have HQ : Hid (true = H) := Lib.hid (by rw [← HH.out, e1, e2]; rfl)
            clear k1 k3
            go_wp2
            go_meet
            rw [HQ.out]
            exact ⟨rfl, rfl⟩
          have e2 : (ky == 3) = false := beq_eq_false_iff_ne.2 k3
          cases k4 : (ky == 4)
          all_goals
            have HQ := Lib.hid (HH.out)
            rw [e1, e2, k4, Bool.false_or, Bool.false_or] at HQ
            clear k1 k3
            go_wp2
            go_meet
            rw [HQ.out]
            exact ⟨rfl, rfl⟩
        case rest =>
          obtain ⟨rfl, rfl⟩ := hcut
          go_upto_region 10 with fail
          go_cut [113] (fun c wx => c = .bool false ∧ Hid (Box w wx w.heap.size (some ⟨b, off, none⟩) len0 cap0 m L0 (coreL L0)))
          case first =>
            have CASES : (B = true ∧ (kx == 0) = false ∧ (kx == 4) = false ∧ ((H = true ∧ (ky == 2) = false ∧ ((O = false ∧ E = 0) ∨ (O = true ∧ E = 5))) ∨ (H = false ∧ (((ky == 2) = true ∧ E = 5 ∧ (O = true ∨ O = false)) ∨ ((ky == 2) = false ∧ ((O = true ∧ E = 5) ∨ O = false)))))) ∨
                (B = false ∧ (((kx == 0) = true ∧ E = 5) ∨ ((kx == 0) = false ∧ (((kx == 4) = true ∧ E = 5) ∨ ((kx == 4) = false ∧ (((ky == 2) = true ∧ E = 5) ∨ ((ky == 2) = false ∧ ((O = true ∧ E = 5) ∨ O = false)))))))) := by
              have hB := HB.out
              have hH := HH.out
              have h1 := FX.out.ok
              have h2 := FX.out.no
              have yb : ((ky == 2) = true ∧ ky = 2) ∨ ((ky == 2) = false ∧ ky ≠ 2) := by
                by_cases e : ky = 2
                · exact .inl ⟨beq_iff_eq.2 e, e⟩
                · exact .inr ⟨beq_eq_false_iff_ne.2 e, e⟩
              have ob : O = true ∨ O = false := by cases O <;> simp
              cases B with
              | true =>
                rw [Bool.or_eq_true, beq_iff_eq, beq_iff_eq] at hB
                refine .inl ⟨rfl, beq_eq_false_iff_ne.2 (by omega), beq_eq_false_iff_ne.2 (by omega), ?_⟩
                cases H with
                | true =>
                  rw [Bool.or_eq_true, Bool.or_eq_true, beq_iff_eq, beq_iff_eq, beq_iff_eq] at hH
                  refine .inl ⟨rfl, beq_eq_false_iff_ne.2 (by omega), ?_⟩
                  rcases ob with e | e
                  · exact .inr ⟨e, h2 (.inr (.inr (.inr e)))⟩
                  · exact .inl ⟨e, h1 hB (by rcases hH with (h | h) | h; exact .inl h; exact .inr (.inl h); exact .inr (.inr h)) e⟩
                | false =>
                  refine .inr ⟨rfl, ?_⟩
                  rcases yb with ⟨e, e2⟩ | ⟨e, e2⟩
                  · exact .inl ⟨e, h2 (.inr (.inr (.inl e2))), ob⟩
                  · refine .inr ⟨e, ?_⟩
                    rcases ob with e | e
                    · exact .inl ⟨e, h2 (.inr (.inr (.inr e)))⟩
                    · exact .inr e
              | false =>
                refine .inr ⟨rfl, ?_⟩
                by_cases k0 : kx = 0
                · exact .inl ⟨beq_iff_eq.2 k0, h2 (.inl k0)⟩
                refine .inr ⟨beq_eq_false_iff_ne.2 k0, ?_⟩
                by_cases k4 : kx = 4
                · exact .inl ⟨beq_iff_eq.2 k4, h2 (.inr (.inl k4))⟩
                refine .inr ⟨beq_eq_false_iff_ne.2 k4, ?_⟩
                rcases yb with ⟨e, e2⟩ | ⟨e, e2⟩
                · exact .inl ⟨e, h2 (.inr (.inr (.inl e2)))⟩
                · refine .inr ⟨e, ?_⟩
                  rcases ob with e | e
                  · exact .inl ⟨e, h2 (.inr (.inr (.inr e)))⟩
                  · exact .inr e
            clear HB HH FX
            rcases CASES with ⟨rfl, e1, e2, ⟨rfl, e3, ⟨rfl, rfl⟩ | ⟨rfl, rfl⟩⟩ | ⟨rfl, ⟨e3, rfl, rfl | rfl⟩ | ⟨e3, ⟨rfl, rfl⟩ | rfl⟩⟩⟩ | ⟨rfl, ⟨e1, rfl⟩ | ⟨e1, ⟨e2, rfl⟩ | ⟨e2, ⟨e3, rfl⟩ | ⟨e3, ⟨rfl, rfl⟩ | rfl⟩⟩⟩⟩
            all_goals
              go_wp2_with (first
                              | (go_at_call 43; ((with_reducible refine (GO.out _ BX.out.row).mono ?_); rintro e w1 ⟨rfl, hb⟩; have BX := Lib.hid (BX.out.keep hb); have z0 := BX.out.c0; have z1 := BX.out.c1; clear hb))
                              | (go_at_call 51; ((with_reducible refine (GM.out _ BX.out.row).mono ?_); rintro e w1 ⟨rfl, hb⟩; have BX := Lib.hid (BX.out.keep hb); have z0 := BX.out.c0; have z1 := BX.out.c1; clear hb))
                              | (go_at_call 51; ((with_reducible refine (GN.out _ BX.out.row).mono ?_); rintro e w1 ⟨rfl, hb⟩; have BX := Lib.hid (BX.out.keep hb); have z0 := BX.out.c0; have z1 := BX.out.c1; clear hb))
                              | (go_at_call 54; ((with_reducible refine (GS.out _ BX.out.row).mono ?_); rintro e w1 ⟨rfl, hb⟩; have BX := Lib.hid (BX.out.keep hb); have z0 := BX.out.c0; have z1 := BX.out.c1; clear hb)))
              go_meet
              exact ⟨rfl, BX⟩
          case rest =>
            clear BX z0 z1
            obtain ⟨rfl, BX⟩ := hcut
            have z0 := BX.out.c0
            have z1 := BX.out.c1
            have cz := CZ.out _ BX.out.below
            by_cases hp : pz = (Y : Int)
            · have e1 : (pz == (Y : Int)) = true := beq_iff_eq.2 hp
              clear hp
              go_wp2_with (first
                              | (go_at_call 43; ((with_reducible refine (GO.out _ BX.out.row).mono ?_); rintro e w1 ⟨rfl, hb⟩; have BX := Lib.hid (BX.out.keep hb); have z0 := BX.out.c0; have z1 := BX.out.c1; clear hb))
                              | (go_at_call 51; ((with_reducible refine (GM.out _ BX.out.row).mono ?_); rintro e w1 ⟨rfl, hb⟩; have BX := Lib.hid (BX.out.keep hb); have z0 := BX.out.c0; have z1 := BX.out.c1; clear hb))
                              | (go_at_call 51; ((with_reducible refine (GN.out _ BX.out.row).mono ?_); rintro e w1 ⟨rfl, hb⟩; have BX := Lib.hid (BX.out.keep hb); have z0 := BX.out.c0; have z1 := BX.out.c1; clear hb))
                              | (go_at_call 54; ((with_reducible refine (GS.out _ BX.out.row).mono ?_); rintro e w1 ⟨rfl, hb⟩; have BX := Lib.hid (BX.out.keep hb); have z0 := BX.out.c0; have z1 := BX.out.c1; clear hb)))
              go_ret
              exact ⟨rfl, BX.out.below⟩
            · have e1 : (pz == (Y : Int)) = false := beq_eq_false_iff_ne.2 hp
              obtain ⟨e2, e3⟩ := HAW.out hp
              clear hp HAW
              go_wp2_with (first
                              | (go_at_call 43; ((with_reducible refine (GO.out _ BX.out.row).mono ?_); rintro e w1 ⟨rfl, hb⟩; have BX := Lib.hid (BX.out.keep hb); have z0 := BX.out.c0; have z1 := BX.out.c1; clear hb))
                              | (go_at_call 51; ((with_reducible refine (GM.out _ BX.out.row).mono ?_); rintro e w1 ⟨rfl, hb⟩; have BX := Lib.hid (BX.out.keep hb); have z0 := BX.out.c0; have z1 := BX.out.c1; clear hb))
                              | (go_at_call 51; ((with_reducible refine (GN.out _ BX.out.row).mono ?_); rintro e w1 ⟨rfl, hb⟩; have BX := Lib.hid (BX.out.keep hb); have z0 := BX.out.c0; have z1 := BX.out.c1; clear hb))
                              | (go_at_call 54; ((with_reducible refine (GS.out _ BX.out.row).mono ?_); rintro e w1 ⟨rfl, hb⟩; have BX := Lib.hid (BX.out.keep hb); have z0 := BX.out.c0; have z1 := BX.out.c1; clear hb)))
              go_ret
              exact ⟨rfl, BX.out.below⟩
end Go.Proofs.Ytllfkiifkkcinaa
