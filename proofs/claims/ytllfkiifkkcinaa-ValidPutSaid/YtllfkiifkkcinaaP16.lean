/- Texts joined in build order: ShadeAwake ShadeAsk ShadeRefuse ShadeAttach. -/
import Derived.Test.YtllfkiifkkcinaaP02
import Derived.Test.YtllfkiifkkcinaaP08
import Derived.Test.YtllfkiifkkcinaaP05
import Derived.Test.YtllfkiifkkcinaaP07
import Derived.Deep.RegionLaw
/- instarlaw04's awake, over the contracts of packages forest and shade. -/
namespace Go.Proofs.Ytllfkiifkkcinaa
open Go.RowKit
/-- A forest in a box that is written, in which no text lies. -/
structure FBox (w W : World) (g : Nat) (a : Option Addr) (len cap : Nat) (m : Int) (L : List NodeD) (F : List Core) : Prop where
  box : Box w W g a len cap m L F
  free : ∀ o, W.frozen? ⟨g, o, none⟩ = false
  nt : ∀ j s, W.cell? ⟨g, j, none⟩ ≠ some (.string s)
theorem FBox.new {w W : World} {a : Option Addr} {len cap : Nat} {m : Int} {L : List NodeD} {F : List Core} (hb : Below w.heap.size w W) (h : NodeRow W a len cap L) (hc : coreL L = F) : FBox w (W.alloc (forB a len cap m)) W.heap.size a len cap m L F := by
  refine ⟨⟨h.below (below_box _ _), hc, hb.size, by simp, cell_of_row (W.alloc (forB a len cap m)) W.heap.size 0 _ 24 (0, 0) (heap_alloc_new W _), cell_of_row (W.alloc (forB a len cap m)) W.heap.size 1 _ 24 (0, 0) (heap_alloc_new W _), hb.alloc hb.size _⟩, fun o => row_free (heap_alloc_new W _) o, fun j s => ?_⟩
  exact box_notext (Below.refl _ _)
theorem FBox.keep {w W W2 : World} {g : Nat} {a : Option Addr} {len cap : Nat} {m : Int} {L : List NodeD} {F : List Core} (h : FBox w W g a len cap m L F) (hb : Below W.heap.size W W2) : FBox w W2 g a len cap m L F :=
  ⟨h.box.keep hb, fun o => (hb.frozen (p := ⟨g, o, none⟩) h.box.lt).trans (h.free o), fun j s => by rw [hb.cell (p := ⟨g, j, none⟩) h.box.lt]; exact h.nt j s⟩
theorem FBox.set {w W : World} {g : Nat} {a a2 : Option Addr} {len cap len2 cap2 : Nat} {m m2 : Int} {L L2 : List NodeD} {F F2 : List Core} (h : FBox w W g a len cap m L F) (h2 : NodeRow W a2 len2 cap2 L2) (hc : coreL L2 = F2) (hk : ∀ x ∈ L2, x.core.kids = [] ∧ x.core.attrs = []) :
    FBox w ((W.setCell ⟨g, 0, none⟩ (.slice a2 len2 cap2)).setCell ⟨g, 1, none⟩ (.int .i64 m2)) g a2 len2 cap2 m2 L2 F2 := by
  have n1 := notext_set (o := 0) (u := .slice a2 len2 cap2) h.nt h.box.c0 (fun s e => by cases e)
  have c1 : (W.setCell ⟨g, 0, none⟩ (.slice a2 len2 cap2)).cell? ⟨g, 1, none⟩ = some (.int .i64 m) := (World.cell?_setCell_other _ _ _ _ (fun e => by injection e with _ e; omega)).trans h.box.c1
  refine ⟨⟨(h2.setBox h.nt hk _).setBox n1 hk _, hc, h.box.low, by simpa [World.setCell] using h.box.lt, ?_, World.cell?_setCell_same _ _ _ c1, (h.box.below.setCell (p := ⟨g, 0, none⟩) h.box.low _).setCell (p := ⟨g, 1, none⟩) h.box.low _⟩, fun o => by rw [World.frozen?_setCell, World.frozen?_setCell]; exact h.free o, notext_set n1 c1 (fun s e => by cases e)⟩
  exact (World.cell?_setCell_other _ _ _ _ (fun e => by injection e with _ e; omega)).trans (World.cell?_setCell_same _ _ _ h.box.c0)
/-- A list of small nodes, by its data. -/
theorem small_of_core {L : List NodeD} {F : List Core} (h : coreL L = F) (hl : F.length ≤ 1000) (hs : ∀ c ∈ F, c.kids.length ≤ 1000 ∧ c.attrs.length ≤ 1000 ∧ c.name.size ≤ 1000) : smallF L := by
  refine ⟨by rw [← h] at hl; unfold coreL at hl; rwa [List.length_map] at hl, fun x hx => ?_⟩
  have hm : x.core ∈ F := by rw [← h]; exact List.mem_map.2 ⟨x, hx, rfl⟩
  exact hs _ hm
theorem bare_of_core {L : List NodeD} {F : List Core} (h : coreL L = F) (hs : ∀ c ∈ F, c.kids = [] ∧ c.attrs = []) : ∀ x ∈ L, x.core.kids = [] ∧ x.core.attrs = [] := fun x hx => by
  have hm : x.core ∈ F := by rw [← h]; exact List.mem_map.2 ⟨x, hx, rfl⟩
  exact hs _ hm
def divT : ByteArray := ⟨#[100, 105, 118]⟩
def divX : Core := ⟨1, divT, ⟨#[]⟩, ⟨#[]⟩, [], 0, [], 0, 0, 0⟩
def divC : Core := ⟨1, divT, ⟨#[]⟩, ⟨#[]⟩, [], -1, [], -1, -1, 0⟩
def g1 : List Core := [docC]
def g2 : List Core := [docC, divC]
def g3 : List Core := [docC, withU divC 2, shadeC 1 0]
theorem ga1 : newL 5 = g1 ∧ newM 5 = 5 ∧ newE 5 = 0 := by decide +kernel
theorem ga2 : makeE 5 g1 divX = 0 ∧ makeN 5 g1 divX = 1 ∧ makeL 5 g1 divX = g2 := by decide +kernel
theorem ga3 : attE 5 g2 1 = 0 ∧ attN 5 g2 1 = 2 ∧ attL 5 g2 1 = g3 := by decide +kernel
theorem ga4 : attE 5 g3 1 = 10 ∧ attN 5 g3 1 = -1 ∧ attL 5 g3 1 = g3 := by decide +kernel
theorem ga5 : allZ 5 g3 1 = [1, 2] ∧ topZ 5 g3 2 = 1 ∧ connZ 5 g3 2 = false ∧ connZ 5 g3 0 = true ∧ overZ 5 g3 1 2 = true ∧ elemsZ 5 g3 1 = [1] := by decide +kernel
def divD : NodeD := ⟨divX, none, 0, 0, none, 0, 0⟩
theorem divD_ok (w : World) : NodeOk w divD := by
  refine ⟨⟨SRow.nil, (fun z hz => by cases hz), fun _ => rfl⟩, ⟨SRow.nil, (fun z hz => by cases hz), fun _ => rfl⟩, ?_, ?_, ?_, ?_, ?_, ?_, ?_, ?_⟩
  · show 3 ≤ maxLen; decide
  · show 0 ≤ maxLen; decide
  · show 0 ≤ maxLen; decide
  · exact ⟨by show (_ : Int) ≤ 1; decide, by show (1 : Int) ≤ _; decide⟩
  all_goals exact ⟨by show (_ : Int) ≤ 0; decide, by show (0 : Int) ≤ _; decide⟩
theorem divD_small : smallX divD := ⟨Nat.zero_le _, by show 3 ≤ 1000; decide⟩
theorem s1 {L : List NodeD} (h : coreL L = g1) : smallF L := small_of_core h (by decide) (by intro c hc; have : c = docC := (by simpa [g1] using hc); subst this; decide)
theorem s2 {L : List NodeD} (h : coreL L = g2) : smallF L := small_of_core h (by decide) (by intro c hc; have : c = docC ∨ c = divC := (by simpa [g2] using hc); rcases this with rfl | rfl <;> decide)
theorem s3 {L : List NodeD} (h : coreL L = g3) : smallF L := small_of_core h (by decide) (by intro c hc; have : c = docC ∨ c = withU divC 2 ∨ c = shadeC 1 0 := (by simpa [g3] using hc); rcases this with rfl | rfl | rfl <;> decide)
theorem b2 {L : List NodeD} (h : coreL L = g2) : ∀ x ∈ L, x.core.kids = [] ∧ x.core.attrs = [] := bare_of_core h (by intro c hc; have : c = docC ∨ c = divC := (by simpa [g2] using hc); rcases this with rfl | rfl <;> exact ⟨rfl, rfl⟩)
theorem b3 {L : List NodeD} (h : coreL L = g3) : ∀ x ∈ L, x.core.kids = [] ∧ x.core.attrs = [] := bare_of_core h (by intro c hc; have : c = docC ∨ c = withU divC 2 ∨ c = shadeC 1 0 := (by simpa [g3] using hc); rcases this with rfl | rfl | rfl <;> exact ⟨rfl, rfl⟩)
theorem in2 : In64 2 := ⟨by decide, by decide⟩
abbrev divV : Value := .agg #[.int .i64 1, .string ⟨#[100, 105, 118]⟩, .string ⟨#[]⟩, .string ⟨#[]⟩, .slice none 0 0, .int .i64 0, .slice none 0 0, .int .i64 0, .int .i64 0, .int .i64 0]
set_option maxHeartbeats 8000000 in
set_option maxRecDepth 100000 in
theorem awake4_any (F : ForestFns) (S : ShadeFns) (w : World) : Calls Try.prog 37 #[] w fun e w' => e = .returned (.bool true) ∧ Below w.heap.size w w' := by
  have C0 : Hid (∀ W, Calls Try.prog 17 #[.int .i64 5] W (ForPost W g1 5 [.int .i64 0])) := Lib.hid (fun W => by
    have := F.new 5 W in5
    rwa [ga1.1, ga1.2.1, ga1.2.2] at this)
  have C1 : Hid (∀ W a len cap L, NodeRow W a len cap L → coreL L = g1 → Calls Try.prog 18 #[forV a len cap 5, divV] W (ForPost W g2 5 [.int .i64 1, .int .i64 0])) := Lib.hid (fun W a len cap L h hc => by
    have := F.make a len cap 5 L divD W h (divD_ok _) in5 (s1 hc) divD_small
    rw [hc, show divD.core = divX from rfl, ga2.1, ga2.2.1, ga2.2.2] at this
    exact this)
  have C2 : Hid (∀ W a len cap L, NodeRow W a len cap L → coreL L = g2 → Calls Try.prog 38 #[forV a len cap 5, .int .i64 1] W (ForPost W g3 5 [.int .i64 2, .int .i64 0])) := Lib.hid (fun W a len cap L h hc => by
    have := S.attach a len cap 5 L 1 W h in5 in1 (s2 hc)
    rwa [hc, ga3.1, ga3.2.1, ga3.2.2] at this)
  have C3 : Hid (∀ W a len cap L, NodeRow W a len cap L → coreL L = g3 → Calls Try.prog 38 #[forV a len cap 5, .int .i64 1] W (ForPost W g3 5 [.int .i64 (-1), .int .i64 10])) := Lib.hid (fun W a len cap L h hc => by
    have := S.attach a len cap 5 L 1 W h in5 in1 (s3 hc)
    rwa [hc, ga4.1, ga4.2.1, ga4.2.2] at this)
  have C4 : Hid (∀ W a len cap L, NodeRow W a len cap L → coreL L = g3 → Calls Try.prog 41 #[forV a len cap 5, .int .i64 1] W (OrdPost W [1, 2])) := Lib.hid (fun W a len cap L h hc => by
    have := S.all a len cap 5 L 1 W h in5 in1 (s3 hc)
    rwa [hc, ga5.1] at this)
  have C5 : Hid (∀ W a len cap L, NodeRow W a len cap L → coreL L = g3 → Calls Try.prog 39 #[forV a len cap 5, .int .i64 2] W fun e w' => e = .returned (.int .i64 1) ∧ Below W.heap.size W w') := Lib.hid (fun W a len cap L h hc => by
    have := S.top a len cap 5 L 2 W h in5 in2 (s3 hc)
    rwa [hc, ga5.2.1] at this)
  have C6 : Hid (∀ W a len cap L, NodeRow W a len cap L → coreL L = g3 → Calls Try.prog 40 #[forV a len cap 5, .int .i64 2] W fun e w' => e = .returned (.bool false) ∧ Below W.heap.size W w') := Lib.hid (fun W a len cap L h hc => by
    have := S.conn a len cap 5 L 2 W h in5 in2 (s3 hc)
    rwa [hc, ga5.2.2.1] at this)
  have C7 : Hid (∀ W a len cap L, NodeRow W a len cap L → coreL L = g3 → Calls Try.prog 40 #[forV a len cap 5, .int .i64 0] W fun e w' => e = .returned (.bool true) ∧ Below W.heap.size W w') := Lib.hid (fun W a len cap L h hc => by
    have := S.conn a len cap 5 L 0 W h in5 in0 (s3 hc)
    rwa [hc, ga5.2.2.2.1] at this)
  have C8 : Hid (∀ W a len cap L, NodeRow W a len cap L → coreL L = g3 → Calls Try.prog 43 #[forV a len cap 5, .int .i64 1, .int .i64 2] W fun e w' => e = .returned (.bool true) ∧ Below W.heap.size W w') := Lib.hid (fun W a len cap L h hc => by
    have := S.over a len cap 5 L 1 2 W h in5 in1 in2 (s3 hc)
    rwa [hc, ga5.2.2.2.2.1] at this)
  have C9 : Hid (∀ W a len cap L, NodeRow W a len cap L → coreL L = g3 → Calls Try.prog 42 #[forV a len cap 5, .int .i64 1] W (OrdPost W [1])) := Lib.hid (fun W a len cap L h hc => by
    have := S.elems a len cap 5 L 1 W h in5 in1 (s3 hc)
    rwa [hc, ga5.2.2.2.2.2] at this)
  clear F S
  go_enter Try.func37, Try.ntmps37
  go_wp2_with (first
    | (go_at_call 17; refine (C0.out _).mono ?_; rintro e w1 ⟨a1, len1, cap1, L1, rfl, hr1, hc1, hb1⟩; have BX := Lib.hid (FBox.new (m := 5) hb1 hr1 hc1); (have z0 := BX.out.box.c0; have z1 := BX.out.box.c1; have xf0 := BX.out.free 0; have xf1 := BX.out.free 1); clear hr1 hc1 hb1)
    | (go_at_call 18; ((with_reducible refine (C1.out _ _ _ _ _ BX.out.box.row BX.out.box.core).mono ?_); rintro e w2 ⟨a2, len2, cap2, L2, rfl, hr2, hc2, hb2⟩)
       have BX := Lib.hid (BX.out.keep hb2)
       (have z0 := BX.out.box.c0; have z1 := BX.out.box.c1; have xf0 := BX.out.free 0; have xf1 := BX.out.free 1)
       have BN := Lib.hid (BX.out.set (m2 := 5) hr2 hc2 (b2 hc2))
       clear hr2 hc2 hb2)
    | (go_at_call 38; ((with_reducible refine (C2.out _ _ _ _ _ BN.out.box.row BN.out.box.core).mono ?_); rintro e w3 ⟨a3, len3, cap3, L3, rfl, hr3, hc3, hb3⟩)
       have BX := Lib.hid (BN.out.keep hb3)
       clear z0 z1 xf0 xf1
       (have z0 := BX.out.box.c0; have z1 := BX.out.box.c1; have xf0 := BX.out.free 0; have xf1 := BX.out.free 1)
       have BM := Lib.hid (BX.out.set (m2 := 5) hr3 hc3 (b3 hc3))
       clear hr3 hc3 hb3)
    | (go_at_call 38; ((with_reducible refine (C3.out _ _ _ _ _ BM.out.box.row BM.out.box.core).mono ?_); rintro e w4 ⟨a4, len4, cap4, L4, rfl, hr4, hc4, hb4⟩)
       have BX := Lib.hid ((BM.out.keep hb4).keep (below_box _ (forB a4 len4 cap4 5)))
       clear z0 z1 xf0 xf1
       (have z0 := BX.out.box.c0; have z1 := BX.out.box.c1; have xf0 := BX.out.free 0; have xf1 := BX.out.free 1)
       clear hr4 hc4 hb4)
    | (go_at_call 41; ((with_reducible refine (C4.out _ _ _ _ _ BX.out.box.row BX.out.box.core).mono ?_); rintro e w5 ⟨a5, len5, cap5, rfl, hr5, hb5⟩)
       have BX := Lib.hid (BX.out.keep hb5)
       clear z0 z1 xf0 xf1
       (have z0 := BX.out.box.c0; have z1 := BX.out.box.c1; have xf0 := BX.out.free 0; have xf1 := BX.out.free 1)
       obtain rfl : 2 = len5 := hr5.hlen
       obtain ⟨bo, oo, z, rfl, hbo, hz, hco, _⟩ := hr5.get (k := 1) (by decide)
       obtain rfl : 2 = z := by simpa using hz
       clear hr5 hb5 hz)
    | (go_at_call 39; ((with_reducible refine (C5.out _ _ _ _ _ BX.out.box.row BX.out.box.core).mono ?_); rintro e w6 ⟨rfl, hb6⟩); have BX := Lib.hid (BX.out.keep hb6); clear z0 z1 xf0 xf1; (have z0 := BX.out.box.c0; have z1 := BX.out.box.c1; have xf0 := BX.out.free 0; have xf1 := BX.out.free 1); clear hb6)
    | (go_at_call 40; ((with_reducible refine (C6.out _ _ _ _ _ BX.out.box.row BX.out.box.core).mono ?_); rintro e w7 ⟨rfl, hb7⟩); have BX := Lib.hid (BX.out.keep hb7); clear z0 z1 xf0 xf1; (have z0 := BX.out.box.c0; have z1 := BX.out.box.c1; have xf0 := BX.out.free 0; have xf1 := BX.out.free 1); clear hb7)
    | (go_at_call 40; ((with_reducible refine (C7.out _ _ _ _ _ BX.out.box.row BX.out.box.core).mono ?_); rintro e w8 ⟨rfl, hb8⟩); have BX := Lib.hid (BX.out.keep hb8); clear z0 z1 xf0 xf1; (have z0 := BX.out.box.c0; have z1 := BX.out.box.c1; have xf0 := BX.out.free 0; have xf1 := BX.out.free 1); clear hb8)
    | (go_at_call 43; ((with_reducible refine (C8.out _ _ _ _ _ BX.out.box.row BX.out.box.core).mono ?_); rintro e w9 ⟨rfl, hb9⟩); have BX := Lib.hid (BX.out.keep hb9); clear z0 z1 xf0 xf1; (have z0 := BX.out.box.c0; have z1 := BX.out.box.c1; have xf0 := BX.out.free 0; have xf1 := BX.out.free 1); clear hb9)
    | (go_at_call 42; ((with_reducible refine (C9.out _ _ _ _ _ BX.out.box.row BX.out.box.core).mono ?_); rintro e w10 ⟨a10, len10, cap10, rfl, hr10, hb10⟩)
       have BX := Lib.hid (BX.out.keep hb10)
       obtain rfl : 1 = len10 := hr10.hlen
       clear hr10 hb10))
  go_ret
  exact ⟨rfl, BX.out.box.below⟩
end Go.Proofs.Ytllfkiifkkcinaa
/- Package shade's knows, up, Top, Over, Connected. -/
namespace Go.Proofs.Ytllfkiifkkcinaa
open Go.RowKit
set_option maxHeartbeats 4000000 in
set_option maxRecDepth 100000 in
theorem shknows_any (a : Option Addr) (len cap : Nat) (m : Int) (L : List NodeD) (b : Option Addr) (ln cn : Nat) (l : List Int) (w : World) (h : NodeRow w a len cap L) (hm : In64 m) (hs : smallF L) (hn : IntRow w b ln cn l) :
    Calls Try.prog 70 #[forV a len cap m, .slice b ln cn] w fun e w' => e = .returned (.bool (knowsB m (coreL L) l)) ∧ Below w.heap.size w w' := by
  have HL := Lib.hid h.hlen
  have hlen := h.len64
  have HNL := Lib.hid hn.hlen
  have hln := hn.len64
  have BX := Lib.hid (Box.start (m := m) h)
  have NR := Lib.hid (hn.below (below_box w (forB a len cap m)))
  have z0 := BX.out.c0
  have z1 := BX.out.c1
  have CR : Hid (∀ W, NodeRow W a len cap L → Calls Try.prog 19 #[forV a len cap m] W fun e w' => e = .returned (.bool (rightF m (coreL L))) ∧ Below W.heap.size W w') := Lib.hid (fun W h => rightF_any a len cap m L W h hm hs)
  clear h hm hs hn
  go_enter Try.func70, Try.ntmps70
  go_wp2
  go_loop [9] (fun i => ∃ k : Nat, k ≤ ln ∧ i = .int .i64 k ∧ Hid (∀ (j : Nat) z, j < k → l[j]? = some z → inB (coreL L).length z = true)) (fun i => ln - (intOf i).toNat)
  case atStart => exact ⟨0, Nat.zero_le _, rfl, Lib.hid (fun j z hj => absurd hj (by omega))⟩
  case round =>
    obtain ⟨k, hk, rfl, HA⟩ := hrel
    by_cases hlt : k < ln
    · obtain ⟨b2, off2, z, rfl, hb2, hz, hcz, hin⟩ := NR.out.get hlt
      have STOP : Hid (inB (coreL L).length z = false → knowsB m (coreL L) l = false) := Lib.hid (fun hq => by
        unfold knowsB
        have : l.all (inB (coreL L).length) = false := by rw [List.all_eq_false]; exact ⟨z, List.mem_of_getElem? hz, by simp [hq]⟩
        rw [this]
        rfl)
      by_cases q1 : z < 0
      · have HR : Hid (knowsB m (coreL L) l = false) := Lib.hid (STOP.out (by unfold inB; rw [decide_eq_false (by omega)]; rfl))
        clear hz
        go_wp2
        go_ret
        exact ⟨ret_bool HR.out.symm, BX.out.below⟩
      by_cases q2 : (len : Int) ≤ z
      · have HR : Hid (knowsB m (coreL L) l = false) := Lib.hid (STOP.out (by unfold inB; rw [decide_eq_false (show ¬ z < ((coreL L).length : Int) by rw [coreL_len, HL.out]; omega), Bool.and_false]))
        clear hz
        go_wp2
        go_ret
        exact ⟨ret_bool HR.out.symm, BX.out.below⟩
      have HA2 : Hid (∀ (j : Nat) z, j < k + 1 → l[j]? = some z → inB (coreL L).length z = true) := Lib.hid (fun j y hj hy => by
        by_cases e : j = k
        · subst e
          rw [hz] at hy
          rw [← Option.some.inj hy]
          unfold inB
          rw [decide_eq_true (by omega), decide_eq_true (by rw [coreL_len, HL.out]; omega)]
          rfl
        · exact HA.out j y (by omega) hy)
      clear hz
      go_wp2
      go_round
      case rel => exact ⟨k + 1, by omega, by go_num, HA2⟩
      case measure => simp [intOf]; omega
    · have HR : Hid (knowsB m (coreL L) l = rightF m (coreL L)) := Lib.hid (by
        unfold knowsB
        have : l.all (inB (coreL L).length) = true := by
          rw [List.all_eq_true]
          intro z hz
          obtain ⟨j, hj, he⟩ := List.mem_iff_getElem.1 hz
          exact HA.out j z (by rw [HNL.out] at hj; omega) (by rw [List.getElem?_eq_getElem hj, he])
        rw [this]
        rfl)
      clear HA
      go_wp2_with (go_at_call 19; (refine (CR.out _ BX.out.row).mono ?_); rintro e w1 ⟨rfl, hb⟩; have BX := Lib.hid (BX.out.keep hb); clear hb)
      go_ret
      exact ⟨ret_bool HR.out.symm, BX.out.below⟩
set_option maxHeartbeats 2000000 in
theorem shup_any (x : NodeD) (w : World) : Calls Try.prog 71 #[nodVal x] w fun e w' => e = .returned (.int .i64 (upC x.core)) ∧ Below w.heap.size w w' := by
  obtain ⟨⟨kind, name, is, data, attrs, parent, kids, host, under, doc⟩, aA, aN, aC, kA, kN, kC⟩ := x
  by_cases hp : parent = -1
  · subst hp
    go_enter Try.func71, Try.ntmps71
    go_wp2
    go_ret
    exact ⟨rfl, below_box _ _⟩
  · have HR : Hid (upC ⟨kind, name, is, data, attrs, parent, kids, host, under, doc⟩ = parent) := Lib.hid (by unfold upC; dsimp only; rw [if_neg hp])
    go_enter Try.func71, Try.ntmps71
    go_wp2
    go_ret
    exact ⟨ret_int HR.out.symm, below_box _ _⟩
theorem up_at {m : Int} {F : List Core} (hr : rightF m F = true) {c : Nat} {x : Core} (hx : F[c]? = some x) : (upC x = -1 ∧ parS F c = none) ∨ ∃ p : Nat, upC x = p ∧ p < F.length ∧ parS F c = some p := by
  have hc := (List.getElem?_eq_some_iff.1 hx).1
  by_cases he : nextUp F (c : Int) = -1
  · exact .inl ⟨by rw [← nextUp_at hx]; exact he, parS_none he⟩
  · rcases right_up hr c (by omega) (by omega) with h | ⟨h1, h2⟩
    · exact absurd h he
    · exact .inr ⟨(nextUp F (c : Int)).toNat, by rw [← nextUp_at hx]; omega, by omega, parS_some (by omega)⟩
theorem connZ_eq' {m : Int} {F : List Core} (h : rightF m F = true) {a : Nat} (ha : a < F.length) : connZ m F (a : Int) = (kindK F (topZ m F a) == 0) := by
  unfold connZ
  rw [thereF_of h ha, Bool.true_and]
set_option maxHeartbeats 8000000 in
set_option maxRecDepth 100000 in
theorem topFn_any (a : Option Addr) (len cap : Nat) (m : Int) (L : List NodeD) (n : Int) (w : World) (h : NodeRow w a len cap L) (hm : In64 m) (hn : In64 n) (hs : smallF L) :
    Calls Try.prog 39 #[forV a len cap m, .int .i64 n] w fun e w' => e = .returned (.int .i64 (topZ m (coreL L) n)) ∧ Below w.heap.size w w' := by
  have HCL : Hid ((coreL L).length = len) := Lib.hid (by rw [coreL_len, h.hlen])
  have hlen := h.len64
  have BX := Lib.hid ((Box.start (m := m) h).keep (below_box _ (.cells #[.int .i64 n] 3)))
  have NB := Lib.hid (lit_one (w.alloc (forB a len cap m)) 3 n hn)
  have CK : Hid (∀ W b, NodeRow W a len cap L → IntRow W b 1 1 [n] → Calls Try.prog 70 #[forV a len cap m, .slice b 1 1] W fun e w' => e = .returned (.bool (thereF m (coreL L) n)) ∧ Below W.heap.size W w') := Lib.hid (fun W b h1 h2 => by
    rw [← knowsB_one]
    exact shknows_any a len cap m L b 1 1 [n] W h1 hm hs h2)
  simp only [World.size_alloc] at NB
  have z0 := BX.out.c0
  have z1 := BX.out.c1
  clear h hm hs hn
  cases q : thereF m (coreL L) n with
  | false =>
    rw [q] at CK
    have HR : Hid (topZ m (coreL L) n = -1) := Lib.hid (by unfold topZ; rw [q]; rfl)
    clear q
    go_enter Try.func39, Try.ntmps39
    go_wp2_with (go_at_call 70; ((with_reducible refine (CK.out _ _ BX.out.row NB.out).mono ?_); rintro e w1 ⟨rfl, hb⟩; have BX := Lib.hid (BX.out.keep hb); have z0 := BX.out.c0; have z1 := BX.out.c1; clear hb))
    go_ret
    exact ⟨ret_int HR.out.symm, BX.out.below⟩
  | true =>
    rw [q] at CK
    obtain ⟨hr, k, rfl, hk⟩ := there_nat q
    have HR : Hid (topZ m (coreL L) k = (topF (coreL L) k : Nat)) := Lib.hid (topZ_eq hr hk)
    have TR := Lib.hid (treeS hr)
    have HRT := Lib.hid hr
    rw [HCL.out] at hk
    clear q hr
    go_enter Try.func39, Try.ntmps39
    go_wp2_with (go_at_call 70; ((with_reducible refine (CK.out _ _ BX.out.row NB.out).mono ?_); rintro e w1 ⟨rfl, hb⟩; have BX := Lib.hid (BX.out.keep hb); have z0 := BX.out.c0; have z1 := BX.out.c1; clear hb))
    go_loopw [1] (fun i wr => ∃ c : Nat, c < len ∧ i = .int .i64 c ∧ Hid (topF (coreL L) c = topF (coreL L) k) ∧ Hid (Box w wr w.heap.size a len cap m L (coreL L))) (fun i _ => rankF (coreL L) (intOf i).toNat)
    case atStart => exact ⟨k, hk, rfl, Lib.hid rfl, BX⟩
    case round =>
      clear BX z0 z1
      obtain ⟨c, hc, rfl, HE, BX⟩ := hrel
      have z0 := BX.out.c0
      have z1 := BX.out.c1
      obtain ⟨b, off, x, rfl, hb, hx, hat, hok⟩ := BX.out.row.get hc
      have HAT := Lib.hid hat
      have HBL := Lib.hid hb
      obtain ⟨c0, c1, c2, c3, c4, c5, c6, c7, c8, c9⟩ := hat
      have hxc := coreL_get hx
      have hcl : c < (coreL L).length := by rw [HCL.out]; exact hc
      rcases up_at HRT.out hxc with ⟨hu, hp⟩ | ⟨p, hu, hpl, hp⟩
      · have UP : Hid (∀ W, Calls Try.prog 71 #[nodVal x] W fun e w' => e = .returned (.int .i64 (-1)) ∧ Below W.heap.size W w') := Lib.hid (fun W => by
          have := shup_any x W
          rwa [hu] at this)
        have HQ : Hid (topF (coreL L) k = c) := Lib.hid (by
          rw [← HE.out]
          exact rootN_none hp)
        clear hxc hx hok hp hu hb
        go_wp2_with (go_at_call 71; (refine (UP.out _).mono ?_); rintro e w2 ⟨rfl, hb⟩; have BX := Lib.hid (BX.out.keep hb); have HAT := Lib.hid (HAT.out.below HBL.out hb); have HBL := Lib.hid (Nat.lt_of_lt_of_le HBL.out hb.size); clear z0 z1 c0 c1 c2 c3 c4 c5 c6 c7 c8 c9; have z0 := BX.out.c0; have z1 := BX.out.c1; obtain ⟨c0, c1, c2, c3, c4, c5, c6, c7, c8, c9⟩ := HAT.out; clear hb)
        go_ret
        exact ⟨ret_int (by rw [HR.out, HQ.out]), BX.out.below⟩
      · have UP : Hid (∀ W, Calls Try.prog 71 #[nodVal x] W fun e w' => e = .returned (.int .i64 (p : Int)) ∧ Below W.heap.size W w') := Lib.hid (fun W => by
          have := shup_any x W
          rwa [hu] at this)
        have HRK := Lib.hid (TR.out.rank_up _ c hcl hp)
        have HE2 : Hid (topF (coreL L) p = topF (coreL L) k) := Lib.hid (by
          rw [← HE.out]
          exact TR.out.root_held hcl (by omega) (holds_par hp))
        rw [HCL.out] at hpl
        have hne : ((p : Int) != -1) = true := bne_iff_ne.2 (by omega)
        clear hxc hx hok hp hu hb
        go_wp2_with (go_at_call 71; (refine (UP.out _).mono ?_); rintro e w2 ⟨rfl, hb⟩; have BX := Lib.hid (BX.out.keep hb); have HAT := Lib.hid (HAT.out.below HBL.out hb); have HBL := Lib.hid (Nat.lt_of_lt_of_le HBL.out hb.size); clear z0 z1 c0 c1 c2 c3 c4 c5 c6 c7 c8 c9; have z0 := BX.out.c0; have z1 := BX.out.c1; obtain ⟨c0, c1, c2, c3, c4, c5, c6, c7, c8, c9⟩ := HAT.out; clear hb)
        go_roundw
        case rel => exact ⟨p, hpl, rfl, HE2, BX⟩
        case measure =>
          have := HRK.out
          unfold rankF at this ⊢
          simp [intOf]
          omega
set_option maxHeartbeats 8000000 in
set_option maxRecDepth 100000 in
theorem overFn_any (a : Option Addr) (len cap : Nat) (m : Int) (L : List NodeD) (x y : Int) (w : World) (h : NodeRow w a len cap L) (hm : In64 m) (hx : In64 x) (hy : In64 y) (hs : smallF L) :
    Calls Try.prog 43 #[forV a len cap m, .int .i64 x, .int .i64 y] w fun e w' => e = .returned (.bool (overZ m (coreL L) x y)) ∧ Below w.heap.size w w' := by
  have HCL : Hid ((coreL L).length = len) := Lib.hid (by rw [coreL_len, h.hlen])
  have hlen := h.len64
  have BX := Lib.hid ((Box.start (m := m) h).keep (below_box _ (.cells #[.int .i64 x, .int .i64 y] 3)))
  have NB := Lib.hid (lit_two (w.alloc (forB a len cap m)) 3 x y hx hy)
  have CK : Hid (∀ W b, NodeRow W a len cap L → IntRow W b 2 2 [x, y] → Calls Try.prog 70 #[forV a len cap m, .slice b 2 2] W fun e w' => e = .returned (.bool (thereF m (coreL L) x && thereF m (coreL L) y)) ∧ Below W.heap.size W w') := Lib.hid (fun W b h1 h2 => by
    rw [← knowsB_two]
    exact shknows_any a len cap m L b 2 2 [x, y] W h1 hm hs h2)
  simp only [World.size_alloc] at NB
  have z0 := BX.out.c0
  have z1 := BX.out.c1
  clear h hm hs hx hy
  cases q : (thereF m (coreL L) x && thereF m (coreL L) y) with
  | false =>
    rw [q] at CK
    have HR : Hid (overZ m (coreL L) x y = false) := Lib.hid (by unfold overZ; rw [q]; rfl)
    clear q
    go_enter Try.func43, Try.ntmps43
    go_wp2_with (go_at_call 70; ((with_reducible refine (CK.out _ _ BX.out.row NB.out).mono ?_); rintro e w1 ⟨rfl, hb⟩; have BX := Lib.hid (BX.out.keep hb); have z0 := BX.out.c0; have z1 := BX.out.c1; clear hb))
    go_ret
    exact ⟨ret_bool HR.out.symm, BX.out.below⟩
  | true =>
    rw [q] at CK
    rw [Bool.and_eq_true] at q
    obtain ⟨hr, X, rfl, hX⟩ := there_nat q.1
    obtain ⟨-, Y, rfl, hY⟩ := there_nat q.2
    have HI := Lib.hid (overZ_iff hr hX hY)
    have HRT := Lib.hid hr
    rw [HCL.out] at hX hY
    have TR := Lib.hid (treeS hr)
    clear q hr
    go_enter Try.func43, Try.ntmps43
    go_wp2_with (go_at_call 70; ((with_reducible refine (CK.out _ _ BX.out.row NB.out).mono ?_); rintro e w1 ⟨rfl, hb⟩; have BX := Lib.hid (BX.out.keep hb); have z0 := BX.out.c0; have z1 := BX.out.c1; clear hb))
    go_loopw [2] (fun i wr => ((i = .int .i64 (-1) ∧ Hid (¬ holdsT (parS (coreL L)) X Y)) ∨ ∃ c : Nat, c < len ∧ i = .int .i64 c ∧ Hid (holdsT (parS (coreL L)) X c ↔ holdsT (parS (coreL L)) X Y)) ∧ Hid (Box w wr w.heap.size a len cap m L (coreL L))) (fun i _ => if intOf i = -1 then 0 else rankF (coreL L) (intOf i).toNat + 1)
    case atStart => exact ⟨.inr ⟨Y, hY, rfl, Lib.hid Iff.rfl⟩, BX⟩
    case round =>
      clear BX z0 z1
      obtain ⟨hrel, BX⟩ := hrel
      have z0 := BX.out.c0
      have z1 := BX.out.c1
      rcases hrel with ⟨rfl, HN⟩ | ⟨c, hc, rfl, HE⟩
      · have HR : Hid (overZ m (coreL L) X Y = false) := Lib.hid (by
          cases hq : overZ m (coreL L) X Y with
          | false => rfl
          | true => exact absurd (HI.out.1 hq) HN.out)
        have hne : ((-1 : Int) != (X : Int)) = true := bne_iff_ne.2 (by omega)
        have hne2 : ((-1 : Int) == (X : Int)) = false := beq_eq_false_iff_ne.2 (by omega)
        go_wp2
        go_ret
        exact ⟨ret_bool HR.out.symm, BX.out.below⟩
      · by_cases he : c = X
        · have HR : Hid (overZ m (coreL L) X Y = true) := Lib.hid (HI.out.2 (HE.out.1 (by rw [he]; exact holds_refl X)))
          have e1 : ((c : Int) != (X : Int)) = false := by rw [he]; simp
          have e2 : ((c : Int) == (X : Int)) = true := by rw [he]; simp
          clear he
          go_wp2
          go_ret
          exact ⟨ret_bool HR.out.symm, BX.out.below⟩
        · have hne : ((c : Int) != (X : Int)) = true := bne_iff_ne.2 (by omega)
          have hne2 : ((c : Int) != -1) = true := bne_iff_ne.2 (by omega)
          obtain ⟨b, off, nx, hab, hb, hx, hat, hok⟩ := BX.out.row.get hc
          have HAT := Lib.hid hat
          have HBL := Lib.hid hb
          obtain ⟨c0, c1, c2, c3, c4, c5, c6, c7, c8, c9⟩ := hat
          have hxc := coreL_get hx
          subst hab
          have hcl : c < (coreL L).length := by rw [HCL.out]; exact hc
          rcases up_at HRT.out hxc with ⟨hu, hp⟩ | ⟨p, hu, hpl, hp⟩
          · have UP : Hid (∀ W, Calls Try.prog 71 #[nodVal nx] W fun e w' => e = .returned (.int .i64 (-1)) ∧ Below W.heap.size W w') := Lib.hid (fun W => by
              have := shup_any nx W
              rwa [hu] at this)
            have HN : Hid (¬ holdsT (parS (coreL L)) X Y) := Lib.hid (fun ht => by
              rcases holds_up (HE.out.2 ht) with h | ⟨p, h1, _⟩
              · exact he h.symm
              · rw [hp] at h1
                cases h1)
            clear hxc hx hok hp hu hb he
            go_wp2_with (go_at_call 71; (refine (UP.out _).mono ?_); rintro e w2 ⟨rfl, hb⟩; have BX := Lib.hid (BX.out.keep hb); have HAT := Lib.hid (HAT.out.below HBL.out hb); have HBL := Lib.hid (Nat.lt_of_lt_of_le HBL.out hb.size); clear z0 z1 c0 c1 c2 c3 c4 c5 c6 c7 c8 c9; have z0 := BX.out.c0; have z1 := BX.out.c1; obtain ⟨c0, c1, c2, c3, c4, c5, c6, c7, c8, c9⟩ := HAT.out; clear hb)
            go_roundw
            case rel => exact ⟨.inl ⟨rfl, HN⟩, BX⟩
            case measure => simp [intOf]
          · have UP : Hid (∀ W, Calls Try.prog 71 #[nodVal nx] W fun e w' => e = .returned (.int .i64 (p : Int)) ∧ Below W.heap.size W w') := Lib.hid (fun W => by
              have := shup_any nx W
              rwa [hu] at this)
            have HRK := Lib.hid (TR.out.rank_up _ c hcl hp)
            have HE2 : Hid (holdsT (parS (coreL L)) X p ↔ holdsT (parS (coreL L)) X Y) := Lib.hid (by
              rw [← HE.out]
              constructor
              · exact fun h => holds_trans h (holds_par hp)
              · intro h
                rcases holds_up h with h | ⟨q, h1, h2⟩
                · exact absurd h.symm he
                · rw [hp] at h1
                  injection h1 with h1
                  subst h1
                  exact h2)
            rw [HCL.out] at hpl
            clear hxc hx hok hp hu hb he
            go_wp2_with (go_at_call 71; (refine (UP.out _).mono ?_); rintro e w2 ⟨rfl, hb⟩; have BX := Lib.hid (BX.out.keep hb); have HAT := Lib.hid (HAT.out.below HBL.out hb); have HBL := Lib.hid (Nat.lt_of_lt_of_le HBL.out hb.size); clear z0 z1 c0 c1 c2 c3 c4 c5 c6 c7 c8 c9; have z0 := BX.out.c0; have z1 := BX.out.c1; obtain ⟨c0, c1, c2, c3, c4, c5, c6, c7, c8, c9⟩ := HAT.out; clear hb)
            go_roundw
            case rel => exact ⟨.inr ⟨p, hpl, rfl, HE2⟩, BX⟩
            case measure =>
              have := HRK.out
              unfold rankF at this ⊢
              simp [intOf]
              omega
set_option maxHeartbeats 8000000 in
set_option maxRecDepth 100000 in
theorem connFn_any (a : Option Addr) (len cap : Nat) (m : Int) (L : List NodeD) (n : Int) (w : World) (h : NodeRow w a len cap L) (hm : In64 m) (hn : In64 n) (hs : smallF L) :
    Calls Try.prog 40 #[forV a len cap m, .int .i64 n] w fun e w' => e = .returned (.bool (connZ m (coreL L) n)) ∧ Below w.heap.size w w' := by
  have HCL : Hid ((coreL L).length = len) := Lib.hid (by rw [coreL_len, h.hlen])
  have hlen := h.len64
  have BX := Lib.hid (Box.start (m := m) h)
  have z0 := BX.out.c0
  have z1 := BX.out.c1
  cases q : thereF m (coreL L) n with
  | false =>
    have CT : Hid (∀ W, NodeRow W a len cap L → Calls Try.prog 39 #[forV a len cap m, .int .i64 n] W fun e w' => e = .returned (.int .i64 (-1)) ∧ Below W.heap.size W w') := Lib.hid (fun W h => by
      have := topFn_any a len cap m L n W h hm hn hs
      rwa [show topZ m (coreL L) n = -1 by unfold topZ; rw [q]; rfl] at this)
    have HR : Hid (connZ m (coreL L) n = false) := Lib.hid (by unfold connZ; rw [q]; rfl)
    clear q h hm hn hs
    go_enter Try.func40, Try.ntmps40
    go_wp2_with (go_at_call 39; ((with_reducible refine (CT.out _ BX.out.row).mono ?_); rintro e w1 ⟨rfl, hb⟩; have BX := Lib.hid (BX.out.keep hb); have z0 := BX.out.c0; have z1 := BX.out.c1; clear hb))
    go_ret
    exact ⟨ret_bool HR.out.symm, BX.out.below⟩
  | true =>
    obtain ⟨hr, k, rfl, hk⟩ := there_nat q
    have ht := topF_lt hr hk
    have hte := topZ_eq hr hk
    obtain ⟨t, hT⟩ : ∃ t, topF (coreL L) k = t := ⟨_, rfl⟩
    rw [hT] at ht hte
    rw [HCL.out] at ht
    have CT : Hid (∀ W, NodeRow W a len cap L → Calls Try.prog 39 #[forV a len cap m, .int .i64 k] W fun e w' => e = .returned (.int .i64 (t : Int)) ∧ Below W.heap.size W w') := Lib.hid (fun W h => by
      have := topFn_any a len cap m L k W h hm hn hs
      rwa [hte] at this)
    obtain ⟨b, off, x, rfl, hb, hx, hat, -⟩ := h.get ht
    have C0 := Lib.hid (stays hat.c0 hb)
    have HR : Hid (connZ m (coreL L) k = (x.core.kind == 0)) := Lib.hid (by
      rw [connZ_eq' hr hk, hte]
      unfold kindK
      rw [getC_nat, coreL_get hx])
    have hne : ((t : Int) != -1) = true := bne_iff_ne.2 (by omega)
    clear q h hm hn hs hr hk hT hte hb hx hat
    go_enter Try.func40, Try.ntmps40
    go_wp2_with (go_at_call 39; ((with_reducible refine (CT.out _ BX.out.row).mono ?_); rintro e w1 ⟨rfl, hb⟩; have BX := Lib.hid (BX.out.keep hb); have z0 := BX.out.c0; have z1 := BX.out.c1; have c0 := C0.out _ BX.out.below; clear hb))
    go_ret
    exact ⟨ret_bool HR.out.symm, BX.out.below⟩
end Go.Proofs.Ytllfkiifkkcinaa
/- Package shade's hosts, refusal. -/
namespace Go.Proofs.Ytllfkiifkkcinaa
open Go.RowKit
set_option maxHeartbeats 4000000 in
set_option maxRecDepth 100000 in
theorem hosts_any (x : NodeD) (w : World) (hx : NodeOk w x) :
    Calls Try.prog 90 #[nodVal x] w fun e w' => e = .returned (.bool (hostsC x.core)) ∧ Below w.heap.size w w' := by
  have NK := Lib.hid (NKeep.start hx)
  obtain ⟨⟨kind, name, is, data, attrs, parent, kids, host, under, doc⟩, aA, aN, aC, kA, kN, kC⟩ := x
  have HN := Lib.hid hx.name
  by_cases hk : kind = 1
  · subst hk
    have HR : Hid (hostsC ⟨1, name, is, data, attrs, parent, kids, host, under, doc⟩ = (name.toList == [100, 105, 118] || name.toList == [112] || name.toList == [115, 112, 97, 110] || customL name.toList)) := Lib.hid rfl
    clear hx
    by_cases h1 : name.toList = [100, 105, 118]
    · have HQ : Hid (hostsC ⟨1, name, is, data, attrs, parent, kids, host, under, doc⟩ = true) := Lib.hid (by rw [HR.out, h1]; rfl)
      go_enter Try.func90, Try.ntmps90
      go_wp2
      go_ret
      exact ⟨ret_bool HQ.out.symm, NK.out.below⟩
    by_cases h2 : name.toList = [112]
    · have HQ : Hid (hostsC ⟨1, name, is, data, attrs, parent, kids, host, under, doc⟩ = true) := Lib.hid (by rw [HR.out, h2]; rfl)
      go_enter Try.func90, Try.ntmps90
      go_wp2
      go_ret
      exact ⟨ret_bool HQ.out.symm, NK.out.below⟩
    by_cases h3 : name.toList = [115, 112, 97, 110]
    · have HQ : Hid (hostsC ⟨1, name, is, data, attrs, parent, kids, host, under, doc⟩ = true) := Lib.hid (by rw [HR.out, h3]; rfl)
      go_enter Try.func90, Try.ntmps90
      go_wp2
      go_ret
      exact ⟨ret_bool HQ.out.symm, NK.out.below⟩
    have HQ : Hid (hostsC ⟨1, name, is, data, attrs, parent, kids, host, under, doc⟩ = customL name.toList) := Lib.hid (by
      rw [HR.out, beq_eq_false_iff_ne.2 h1, beq_eq_false_iff_ne.2 h2, beq_eq_false_iff_ne.2 h3]
      rfl)
    have e1 : (name.toList == [100, 105, 118]) = false := beq_eq_false_iff_ne.2 h1
    have e2 : (name.toList == [112]) = false := beq_eq_false_iff_ne.2 h2
    have e3 : (name.toList == [115, 112, 97, 110]) = false := beq_eq_false_iff_ne.2 h3
    clear h1 h2 h3
    go_enter Try.func90, Try.ntmps90
    go_wp2_with (go_at_call 94; (refine (custom_any _ _ HN.out).mono ?_); rintro e w1 ⟨rfl, hb⟩; have NK := Lib.hid (NK.out.keep hb); clear hb)
    go_ret
    exact ⟨ret_bool HQ.out.symm, NK.out.below⟩
  · have HQ : Hid (hostsC ⟨kind, name, is, data, attrs, parent, kids, host, under, doc⟩ = false) := Lib.hid (by unfold hostsC; rw [beq_eq_false_iff_ne.2 hk]; rfl)
    have hk1 : (kind != 1) = true := bne_iff_ne.2 hk
    have hk2 : (kind == 1) = false := beq_eq_false_iff_ne.2 hk
    clear hx hk
    go_enter Try.func90, Try.ntmps90
    go_wp2
    go_ret
    exact ⟨ret_bool HQ.out.symm, NK.out.below⟩
set_option maxHeartbeats 8000000 in
set_option maxRecDepth 100000 in
theorem refusal_any (a : Option Addr) (len cap : Nat) (m : Int) (L : List NodeD) (n : Int) (w : World) (h : NodeRow w a len cap L) (hm : In64 m) (hn : In64 n) (hs : smallF L) :
    Calls Try.prog 69 #[forV a len cap m, .int .i64 n] w fun e w' => e = .returned (.int .i64 (attE m (coreL L) n)) ∧ Below w.heap.size w w' := by
  have HCL : Hid ((coreL L).length = len) := Lib.hid (by rw [coreL_len, h.hlen])
  have hlen := h.len64
  have BX := Lib.hid ((Box.start (m := m) h).keep (below_box _ (.cells #[.int .i64 n] 3)))
  have NB := Lib.hid (lit_one (w.alloc (forB a len cap m)) 3 n hn)
  have CK : Hid (∀ W b, NodeRow W a len cap L → IntRow W b 1 1 [n] → Calls Try.prog 70 #[forV a len cap m, .slice b 1 1] W fun e w' => e = .returned (.bool (thereF m (coreL L) n)) ∧ Below W.heap.size W w') := Lib.hid (fun W b h1 h2 => by
    rw [← knowsB_one]
    exact shknows_any a len cap m L b 1 1 [n] W h1 hm hs h2)
  simp only [World.size_alloc] at NB
  have z0 := BX.out.c0
  have z1 := BX.out.c1
  cases q : thereF m (coreL L) n with
  | false =>
    rw [q] at CK
    have HR : Hid (attE m (coreL L) n = 1) := Lib.hid (by unfold attE; rw [q]; rfl)
    clear q h hm hn hs
    go_enter Try.func69, Try.ntmps69
    go_wp2_with (first
                    | (go_at_call 70; ((with_reducible refine (CK.out _ _ BX.out.row NB.out).mono ?_); rintro e w1 ⟨rfl, hb⟩; have BX := Lib.hid (BX.out.keep hb); have z0 := BX.out.c0; have z1 := BX.out.c1; clear hb; (first | (obtain ⟨c0, c1, c2, c3, c4, c5, c6, c7, c8, c9⟩ := AT.out _ BX.out.below) | skip)))
                    | (go_at_call 90; (refine (CH.out _ BX.out.below).mono ?_); rintro e w1 ⟨rfl, hb⟩; have BX := Lib.hid (BX.out.keep hb); clear z0 z1 c0 c1 c2 c3 c4 c5 c6 c7 c8 c9; have z0 := BX.out.c0; have z1 := BX.out.c1; clear hb; obtain ⟨c0, c1, c2, c3, c4, c5, c6, c7, c8, c9⟩ := AT.out _ BX.out.below))
    go_ret
    exact ⟨ret_int HR.out.symm, BX.out.below⟩
  | true =>
    rw [q] at CK
    obtain ⟨hr, k, rfl, hk⟩ := there_nat q
    rw [HCL.out] at hk
    obtain ⟨b, off, x, rfl, hb, hx, hat, hok⟩ := h.get hk
    have HE : Hid (attE m (coreL L) k = if hostsC x.core then (if x.core.under = -1 then (if (len : Int) = m then 8 else 0) else 10) else 5) := Lib.hid (by
      unfold attE
      rw [q, if_pos rfl, getC_nat, coreL_get hx, HCL.out])
    have AT := Lib.hid (fun W (hw : Below w.heap.size w W) => hat.below hb hw)
    clear q hm hn hs h hr hx hat
    cases hh : hostsC x.core with
    | false =>
      have CH : Hid (∀ W, Below w.heap.size w W → Calls Try.prog 90 #[nodVal x] W fun e w' => e = .returned (.bool false) ∧ Below W.heap.size W w') := Lib.hid (fun W hb => by
        have := hosts_any x W (hok.below hb)
        rwa [hh] at this)
      have HR : Hid (attE m (coreL L) k = 5) := Lib.hid (by rw [HE.out, hh]; rfl)
      clear hok hh hb
      go_enter Try.func69, Try.ntmps69
      go_wp2_with (first
                      | (go_at_call 70; ((with_reducible refine (CK.out _ _ BX.out.row NB.out).mono ?_); rintro e w1 ⟨rfl, hb⟩; have BX := Lib.hid (BX.out.keep hb); have z0 := BX.out.c0; have z1 := BX.out.c1; clear hb; (first | (obtain ⟨c0, c1, c2, c3, c4, c5, c6, c7, c8, c9⟩ := AT.out _ BX.out.below) | skip)))
                      | (go_at_call 90; (refine (CH.out _ BX.out.below).mono ?_); rintro e w1 ⟨rfl, hb⟩; have BX := Lib.hid (BX.out.keep hb); clear z0 z1 c0 c1 c2 c3 c4 c5 c6 c7 c8 c9; have z0 := BX.out.c0; have z1 := BX.out.c1; clear hb; obtain ⟨c0, c1, c2, c3, c4, c5, c6, c7, c8, c9⟩ := AT.out _ BX.out.below))
      go_ret
      exact ⟨ret_int HR.out.symm, BX.out.below⟩
    | true =>
      have CH : Hid (∀ W, Below w.heap.size w W → Calls Try.prog 90 #[nodVal x] W fun e w' => e = .returned (.bool true) ∧ Below W.heap.size W w') := Lib.hid (fun W hb => by
        have := hosts_any x W (hok.below hb)
        rwa [hh] at this)
      rw [hh, if_pos rfl] at HE
      by_cases hu : x.core.under = -1
      · rw [if_pos hu] at HE
        have hu1 : (x.core.under != -1) = false := by rw [hu]; rfl
        by_cases hl : (len : Int) = m
        · have HR : Hid (attE m (coreL L) k = 8) := Lib.hid (by rw [HE.out, if_pos hl])
          have hl1 : ((len : Int) == m) = true := beq_iff_eq.2 hl
          clear hok hh hb hu hl
          go_enter Try.func69, Try.ntmps69
          go_wp2_with (first
                          | (go_at_call 70; ((with_reducible refine (CK.out _ _ BX.out.row NB.out).mono ?_); rintro e w1 ⟨rfl, hb⟩; have BX := Lib.hid (BX.out.keep hb); have z0 := BX.out.c0; have z1 := BX.out.c1; clear hb; (first | (obtain ⟨c0, c1, c2, c3, c4, c5, c6, c7, c8, c9⟩ := AT.out _ BX.out.below) | skip)))
                          | (go_at_call 90; (refine (CH.out _ BX.out.below).mono ?_); rintro e w1 ⟨rfl, hb⟩; have BX := Lib.hid (BX.out.keep hb); clear z0 z1 c0 c1 c2 c3 c4 c5 c6 c7 c8 c9; have z0 := BX.out.c0; have z1 := BX.out.c1; clear hb; obtain ⟨c0, c1, c2, c3, c4, c5, c6, c7, c8, c9⟩ := AT.out _ BX.out.below))
          go_ret
          exact ⟨ret_int HR.out.symm, BX.out.below⟩
        · have HR : Hid (attE m (coreL L) k = 0) := Lib.hid (by rw [HE.out, if_neg hl])
          have hl1 : ((len : Int) == m) = false := beq_eq_false_iff_ne.2 hl
          clear hok hh hb hu hl
          go_enter Try.func69, Try.ntmps69
          go_wp2_with (first
                          | (go_at_call 70; ((with_reducible refine (CK.out _ _ BX.out.row NB.out).mono ?_); rintro e w1 ⟨rfl, hb⟩; have BX := Lib.hid (BX.out.keep hb); have z0 := BX.out.c0; have z1 := BX.out.c1; clear hb; (first | (obtain ⟨c0, c1, c2, c3, c4, c5, c6, c7, c8, c9⟩ := AT.out _ BX.out.below) | skip)))
                          | (go_at_call 90; (refine (CH.out _ BX.out.below).mono ?_); rintro e w1 ⟨rfl, hb⟩; have BX := Lib.hid (BX.out.keep hb); clear z0 z1 c0 c1 c2 c3 c4 c5 c6 c7 c8 c9; have z0 := BX.out.c0; have z1 := BX.out.c1; clear hb; obtain ⟨c0, c1, c2, c3, c4, c5, c6, c7, c8, c9⟩ := AT.out _ BX.out.below))
          go_ret
          exact ⟨ret_int HR.out.symm, BX.out.below⟩
      · have hu1 : (x.core.under != -1) = true := bne_iff_ne.2 hu
        have HR : Hid (attE m (coreL L) k = 10) := Lib.hid (by rw [HE.out, if_neg hu])
        clear hok hh hb hu
        go_enter Try.func69, Try.ntmps69
        go_wp2_with (first
                        | (go_at_call 70; ((with_reducible refine (CK.out _ _ BX.out.row NB.out).mono ?_); rintro e w1 ⟨rfl, hb⟩; have BX := Lib.hid (BX.out.keep hb); have z0 := BX.out.c0; have z1 := BX.out.c1; clear hb; (first | (obtain ⟨c0, c1, c2, c3, c4, c5, c6, c7, c8, c9⟩ := AT.out _ BX.out.below) | skip)))
                        | (go_at_call 90; (refine (CH.out _ BX.out.below).mono ?_); rintro e w1 ⟨rfl, hb⟩; have BX := Lib.hid (BX.out.keep hb); clear z0 z1 c0 c1 c2 c3 c4 c5 c6 c7 c8 c9; have z0 := BX.out.c0; have z1 := BX.out.c1; clear hb; obtain ⟨c0, c1, c2, c3, c4, c5, c6, c7, c8, c9⟩ := AT.out _ BX.out.below))
        go_ret
        exact ⟨ret_int HR.out.symm, BX.out.below⟩
end Go.Proofs.Ytllfkiifkkcinaa
/- Package shade's Attach. -/
namespace Go.Proofs.Ytllfkiifkkcinaa
open Go.RowKit
attribute [local go_sem ↓] Go.wp_at_zero Go.wp_at_succ
/-- The boxes that Attach begins with. -/
structure AttSt (w W : World) (a : Option Addr) (len cap : Nat) (m : Int) (L : List NodeD) : Prop where
  box : Box w W w.heap.size a len cap m L (coreL L)
  res : Box2 W (w.heap.size + 1) (.slice none 0 0) (.int .i64 0)
theorem AttSt.keep {w W W2 : World} {a : Option Addr} {len cap : Nat} {m : Int} {L : List NodeD} (h : AttSt w W a len cap m L) (hb : Below W.heap.size W W2) : AttSt w W2 a len cap m L := ⟨h.box.keep hb, h.res.keep hb⟩
theorem AttSt.start {w : World} {a : Option Addr} {len cap : Nat} {m : Int} {L : List NodeD} (h : NodeRow w a len cap L) : AttSt w ((w.alloc (forB a len cap m)).alloc zeroFB) a len cap m L := by
  refine ⟨(Box.start h).keep (below_box _ _), ?_⟩
  have := Box2.new (w.alloc (forB a len cap m)) (.slice none 0 0) (.int .i64 0) 24
  rwa [show (w.alloc (forB a len cap m)).heap.size = w.heap.size + 1 by simp] at this
/-- Behind the first line: the copy, in its box q; r: the result's box. -/
structure AttCp (r : Nat) (w0 W : World) (len : Nat) (m : Int) (F : List Core) (q : Nat) (v : Value) (M : List NodeD) : Prop where
  copy : Copy w0.heap.size w0 W v len M F
  g : Box2 W q v (.int .i64 m)
  low : w0.heap.size ≤ q
  ne : v.ownBlock ≠ some q
  aq : ∀ y ∈ M, NodeAway q y
  ar : ∀ y ∈ M, NodeAway r y
theorem AttCp.keep {r : Nat} {w0 W W2 : World} {len : Nat} {m : Int} {F : List Core} {q : Nat} {v : Value} {M : List NodeD} (h : AttCp r w0 W len m F q v M) (hb : Below W.heap.size W W2) : AttCp r w0 W2 len m F q v M :=
  ⟨h.copy.keep hb, h.g.keep hb, h.low, h.ne, h.aq, h.ar⟩
theorem AttCp.wayA {r : Nat} {w0 w1 : World} {len : Nat} {m : Int} {F : List Core} {v : Value} {M : List NodeD} (hsz : r < w0.heap.size)
    (CP : Copy (w0.alloc zeroFB).heap.size (w0.alloc zeroFB) w1 v len M F) (NL : ∀ x ∈ M, newLists (w0.alloc zeroFB).drew.heap.size x) (GB : Box2 w1 w0.heap.size (.slice none 0 0) (.int .i64 0)) :
    AttCp r w0 ((w1.setCell ⟨w0.heap.size, 0, none⟩ v).setCell ⟨w0.heap.size, 1, none⟩ (.int .i64 m)) len m F w0.heap.size v M := by
  have hs : (w0.alloc zeroFB).drew.heap.size = w0.heap.size + 1 := by simp
  have hs2 : (w0.alloc zeroFB).heap.size = w0.heap.size + 1 := by simp
  have hne : v.ownBlock ≠ some w0.heap.size := own_not CP.own (by rw [hs2]; omega)
  have haq : ∀ y ∈ M, NodeAway w0.heap.size y := fun y hy => (NL y hy).away (by rw [hs]; omega)
  have hb : Below w0.heap.size w0 w1 := (below_box w0 _).trans (CP.below.mono (by rw [hs2]; omega))
  refine ⟨⟨own_base (own_boxCell (own_boxCell CP.own hne _) hne _) (by rw [hs2]; omega), CP.hl, CP.core, fun x hx => ((CP.ok x hx).setCell (haq x hx) _).setCell (haq x hx) _, fun g hg => ?_, (hb.setCell (p := ⟨w0.heap.size, 0, none⟩) (Nat.le_refl _) _).setCell (p := ⟨w0.heap.size, 1, none⟩) (Nat.le_refl _) _⟩, GB.set _ _, Nat.le_refl _, hne, haq, fun y hy => (NL y hy).away (by rw [hs]; omega)⟩
  rcases hg with hg | hg
  · omega
  · exact CP.away g (.inr hg)
theorem AttCp.wayB {r : Nat} {w0 w1 : World} {len : Nat} {m : Int} {F : List Core} {v : Value} {M : List NodeD} (hsz : r < w0.heap.size)
    (CP : Copy w0.heap.size w0 w1 v len M F) (NL : ∀ x ∈ M, newLists w0.drew.heap.size x) :
    AttCp r w0 (w1.alloc (.cells #[v, .int .i64 m] 24)) len m F w1.heap.size v M := by
  have hs : w0.drew.heap.size = w0.heap.size := rfl
  exact ⟨CP.keep (below_box _ _), Box2.new _ _ _ _, CP.below.size, own_notNew CP.own, fun y hy => (CP.ok y hy).away (Nat.le_refl _), fun y hy => (NL y hy).away (by rw [hs]; omega)⟩
/-- The copy is answered: two stores into the result's box. -/
theorem AttCp.finish {r : Nat} {w w0 W : World} {len : Nat} {m : Int} {F : List Core} {q : Nat} {v : Value} {M : List NodeD} (h : AttCp r w0 W len m F q v M) (hsz : r < w0.heap.size) (hlo : w.heap.size ≤ r) (hb : Below w.heap.size w w0) (u1 u2 : Value) :
    ∃ a cap, v = .slice a len cap ∧ NodeRow ((W.setCell ⟨r, 0, none⟩ u1).setCell ⟨r, 1, none⟩ u2) a len cap M ∧ coreL M = F ∧ Below w.heap.size w ((W.setCell ⟨r, 0, none⟩ u1).setCell ⟨r, 1, none⟩ u2) := by
  have hne : v.ownBlock ≠ some r := own_not h.copy.own hsz
  have c2 : Copy w.heap.size w ((W.setCell ⟨r, 0, none⟩ u1).setCell ⟨r, 1, none⟩ u2) v len M F :=
    ⟨own_base (own_boxCell (own_boxCell h.copy.own hne _) hne _) hb.size, h.copy.hl, h.copy.core, fun x hx => ((h.copy.ok x hx).setCell (h.ar x hx) _).setCell (h.ar x hx) _, fun g hg => by
      rcases hg with hg | hg
      · omega
      · exact h.copy.away g (.inr hg), ((hb.trans (h.copy.below.mono hb.size)).setCell (p := ⟨r, 0, none⟩) hlo _).setCell (p := ⟨r, 1, none⟩) hlo _⟩
  obtain ⟨a, cap, hv, hr, _⟩ := c2.row
  exact ⟨a, cap, hv, hr, h.copy.core, c2.below⟩
/-- A node, as it is with another shadow. -/
def withUD (x : NodeD) (u : Int) : NodeD := ⟨withU x.core u, x.aA, x.aN, x.aC, x.kA, x.kN, x.kC⟩
theorem Copy.at {lo : Nat} {w W : World} {g n cap k : Nat} {M : List NodeD} {F : List Core} {x : NodeD} (h : Copy lo w W (.slice (some ⟨g, 0, none⟩) n cap) n M F) (hx : M[k]? = some x) : NodeAt W g (k * 10) x := by
  obtain ⟨a, cap', he, hr, _⟩ := h.row
  injection he with e1 e2 e3
  subst e1
  have hk : k < n := by
    have := (List.getElem?_eq_some_iff.1 hx).1
    rw [h.hl] at this
    exact this
  obtain ⟨b', off, y, hab, _, hy, hat, _⟩ := hr.get hk
  injection hab with hab
  injection hab with e1 e2
  subst e1 e2
  obtain rfl : x = y := Option.some.inj (hx.symm.trans hy)
  rwa [Nat.zero_add] at hat
/-- A node of the copy gets its shadow. -/
theorem AttCp.under {r : Nat} {w0 W : World} {len cap : Nat} {m : Int} {F : List Core} {q g : Nat} {M : List NodeD} {k : Nat} {x : NodeD} {u : Int} (h : AttCp r w0 W len m F q (.slice (some ⟨g, 0, none⟩) len cap) M) (hk : M[k]? = some x) (hu : In64 u) :
    AttCp r w0 (W.setCell ⟨g, k * 10 + 8, none⟩ (.int .i64 u)) len m (F.set k (withU x.core u)) q (.slice (some ⟨g, 0, none⟩) len cap) (M.set k (withUD x u)) := by
  obtain ⟨hl, he⟩ := List.getElem?_eq_some_iff.1 hk
  have hkn : k < len := by have := h.copy.hl; omega
  have hgl : w0.heap.size ≤ g := (h.copy.own.lt g rfl).1
  have hgq : g ≠ q := fun e => h.ne (by rw [← e]; rfl)
  have o1 := own_setCell h.copy.own (j := k * 10 + 8) (by omega) (.int .i64 u)
  rw [flat_set (L := M) (fun z _ => encN_len z) (i := k) (j := 8) (y := withUD x u) (u := .int .i64 u) (x := x) hk rfl (by omega)] at o1
  have mem : ∀ y ∈ M.set k (withUD x u), y ∈ M ∨ y = withUD x u := fun y hy => List.mem_or_eq_of_mem_set hy
  have hxm := List.mem_of_getElem? hk
  have hox := h.copy.ok x hxm
  have haw := h.copy.away g (.inr rfl)
  have away : ∀ g', (∀ y ∈ M, NodeAway g' y) → ∀ y ∈ M.set k (withUD x u), NodeAway g' y := fun g' hg' y hy => by
    rcases mem y hy with hy | rfl
    · exact hg' y hy
    · exact hg' x hxm
  refine ⟨⟨o1, by rw [List.length_set]; exact h.copy.hl, ?_, fun y hy => ?_, fun g' hg' => away g' (h.copy.away g' hg'), h.copy.below.setCell (p := ⟨g, k * 10 + 8, none⟩) hgl _⟩, ?_, h.low, h.ne, away q h.aq, away r h.ar⟩
  · rw [← h.copy.core]
    unfold coreL
    rw [List.map_set]
    rfl
  · rcases mem y hy with hy | rfl
    · exact (h.copy.ok y hy).setCell (haw y hy) _
    · have hq : NodeOk W (withUD x u) := ⟨hox.attrs, hox.kids, hox.name, hox.is, hox.data, hox.kind, hox.parent, hox.host, hu, hox.doc⟩
      exact hq.setCell (haw x hxm) _
  · have hb : ∀ o, (⟨g, k * 10 + 8, none⟩ : Addr) ≠ ⟨q, o, none⟩ := fun o e => hgq (by injection e)
    exact ⟨by simpa [World.setCell] using h.g.lt, (World.cell?_setCell_other _ _ _ _ (hb 0)).trans h.g.c0, (World.cell?_setCell_other _ _ _ _ (hb 1)).trans h.g.c1, by rw [World.frozen?_setCell]; exact h.g.f0, by rw [World.frozen?_setCell]; exact h.g.f1⟩
/-- Behind the append: the copy as it was. -/
theorem AttCp.grown {r : Nat} {w0 W W2 : World} {len : Nat} {m : Int} {F : List Core} {q : Nat} {v : Value} {M : List NodeD} (h : AttCp r w0 W len m F q v M) (hg : W.grownBy W2 v.ownBlock) (ho : W2.ownsRow w0.heap.size 28 10 v len (M.flatMap encN)) : AttCp r w0 W2 len m F q v M :=
  ⟨⟨ho, h.copy.hl, h.copy.core, fun x hx => (h.copy.ok x hx).grown hg (fun g e => h.copy.away g (.inr e) x hx), h.copy.away, h.copy.below.grown hg h.copy.below.size (fun k e => (h.copy.own.lt k e).1)⟩, h.g.grown hg (fun e => h.ne e.symm), h.low, h.ne, h.aq, h.ar⟩
/-- The row with a node more. -/
structure AttRow (r : Nat) (w0 W : World) (len : Nat) (q g cap : Nat) (M : List NodeD) (y : NodeD) : Prop where
  own : W.ownsRow w0.heap.size 28 10 (.slice (some ⟨g, 0, none⟩) (len + 1) cap) (len + 1) ((M ++ [y]).flatMap encN)
  hl : M.length = len
  ok : ∀ z ∈ M ++ [y], NodeOk W z
  nq : g ≠ q
  aq : ∀ z ∈ M ++ [y], NodeAway q z
  ar : ∀ z ∈ M ++ [y], NodeAway r z
theorem AttRow.row {r : Nat} {w0 W : World} {len q g cap : Nat} {M : List NodeD} {y : NodeD} (h : AttRow r w0 W len q g cap M y) : NodeRow W (some ⟨g, 0, none⟩) (len + 1) cap (M ++ [y]) := by
  obtain ⟨a, cap', he, hr, _⟩ := SRow.of_own (L := M ++ [y]) (fun x _ => encN_len x) (by rw [List.length_append, h.hl]; rfl) h.own
  injection he with h1 h2 h3
  subst h1; subst h3
  exact ⟨hr, h.ok, fun h => by cases h⟩
theorem AttRow.new {r : Nat} {w0 W W2 : World} {len : Nat} {m : Int} {F : List Core} {q g cap : Nat} {v : Value} {M : List NodeD} {y : NodeD} (h : AttCp r w0 W len m F q v M) (hy : NodeOk W y) (hya : y.aA = none) (hyk : y.kA = none)
    (ho : W2.ownsRow w0.heap.size 28 10 (.slice (some ⟨g, 0, none⟩) (len + 1) cap) (len + 1) (M.flatMap encN ++ encN y)) (hg : W.grownBy W2 v.ownBlock) (hat : v.ownBlock = some g ∨ g = W.heap.size) : AttRow r w0 W2 len q g cap M y := by
  have away : ∀ k, NodeAway k y := fun k => ⟨(fun b off hb => by rw [hya] at hb; cases hb), (fun b off hb => by rw [hyk] at hb; cases hb)⟩
  have hlow := h.low
  refine ⟨by simpa using ho, h.copy.hl, fun z hz => ?_, ?_, fun z hz => ?_, fun z hz => ?_⟩
  · rcases List.mem_append.1 hz with hz | hz
    · exact (h.copy.ok z hz).grown hg (fun k e => h.copy.away k (.inr e) z hz)
    · obtain rfl : z = y := by simpa using hz
      exact hy.grown hg (fun k _ => away k)
  · rcases hat with hat | hat
    · intro e
      exact h.ne (by rw [hat, e])
    · have := h.g.lt
      omega
  · rcases List.mem_append.1 hz with hz | hz
    · exact h.aq z hz
    · obtain rfl : z = y := by simpa using hz
      exact away q
  · rcases List.mem_append.1 hz with hz | hz
    · exact h.ar z hz
    · obtain rfl : z = y := by simpa using hz
      exact away _
theorem AttRow.finish {r : Nat} {w w0 W : World} {len q g cap : Nat} {M : List NodeD} {y : NodeD} (h : AttRow r w0 W len q g cap M y) (hsz : r < w0.heap.size) (hlo : w.heap.size ≤ r) (hq : w0.heap.size ≤ q) (hb : Below w.heap.size w w0) (hb2 : Below w0.heap.size w0 W) (u0 u1 u2 : Value) :
    NodeRow (((W.setCell ⟨q, 0, none⟩ u0).setCell ⟨r, 0, none⟩ u1).setCell ⟨r, 1, none⟩ u2) (some ⟨g, 0, none⟩) (len + 1) cap (M ++ [y]) ∧ Below w.heap.size w (((W.setCell ⟨q, 0, none⟩ u0).setCell ⟨r, 0, none⟩ u1).setCell ⟨r, 1, none⟩ u2) := by
  have n1 : (Value.slice (some ⟨g, 0, none⟩) (len + 1) cap).ownBlock ≠ some q := fun e => h.nq (by injection e)
  have n2 : (Value.slice (some ⟨g, 0, none⟩) (len + 1) cap).ownBlock ≠ some r := own_not h.own hsz
  have c2 : AttRow r w0 (((W.setCell ⟨q, 0, none⟩ u0).setCell ⟨r, 0, none⟩ u1).setCell ⟨r, 1, none⟩ u2) len q g cap M y :=
    ⟨own_boxCell (own_boxCell (own_boxCell h.own n1 _) n2 _) n2 _, h.hl, fun z hz => (((h.ok z hz).setCell (h.aq z hz) _).setCell (h.ar z hz) _).setCell (h.ar z hz) _, h.nq, h.aq, h.ar⟩
  have hsz2 := hb.size
  exact ⟨c2.row, (((hb.trans (hb2.mono hb.size)).setCell (p := ⟨q, 0, none⟩) (by show w.heap.size ≤ q; omega) _).setCell (p := ⟨r, 0, none⟩) hlo _).setCell (p := ⟨r, 1, none⟩) hlo _⟩
theorem att_not {m : Int} {F : List Core} {n : Int} (h : attE m F n ≠ 0) : attL m F n = F ∧ attN m F n = -1 := by
  unfold attL attN
  rw [if_neg h, if_neg h]
  exact ⟨rfl, rfl⟩
theorem att_is {m : Int} {F : List Core} {n : Int} (h : attE m F n = 0) : rightF m F = true ∧ ∃ (k : Nat) (x : Core), n = k ∧ F[k]? = some x ∧ hostsC x = true ∧ x.under = -1 ∧ (F.length : Int) ≠ m ∧ attL m F n = F.set k (withU x (F.length : Int)) ++ [shadeC k x.doc] ∧ attN m F n = F.length := by
  have h0 := h
  unfold attE at h
  cases hq : thereF m F n with
  | false => rw [hq] at h; cases h
  | true =>
    rw [hq, if_pos rfl] at h
    obtain ⟨hr, k, rfl, hk⟩ := there_nat hq
    have hg : getC F (k : Int) = some F[k] := by rw [getC_nat]; exact List.getElem?_eq_getElem hk
    rw [hg] at h
    dsimp only at h
    by_cases h1 : hostsC F[k] = true
    · rw [if_pos h1] at h
      by_cases h2 : F[k].under = -1
      · rw [if_pos h2] at h
        by_cases h3 : (F.length : Int) = m
        · rw [if_pos h3] at h; cases h
        · refine ⟨hr, k, F[k], rfl, List.getElem?_eq_getElem hk, h1, h2, h3, ?_, ?_⟩
          · unfold attL attC
            rw [if_pos h0, hg]
            rfl
          · unfold attN
            rw [if_pos h0]
      · rw [if_neg h2] at h; cases h
    · rw [if_neg h1] at h; cases h
def shadeD (k : Nat) (d : Int) : NodeD := ⟨shadeC k d, none, 0, 0, none, 0, 0⟩
theorem shadeD_ok (w : World) {k : Nat} {d : Int} (hk : In64 (k : Int)) (hd : In64 d) : NodeOk w (shadeD k d) := by
  refine ⟨⟨SRow.nil, (fun z hz => by cases hz), fun _ => rfl⟩, ⟨SRow.nil, (fun z hz => by cases hz), fun _ => rfl⟩, ?_, ?_, ?_, ?_, ?_, hk, ?_, hd⟩
  · show 0 ≤ maxLen; decide
  · show 0 ≤ maxLen; decide
  · show 0 ≤ maxLen; decide
  · exact ⟨by show (_ : Int) ≤ 4; decide, by show (4 : Int) ≤ _; decide⟩
  · exact ⟨by show (_ : Int) ≤ -1; decide, by show (-1 : Int) ≤ _; decide⟩
  · exact ⟨by show (_ : Int) ≤ -1; decide, by show (-1 : Int) ≤ _; decide⟩
set_option maxHeartbeats 16000000 in
set_option maxRecDepth 100000 in
theorem attachNot_any (a : Option Addr) (len cap : Nat) (m : Int) (L : List NodeD) (n : Int) (w : World) (h : NodeRow w a len cap L) (hm : In64 m) (hn : In64 n) (hs : smallF L) (hE : attE m (coreL L) n ≠ 0) :
    Calls Try.prog 38 #[forV a len cap m, .int .i64 n] w (ForPost w (attL m (coreL L) n) m [.int .i64 (attN m (coreL L) n), .int .i64 (attE m (coreL L) n)]) := by
  have HL := Lib.hid h.hlen
  have hlen : len ≤ 1000 := by rw [← h.hlen]; exact hs.1
  obtain ⟨w0, hw0, hsz, ST⟩ : ∃ w0, (w.alloc (forB a len cap m)).alloc zeroFB = w0 ∧ w.heap.size + 2 = w0.heap.size ∧ AttSt w w0 a len cap m L := ⟨_, rfl, by simp, AttSt.start h⟩
  have ST := Lib.hid ST
  have ST0 := ST
  have HW := Lib.hid hw0
  have HSZ : Hid (w.heap.size + 1 < w0.heap.size) := Lib.hid (by omega)
  have CC : Hid (∀ W, NodeRow W a len cap L → Calls Try.prog 58 #[forV a len cap m] W (CopyPost W len (coreL L) m)) := Lib.hid (fun W h => cloneF_any a len cap m L W h hs)
  have CR : Hid (∀ W, NodeRow W a len cap L → Calls Try.prog 69 #[forV a len cap m, .int .i64 n] W fun e w' => e = .returned (.int .i64 (attE m (coreL L) n)) ∧ Below W.heap.size W w') := Lib.hid (fun W h => refusal_any a len cap m L n W h hm hn hs)
  have HN := Lib.hid (att_not hE)
  obtain ⟨E, hEE⟩ : ∃ E, attE m (coreL L) n = E := ⟨_, rfl⟩
  rw [hEE] at CR hE
  rw [hEE, HN.out.1, HN.out.2]
  have hE1 : (E != 0) = true := bne_iff_ne.2 hE
  clear h hm hn hs hw0 hsz hEE hE
  have z0 := ST.out.box.c0
  have z1 := ST.out.box.c1
  go_enter Try.func38, Try.ntmps38
  go_wp2
  rw [HW.out]
  have hne1 : w0.heap.size ≠ w.heap.size := by have := HSZ.out; omega
  have hne2 : w.heap.size ≠ w0.heap.size := by have := HSZ.out; omega
  (
    go_region_held3 (fun w' => w'.cell? ⟨w.heap.size, 0, none⟩ = some (.slice a len cap) ∧ w'.cell? ⟨w.heap.size, 1, none⟩ = some (.int .i64 m)) (go_keep)
      (first | (go_at_call 58; (first | refine (CC.out _ ST.out.box.row.drew).mono ?_ | refine (CC.out _ (ST.out.keep (below_box _ _)).box.row.drew).mono ?_); intro e w1 hp; obtain ⟨v, M, rfl, hcp, hnl⟩ := hp; obtain ⟨a2, cap2, rfl, -, -⟩ := hcp.row; have CP := Lib.hid (Copy.undrew hcp); have NL := Lib.hid hnl; (first | have ST := Lib.hid (ST.out.keep ((Below.refl _ _).drew.trans hcp.below)) | have ST := Lib.hid ((ST.out.keep (below_box _ _)).keep ((Below.refl _ _).drew.trans hcp.below))); have z0 := ST.out.box.c0; have z1 := ST.out.box.c1; have hne3 : w1.heap.size ≠ w.heap.size := Nat.ne_of_gt ST.out.box.lt; have hne4 : w.heap.size ≠ w1.heap.size := Nat.ne_of_lt ST.out.box.lt; (first | (have GB := Lib.hid ((Box2.new w0 (.slice none 0 0) (.int .i64 0) 24).keep ((Below.refl _ _).drew.trans hcp.below)); have q0 := GB.out.c0; have q1 := GB.out.c1; have r0 := GB.out.f0; have r1 := GB.out.f1) | skip); clear hcp hnl)))
  all_goals
    (first | have MC := Lib.hid (AttCp.wayA (m := m) HSZ.out CP.out NL.out GB.out) | have MC := Lib.hid (AttCp.wayB (m := m) HSZ.out CP.out NL.out))
    clear CP NL ST z0 z1
    have d0 := MC.out.g.c0
    have d1 := MC.out.g.c1
    have z0 := (ST0.out.keep MC.out.copy.below).box.c0
    have z1 := (ST0.out.keep MC.out.copy.below).box.c1
    go_wp2_with (go_at_call 69; refine (CR.out _ (ST0.out.keep MC.out.copy.below).box.row).mono ?_; rintro e w2 ⟨rfl, hb⟩; have MC := Lib.hid (MC.out.keep hb); have d0 := MC.out.g.c0; have d1 := MC.out.g.c1; have ST := Lib.hid (ST0.out.keep MC.out.copy.below); have e0 := ST.out.res.c0; have e1 := ST.out.res.c1; have g0 := ST.out.res.f0; have g1 := ST.out.res.f1; clear hb)
    obtain ⟨a3, cap3, hv3, hr3, hc3, hb3⟩ := MC.out.finish HSZ.out (Nat.le_succ _) ST0.out.box.below (.slice a2 len cap2) (.int .i64 m)
    injection hv3 with h1 h2 h3
    subst h1 h3
    refine bodyPost_ret (v := .tuple #[forV a2 len cap2 m, .int .i64 (-1), .int .i64 E]) ?_ rfl ⟨a2, len, cap2, M, rfl, hr3, hc3, hb3⟩
    simp [results, Try.results38, go_sem, e0, e1]
set_option maxHeartbeats 16000000 in
set_option maxRecDepth 100000 in
theorem attachIs_any (a : Option Addr) (len cap : Nat) (m : Int) (L : List NodeD) (n : Int) (w : World) (h : NodeRow w a len cap L) (hm : In64 m) (hn : In64 n) (hs : smallF L) (hE : attE m (coreL L) n = 0) :
    Calls Try.prog 38 #[forV a len cap m, .int .i64 n] w (ForPost w (attL m (coreL L) n) m [.int .i64 (attN m (coreL L) n), .int .i64 (attE m (coreL L) n)]) := by
  have HL := Lib.hid h.hlen
  have HCL : Hid ((coreL L).length = len) := Lib.hid (by rw [coreL_len, HL.out])
  have hlen : len ≤ 1000 := by rw [← h.hlen]; exact hs.1
  obtain ⟨w0, hw0, hsz, ST⟩ : ∃ w0, (w.alloc (forB a len cap m)).alloc zeroFB = w0 ∧ w.heap.size + 2 = w0.heap.size ∧ AttSt w w0 a len cap m L := ⟨_, rfl, by simp, AttSt.start h⟩
  have ST := Lib.hid ST
  have ST0 := ST
  have HW := Lib.hid hw0
  have HSZ : Hid (w.heap.size + 1 < w0.heap.size) := Lib.hid (by omega)
  have CC : Hid (∀ W, NodeRow W a len cap L → Calls Try.prog 58 #[forV a len cap m] W (CopyPost W len (coreL L) m)) := Lib.hid (fun W h => cloneF_any a len cap m L W h hs)
  have CR : Hid (∀ W, NodeRow W a len cap L → Calls Try.prog 69 #[forV a len cap m, .int .i64 n] W fun e w' => e = .returned (.int .i64 0) ∧ Below W.heap.size W w') := Lib.hid (fun W h => by
    have := refusal_any a len cap m L n W h hm hn hs
    rwa [hE] at this)
  obtain ⟨hr, k, x, rfl, hx, -, -, -, hAL, hAN⟩ := att_is hE
  have hk : k < len := by rw [← HCL.out]; exact (List.getElem?_eq_some_iff.1 hx).1
  rw [hE, hAL, hAN, HCL.out]
  have HX := Lib.hid hx
  obtain ⟨i0, hi0, hz0, hz1, hz2⟩ := info_parts node_info
  obtain ⟨b, off, nx, hab, hb, hnx, hat, hok⟩ := h.get hk
  subst hab
  have hnc : nx.core = x := Option.some.inj ((coreL_get hnx).symm.trans hx)
  have HD64 : Hid (In64 x.doc) := Lib.hid (by rw [← hnc]; exact hok.doc)
  have C9 : Hid (∀ W, Below w.heap.size w W → W.cell? ⟨b, off + k * 10 + 9, none⟩ = some (.int .i64 x.doc)) := Lib.hid (by
    have := stays hat.c9 hb
    rwa [hnc] at this)
  clear h hm hn hs hw0 hsz hE hr hx hAL hAN hnx hat hok hnc hb
  have z0 := ST.out.box.c0
  have z1 := ST.out.box.c1
  go_enter Try.func38, Try.ntmps38
  go_wp2
  rw [HW.out]
  have hne1 : w0.heap.size ≠ w.heap.size := by have := HSZ.out; omega
  have hne2 : w.heap.size ≠ w0.heap.size := by have := HSZ.out; omega
  (
    go_region_held3 (fun w' => w'.cell? ⟨w.heap.size, 0, none⟩ = some (.slice (some ⟨b, off, none⟩) len cap) ∧ w'.cell? ⟨w.heap.size, 1, none⟩ = some (.int .i64 m)) (go_keep)
      (first | (go_at_call 58; (first | refine (CC.out _ ST.out.box.row.drew).mono ?_ | refine (CC.out _ (ST.out.keep (below_box _ _)).box.row.drew).mono ?_); intro e w1 hp; obtain ⟨v, M, rfl, hcp, hnl⟩ := hp; obtain ⟨a2, cap2, rfl, -, -⟩ := hcp.row; have CP := Lib.hid (Copy.undrew hcp); have NL := Lib.hid hnl; (first | have ST := Lib.hid (ST.out.keep ((Below.refl _ _).drew.trans hcp.below)) | have ST := Lib.hid ((ST.out.keep (below_box _ _)).keep ((Below.refl _ _).drew.trans hcp.below))); have z0 := ST.out.box.c0; have z1 := ST.out.box.c1; have hne3 : w1.heap.size ≠ w.heap.size := Nat.ne_of_gt ST.out.box.lt; have hne4 : w.heap.size ≠ w1.heap.size := Nat.ne_of_lt ST.out.box.lt; (first | (have GB := Lib.hid ((Box2.new w0 (.slice none 0 0) (.int .i64 0) 24).keep ((Below.refl _ _).drew.trans hcp.below)); have q0 := GB.out.c0; have q1 := GB.out.c1; have r0 := GB.out.f0; have r1 := GB.out.f1) | skip); clear hcp hnl)))
  · have MC := Lib.hid (AttCp.wayB (m := m) HSZ.out CP.out NL.out)
    have HNR : Hid (w1.heap.size ≠ w.heap.size + 1) := Lib.hid (by have h1 := MC.out.low; have h2 := HSZ.out; omega)
    (
      clear CP NL ST z0 z1
      obtain ⟨a3, cap3, hv3, hr3, hlo3⟩ := MC.out.copy.row
      injection hv3 with h1 h2 h3
      subst h1 h3
      obtain ⟨gb, off3, x3, rfl, hgb, hx3, -, -⟩ := hr3.get hk
      obtain ⟨hlo, rfl⟩ := hlo3 gb off3 rfl
      have HX3 := Lib.hid hx3
      have HXC : Hid (x3.core = x) := Lib.hid (by
        have h1 : (coreL M)[k]? = some x3.core := coreL_get hx3
        rw [MC.out.copy.core, HX.out] at h1
        exact (Option.some.inj h1).symm)
      have HNQ : Hid (gb ≠ w1.heap.size) := Lib.hid (fun e => MC.out.ne (by rw [← e]; rfl))
      have hgq1 := HNQ.out
      have hgq2 := HNQ.out.symm
      clear hr3 hlo3 hgb hx3
      have d0 := MC.out.g.c0
      have d1 := MC.out.g.c1
      have z0 := (ST0.out.keep MC.out.copy.below).box.c0
      have z1 := (ST0.out.keep MC.out.copy.below).box.c1
      go_wp2_with (go_at_call 69; refine (CR.out _ (ST0.out.keep MC.out.copy.below).box.row).mono ?_; rintro e w2 ⟨rfl, hb⟩; have MC := Lib.hid (MC.out.keep hb); clear d0 d1 z0 z1; have d0 := MC.out.g.c0; have d1 := MC.out.g.c1; have u0 := MC.out.g.f0; have z0 := (ST0.out.keep MC.out.copy.below).box.c0; have z1 := (ST0.out.keep MC.out.copy.below).box.c1; have c8 := (MC.out.copy.at HX3.out).c8; have f8 := own_free MC.out.copy.own (k * 10 + 8); clear hb)
      have HL64 : Hid (In64 (len : Int)) := Lib.hid ⟨by omega, by omega⟩
      have HK64 : Hid (In64 (k : Int)) := Lib.hid ⟨by omega, by omega⟩
      obtain ⟨W3, hW3, MC3⟩ : ∃ W3, w2.setCell ⟨gb, k * 10 + 8, none⟩ (.int .i64 (len : Int)) = W3 ∧ AttCp (w.heap.size + 1) w0 W3 len m ((coreL L).set k (withU x3.core (len : Int))) w1.heap.size (.slice (some ⟨gb, 0, none⟩) len cap2) (M.set k (withUD x3 (len : Int))) := ⟨_, rfl, MC.out.under HX3.out HL64.out⟩
      have MC2 := Lib.hid MC3
      clear MC3 MC d0 d1 u0 z0 z1 c8 f8
      rw [hW3]
      clear hW3
      have d0 := MC2.out.g.c0
      have u0 := MC2.out.g.f0
      have ST := Lib.hid (ST0.out.keep MC2.out.copy.below)
      have z0 := ST.out.box.c0
      have c9 := C9.out _ ST.out.box.below
      have MC1 := Lib.hid ((MC2.out.keep (Below.refl _ _).drew).keep (below_box W3.drew (nodB (shadeD k x.doc))))
      have NW := Lib.hid (World.news_of_block (heap_alloc_new W3.drew (nodB (shadeD k x.doc))))
      have HCM : Hid (coreL (M.set k (withUD x3 (len : Int)) ++ [shadeD k x.doc]) = (coreL L).set k (withU x (len : Int)) ++ [shadeC k x.doc]) := Lib.hid (by
        have h1 := MC2.out.copy.core
        rw [HXC.out] at h1
        unfold coreL at h1 ⊢
        rw [List.map_append, h1]
        rfl)
      have d0a := (MC2.out.keep (below_box W3 (nodB (shadeD k x.doc)))).g.c0
      have z0a := (ST.out.keep (below_box W3 (nodB (shadeD k x.doc)))).box.c0
      have c9a := C9.out _ (ST.out.keep (below_box W3 (nodB (shadeD k x.doc)))).box.below
      dsimp only [nodB, shadeD, shadeC] at d0a z0a c9a
      go_region_law ((refine step_append_keep (by rfl) _ _ _ (by rfl) w0.heap.size 28 i0 _ 10 136 Try.underlying22 hi0 hz0 hz1 hz2 (by rfl) (by decide) _ len ((M.set k (withUD x3 (len : Int))).flatMap encN) (by rfl) MC1.out.copy.own ⟨W3.heap.size, 0, none⟩ 1 1 (encN (shadeD k x.doc)) (by rfl) (by rfl) NW.out (encN_one (shadeD k x.doc)) (by decide) (by unfold maxLen; omega) (by omega) MC1.out.copy.below.size ?_; intro g cap3 w4 hown1 hold hgrow hat hlt; have NR := Lib.hid (AttRow.new MC1.out (shadeD_ok _ HK64.out HD64.out) rfl rfl hown1 hgrow hat); have MC := Lib.hid (MC1.out.grown hgrow hold); have ST := Lib.hid (ST0.out.keep MC.out.copy.below); clear d0 u0 z0 c9; have z0 := ST.out.box.c0; have c9 := C9.out _ ST.out.box.below; have d0 := MC.out.g.c0; have u0 := MC.out.g.f0; have d1 := MC.out.g.c1; have e0 := ST.out.res.c0; have e1 := ST.out.res.c1; have g0 := ST.out.res.f0; have g1 := ST.out.res.f1; have hnq1 := HNR.out; have hnq2 := HNR.out.symm; clear hown1 hold hgrow hat hlt))
      all_goals try go_wp2
      all_goals
        obtain ⟨hr3, hb3⟩ := NR.out.finish HSZ.out (Nat.le_succ _) MC.out.low ST0.out.box.below MC.out.copy.below (.slice (some ⟨g, 0, none⟩) (len + 1) cap3) (.slice (some ⟨g, 0, none⟩) (len + 1) cap3) (.int .i64 m)
        have hfp : ForPost w ((coreL L).set k (withU x (len : Int)) ++ [shadeC k x.doc]) m [.int .i64 (len : Int), .int .i64 0] (.returned (.tuple #[forV (some ⟨g, 0, none⟩) (len + 1) cap3 m, .int .i64 (len : Int), .int .i64 0])) _ := ⟨_, _, cap3, M.set k (withUD x3 (len : Int)) ++ [shadeD k x.doc], rfl, hr3, HCM.out, hb3⟩
        refine bodyPost_ret (v := .tuple #[forV (some ⟨g, 0, none⟩) (len + 1) cap3 m, .int .i64 (len : Int), .int .i64 0]) ?_ rfl hfp
        simp [results, Try.results38, go_sem, e0, e1])
  · have MC := Lib.hid (AttCp.wayA (m := m) HSZ.out CP.out NL.out GB.out)
    have HNR : Hid (w0.heap.size ≠ w.heap.size + 1) := Lib.hid (by have h1 := MC.out.low; have h2 := HSZ.out; omega)
    (
      clear CP NL ST z0 z1
      obtain ⟨a3, cap3, hv3, hr3, hlo3⟩ := MC.out.copy.row
      injection hv3 with h1 h2 h3
      subst h1 h3
      obtain ⟨gb, off3, x3, rfl, hgb, hx3, -, -⟩ := hr3.get hk
      obtain ⟨hlo, rfl⟩ := hlo3 gb off3 rfl
      have HX3 := Lib.hid hx3
      have HXC : Hid (x3.core = x) := Lib.hid (by
        have h1 : (coreL M)[k]? = some x3.core := coreL_get hx3
        rw [MC.out.copy.core, HX.out] at h1
        exact (Option.some.inj h1).symm)
      have HNQ : Hid (gb ≠ w0.heap.size) := Lib.hid (fun e => MC.out.ne (by rw [← e]; rfl))
      have hgq1 := HNQ.out
      have hgq2 := HNQ.out.symm
      clear hr3 hlo3 hgb hx3
      have d0 := MC.out.g.c0
      have d1 := MC.out.g.c1
      have z0 := (ST0.out.keep MC.out.copy.below).box.c0
      have z1 := (ST0.out.keep MC.out.copy.below).box.c1
      go_wp2_with (go_at_call 69; refine (CR.out _ (ST0.out.keep MC.out.copy.below).box.row).mono ?_; rintro e w2 ⟨rfl, hb⟩; have MC := Lib.hid (MC.out.keep hb); clear d0 d1 z0 z1; have d0 := MC.out.g.c0; have d1 := MC.out.g.c1; have u0 := MC.out.g.f0; have z0 := (ST0.out.keep MC.out.copy.below).box.c0; have z1 := (ST0.out.keep MC.out.copy.below).box.c1; have c8 := (MC.out.copy.at HX3.out).c8; have f8 := own_free MC.out.copy.own (k * 10 + 8); clear hb)
      have HL64 : Hid (In64 (len : Int)) := Lib.hid ⟨by omega, by omega⟩
      have HK64 : Hid (In64 (k : Int)) := Lib.hid ⟨by omega, by omega⟩
      obtain ⟨W3, hW3, MC3⟩ : ∃ W3, w2.setCell ⟨gb, k * 10 + 8, none⟩ (.int .i64 (len : Int)) = W3 ∧ AttCp (w.heap.size + 1) w0 W3 len m ((coreL L).set k (withU x3.core (len : Int))) w0.heap.size (.slice (some ⟨gb, 0, none⟩) len cap2) (M.set k (withUD x3 (len : Int))) := ⟨_, rfl, MC.out.under HX3.out HL64.out⟩
      have MC2 := Lib.hid MC3
      clear MC3 MC d0 d1 u0 z0 z1 c8 f8
      rw [hW3]
      clear hW3
      have d0 := MC2.out.g.c0
      have u0 := MC2.out.g.f0
      have ST := Lib.hid (ST0.out.keep MC2.out.copy.below)
      have z0 := ST.out.box.c0
      have c9 := C9.out _ ST.out.box.below
      have MC1 := Lib.hid ((MC2.out.keep (Below.refl _ _).drew).keep (below_box W3.drew (nodB (shadeD k x.doc))))
      have NW := Lib.hid (World.news_of_block (heap_alloc_new W3.drew (nodB (shadeD k x.doc))))
      have HCM : Hid (coreL (M.set k (withUD x3 (len : Int)) ++ [shadeD k x.doc]) = (coreL L).set k (withU x (len : Int)) ++ [shadeC k x.doc]) := Lib.hid (by
        have h1 := MC2.out.copy.core
        rw [HXC.out] at h1
        unfold coreL at h1 ⊢
        rw [List.map_append, h1]
        rfl)
      have d0a := (MC2.out.keep (below_box W3 (nodB (shadeD k x.doc)))).g.c0
      have z0a := (ST.out.keep (below_box W3 (nodB (shadeD k x.doc)))).box.c0
      have c9a := C9.out _ (ST.out.keep (below_box W3 (nodB (shadeD k x.doc)))).box.below
      dsimp only [nodB, shadeD, shadeC] at d0a z0a c9a
      go_region_law ((refine step_append_keep (by rfl) _ _ _ (by rfl) w0.heap.size 28 i0 _ 10 136 Try.underlying22 hi0 hz0 hz1 hz2 (by rfl) (by decide) _ len ((M.set k (withUD x3 (len : Int))).flatMap encN) (by rfl) MC1.out.copy.own ⟨W3.heap.size, 0, none⟩ 1 1 (encN (shadeD k x.doc)) (by rfl) (by rfl) NW.out (encN_one (shadeD k x.doc)) (by decide) (by unfold maxLen; omega) (by omega) MC1.out.copy.below.size ?_; intro g cap3 w4 hown1 hold hgrow hat hlt; have NR := Lib.hid (AttRow.new MC1.out (shadeD_ok _ HK64.out HD64.out) rfl rfl hown1 hgrow hat); have MC := Lib.hid (MC1.out.grown hgrow hold); have ST := Lib.hid (ST0.out.keep MC.out.copy.below); clear d0 u0 z0 c9; have z0 := ST.out.box.c0; have c9 := C9.out _ ST.out.box.below; have d0 := MC.out.g.c0; have u0 := MC.out.g.f0; have d1 := MC.out.g.c1; have e0 := ST.out.res.c0; have e1 := ST.out.res.c1; have g0 := ST.out.res.f0; have g1 := ST.out.res.f1; have hnq1 := HNR.out; have hnq2 := HNR.out.symm; clear hown1 hold hgrow hat hlt))
      all_goals try go_wp2
      all_goals
        obtain ⟨hr3, hb3⟩ := NR.out.finish HSZ.out (Nat.le_succ _) MC.out.low ST0.out.box.below MC.out.copy.below (.slice (some ⟨g, 0, none⟩) (len + 1) cap3) (.slice (some ⟨g, 0, none⟩) (len + 1) cap3) (.int .i64 m)
        have hfp : ForPost w ((coreL L).set k (withU x (len : Int)) ++ [shadeC k x.doc]) m [.int .i64 (len : Int), .int .i64 0] (.returned (.tuple #[forV (some ⟨g, 0, none⟩) (len + 1) cap3 m, .int .i64 (len : Int), .int .i64 0])) _ := ⟨_, _, cap3, M.set k (withUD x3 (len : Int)) ++ [shadeD k x.doc], rfl, hr3, HCM.out, hb3⟩
        refine bodyPost_ret (v := .tuple #[forV (some ⟨g, 0, none⟩) (len + 1) cap3 m, .int .i64 (len : Int), .int .i64 0]) ?_ rfl hfp
        simp [results, Try.results38, go_sem, e0, e1])
end Go.Proofs.Ytllfkiifkkcinaa
