/- Texts joined in build order: DeskAwake DeskAwake9. -/
import Derived.Test.YtioeagadhnnajaaA18
import Derived.Test.YtioeagadhnnajaaA31
import Derived.Test.YtioeagadhnnajaaA05
/- instarlaw09's awake, over what is asked of package desk. -/
namespace Go.Proofs.Ytioeagadhnnajaa
open Go.RowKit
abbrev xaB : ByteArray := ⟨#[120, 45, 97]⟩
abbrev xbB : ByteArray := ⟨#[120, 45, 98]⟩
abbrev pB : ByteArray := ⟨#[112]⟩
abbrev aw1 : DeskD := ⟨[], [⟨xaB, 0⟩], 1, false⟩
abbrev aw2 : DeskD := ⟨[], [⟨xaB, 0⟩, ⟨xaB, 1⟩], 2, false⟩
abbrev aw3 : DeskD := ⟨[⟨xaB, pB, 1⟩], [], 2, false⟩
theorem xaL : xaB.toList = [120, 45, 97] := toList_ofL [120, 45, 97]
theorem xbL : xbB.toList = [120, 45, 98] := toList_ofL [120, 45, 98]
theorem pL : pB.toList = [112] := toList_ofL [112]
theorem eL : (⟨#[]⟩ : ByteArray).toList = [] := toList_ofL []
theorem aw1_is : awaitR ⟨[], [], 0, false⟩ xaB = (aw1, 0, -1, 0) := by
  have h : awaitE ⟨[], [], 0, false⟩ xaB.toList = 0 := by rw [xaL]; decide
  unfold awaitR
  rw [if_pos h]
  rw [xaL]
  rfl
theorem aw2_is : awaitR aw1 xaB = (aw2, 1, -1, 0) := by
  have h : awaitE aw1 xaB.toList = 0 := by
    unfold awaitE rightK aw1 waitsOk waitsOk okT
    simp only [xaL]
    decide
  unfold awaitR
  rw [if_pos h, xaL]
  rfl
theorem aw3_is : addR9 aw2 2 xaB pB 1 = (aw3, 0, [0, 1], 0) := by
  have h : mayE aw2 2 xaB.toList pB.toList 1 = 0 := by
    unfold mayE rightK aw2 waitsOk waitsOk waitsOk okT
    simp only [xaL, pL]
    decide
  unfold addR9
  rw [if_pos h]
  have h1 : newDef xaB pB 1 = ⟨xaB, pB, 1⟩ := by
    unfold newDef
    rw [if_neg (by rw [pL]; decide)]
  have h2 : restT aw2.waits xaB.toList = [] := by
    unfold restT aw2
    simp
  have h3 : toldZ aw2.waits xaB.toList = [0, 1] := by
    unfold toldZ aw2
    simp
  unfold addK
  rw [h1, h2, h3]
  rfl
theorem aw3_right : rightK aw3 = true := by
  unfold rightK aw3 defsOk defsOk waitsOk okD namedZ classedZ firstZ firstN isName isCls
  simp only [List.findIdx_cons, xaL, pL]
  decide
theorem aw4_is : (awaitR aw3 xaB).2 = (2, 0, 0) := by
  have h : awaitE aw3 xaB.toList = 0 := by
    unfold awaitE
    rw [aw3_right, if_neg (by decide), if_neg (by rw [xaL]; decide), if_neg (by decide)]
  unfold awaitR
  rw [if_pos h]
  unfold namedZ firstZ firstN isName aw3
  simp [List.findIdx_cons]
theorem aw5_is : ifRight aw3 (findZ2 aw3.defs pB.toList xaB.toList) = 0 ∧ ifRight aw3 (findZ2 aw3.defs xaB.toList (⟨#[]⟩ : ByteArray).toList) = -1 ∧ ifRight aw3 (namedZ aw3.defs xaB.toList) = 0 ∧ ifRight aw3 (classedZ aw3.defs 1) = 0 ∧ mayE aw3 2 xbB.toList (⟨#[]⟩ : ByteArray).toList 1 = 10 := by
  unfold ifRight mayE
  rw [aw3_right]
  unfold findZ2 namedZ classedZ firstZ firstN isName isCls isOwn isIs aw3
  simp only [List.findIdx_cons, xaL, pL, xbL, eL]
  decide
end Go.Proofs.Ytioeagadhnnajaa
/- instarlaw09's awake, walked. -/
namespace Go.Proofs.Ytioeagadhnnajaa
open Go.RowKit
theorem below_dn {B : Nat} {a w : World} (h : Below B a w) (n : Nat) : Below B a (w.drewN n) := ⟨h.os, h.tape, h.output, h.size, h.block⟩
/-- A desk in a box that may be written, its rows elsewhere. -/
structure KBox (w W : World) (g : Nat) (da : Option Addr) (dl dc : Nat) (wa : Option Addr) (wl wc : Nat) (D : DeskD) : Prop where
  bx : GBox W g (.slice da dl dc) (.slice wa wl wc) D.next D.busy
  d : DefRow W da dl dc D.defs
  t : WaitRow W wa wl wc D.waits
  low : w.heap.size ≤ g
  below : Below w.heap.size w W
section
variable {w W V : World} {g : Nat} {da wa : Option Addr} {dl dc wl wc : Nat} {D : DeskD}
theorem KBox.keep (h : KBox w W g da dl dc wa wl wc D) (hb : Below W.heap.size W V) : KBox w V g da dl dc wa wl wc D :=
  ⟨h.bx.keep hb, h.d.below hb, h.t.below hb, h.low, h.below.trans (hb.mono h.below.size)⟩
theorem KBox.new (hd : DefRow W da dl dc D.defs) (ht : WaitRow W wa wl wc D.waits) (hb : Below w.heap.size w W) : KBox w (W.alloc (.cells #[.slice da dl dc, .slice wa wl wc, .int .i64 D.next, .bool D.busy] 25)) W.heap.size da dl dc wa wl wc D :=
  ⟨GBox.new _ _ _ _ _, hd.below (below_desk _ _), ht.below (below_desk _ _), hb.size, hb.alloc hb.size _⟩
/-- Another desk is stored into the box: its rows are new. -/
theorem KBox.put {da' wa' : Option Addr} {dl' dc' wl' wc' : Nat} {E : DeskD} (h : KBox w W g da dl dc wa wl wc D) (hb : Below W.heap.size W V) (hd : DefRow V da' dl' dc' E.defs) (ht : WaitRow V wa' wl' wc' E.waits) (hn : NewAt W da') (hm : NewAt W wa') :
    KBox w (put4 V g (.slice da' dl' dc') (.slice wa' wl' wc') (.int .i64 E.next) (.bool E.busy)) g da' dl' dc' wa' wl' wc' E := by
  have hlt := h.bx.lt
  refine ⟨((((h.bx.keep hb).set0 _).set1 _).set2 _).set3 _, hd.same (fun b off e => put4_same (by have := hn b off e; omega)) (by rw [put4_size]; exact Nat.le_refl _), ht.same (fun b off e => put4_same (by have := hm b off e; omega)) (by rw [put4_size]; exact Nat.le_refl _), h.low, put4_below (h.below.trans (hb.mono h.below.size)) h.low⟩
end
set_option maxHeartbeats 4000000 in
set_option maxRecDepth 100000 in
theorem awake9_any (F : DeskFns) (w : World) : Calls Try.prog 4 #[] w fun e w' => e = .returned (.bool true) ∧ Below w.heap.size w w' := by
  have C1 : Hid (∀ W, Calls Try.prog 19 #[deskV none 0 0 none 0 0 0 false, .string xaB] W (AwaitPost W (aw1, 0, -1, 0))) := Lib.hid (fun W => by
    have h := F.await none 0 0 none 0 0 0 false [] [] xaB W (DefRow.nil W) (WaitRow.nil W) (by decide) (by unfold In64; omega) (by simp) (by simp)
    rwa [aw1_is] at h)
  have C2 : Hid (∀ W da dl dc wa wl wc, DefRow W da dl dc aw1.defs → WaitRow W wa wl wc aw1.waits → Calls Try.prog 19 #[deskV da dl dc wa wl wc 1 false, .string xaB] W (AwaitPost W (aw2, 1, -1, 0))) := Lib.hid (fun W da dl dc wa wl wc h1 h2 => by
    have h := F.await da dl dc wa wl wc 1 false aw1.defs aw1.waits xaB W h1 h2 (by decide) (by unfold In64; omega) (by decide) (by decide)
    have e : (⟨aw1.defs, aw1.waits, 1, false⟩ : DeskD) = aw1 := rfl
    rwa [e, aw2_is] at h)
  have C3 : Hid (∀ W da dl dc wa wl wc, DefRow W da dl dc aw2.defs → WaitRow W wa wl wc aw2.waits → Calls Try.prog 14 #[deskV da dl dc wa wl wc 2 false, .int .i64 2, .string xaB, .string pB, .int .i64 1] W (AddPost9 W (aw3, 0, [0, 1], 0))) := Lib.hid (fun W da dl dc wa wl wc h1 h2 => by
    have h := F.add da dl dc wa wl wc 2 false aw2.defs aw2.waits 2 xaB pB 1 W h1 h2 (by decide) (by decide) (by unfold In64; omega) (by decide) (by decide)
    have e : (⟨aw2.defs, aw2.waits, 2, false⟩ : DeskD) = aw2 := rfl
    rwa [e, aw3_is] at h)
  obtain ⟨E4, hE4⟩ : ∃ E, (awaitR aw3 xaB).1 = E := ⟨_, rfl⟩
  have C4 : Hid (∀ W da dl dc wa wl wc, DefRow W da dl dc aw3.defs → WaitRow W wa wl wc aw3.waits → Calls Try.prog 19 #[deskV da dl dc wa wl wc 2 false, .string xaB] W (AwaitPost W (E4, 2, 0, 0))) := Lib.hid (fun W da dl dc wa wl wc h1 h2 => by
    have h := F.await da dl dc wa wl wc 2 false aw3.defs aw3.waits xaB W h1 h2 (by decide) (by unfold In64; omega) (by decide) (by decide)
    have e : (⟨aw3.defs, aw3.waits, 2, false⟩ : DeskD) = aw3 := rfl
    rw [e] at h
    have e2 : awaitR aw3 xaB = ((awaitR aw3 xaB).1, 2, 0, 0) := by rw [← aw4_is]
    rwa [e2, hE4] at h)
  clear hE4
  have C5 : Hid (∀ W da dl dc wa wl wc, DefRow W da dl dc aw3.defs → WaitRow W wa wl wc aw3.waits → Calls Try.prog 7 #[deskV da dl dc wa wl wc 2 false, .string pB, .string xaB] W fun e w' => e = .returned (.int .i64 0) ∧ Below W.heap.size W w') := Lib.hid (fun W da dl dc wa wl wc h1 h2 => by
    have h := F.find da dl dc wa wl wc 2 false aw3.defs aw3.waits pB xaB W h1 h2 (by decide) (by decide)
    have e : (⟨aw3.defs, aw3.waits, 2, false⟩ : DeskD) = aw3 := rfl
    rwa [e, aw5_is.1] at h)
  have C6 : Hid (∀ W da dl dc wa wl wc, DefRow W da dl dc aw3.defs → WaitRow W wa wl wc aw3.waits → Calls Try.prog 7 #[deskV da dl dc wa wl wc 2 false, .string xaB, .string ⟨#[]⟩] W fun e w' => e = .returned (.int .i64 (-1)) ∧ Below W.heap.size W w') := Lib.hid (fun W da dl dc wa wl wc h1 h2 => by
    have h := F.find da dl dc wa wl wc 2 false aw3.defs aw3.waits xaB ⟨#[]⟩ W h1 h2 (by decide) (by decide)
    have e : (⟨aw3.defs, aw3.waits, 2, false⟩ : DeskD) = aw3 := rfl
    rwa [e, aw5_is.2.1] at h)
  have C7 : Hid (∀ W da dl dc wa wl wc, DefRow W da dl dc aw3.defs → WaitRow W wa wl wc aw3.waits → Calls Try.prog 8 #[deskV da dl dc wa wl wc 2 false, .string xaB] W fun e w' => e = .returned (.int .i64 0) ∧ Below W.heap.size W w') := Lib.hid (fun W da dl dc wa wl wc h1 h2 => by
    have h := F.named da dl dc wa wl wc 2 false aw3.defs aw3.waits xaB W h1 h2 (by decide)
    have e : (⟨aw3.defs, aw3.waits, 2, false⟩ : DeskD) = aw3 := rfl
    rwa [e, aw5_is.2.2.1] at h)
  have C8 : Hid (∀ W da dl dc wa wl wc, DefRow W da dl dc aw3.defs → WaitRow W wa wl wc aw3.waits → Calls Try.prog 9 #[deskV da dl dc wa wl wc 2 false, .int .i64 1] W fun e w' => e = .returned (.int .i64 0) ∧ Below W.heap.size W w') := Lib.hid (fun W da dl dc wa wl wc h1 h2 => by
    have h := F.classed da dl dc wa wl wc 2 false aw3.defs aw3.waits 1 W h1 h2
    have e : (⟨aw3.defs, aw3.waits, 2, false⟩ : DeskD) = aw3 := rfl
    rwa [e, aw5_is.2.2.2.1] at h)
  have C9 : Hid (∀ W da dl dc wa wl wc, DefRow W da dl dc aw3.defs → WaitRow W wa wl wc aw3.waits → Calls Try.prog 16 #[deskV da dl dc wa wl wc 2 false, .int .i64 2, .string xbB, .string ⟨#[]⟩, .int .i64 1] W fun e w' => e = .returned (.int .i64 10) ∧ Below W.heap.size W w') := Lib.hid (fun W da dl dc wa wl wc h1 h2 => by
    have h := F.may da dl dc wa wl wc 2 false aw3.defs aw3.waits 2 xbB ⟨#[]⟩ 1 W h1 h2 (by decide) (by decide)
    have e : (⟨aw3.defs, aw3.waits, 2, false⟩ : DeskD) = aw3 := rfl
    rwa [e, aw5_is.2.2.2.2] at h)
  have C10 : Hid (∀ W da dl dc wa wl wc, DefRow W da dl dc aw3.defs → WaitRow W wa wl wc aw3.waits → Calls Try.prog 10 #[deskV da dl dc wa wl wc 2 false] W fun e w' => e = .returned (.bool true) ∧ Below W.heap.size W w') := Lib.hid (fun W da dl dc wa wl wc h1 h2 => by
    have h := F.right da dl dc wa wl wc 2 false aw3.defs aw3.waits W h1 h2
    have e : (⟨aw3.defs, aw3.waits, 2, false⟩ : DeskD) = aw3 := rfl
    rwa [e, aw3_right] at h)
  have CI : Hid (∀ W a l c (B : List Int) (b : Nat), IntRow W a l c [0, 1] → W.cell? ⟨b, 0, none⟩ = some (.int .i64 0) → W.cell? ⟨b, 1, none⟩ = some (.int .i64 1) → b < W.heap.size → Calls Try.prog 17 #[.slice a l c, .slice (some ⟨b, 0, none⟩) 2 2] W fun e w' => e = .returned (.bool true) ∧ Below W.heap.size W w') := Lib.hid (fun W a l c _ b h c0 c1 hb => by
    have hr : IntRow W (some ⟨b, 0, none⟩) 2 2 [0, 1] := ⟨⟨rfl, Nat.le_refl _, by unfold maxLen; omega, fun x _ => encZ_len x, .inr ⟨b, 0, rfl, hb, fun i x j v hx hv => by
      have hj : j < 1 := (List.getElem?_eq_some_iff.1 hv).1
      obtain rfl : j = 0 := by omega
      match i, hx with
      | 0, hx => simp at hx; subst hx; simp [encZ] at hv; subst hv; exact c0
      | 1, hx => simp at hx; subst hx; simp [encZ] at hv; subst hv; exact c1
      | i + 2, hx => simp at hx⟩⟩, fun z hz => by simp at hz; rcases hz with rfl | rfl <;> (unfold In64; omega), fun e => by cases e⟩
    refine (refints_any a _ l c 2 2 [0, 1] [0, 1] W h hr).mono fun e w' ⟨he, n, hn⟩ => ⟨by rw [he]; rfl, by rw [hn]; exact below_dn (Below.refl _ _) n⟩)
  go_enter Try.func4, Try.ntmps4
  go_upto_region 2 with (go_at_call 19; (refine (C1.out _).mono ?_); rintro e w1 ⟨a1, l1, c1, b1, m1, n1, rfl, hd, ht, hb, -, -⟩; have KB := Lib.hid (KBox.new (D := aw1) hd ht hb); clear hd ht hb; dsimp only [aw1])
  go_upto_region 2 with fail
  obtain ⟨W1, hW1⟩ : ∃ W1, w1.alloc (.cells #[.slice a1 l1 c1, .slice b1 m1 n1, .int .i64 1, .bool false] 25) = W1 := ⟨_, rfl⟩
  have KB : Hid (KBox w W1 w1.heap.size a1 l1 c1 b1 m1 n1 aw1) := Lib.hid (by rw [← hW1]; exact KB.out)
  rw [hW1]
  clear hW1
  obtain ⟨g, hg⟩ : ∃ g, w1.heap.size = g := ⟨_, rfl⟩
  rw [hg] at KB ⊢
  clear hg
  (have z0 := (KB).out.bx.c0; have z1 := (KB).out.bx.c1; have z2 := (KB).out.bx.c2; have z3 := (KB).out.bx.c3; have f0 := (KB).out.bx.f 0; have f1 := (KB).out.bx.f 1; have f2 := (KB).out.bx.f 2; have f3 := (KB).out.bx.f 3)
  go_upto_region 3 with (go_at_call 19; (refine (C2.out _ _ _ _ _ _ _ KB.out.d KB.out.t).mono ?_); rintro e w2 ⟨a2, l2, c2, b2, m2, n2, rfl, hd, ht, hb, hn, hm⟩; have K2 := Lib.hid (KB.out.put (E := aw2) hb hd ht hn hm); (clear z0 z1 z2 z3 f0 f1 f2 f3); have KB := Lib.hid (KB.out.keep hb); (have z0 := (KB).out.bx.c0; have z1 := (KB).out.bx.c1; have z2 := (KB).out.bx.c2; have z3 := (KB).out.bx.c3; have f0 := (KB).out.bx.f 0; have f1 := (KB).out.bx.f 1; have f2 := (KB).out.bx.f 2; have f3 := (KB).out.bx.f 3); clear hd ht hb hn hm; dsimp only [aw2])
  obtain ⟨W2, hW2⟩ : ∃ W2, put4 w2 g (.slice a2 l2 c2) (.slice b2 m2 n2) (.int .i64 2) (.bool false) = W2 := ⟨_, rfl⟩
  have K2 : Hid (KBox w W2 g a2 l2 c2 b2 m2 n2 aw2) := Lib.hid (by rw [← hW2]; exact K2.out)
  unfold put4 at hW2
  rw [hW2]
  clear hW2 KB
  (clear z0 z1 z2 z3 f0 f1 f2 f3)
  (have z0 := (K2).out.bx.c0; have z1 := (K2).out.bx.c1; have z2 := (K2).out.bx.c2; have z3 := (K2).out.bx.c3; have f0 := (K2).out.bx.f 0; have f1 := (K2).out.bx.f 1; have f2 := (K2).out.bx.f 2; have f3 := (K2).out.bx.f 3)
  go_upto_region 4 with (go_at_call 14; (refine (C3.out _ _ _ _ _ _ _ K2.out.d K2.out.t).mono ?_); rintro e w3 ⟨a3, l3, c3, b3, m3, n3, ta, tl, tc, rfl, hd, ht, hi, hb, hn, hm, hk⟩; have K3 := Lib.hid (K2.out.put (E := aw3) hb hd ht hn hm); have GL := Lib.hid K2.out.bx.lt; have IR := Lib.hid hi; have IK := Lib.hid hk; (clear z0 z1 z2 z3 f0 f1 f2 f3); have KB := Lib.hid (K2.out.keep hb); (have z0 := (KB).out.bx.c0; have z1 := (KB).out.bx.c1; have z2 := (KB).out.bx.c2; have z3 := (KB).out.bx.c3; have f0 := (KB).out.bx.f 0; have f1 := (KB).out.bx.f 1; have f2 := (KB).out.bx.f 2; have f3 := (KB).out.bx.f 3); clear hd ht hb hn hm hi hk; dsimp only [aw3])
  obtain ⟨W3, hW3⟩ : ∃ W3, put4 w3 g (.slice a3 l3 c3) (.slice b3 m3 n3) (.int .i64 2) (.bool false) = W3 := ⟨_, rfl⟩
  have K3 : Hid (KBox w W3 g a3 l3 c3 b3 m3 n3 aw3) := Lib.hid (by rw [← hW3]; exact K3.out)
  have IR : Hid (IntRow W3 ta tl tc [0, 1]) := Lib.hid (by
    rw [← hW3]
    exact IR.out.same9 (fun b off e => put4_same (by have := IK.out b off e; have := GL.out; omega)) (by rw [put4_size]; exact Nat.le_refl _))
  unfold put4 at hW3
  rw [hW3]
  clear hW3 KB K2 IK GL
  (clear z0 z1 z2 z3 f0 f1 f2 f3)
  (have z0 := (K3).out.bx.c0; have z1 := (K3).out.bx.c1; have z2 := (K3).out.bx.c2; have z3 := (K3).out.bx.c3; have f0 := (K3).out.bx.f 0; have f1 := (K3).out.bx.f 1; have f2 := (K3).out.bx.f 2; have f3 := (K3).out.bx.f 3)
  go_upto_region 5 with (go_at_call 19; (refine (C4.out _ _ _ _ _ _ _ K3.out.d K3.out.t).mono ?_); rintro e w4 ⟨a4, l4, c4, b4, m4, n4, rfl, -, -, hb, -, -⟩; (clear z0 z1 z2 z3 f0 f1 f2 f3); have KB := Lib.hid (K3.out.keep hb); have IR := Lib.hid (IR.out.below hb); (have z0 := (KB).out.bx.c0; have z1 := (KB).out.bx.c1; have z2 := (KB).out.bx.c2; have z3 := (KB).out.bx.c3; have f0 := (KB).out.bx.f 0; have f1 := (KB).out.bx.f 1; have f2 := (KB).out.bx.f 2; have f3 := (KB).out.bx.f 3); clear hb)
  obtain ⟨W4, hW4⟩ : ∃ W4, w4.alloc (.cells #[.slice a4 l4 c4, .slice b4 m4 n4, .int .i64 E4.next, .bool E4.busy] 25) = W4 := ⟨_, rfl⟩
  have K4 : Hid (KBox w W4 g a3 l3 c3 b3 m3 n3 aw3) := Lib.hid (by rw [← hW4]; exact KB.out.keep (below_desk _ _))
  have IR : Hid (IntRow W4 ta tl tc [0, 1]) := Lib.hid (by rw [← hW4]; exact IR.out.below (below_desk _ _))
  rw [hW4]
  clear hW4 KB K3
  (clear z0 z1 z2 z3 f0 f1 f2 f3)
  (have z0 := (K4).out.bx.c0; have z1 := (K4).out.bx.c1; have z2 := (K4).out.bx.c2; have z3 := (K4).out.bx.c3; have f0 := (K4).out.bx.f 0; have f1 := (K4).out.bx.f 1; have f2 := (K4).out.bx.f 2; have f3 := (K4).out.bx.f 3)
  have KB := K4
  clear K4
  have OW : Hid (∀ V : World, V.heap.size < (V.alloc (.cells #[.int .i64 0, .int .i64 1] 3)).heap.size) := Lib.hid (fun V => by simp)
  go_wp2_with (first
    | (go_at_call 17; refine (CI.out _ _ _ _ [] _ (IR.out.below (below_desk _ _)) (cell_two _ (.int .i64 0) (.int .i64 1) _).1 (cell_two _ (.int .i64 0) (.int .i64 1) _).2 (OW.out _)).mono ?_; rintro e w5 ⟨rfl, hb'⟩; have hb := (below_desk W4 (.cells #[.int .i64 0, .int .i64 1] 3)).trans (hb'.mono (below_desk W4 _).size); clear hb'; ((clear z0 z1 z2 z3 f0 f1 f2 f3); have KB := Lib.hid (KB.out.keep hb); (have z0 := (KB).out.bx.c0; have z1 := (KB).out.bx.c1; have z2 := (KB).out.bx.c2; have z3 := (KB).out.bx.c3; have f0 := (KB).out.bx.f 0; have f1 := (KB).out.bx.f 1; have f2 := (KB).out.bx.f 2; have f3 := (KB).out.bx.f 3); clear hb))
    | (go_at_call 7; (with_reducible refine (C5.out _ _ _ _ _ _ _ KB.out.d KB.out.t).mono ?_); rintro e w5 ⟨rfl, hb⟩; ((clear z0 z1 z2 z3 f0 f1 f2 f3); have KB := Lib.hid (KB.out.keep hb); (have z0 := (KB).out.bx.c0; have z1 := (KB).out.bx.c1; have z2 := (KB).out.bx.c2; have z3 := (KB).out.bx.c3; have f0 := (KB).out.bx.f 0; have f1 := (KB).out.bx.f 1; have f2 := (KB).out.bx.f 2; have f3 := (KB).out.bx.f 3); clear hb))
    | (go_at_call 7; (with_reducible refine (C6.out _ _ _ _ _ _ _ KB.out.d KB.out.t).mono ?_); rintro e w5 ⟨rfl, hb⟩; ((clear z0 z1 z2 z3 f0 f1 f2 f3); have KB := Lib.hid (KB.out.keep hb); (have z0 := (KB).out.bx.c0; have z1 := (KB).out.bx.c1; have z2 := (KB).out.bx.c2; have z3 := (KB).out.bx.c3; have f0 := (KB).out.bx.f 0; have f1 := (KB).out.bx.f 1; have f2 := (KB).out.bx.f 2; have f3 := (KB).out.bx.f 3); clear hb))
    | (go_at_call 8; (with_reducible refine (C7.out _ _ _ _ _ _ _ KB.out.d KB.out.t).mono ?_); rintro e w5 ⟨rfl, hb⟩; ((clear z0 z1 z2 z3 f0 f1 f2 f3); have KB := Lib.hid (KB.out.keep hb); (have z0 := (KB).out.bx.c0; have z1 := (KB).out.bx.c1; have z2 := (KB).out.bx.c2; have z3 := (KB).out.bx.c3; have f0 := (KB).out.bx.f 0; have f1 := (KB).out.bx.f 1; have f2 := (KB).out.bx.f 2; have f3 := (KB).out.bx.f 3); clear hb))
    | (go_at_call 9; (with_reducible refine (C8.out _ _ _ _ _ _ _ KB.out.d KB.out.t).mono ?_); rintro e w5 ⟨rfl, hb⟩; ((clear z0 z1 z2 z3 f0 f1 f2 f3); have KB := Lib.hid (KB.out.keep hb); (have z0 := (KB).out.bx.c0; have z1 := (KB).out.bx.c1; have z2 := (KB).out.bx.c2; have z3 := (KB).out.bx.c3; have f0 := (KB).out.bx.f 0; have f1 := (KB).out.bx.f 1; have f2 := (KB).out.bx.f 2; have f3 := (KB).out.bx.f 3); clear hb))
    | (go_at_call 16; (with_reducible refine (C9.out _ _ _ _ _ _ _ KB.out.d KB.out.t).mono ?_); rintro e w5 ⟨rfl, hb⟩; ((clear z0 z1 z2 z3 f0 f1 f2 f3); have KB := Lib.hid (KB.out.keep hb); (have z0 := (KB).out.bx.c0; have z1 := (KB).out.bx.c1; have z2 := (KB).out.bx.c2; have z3 := (KB).out.bx.c3; have f0 := (KB).out.bx.f 0; have f1 := (KB).out.bx.f 1; have f2 := (KB).out.bx.f 2; have f3 := (KB).out.bx.f 3); clear hb))
    | (go_at_call 10; (with_reducible refine (C10.out _ _ _ _ _ _ _ KB.out.d KB.out.t).mono ?_); rintro e w5 ⟨rfl, hb⟩; ((clear z0 z1 z2 z3 f0 f1 f2 f3); have KB := Lib.hid (KB.out.keep hb); (have z0 := (KB).out.bx.c0; have z1 := (KB).out.bx.c1; have z2 := (KB).out.bx.c2; have z3 := (KB).out.bx.c3; have f0 := (KB).out.bx.f 0; have f1 := (KB).out.bx.f 1; have f2 := (KB).out.bx.f 2; have f3 := (KB).out.bx.f 3); clear hb)))
  go_ret
  exact ⟨rfl, KB.out.below⟩
end Go.Proofs.Ytioeagadhnnajaa
