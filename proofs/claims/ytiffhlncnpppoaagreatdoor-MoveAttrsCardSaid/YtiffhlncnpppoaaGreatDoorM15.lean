/- Texts joined in build order: MoveAwake6 MoveBackMath MoveBack MoveAttrMath MoveAgainMath AttrMath2 AttrRefShort AttrFns AttrMath3 MoveAgainMath2 MoveAgainMath3 MoveAgain AttrOpen ForestOpen Tied. -/
import Derived.Test.YtiffhlncnpppoaaGreatDoorM13
import Derived.Test.YtiffhlncnpppoaaGreatDoorM06
import Derived.Test.YtiffhlncnpppoaaGreatDoorM01
import Derived.Test.YtiffhlncnpppoaaGreatDoorM02
import Derived.Test.YtiffhlncnpppoaaGreatDoorM10
import Derived.Test.YtiffhlncnpppoaaGreatDoorM04
import Derived.Test.YtiffhlncnpppoaaGreatDoorM05
import Derived.Test.YtiffhlncnpppoaaGreatDoorChecked
import Derived.WalkLawsBesides
import Derived.WalkSmall
import Derived.Lib.Hide
import Derived.Deep.QuietTactic
import Derived.BigQuiet
import Derived.Deep.SlicePairs
import Derived.ProofKit
import Derived.OpenShut
import Derived.Test.YtiffhlncnpppoaaGreatDoorM11
import Derived.Test.YtiffhlncnpppoaaGreatDoorRows
import Derived.WalkKit
import Derived.ShutString
import Derived.ChangeOld
import Derived.ChangeSame
import Derived.ChangeVars
import Derived.JoinedOf
import Derived.RowKit
import Derived.RowKitTokens
import Derived.LaidLaws
import Derived.LaidHandle
import Derived.Stop.Joined
namespace Go.Proofs.YtiffhlncnpppoaaGreatDoor
open Go.RowKit
set_option maxHeartbeats 8000000 in
set_option maxRecDepth 100000 in
theorem awake6_any (w : World) (hg : ErrVar w) : Calls Tryz.prog 13 #[] w fun e w' => e = .returned (.bool true) ∧ Below w.heap.size w w' := by
  have inm : In64 (-1) := ⟨by decide, by decide⟩
  have HG := Lib.hid hg
  have C0 : Hid (∀ W, Calls Tryz.prog 57 #[.int .i64 5] W (ForPost W mv1 5 [.int .i64 0])) := Lib.hid (fun W => by
    have := newFn_any 5 W in5
    rwa [mva5.1, mva5.2.1, mva5.2.2] at this)
  have C1 : Hid (∀ W a len cap L, NodeRow W a len cap L → coreL L = mv1 → Calls Tryz.prog 58 #[forV a len cap 5, pV 112] W (ForPost W f2 5 [.int .i64 1, .int .i64 0])) := Lib.hid (fun W a len cap L h hc => by
    have := makeFn_any a len cap 5 L (pD 112) W h (pD_ok _ _) in5 (mvSmall hc (by decide +kernel)) (pD_small _)
    rw [hc, show (pD 112).core = pC 112 from rfl, mva6.1, mva6.2.1, mva6.2.2] at this
    exact this)
  have C2 : Hid (∀ W a len cap L, NodeRow W a len cap L → coreL L = f2 → ErrVar W → Calls Tryz.prog 15 #[forV a len cap 5, .int .i64 1, .int .i64 0, .int .i64 (-1)] W (MvPost W 5 (mvF3, mvN1, 0))) := Lib.hid (fun W a len cap L h hc hg => by
    have := minsert_any a len cap 5 L 1 0 (-1) W h in5 in1 in0 inm (small2 hc) hg
    rwa [hc, mva1] at this)
  have C3 : Hid (∀ W a len cap L, NodeRow W a len cap L → coreL L = mvF3 → ErrVar W → Calls Tryz.prog 24 #[forV a len cap 5, .int .i64 1, .string ⟨#[66]⟩, .string ⟨#[49]⟩] W (MvPost W 5 (mvF4, mvN2, 0))) := Lib.hid (fun W a len cap L h hc hg => by
    have := mset_any a len cap 5 L 1 ⟨#[66]⟩ ⟨#[49]⟩ W h in5 in1 (by decide) (by decide) (mvSmall hc (by decide +kernel)) hg
    rw [show (⟨#[66]⟩ : ByteArray).toList = [66] from toList_ofL [66], hc, mva2] at this
    exact this)
  have C4 : Hid (∀ W a len cap L, NodeRow W a len cap L → coreL L = mvF4 → ErrVar W → Calls Tryz.prog 16 #[forV a len cap 5, .int .i64 1] W (MvPost W 5 (mvF5, mvN3, 0))) := Lib.hid (fun W a len cap L h hc hg => by
    have := mremove_any a len cap 5 L 1 W h in5 in1 (mvSmall hc (by decide +kernel)) hg
    rwa [hc, mva3] at this)
  have C5 : Hid (∀ W a len cap L, NodeRow W a len cap L → coreL L = mvF5 → ErrVar W → Calls Tryz.prog 16 #[forV a len cap 5, .int .i64 1] W (MvPost W 5 (mvF5, [], 6))) := Lib.hid (fun W a len cap L h hc hg => by
    have := mremove_any a len cap 5 L 1 W h in5 in1 (mvSmall hc (by decide +kernel)) hg
    rwa [hc, mva4] at this)
  clear inm hg
  go_enter Tryz.func13, Tryz.ntmps13
  go_wp2_with (first
    | (go_at_call 57; refine (C0.out _).mono ?_; rintro e w1 ⟨a1, len1, cap1, L1, rfl, hr1, hc1, hb1⟩; have B1 := Lib.hid (MBox.new (m := 5) hb1 hr1 hc1); (have z0 := (B1).out.box.c0; have z1 := (B1).out.box.c1; have xf0 := (B1).out.free 0; have xf1 := (B1).out.free 1); clear hr1 hc1 hb1)
    | (go_at_call 58; ((with_reducible refine (C1.out _ _ _ _ _ B1.out.box.row B1.out.box.core).mono ?_); rintro e w2 ⟨a2, len2, cap2, L2, rfl, hr2, hc2, hb2⟩)
       have BX := Lib.hid (B1.out.keep hb2)
       clear z0 z1 xf0 xf1
       (have z0 := (BX).out.box.c0; have z1 := (BX).out.box.c1; have xf0 := (BX).out.free 0; have xf1 := (BX).out.free 1)
       have B2 := Lib.hid (BX.out.set (m2 := 5) hr2 hc2 (bare2 hc2))
       clear hr2 hc2 hb2)
    | (go_at_call 15; ((with_reducible refine (C2.out _ _ _ _ _ B2.out.box.row B2.out.box.core (HG.out.keep B2.out.box.below)).mono ?_); rintro e w3 ⟨a3, len3, cap3, L3, va3, vl3, vc3, rfl, hr3, hc3, -, hn3, hb3, hf3⟩)
       have BX := Lib.hid (B2.out.keep hb3)
       clear z0 z1 xf0 xf1
       (have z0 := (BX).out.box.c0; have z1 := (BX).out.box.c1; have xf0 := (BX).out.free 0; have xf1 := (BX).out.free 1)
       have B3 := Lib.hid (B2.out.mv (m2 := 5) hb3 hr3 hc3 hf3)
       have N1 := Lib.hid ((hn3.far (hf3 _ B2.out.box.lt).2.2 0 (.slice a3 len3 cap3)).far (hf3 _ B2.out.box.lt).2.2 1 (.int .i64 5))
       have A1 := Lib.hid ((hf3 _ B2.out.box.lt).2.2)
       clear hr3 hc3 hn3 hb3 hf3)
    | (go_at_call 24; ((with_reducible refine (C3.out _ _ _ _ _ B3.out.box.row B3.out.box.core (HG.out.keep B3.out.box.below)).mono ?_); rintro e w4 ⟨a4, len4, cap4, L4, va4, vl4, vc4, rfl, hr4, hc4, -, hn4, hb4, hf4⟩)
       have BX := Lib.hid (B3.out.keep hb4)
       clear z0 z1 xf0 xf1
       (have z0 := (BX).out.box.c0; have z1 := (BX).out.box.c1; have xf0 := (BX).out.free 0; have xf1 := (BX).out.free 1)
       have B4 := Lib.hid (B3.out.mv (m2 := 5) hb4 hr4 hc4 hf4)
       have N2 := Lib.hid ((hn4.far (hf4 _ B3.out.box.lt).2.2 0 (.slice a4 len4 cap4)).far (hf4 _ B3.out.box.lt).2.2 1 (.int .i64 5))
       have N1 := Lib.hid (((N1.out.below hb4).far A1.out 0 (.slice a4 len4 cap4)).far A1.out 1 (.int .i64 5))
       have A2 := Lib.hid ((hf4 _ B3.out.box.lt).2.2)
       clear hr4 hc4 hn4 hb4 hf4)
    | (go_at_call 16; ((with_reducible refine (C4.out _ _ _ _ _ B4.out.box.row B4.out.box.core (HG.out.keep B4.out.box.below)).mono ?_); rintro e w5 ⟨a5, len5, cap5, L5, va5, vl5, vc5, rfl, hr5, hc5, -, hn5, hb5, hf5⟩)
       have BX := Lib.hid (B4.out.keep hb5)
       clear z0 z1 xf0 xf1
       (have z0 := (BX).out.box.c0; have z1 := (BX).out.box.c1; have xf0 := (BX).out.free 0; have xf1 := (BX).out.free 1)
       have B5 := Lib.hid (B4.out.mv (m2 := 5) hb5 hr5 hc5 hf5)
       have N3 := Lib.hid ((hn5.far (hf5 _ B4.out.box.lt).2.2 0 (.slice a5 len5 cap5)).far (hf5 _ B4.out.box.lt).2.2 1 (.int .i64 5))
       have N2 := Lib.hid (((N2.out.below hb5).far A2.out 0 (.slice a5 len5 cap5)).far A2.out 1 (.int .i64 5))
       have N1 := Lib.hid (((N1.out.below hb5).far A1.out 0 (.slice a5 len5 cap5)).far A1.out 1 (.int .i64 5))
       clear hr5 hc5 hn5 hb5 hf5)
    | (go_at_call 16; ((with_reducible refine (C5.out _ _ _ _ _ B5.out.box.row B5.out.box.core (HG.out.keep B5.out.box.below)).mono ?_); rintro e w6 ⟨a6, len6, cap6, L6, va6, vl6, vc6, rfl, -, -, -, -, hb6, -⟩)
       have HX := Lib.hid (hb6.trans ((below_box w6 (forB a6 len6 cap6 5)).mono hb6.size))
       have BE := Lib.hid (B5.out.box.below.trans (HX.out.mono B5.out.box.below.size))
       obtain ⟨rfl, b1, o1, rfl, -, k1⟩ := (N1.out.below HX.out).one
       obtain ⟨rfl, b2, o2, rfl, -, k2⟩ := (N2.out.below HX.out).one
       obtain ⟨rfl, b3, o3, rfl, -, k3⟩ := (N3.out.below HX.out).one
       have p0 := k1 0 _ rfl
       have p1 := k1 1 _ rfl
       have p2 := k1 2 _ rfl
       have p3 := k1 3 _ rfl
       have p4 := k1 4 _ rfl
       have p5 := k1 5 _ rfl
       have p6 := k1 6 _ rfl
       have p7 := k1 7 _ rfl
       have p8 := k1 8 _ rfl
       have q0 := k2 0 _ rfl
       have q1 := k2 1 _ rfl
       have q2 := k2 2 _ rfl
       have q3 := k2 3 _ rfl
       have q4 := k2 4 _ rfl
       have q5 := k2 5 _ rfl
       have q6 := k2 6 _ rfl
       have q7 := k2 7 _ rfl
       have q8 := k2 8 _ rfl
       have r0 := k3 0 _ rfl
       rw [Nat.add_zero] at p0 q0 r0
       clear z0 z1 xf0 xf1 hb6 k1 k2 k3))
  go_ret
  exact ⟨rfl, BE.out⟩
end Go.Proofs.YtiffhlncnpppoaaGreatDoor
namespace Go.Proofs.YtiffhlncnpppoaaGreatDoor
open Go.RowKit
theorem findN_mid {A B : List Int} {y : Int} (h : y ∉ A) : findN (A ++ y :: B) y = A.length := by
  unfold findN
  have h1 : List.findIdx (fun z => z == y) A = A.length := List.findIdx_eq_length_of_false (fun z hz => beq_eq_false_iff_ne.2 (fun e => h (by rw [← e]; exact hz)))
  rw [List.findIdx_append, h1, if_neg (Nat.lt_irrefl _)]
  simp [List.findIdx_cons]
end Go.Proofs.YtiffhlncnpppoaaGreatDoor
namespace Go.Proofs.YtiffhlncnpppoaaGreatDoor
open Go.RowKit
end Go.Proofs.YtiffhlncnpppoaaGreatDoor
namespace Go.Proofs.YtiffhlncnpppoaaGreatDoor
open Go.RowKit
structure Worn (c d : Core) : Prop where
  kind : d.kind = c.kind
  parent : d.parent = c.parent
  kids : d.kids = c.kids
  host : d.host = c.host
  under : d.under = c.under
  doc : d.doc = c.doc
theorem Worn.refl (c : Core) : Worn c c := ⟨rfl, rfl, rfl, rfl, rfl, rfl⟩
end Go.Proofs.YtiffhlncnpppoaaGreatDoor
namespace Go.Proofs.YtiffhlncnpppoaaGreatDoor
open Go.RowKit
end Go.Proofs.YtiffhlncnpppoaaGreatDoor
namespace Go.Proofs.YtiffhlncnpppoaaGreatDoor
end Go.Proofs.YtiffhlncnpppoaaGreatDoor
namespace Go.Proofs.YtiffhlncnpppoaaGreatDoor
open Go.RowKit
end Go.Proofs.YtiffhlncnpppoaaGreatDoor
namespace Go.Proofs.YtiffhlncnpppoaaGreatDoor
open Go.RowKit
end Go.Proofs.YtiffhlncnpppoaaGreatDoor
namespace Go.Proofs.YtiffhlncnpppoaaGreatDoor
end Go.Proofs.YtiffhlncnpppoaaGreatDoor
namespace Go.Proofs.YtiffhlncnpppoaaGreatDoor
open Go.RowKit
end Go.Proofs.YtiffhlncnpppoaaGreatDoor
namespace Go.Proofs.YtiffhlncnpppoaaGreatDoor
open Go.RowKit
end Go.Proofs.YtiffhlncnpppoaaGreatDoor
namespace Go.Proofs.YtiffhlncnpppoaaGreatDoor
open Go.RowKit
theorem mset_to {m : Int} {F : List Core} {n : Int} {s v : ByteArray} {R : List Core × List NoteD × Int} (hR : setZ m F n s.toList v = R) (W : World) (a : Option Addr) (len cap : Nat) (M : List NodeD) (h : NodeRow W a len cap M) (hc : coreL M = F) (hs : smallF M) (hm : In64 m) (hn : In64 n) (hsz : s.size ≤ maxLen) (hvz : v.size ≤ maxLen) (hg : ErrVar W) :
    Calls Tryz.prog 24 #[forV a len cap m, .int .i64 n, .string s, .string v] W (MvPost W m R) := by
  rw [← hR, ← hc]
  exact mset_any a len cap m M n s v W h hm hn hsz hvz hs hg
theorem mtog_to {m : Int} {F : List Core} {n : Int} {s : ByteArray} {f : Int} {R : List Core × List NoteD × Int} (hR : togZ m F n s.toList f = R) (W : World) (a : Option Addr) (len cap : Nat) (M : List NodeD) (h : NodeRow W a len cap M) (hc : coreL M = F) (hs : smallF M) (hm : In64 m) (hn : In64 n) (hsz : s.size ≤ maxLen) (hg : ErrVar W) :
    Calls Tryz.prog 26 #[forV a len cap m, .int .i64 n, .string s, .int .i64 f] W (MvPost W m R) := by
  rw [← hR, ← hc]
  exact mtoggle_any a len cap m M n s f W h hm hn hsz hs hg
theorem mins_to {m : Int} {F : List Core} {n p c : Int} {R : List Core × List NoteD × Int} (hR : insZ m F n p c = R) (W : World) (a : Option Addr) (len cap : Nat) (M : List NodeD) (h : NodeRow W a len cap M) (hc : coreL M = F) (hs : smallF M) (hm : In64 m) (hn : In64 n) (hp : In64 p) (hcc : In64 c) (hg : ErrVar W) :
    Calls Tryz.prog 15 #[forV a len cap m, .int .i64 n, .int .i64 p, .int .i64 c] W (MvPost W m R) := by
  rw [← hR, ← hc]
  exact minsert_any a len cap m M n p c W h hm hn hp hcc hs hg
end Go.Proofs.YtiffhlncnpppoaaGreatDoor
namespace Go.Proofs.YtiffhlncnpppoaaGreatDoor
open Go.RowKit Go.Deep Go.ChangeShapes Go.WideShapes
theorem block_lt {W : World} {p : Addr} {v : Value} (h : W.cell? p = some v) : p.block < W.heap.size := by
  rcases Nat.lt_or_ge p.block W.heap.size with h1 | h1
  · exact h1
  · unfold World.cell? at h
    rw [Array.getElem?_eq_none h1] at h
    simp at h
theorem open_attrs {H : Type} {enc : TypeId × Value → H} {W : World} {a : Option Addr} {len cap : Nat} {d : DataW H} {p : List MemPlace}
    (h : DataW.Trod enc Tryz.prog W 0 (fun _ => true) true 50 (.slice a len cap) d p) : ∃ L, AttrRow W a len cap L := by
  obtain ⟨fuel, hf⟩ := h
  rcases open_slice_pairs Tryz.underlying50 Tryz.underlying160 (by kernel_rfl) rfl rfl (by kernel_rfl) (by kernel_rfl) hf with ⟨hcs, _⟩ | ⟨ad, l, c, m, n, V0, V1, D0, D1, P0, P1, hcs, _, hl, hm, hmm, _, hi⟩
  · simp [Value.cells] at hcs
    obtain ⟨rfl, rfl, rfl⟩ := hcs
    exact ⟨[], SRow.nil, by simp, fun _ => rfl⟩
  · simp [Value.cells] at hcs
    obtain ⟨rfl, rfl, rfl⟩ := hcs
    have hml : len ≤ m := by rw [hmm]; simpa using hl
    have each : ∀ i, i < len → ∃ x : ByteArray × ByteArray, W.cell? (ad.add (i * 2)) = some (.string x.1) ∧ W.cell? (ad.add (i * 2 + 1)) = some (.string x.2) ∧ x.1.size ≤ maxLen ∧ x.2.size ≤ maxLen := by
      intro i hil
      obtain ⟨h1, h2, h3, h4⟩ := hi i (by omega)
      obtain ⟨s, hs, _, hs3⟩ := DataW.trod_string Tryz.underlying9 h3
      obtain ⟨t, ht, _, ht3⟩ := DataW.trod_string Tryz.underlying9 h4
      simp at hs ht
      exact ⟨(s, t), by rw [h1, hs], by rw [h2, ht], hs3, ht3⟩
    obtain ⟨q, hq⟩ := choose_lt each
    refine ⟨(List.range len).map q, ⟨by simp, hl, hm, fun x _ => encA_len x, ?_⟩, ?_, fun h => by cases h⟩
    · rcases Nat.eq_zero_or_pos len with h0 | h0
      · exact .inl h0
      · obtain ⟨b, off, spot⟩ := ad
        have hc := (hq 0 h0).1
        have hspot : spot = none := by simpa [Addr.add] using World.cell?_spot hc
        subst hspot
        refine .inr ⟨b, off, rfl, ?_, ?_⟩
        · have := block_lt hc
          rwa [add_plain] at this
        · intro i x j v hx hv
          obtain ⟨hil, hgx⟩ := List.getElem?_eq_some_iff.1 hx
          have hil' : i < len := by simpa using hil
          simp at hgx
          obtain ⟨h1, h2, _⟩ := hq i hil'
          rw [add_plain] at h1 h2
          rw [hgx] at h1 h2
          obtain ⟨hjl, hgv⟩ := List.getElem?_eq_some_iff.1 hv
          match j, hjl with
          | 0, _ => simp [encA] at hgv; subst hgv; exact h1
          | 1, _ => simp [encA] at hgv; subst hgv; simpa [Nat.add_assoc] using h2
    · intro x hx
      obtain ⟨i, hi1, rfl⟩ := List.mem_map.1 hx
      have := hq i (List.mem_range.1 hi1)
      exact ⟨this.2.2.1, this.2.2.2⟩
end Go.Proofs.YtiffhlncnpppoaaGreatDoor
namespace Go.Proofs.YtiffhlncnpppoaaGreatDoor
open Go.RowKit Go.Deep Go.ChangeShapes Go.WideShapes
theorem in64_of {z : Int} (h : (Lit.int .i64 z).wf = true) : In64 z := by
  exact bounds_i64 h
theorem open_introw {H : Type} {enc : TypeId × Value → H} {W : World} {a : Option Addr} {len cap : Nat} {d : DataW H} {p : List MemPlace}
    (h : DataW.Trod enc Tryz.prog W 0 (fun _ => true) true 51 (.slice a len cap) d p) : ∃ L, IntRow W a len cap L := by
  obtain ⟨fuel, hf⟩ := h
  rcases open_slice Tryz.underlying51 hf with ⟨hcs, _⟩ | ⟨ad, l, c, m, n, D, Pl, hcs, _, hl, hm, hmm, _, hi⟩
  · simp [Value.cells] at hcs
    obtain ⟨rfl, rfl, rfl⟩ := hcs
    exact ⟨[], SRow.nil, by simp, fun _ => rfl⟩
  · simp [Value.cells] at hcs
    obtain ⟨rfl, rfl, rfl⟩ := hcs
    have hml : len ≤ m := by rw [hmm]; simpa using hl
    have ce : Tryz.prog.cellsOf 3 = 1 := by kernel_rfl
    have each : ∀ i, i < len → ∃ x : Int, W.cell? (ad.add i) = some (.int .i64 x) ∧ In64 x := by
      intro i hil
      obtain ⟨cs', h1, h2⟩ := hi i (by omega)
      rw [ce] at h1
      obtain ⟨_, hlen, hcell⟩ := World.cells?_some h1
      match cs', hlen with
      | [v0], _ =>
        have e0 := hcell 0 (by omega)
        rw [add_add] at e0
        obtain ⟨n0, hn0, _, hw0⟩ := DataW.trod_int Tryz.underlying3 h2
        simp at hn0
        subst hn0
        exact ⟨n0, by simpa using e0, in64_of hw0⟩
    obtain ⟨q, hq⟩ : ∃ q : Nat → Int, ∀ i, i < len → W.cell? (ad.add i) = some (.int .i64 (q i)) ∧ In64 (q i) := by
      refine ⟨fun i => if h : i < len then (each i h).choose else 0, fun i hil => ?_⟩
      simp only [dif_pos hil]
      exact (each i hil).choose_spec
    refine ⟨(List.range len).map q, ⟨by simp, hl, hm, fun x _ => rfl, ?_⟩, ?_, fun h => by cases h⟩
    · rcases Nat.eq_zero_or_pos len with h0 | h0
      · exact .inl h0
      · obtain ⟨b, off, spot⟩ := ad
        have hc := (hq 0 h0).1
        have hspot : spot = none := by simpa [Addr.add] using World.cell?_spot hc
        subst hspot
        refine .inr ⟨b, off, rfl, ?_, ?_⟩
        · have := block_lt hc
          rwa [add_plain] at this
        · intro i x j v hx hv
          obtain ⟨hil, hgx⟩ := List.getElem?_eq_some_iff.1 hx
          have hil' : i < len := by simpa using hil
          simp at hgx
          obtain ⟨h1, _⟩ := hq i hil'
          rw [add_plain] at h1
          rw [hgx] at h1
          obtain ⟨hjl, hgv⟩ := List.getElem?_eq_some_iff.1 hv
          match j, hjl with
          | 0, _ => simp [encZ] at hgv; subst hgv; simpa using h1
    · intro x hx
      obtain ⟨i, hi1, rfl⟩ := List.mem_map.1 hx
      exact (hq i (List.mem_range.1 hi1)).2
theorem slice_cells {H : Type} {enc : TypeId × Value → H} {W : World} {t e : TypeId} {fuel : Nat} {v : Value} {x : DataW H × List MemPlace} (ht : Tryz.prog.underlying t = some (.slice e))
    (h : DataW.trod enc Tryz.prog W 0 (fun _ => true) true fuel t [v] = some x) : ∃ a n c, v = .slice a n c := by
  rcases open_slice ht h with ⟨hcs, _⟩ | ⟨ad, l, c, m, n, D, Pl, hcs, _⟩
  · exact ⟨none, 0, 0, by simpa using hcs⟩
  · exact ⟨some ad, l, c, by simpa using hcs⟩
set_option maxRecDepth 100000 in
theorem open_nodecells {H : Type} {enc : TypeId × Value → H} {W : World} {cs : List Value} {d : DataW H} {p : List MemPlace} {fuel : Nat} (hc : cs.length = 10)
    (h : DataW.trod enc Tryz.prog W 0 (fun _ => true) true fuel 53 cs = some (d, p)) : ∃ x : NodeD, cs = encN x ∧ NodeOk W x := by
  obtain ⟨xs, k, _, _, _, hxl, hff⟩ := DataW.trod_struct Tryz.underlying53 h
  have c3 : Tryz.prog.cellsOf 3 = 1 := by kernel_rfl
  have c9 : Tryz.prog.cellsOf 9 = 1 := by kernel_rfl
  have ca : Tryz.prog.cellsOf 50 = 1 := by kernel_rfl
  have ci : Tryz.prog.cellsOf 51 = 1 := by kernel_rfl
  match cs, hc with
  | [v0, v1, v2, v3, v4, v5, v6, v7, v8, v9], _ =>
    match xs, hxl with
    | [y0, y1, y2, y3, y4, y5, y6, y7, y8, y9], _ =>
      have g0 := hff 0 _ rfl
      have g1 := hff 1 _ rfl
      have g2 := hff 2 _ rfl
      have g3 := hff 3 _ rfl
      have g4 := hff 4 _ rfl
      have g5 := hff 5 _ rfl
      have g6 := hff 6 _ rfl
      have g7 := hff 7 _ rfl
      have g8 := hff 8 _ rfl
      have g9 := hff 9 _ rfl
      simp [c3, c9, ca, ci] at g0 g1 g2 g3 g4 g5 g6 g7 g8 g9
      obtain ⟨n0, hn0, _, hw0⟩ := DataW.trod_int Tryz.underlying3 g0
      obtain ⟨s1, hs1, _, hl1⟩ := DataW.trod_string Tryz.underlying9 g1
      obtain ⟨s2, hs2, _, hl2⟩ := DataW.trod_string Tryz.underlying9 g2
      obtain ⟨s3, hs3, _, hl3⟩ := DataW.trod_string Tryz.underlying9 g3
      obtain ⟨n5, hn5, _, hw5⟩ := DataW.trod_int Tryz.underlying3 g5
      obtain ⟨n7, hn7, _, hw7⟩ := DataW.trod_int Tryz.underlying3 g7
      obtain ⟨n8, hn8, _, hw8⟩ := DataW.trod_int Tryz.underlying3 g8
      obtain ⟨n9, hn9, _, hw9⟩ := DataW.trod_int Tryz.underlying3 g9
      simp at hn0 hs1 hs2 hs3 hn5 hn7 hn8 hn9
      subst hn0 hs1 hs2 hs3 hn5 hn7 hn8 hn9
      obtain ⟨a4, l4, c4, rfl⟩ := slice_cells Tryz.underlying50 g4
      obtain ⟨a6, l6, c6, rfl⟩ := slice_cells Tryz.underlying51 g6
      obtain ⟨A, hA⟩ := open_attrs (enc := enc) (W := W) (a := a4) (len := l4) (cap := c4) (d := y4.1) (p := y4.2) ⟨k, by simpa [Value.cells] using g4⟩
      obtain ⟨K, hK⟩ := open_introw (enc := enc) (W := W) (a := a6) (len := l6) (cap := c6) (d := y6.1) (p := y6.2) ⟨k, by simpa [Value.cells] using g6⟩
      exact ⟨⟨⟨n0, s1, s2, s3, A, n5, K, n7, n8, n9⟩, a4, l4, c4, a6, l6, c6⟩, rfl, hA, hK, hl1, hl2, hl3, in64_of hw0, in64_of hw5, in64_of hw7, in64_of hw8, in64_of hw9⟩
theorem open_noderow {H : Type} {enc : TypeId × Value → H} {W : World} {a : Option Addr} {len cap : Nat} {d : DataW H} {p : List MemPlace}
    (h : DataW.Trod enc Tryz.prog W 0 (fun _ => true) true 22 (.slice a len cap) d p) : ∃ L, NodeRow W a len cap L := by
  obtain ⟨fuel, hf⟩ := h
  rcases open_slice Tryz.underlying22 hf with ⟨hcs, _⟩ | ⟨ad, l, c, m, n, D, Pl, hcs, _, hl, hm, hmm, _, hi⟩
  · simp [Value.cells] at hcs
    obtain ⟨rfl, rfl, rfl⟩ := hcs
    exact ⟨[], SRow.nil, by simp, fun _ => rfl⟩
  · simp [Value.cells] at hcs
    obtain ⟨rfl, rfl, rfl⟩ := hcs
    have hml : len ≤ m := by rw [hmm]; simpa using hl
    have ce : Tryz.prog.cellsOf 53 = 10 := by kernel_rfl
    have each : ∀ i, i < len → ∃ x : NodeD, NodeOk W x ∧ ∀ j v, (encN x)[j]? = some v → W.cell? (ad.add (i * 10 + j)) = some v := by
      intro i hil
      obtain ⟨cs', h1, h2⟩ := hi i (by omega)
      rw [ce] at h1
      obtain ⟨_, hlen, hcell⟩ := World.cells?_some h1
      obtain ⟨x, hx, hok⟩ := open_nodecells hlen h2
      refine ⟨x, hok, fun j v hv => ?_⟩
      have hj : j < 10 := (List.getElem?_eq_some_iff.1 hv).1
      have e0 := hcell j hj
      rw [add_add, hx, hv] at e0
      exact e0
    obtain ⟨q, hq⟩ : ∃ q : Nat → NodeD, ∀ i, i < len → NodeOk W (q i) ∧ ∀ j v, (encN (q i))[j]? = some v → W.cell? (ad.add (i * 10 + j)) = some v := by
      rcases Nat.eq_zero_or_pos len with h0 | h0
      · exact ⟨fun _ => ⟨⟨0, ByteArray.empty, ByteArray.empty, ByteArray.empty, [], 0, [], 0, 0, 0⟩, none, 0, 0, none, 0, 0⟩, fun i hi => by omega⟩
      · refine ⟨fun i => if h : i < len then (each i h).choose else (each 0 h0).choose, fun i hil => ?_⟩
        simp only [dif_pos hil]
        exact (each i hil).choose_spec
    refine ⟨(List.range len).map q, ⟨by simp, hl, hm, fun x _ => rfl, ?_⟩, ?_, fun h => by cases h⟩
    · rcases Nat.eq_zero_or_pos len with h0 | h0
      · exact .inl h0
      · obtain ⟨b, off, spot⟩ := ad
        have hc := (hq 0 h0).2 0 _ rfl
        have hspot : spot = none := by simpa [Addr.add] using World.cell?_spot hc
        subst hspot
        refine .inr ⟨b, off, rfl, ?_, ?_⟩
        · have := block_lt hc
          rwa [add_plain] at this
        · intro i x j v hx hv
          obtain ⟨hil, hgx⟩ := List.getElem?_eq_some_iff.1 hx
          have hil' : i < len := by simpa using hil
          simp at hgx
          have h1 := (hq i hil').2 j v (by rw [hgx]; exact hv)
          rw [add_plain] at h1
          simpa [Nat.add_assoc] using h1
    · intro x hx
      obtain ⟨i, hi1, rfl⟩ := List.mem_map.1 hx
      exact (hq i (List.mem_range.1 hi1)).1
set_option maxRecDepth 100000 in
theorem open_forest {H : Type} {enc : TypeId × Value → H} {W : World} {r : Reach} {b0 : Nat} {v : Value} {d : DataW H} {p : List MemPlace} (hv : Value.okWide Tryz.prog W r b0 24 v)
    (h : DataW.Trod enc Tryz.prog W 0 (fun _ => true) true 24 v d p) : ∃ a len cap m L, v = .agg #[.slice a len cap, .int .i64 m] ∧ NodeRow W a len cap L ∧ In64 m := by
  obtain ⟨cs, rfl, hsz⟩ := okWide_struct Tryz.underlying24 hv
  have hC : Tryz.prog.cellsOf 24 = 2 := by kernel_rfl
  have c3 : Tryz.prog.cellsOf 3 = 1 := by kernel_rfl
  have cn : Tryz.prog.cellsOf 22 = 1 := by kernel_rfl
  obtain ⟨l⟩ := cs
  match l, hsz.trans hC with
  | [v0, v1], _ =>
    obtain ⟨fuel, hf⟩ := h
    obtain ⟨xs, k, _, _, _, hxl, hff⟩ := DataW.trod_struct Tryz.underlying24 hf
    match xs, hxl with
    | [y0, y1], _ =>
      have g0 := hff 0 _ rfl
      have g1 := hff 1 _ rfl
      simp [c3, cn, Value.cells] at g0 g1
      obtain ⟨n1, hn1, _, hw1⟩ := DataW.trod_int Tryz.underlying3 g1
      simp at hn1
      subst hn1
      obtain ⟨a4, l4, c4, rfl⟩ := slice_cells Tryz.underlying22 g0
      obtain ⟨L, hL⟩ := open_noderow (enc := enc) (W := W) (a := a4) (len := l4) (cap := c4) (d := y0.1) (p := y0.2) ⟨k, by simpa [Value.cells] using g0⟩
      exact ⟨a4, l4, c4, n1, L, rfl, hL, in64_of hw1⟩
end Go.Proofs.YtiffhlncnpppoaaGreatDoor
namespace Go.Proofs.YtiffhlncnpppoaaGreatDoor
open Go.ChangeShapes Go.WideShapes Go.ChangeAt Go.RowKit
theorem tied_own : ownKnob Tryz.prog.godebug = none := by kernel_rfl
theorem tied_laidOut : laidOutB Tryz.prog = true := by kernel_rfl
theorem tied_et : Tryz.prog.globalNamed "errors.errorType" = some 0 := by kernel_rfl
theorem tied_rt : (Tryz.prog.cutTypes.find? (·.1 == "internal/reflectlite.rtype")).map (·.2) = some 197 := by kernel_rfl
theorem tied_oneRow : ((List.range Tryz.prog.types.size).filter fun t => Tryz.prog.rowNamed t [101, 114, 114, 111, 114]) = [95] := by kernel_rfl
abbrev errLaid : List (String × DataW Unit) := [("errors.errorType", Rows.laid_errors_errorType)]
theorem handle_of_laid {W : World} (h : laidMetH Tryz.prog errLaid W) : ErrVar W := by
  have h' : laidMet Tryz.prog [] W ∧ handlesMet Tryz.prog errLaid W := h
  obtain ⟨name, u, ty, e1, e2, e3, e4, e5⟩ := h'.2 _ (List.mem_singleton.2 rfl)
  have en : name = [101, 114, 114, 111, 114] := (Option.some.inj e1).symm
  subst en
  obtain rfl := Option.some.inj (tied_rt.symm.trans e2)
  have hm : ty ∈ (List.range Tryz.prog.types.size).filter fun t => Tryz.prog.rowNamed t [101, 114, 114, 111, 114] := List.mem_filter.2 ⟨List.mem_range.2 e3, e4⟩
  rw [tied_oneRow] at hm
  obtain rfl := List.mem_singleton.1 hm
  have hh : typeHandle Tryz.prog 95 = .pointer (some ⟨2, 95, none⟩) := by kernel_rfl
  rw [hh] at e5
  unfold ErrVar
  simpa using World.var?_cell tied_et e5 0
noncomputable def laidWorld (os : Os) : World :=
  let w0 := World.holding Tryz.prog os ⟨#[], #[], []⟩
  { w0 with heap := w0.heap.modify 0 fun
      | .cells _ t frozen => .cells #[.iface 197 (.agg #[.pointer (some ⟨2, 95, none⟩)])] t frozen
      | o => o }
theorem laidWorld_met (os : Os) (args : Array Value) : laidMetH Tryz.prog errLaid ((laidWorld os).forCall (fun _ _ => 0) ⟨#[], args, []⟩).memory :=
  laidMetH_of_parts (laidMet_nil _ _) (by kernel_rfl)
end Go.Proofs.YtiffhlncnpppoaaGreatDoor
