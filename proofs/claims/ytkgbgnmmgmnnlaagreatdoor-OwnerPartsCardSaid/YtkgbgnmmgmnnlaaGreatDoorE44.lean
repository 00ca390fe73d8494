/- Texts joined in build order: MoveInsert MoveBox OwnerNearMath OwnerRightMath OwnerPartsMath Tied. -/
import Derived.Test.YtkgbgnmmgmnnlaaGreatDoorE38
import Derived.Test.YtkgbgnmmgmnnlaaGreatDoorE05
import Derived.Test.YtkgbgnmmgmnnlaaGreatDoorE21
import Derived.Test.YtkgbgnmmgmnnlaaGreatDoorE41
import Derived.Test.YtkgbgnmmgmnnlaaGreatDoorE22
import Derived.Test.YtkgbgnmmgmnnlaaGreatDoorE35
import Derived.Test.YtkgbgnmmgmnnlaaGreatDoorRows
import Derived.WalkKit
import Derived.ProofKit
import Derived.OpenShut
import Derived.ShutString
import Derived.ChangeOld
import Derived.ChangeSame
import Derived.ChangeVars
import Derived.JoinedOf
import Derived.RowKit
import Derived.RowKitTokens
import Derived.LaidLaws
import Derived.LaidHandle
import Derived.Stop.Joined
namespace Go.Proofs.YtkgbgnmmgmnnlaaGreatDoor
open Go.RowKit
structure NoteRow (w : World) (a : Option Addr) (len cap : Nat) (N : List NoteD) : Prop where
  row : SRow encO 9 w a len cap N
  ok : ∀ x ∈ N, NoteOk x
  hnil : a = none → cap = 0
theorem NoteRow.below {w w' : World} {a : Option Addr} {len cap : Nat} {N : List NoteD} (h : NoteRow w a len cap N) (hb : Below w.heap.size w w') : NoteRow w' a len cap N := ⟨h.row.below hb, h.ok, h.hnil⟩
theorem NoteRow.nil (w : World) : NoteRow w none 0 0 [] := ⟨SRow.nil, (fun x hx => by cases hx), fun _ => rfl⟩
def MvNew (B : Nat) (a va : Option Addr) (M : List NodeD) : Prop := ∀ k, k < B → (∀ b off, a = some ⟨b, off, none⟩ → b ≠ k) ∧ (∀ x ∈ M, NodeAway k x) ∧ ∀ b off, va = some ⟨b, off, none⟩ → b ≠ k
theorem MvNew.mono {B C : Nat} {a va : Option Addr} {M : List NodeD} (h : MvNew B a va M) (hc : C ≤ B) : MvNew C a va M := fun k hk => h k (Nat.lt_of_lt_of_le hk hc)
def MvPost (w : World) (m : Int) (R : List Core × List NoteD × Int) (e : Ending) (w' : World) : Prop :=
  ∃ a len cap M va vl vc, e = .returned (.tuple #[forV a len cap m, .slice va vl vc, .int .i64 R.2.2]) ∧ NodeRow w' a len cap M ∧ coreL M = R.1 ∧ smallF M ∧ NoteRow w' va vl vc R.2.1 ∧ Below w.heap.size w w' ∧ MvNew w.heap.size a va M
theorem small_core {L M : List NodeD} (h : coreL M = coreL L) (hs : smallF L) : smallF M := by
  have hl : M.length = L.length := by have := congrArg List.length h; rwa [coreL_len, coreL_len] at this
  refine ⟨by rw [hl]; exact hs.1, fun x hx => ?_⟩
  obtain ⟨i, hi⟩ := List.getElem?_of_mem hx
  have h1 := coreL_get hi
  rw [h] at h1
  have := List.mem_of_getElem? h1
  unfold coreL at this
  obtain ⟨y, hy, he⟩ := List.mem_map.1 this
  have := hs.2 y hy
  unfold smallN at this ⊢
  rw [← he]
  exact this
section
variable {ρ : Nat → Nat} {W : World} {pw g cap len : Nat} {m : Int} {M : List NodeD} {v : Value} {N : List NoteD}
theorem Wk.notes (h : Wk ρ W pw g cap len m M v N) : ∃ va vc, v = .slice va N.length vc ∧ NoteRow W va N.length vc N := by
  obtain ⟨a, c, he, hr, _⟩ := SRow.of_own (fun x _ => encO_len x) rfl h.nown
  refine ⟨a, c, he, hr, h.nok, fun e => ?_⟩
  subst e
  rcases h.nown.2 with ⟨hv, _⟩ | ⟨g', c', cur, hv, _⟩
  · rw [hv] at he
    injection he with _ _ h3
    exact h3.symm
  · rw [hv] at he
    injection he with h1
    cases h1
theorem Wk.news {B : Nat} {va : Option Addr} {vl vc : Nat} (h : Wk ρ W pw g cap len m M (.slice va vl vc) N) (h0 : ∀ k, k < B → ρ k = 0) : MvNew B (some ⟨g, 0, none⟩) va M := by
  refine fun k hk => ⟨fun b off e e2 => ?_, fun x hx => ⟨fun b off e hp e2 => ?_, fun b off e hp e2 => ?_⟩, fun b off e e2 => ?_⟩
  · injection e with e
    injection e with e3
    have h1 := h0 k hk
    rw [← e2, ← e3, h.grole] at h1
    cases h1
  · obtain ⟨g0, h1, h2⟩ := (h.arole x hx b off e hp).2
    exact h1 (h0 g0 (by omega))
  · obtain ⟨i, hi⟩ := List.getElem?_of_mem hx
    have h1 := h.kown i x hi
    obtain ⟨g2, c2, h2⟩ := own_some h1 hp
    have h3 := h.krole i x g2 hi (by rw [h2]; rfl)
    injection h2 with h4 _ _
    rw [e] at h4
    injection h4 with h4
    injection h4 with h5
    have h6 := h0 k hk
    rw [← e2, h5, h3] at h6
    omega
  · rcases h.nown.2 with ⟨hv, _⟩ | ⟨g2, c2, cur, hv, _⟩
    · injection hv with h1
      rw [e] at h1
      cases h1
    · have h3 := h.nrole g2 (by rw [hv]; rfl)
      injection hv with h4 _ _
      rw [e] at h4
      injection h4 with h4
      injection h4 with h5
      have h6 := h0 k hk
      rw [← e2, h5, h3] at h6
      cases h6
end
theorem stored2 {W : World} {b : Nat} {x y : Value} (h : Box2 W b x y) (u v : Value) : ((W.setCell ⟨b, 0, none⟩ u).setCell ⟨b, 1, none⟩ v).cell? ⟨b, 0, none⟩ = some u ∧ ((W.setCell ⟨b, 0, none⟩ u).setCell ⟨b, 1, none⟩ v).cell? ⟨b, 1, none⟩ = some v :=
  ⟨(World.cell?_setCell_other _ _ _ _ (fun e => by injection e with _ e; omega)).trans (World.cell?_setCell_same _ _ _ h.c0), World.cell?_setCell_same _ _ _ ((World.cell?_setCell_other _ _ _ _ (fun e => by injection e with _ e; omega)).trans h.c1)⟩
theorem Wk.stored {ρ : Nat → Nat} {W : World} {pw g cap len : Nat} {m : Int} {M : List NodeD} {v : Value} {N : List NoteD} (h : Wk ρ W pw g cap len m M v N) {b B : Nat} (hb : b < B) (hB : B ≤ W.heap.size) (h0 : ∀ k, k < B → ρ k = 0) (o1 o2 : Nat) (u1 u2 : Value) :
    ∃ ρ', Wk ρ' ((W.setCell ⟨b, o1, none⟩ u1).setCell ⟨b, o2, none⟩ u2) pw g cap len m M v N := by
  have hbg : b < g := by
    rcases Nat.lt_or_ge g B with h1 | h1
    · have := h0 g h1
      rw [h.grole] at this
      cases this
    · omega
  have hm := h.mark (b := b) (by omega) (h0 b hb) (fun x hx b' off he hp e => by
    obtain ⟨g0, h1, h2⟩ := (h.arole x hx b' off he hp).2
    have : ¬ g0 < B := fun h4 => h1 (h0 g0 h4)
    omega)
  have h4 : upd ρ (some b) 4 b = 4 := by unfold upd; rw [if_pos rfl]
  exact ⟨_, (hm.other h4 o1 u1).other h4 o2 u2⟩
def insZ (m : Int) (F : List Core) (n p c : Int) : List Core × List NoteD × Int :=
  if mayZ m F n p c = 0 then ((putS (F, []) n.toNat p.toNat (beforeZ m F n p c)).1, (putS (F, []) n.toNat p.toNat (beforeZ m F n p c)).2, 0) else (F, [], mayZ m F n p c)
structure Two (w W : World) (a : Option Addr) (len cap : Nat) (m : Int) (L : List NodeD) : Prop where
  bx : Box w W w.heap.size a len cap m L (coreL L)
  rb : Box2 W (w.heap.size + 1) (.slice none 0 0) (.int .i64 0)
theorem Two.start {w : World} {a : Option Addr} {len cap : Nat} {m : Int} {L : List NodeD} (h : NodeRow w a len cap L) : Two w ((w.alloc (forB a len cap m)).alloc zeroFB) a len cap m L :=
  ⟨(Box.start h).keep (below_box _ _), Box2.newAt (by simp)⟩
theorem Two.keep {w W W2 : World} {a : Option Addr} {len cap : Nat} {m : Int} {L : List NodeD} (h : Two w W a len cap m L) (hb : Below W.heap.size W W2) : Two w W2 a len cap m L := ⟨h.bx.keep hb, h.rb.keep hb⟩
theorem mrefused_any {w0 w1 : World} {pw wb : Nat} {a2 : Option Addr} {len cap2 : Nat} {m : Int} {M : List NodeD} {F : List Core} (h : Held w0 w1 pw wb a2 len cap2 m M F) (hg : ErrVar w1) (s : ByteArray) (no : Int) :
    Calls Tryz.prog 50 #[workV pw, refusedV s no] w1 fun e w' => e = .returned (.tuple #[forV a2 len cap2 m, .slice none 0 0, .int .i64 no]) ∧ Below w1.heap.size w1 w' :=
  mend_any w1 pw a2 none len cap2 0 0 m _ no h.c0 h.c1 h.c2 h.lt (fun W hb => mwhy_any s no W (hg.keep hb))
theorem mended_any {w1 : World} {ρ : Nat → Nat} {pw g cap len : Nat} {m : Int} {M : List NodeD} {va : Option Addr} {vc : Nat} {N : List NoteD} (h : Wk ρ w1 pw g cap len m M (.slice va N.length vc) N) :
    Calls Tryz.prog 50 #[workV pw, .nilIface] w1 fun e w' => e = .returned (.tuple #[forV (some ⟨g, 0, none⟩) len cap m, .slice va N.length vc, .int .i64 0]) ∧ Below w1.heap.size w1 w' :=
  mend_any w1 pw (some ⟨g, 0, none⟩) va len cap N.length vc m _ 0 h.c0 h.c1 h.c2 h.plt (fun W _ => mwhyNil_any W)
set_option maxHeartbeats 8000000 in
set_option maxRecDepth 100000 in
theorem minsert_any (a : Option Addr) (len cap : Nat) (m : Int) (L : List NodeD) (n p c : Int) (w : World) (h : NodeRow w a len cap L) (hm : In64 m) (hn : In64 n) (hp : In64 p) (hc : In64 c) (hs : smallF L) (hg : ErrVar w) :
    Calls Tryz.prog 31 #[forV a len cap m, .int .i64 n, .int .i64 p, .int .i64 c] w (MvPost w m (insZ m (coreL L) n p c)) := by
  have HCL : Hid ((coreL L).length = len) := Lib.hid (by rw [coreL_len, h.hlen])
  have HS := Lib.hid hs
  have HM := Lib.hid hm
  have HC64 := Lib.hid hc
  have CB : Hid (∀ W, NodeRow W a len cap L → Calls Tryz.prog 48 #[forV a len cap m] W fun e w' => ∃ pw a2 cap2 M, e = .returned (workV pw) ∧ Begun W w' pw a2 len cap2 m M (coreL L)) := Lib.hid (fun W h1 => mbegin_any a len cap m L W h1 hs)
  obtain ⟨E, hE⟩ : ∃ E, mayZ m (coreL L) n p c = E := ⟨_, rfl⟩
  have CM : Hid (∀ W, NodeRow W a len cap L → Calls Tryz.prog 60 #[forV a len cap m, .int .i64 n, .int .i64 p, .int .i64 c] W fun e w' => e = .returned (.int .i64 E) ∧ Below W.heap.size W w') := Lib.hid (fun W h1 => by
    rw [← hE]
    exact vmay_any a len cap m L n p c W h1 hm hn hp hc hs)
  obtain ⟨w0, hw0, TW, HB0⟩ : ∃ w0, (w.alloc (forB a len cap m)).alloc zeroFB = w0 ∧ Hid (Two w w0 a len cap m L) ∧ Hid (Below w.heap.size w w0) := ⟨_, rfl, Lib.hid (Two.start h), Lib.hid ((below_box _ _).trans ((below_box _ _).mono (by simp)))⟩
  have HG := Lib.hid (hg.keep HB0.out)
  have HW0 := Lib.hid hw0
  have z0 := TW.out.bx.c0
  have z1 := TW.out.bx.c1
  have HE := Lib.hid hE
  clear h hs hm hn hp hc hg hw0
  by_cases h0 : E = 0
  · have e1 : (E != 0) = false := by rw [h0]; rfl
    have PO : mayZ m (coreL L) n p c = 0 := by rw [HE.out]; exact h0
    obtain ⟨hk, _⟩ := may_ok PO
    obtain ⟨hr, ⟨N0, rfl, hN⟩, ⟨P0, rfl, hP⟩, hcc⟩ := vknows_nat hk
    rw [HCL.out] at hN hP
    have HPO := Lib.hid PO
    have HQ : Hid (insZ m (coreL L) N0 P0 c = ((putS (coreL L, []) N0 P0 (beforeZ m (coreL L) N0 P0 c)).1, (putS (coreL L, []) N0 P0 (beforeZ m (coreL L) N0 P0 c)).2, 0)) := Lib.hid (by
      unfold insZ
      rw [if_pos HPO.out]
      simp only [Int.toNat_natCast])
    clear hk hr h0 PO hcc
    go_enter Tryz.func31, Tryz.ntmps31
    go_upto_region 1 with fail
    rw [HW0.out]
    go_upto_region 2 with (go_at_call 48; (with_reducible refine (CB.out _ TW.out.bx.row).mono ?_); rintro e w1 ⟨pw, a2, cap2, M, rfl, hB⟩; have BG := Lib.hid hB; have TW1 := Lib.hid (TW.out.keep hB.below); have z0 := TW1.out.bx.c0; have z1 := TW1.out.bx.c1; clear hB)
    (
      have HD0 := Lib.hid BG.out.held
      have HBW := Lib.hid (held_below w1 pw)
      obtain ⟨wh, hwh⟩ : ∃ wh, w1.alloc (wkB pw) = wh := ⟨_, rfl⟩
      rw [hwh] at HD0 HBW ⊢
      have TW1 := Lib.hid (TW1.out.keep HBW.out)
      clear BG z0 z1 hwh
      have BG := HD0
      clear HD0
      have z0 := TW1.out.bx.c0
      have z1 := TW1.out.bx.c1
      have zw := BG.out.wc)
    go_wp2_with (first
      | (go_at_call 60; (with_reducible refine (CM.out _ TW1.out.bx.row).mono ?_); rintro e w2 ⟨rfl, hb⟩; have BG := Lib.hid (BG.out.keep hb); have zw := BG.out.wc; clear hb)
      | (go_at_call 61; obtain ⟨g, ρ, rfl, hwk, hρ, hwb⟩ := BG.out.wk (by omega); have HBC := Lib.hid BG.out.core; (refine (mput_any _ hwk HM.out (small_core HBC.out HS.out) N0 P0 c HC64.out hN hP (by rw [HBC.out]; exact HPO.out) (by simp)).mono ?_); rintro e w3 ⟨rfl, ρ3, M3, v3, N3, hW3, hT3, hA3, hE3, hS3, hR3⟩; obtain ⟨va, vc, rfl, hNR⟩ := hW3.notes; have W3 := Lib.hid hW3; have NR := Lib.hid hNR; have E3 := Lib.hid hE3; have S3 := Lib.hid hS3; have HB3 := Lib.hid (BG.out.below.trans (hT3.below BG.out.below.size hρ)); have A3 : Hid (∀ k, k < w0.heap.size → ρ3 k = 0) := (Lib.hid (fun k hk => (hA3 k (Nat.lt_of_lt_of_le hk BG.out.below.size)).trans (hρ k hk))); have zw := (hT3.cell BG.out.wlt hwb).trans BG.out.wc; clear hW3 hT3 hA3 hE3 hS3 hR3 hNR hwk hρ hwb)
      | (go_at_call 50; (refine (mended_any W3.out).mono ?_); rintro e w4 ⟨rfl, hb⟩; have HB4 := Lib.hid (HB3.out.trans (hb.mono HB3.out.size)); have HB34 := Lib.hid hb; have TW4 := Lib.hid (TW.out.keep HB4.out); have d0 := TW4.out.rb.c0; have d1 := TW4.out.rb.c1; have f0 := TW4.out.rb.f0; have f1 := TW4.out.rb.f1; clear hb))
    obtain ⟨q0, q1⟩ := stored2 TW4.out.rb (.slice (some ⟨g, 0, none⟩) len cap2) (.int .i64 m)
    obtain ⟨ρ5, W5⟩ := (W3.out.keep (by exact HB34.out)).stored (b := w.heap.size + 1) (B := w0.heap.size) TW.out.rb.lt HB4.out.size A3.out 0 1 (.slice (some ⟨g, 0, none⟩) len cap2) (.int .i64 m)
    obtain ⟨va', vc', hv', NR5⟩ := W5.notes
    injection hv' with e2 e3 e4
    subst e2 e4
    refine bodyPost_ret (v := .tuple #[forV (some ⟨g, 0, none⟩) len cap2 m, .slice va N3.length vc, .int .i64 0]) ?_ rfl ⟨some ⟨g, 0, none⟩, len, cap2, M3, va, N3.length, vc, by rw [HQ.out], W5.row, by rw [HQ.out, ← HBC.out, ← E3.out], S3.out, by rw [HQ.out, ← HBC.out, ← E3.out]; exact NR5, ?_, (W3.out.news A3.out).mono HB0.out.size⟩
    · simp [results, Tryz.results31, go_sem, q0, q1]
    · exact ((HB0.out.trans (HB4.out.mono HB0.out.size)).setCell (p := ⟨w.heap.size + 1, 0, none⟩) (by show w.heap.size ≤ w.heap.size + 1; omega) _).setCell (p := ⟨w.heap.size + 1, 1, none⟩) (by show w.heap.size ≤ w.heap.size + 1; omega) _
  · have e1 : (E != 0) = true := bne_iff_ne.2 h0
    have HQ : Hid (insZ m (coreL L) n p c = (coreL L, [], E)) := Lib.hid (by
      unfold insZ
      rw [if_neg (by rw [HE.out]; exact h0), HE.out])
    clear h0
    go_enter Tryz.func31, Tryz.ntmps31
    go_upto_region 1 with fail
    rw [HW0.out]
    go_upto_region 2 with (go_at_call 48; (with_reducible refine (CB.out _ TW.out.bx.row).mono ?_); rintro e w1 ⟨pw, a2, cap2, M, rfl, hB⟩; have BG := Lib.hid hB; have TW1 := Lib.hid (TW.out.keep hB.below); have z0 := TW1.out.bx.c0; have z1 := TW1.out.bx.c1; clear hB)
    (
      have HD0 := Lib.hid BG.out.held
      have HBW := Lib.hid (held_below w1 pw)
      obtain ⟨wh, hwh⟩ : ∃ wh, w1.alloc (wkB pw) = wh := ⟨_, rfl⟩
      rw [hwh] at HD0 HBW ⊢
      have TW1 := Lib.hid (TW1.out.keep HBW.out)
      clear BG z0 z1 hwh
      have BG := HD0
      clear HD0
      have z0 := TW1.out.bx.c0
      have z1 := TW1.out.bx.c1
      have zw := BG.out.wc)
    go_upto_region 4 with (go_at_call 60; (with_reducible refine (CM.out _ TW1.out.bx.row).mono ?_); rintro e w2 ⟨rfl, hb⟩; have BG := Lib.hid (BG.out.keep hb); have zw := BG.out.wc; clear hb)
    (
      have BD := Lib.hid (BG.out.keep ((Below.refl _ _).drew))
      have zw := BG.out.wc
      go_region_with (first | (go_at_call 51; (refine (mrefuse_any _ _ _).mono ?_); rintro e w' ⟨rfl, rfl⟩) | (go_at_call 50; (refine (mrefused_any BD.out (HG.out.keep BD.out.below) _ _).mono ?_); rintro e w4 ⟨rfl, hb⟩; have BG4 := Lib.hid (BD.out.keep hb); have TW4 := Lib.hid (TW.out.keep BG4.out.below); have d0 := TW4.out.rb.c0; have d1 := TW4.out.rb.c1; have f0 := TW4.out.rb.f0; have f1 := TW4.out.rb.f1; clear hb))
      all_goals go_wp2)
    all_goals (
                obtain ⟨q0, q1⟩ := stored2 TW4.out.rb (.slice a2 len cap2) (.int .i64 m)
                have hlt0 := TW.out.rb.lt
                have R5 := (BG4.out.row.far (q := w.heap.size + 1) (fun b off e => by have := BG4.out.rlo b off e; omega) (fun x hx => (BG4.out.new x hx).away hlt0) 0 (.slice a2 len cap2)).far (q := w.heap.size + 1) (fun b off e => by have := BG4.out.rlo b off e; omega) (fun x hx => (BG4.out.new x hx).away hlt0) 1 (.int .i64 m)
                have HB5 := ((HB0.out.trans (BG4.out.below.mono HB0.out.size)).setCell (p := ⟨w.heap.size + 1, 0, none⟩) (by show w.heap.size ≤ w.heap.size + 1; omega) (.slice a2 len cap2)).setCell (p := ⟨w.heap.size + 1, 1, none⟩) (by show w.heap.size ≤ w.heap.size + 1; omega) (.int .i64 m)
                refine bodyPost_ret (v := .tuple #[forV a2 len cap2 m, .slice none 0 0, .int .i64 E]) ?_ rfl ⟨a2, len, cap2, M, none, 0, 0, by rw [HQ.out], R5, by rw [HQ.out, BG4.out.core], small_core BG4.out.core HS.out, by rw [HQ.out]; exact NoteRow.nil _, HB5, fun k hk => ⟨fun b off e e2 => (by have := BG4.out.rlo b off e; have := HB0.out.size; omega), fun x hx => (BG4.out.new x hx).away (Nat.lt_of_lt_of_le hk HB0.out.size), fun b off e => (by cases e)⟩⟩)
    all_goals simp [results, Tryz.results31, go_sem, q0, q1]
end Go.Proofs.YtkgbgnmmgmnnlaaGreatDoor
namespace Go.Proofs.YtkgbgnmmgmnnlaaGreatDoor
open Go.RowKit
structure MBox (w W : World) (g : Nat) (a : Option Addr) (len cap : Nat) (m : Int) (L : List NodeD) (F : List Core) : Prop where
  box : Box w W g a len cap m L F
  free : ∀ o, W.frozen? ⟨g, o, none⟩ = false
  nt : ∀ j s, W.cell? ⟨g, j, none⟩ ≠ some (.string s)
theorem MBox.new {w W : World} {a : Option Addr} {len cap : Nat} {m : Int} {L : List NodeD} {F : List Core} (hb : Below w.heap.size w W) (h : NodeRow W a len cap L) (hc : coreL L = F) : MBox w (W.alloc (forB a len cap m)) W.heap.size a len cap m L F := by
  refine ⟨⟨h.below (below_box _ _), hc, hb.size, by simp, cell_of_row (W.alloc (forB a len cap m)) W.heap.size 0 _ 24 (0, 0) (heap_alloc_new W _), cell_of_row (W.alloc (forB a len cap m)) W.heap.size 1 _ 24 (0, 0) (heap_alloc_new W _), hb.alloc hb.size _⟩, fun o => row_free (heap_alloc_new W _) o, fun j s => ?_⟩
  exact box_notext (Below.refl _ _)
theorem MBox.keep {w W W2 : World} {g : Nat} {a : Option Addr} {len cap : Nat} {m : Int} {L : List NodeD} {F : List Core} (h : MBox w W g a len cap m L F) (hb : Below W.heap.size W W2) : MBox w W2 g a len cap m L F :=
  ⟨h.box.keep hb, fun o => (hb.frozen (p := ⟨g, o, none⟩) h.box.lt).trans (h.free o), fun j s => by rw [hb.cell (p := ⟨g, j, none⟩) h.box.lt]; exact h.nt j s⟩
theorem MBox.put {w W : World} {g : Nat} {a a2 : Option Addr} {len cap len2 cap2 : Nat} {m m2 : Int} {L L2 : List NodeD} {F F2 : List Core} (h : MBox w W g a len cap m L F) (hr : NodeRow ((W.setCell ⟨g, 0, none⟩ (.slice a2 len2 cap2)).setCell ⟨g, 1, none⟩ (.int .i64 m2)) a2 len2 cap2 L2) (hc : coreL L2 = F2) :
    MBox w ((W.setCell ⟨g, 0, none⟩ (.slice a2 len2 cap2)).setCell ⟨g, 1, none⟩ (.int .i64 m2)) g a2 len2 cap2 m2 L2 F2 := by
  have n1 := notext_set (o := 0) (u := .slice a2 len2 cap2) h.nt h.box.c0 (fun s e => by cases e)
  have c1 : (W.setCell ⟨g, 0, none⟩ (.slice a2 len2 cap2)).cell? ⟨g, 1, none⟩ = some (.int .i64 m) := (World.cell?_setCell_other _ _ _ _ (fun e => by injection e with _ e; omega)).trans h.box.c1
  refine ⟨⟨hr, hc, h.box.low, by simpa [World.setCell] using h.box.lt, ?_, World.cell?_setCell_same _ _ _ c1, (h.box.below.setCell (p := ⟨g, 0, none⟩) h.box.low _).setCell (p := ⟨g, 1, none⟩) h.box.low _⟩, fun o => by rw [World.frozen?_setCell, World.frozen?_setCell]; exact h.free o, notext_set n1 c1 (fun s e => by cases e)⟩
  exact (World.cell?_setCell_other _ _ _ _ (fun e => by injection e with _ e; omega)).trans (World.cell?_setCell_same _ _ _ h.box.c0)
theorem MBox.set {w W : World} {g : Nat} {a a2 : Option Addr} {len cap len2 cap2 : Nat} {m m2 : Int} {L L2 : List NodeD} {F F2 : List Core} (h : MBox w W g a len cap m L F) (h2 : NodeRow W a2 len2 cap2 L2) (hc : coreL L2 = F2) (hk : ∀ x ∈ L2, x.core.kids = [] ∧ x.core.attrs = []) :
    MBox w ((W.setCell ⟨g, 0, none⟩ (.slice a2 len2 cap2)).setCell ⟨g, 1, none⟩ (.int .i64 m2)) g a2 len2 cap2 m2 L2 F2 :=
  h.put ((h2.setBox h.nt hk _).setBox (notext_set (o := 0) (u := .slice a2 len2 cap2) h.nt h.box.c0 (fun s e => by cases e)) hk _) hc
theorem MBox.mv {w W W2 : World} {g : Nat} {a a2 va : Option Addr} {len cap len2 cap2 : Nat} {m m2 : Int} {L L2 : List NodeD} {F F2 : List Core} (h : MBox w W g a len cap m L F) (hb : Below W.heap.size W W2) (h2 : NodeRow W2 a2 len2 cap2 L2) (hc : coreL L2 = F2) (hn : MvNew W.heap.size a2 va L2) :
    MBox w ((W2.setCell ⟨g, 0, none⟩ (.slice a2 len2 cap2)).setCell ⟨g, 1, none⟩ (.int .i64 m2)) g a2 len2 cap2 m2 L2 F2 :=
  (h.keep hb).put ((h2.far (hn g h.box.lt).1 (hn g h.box.lt).2.1 0 _).far (hn g h.box.lt).1 (hn g h.box.lt).2.1 1 _) hc
theorem NoteRow.far {W : World} {a : Option Addr} {len cap q : Nat} {N : List NoteD} (h : NoteRow W a len cap N) (ha : ∀ b off, a = some ⟨b, off, none⟩ → b ≠ q) (o : Nat) (u : Value) : NoteRow (W.setCell ⟨q, o, none⟩ u) a len cap N :=
  ⟨h.row.keep (by simp [World.setCell]) (fun b off he _ o' => World.cell?_setCell_other _ _ _ _ (fun e => by injection e with e _; exact ha b off he e.symm)), h.ok, h.hnil⟩
theorem NoteRow.one {W : World} {a : Option Addr} {len cap : Nat} {x : NoteD} (h : NoteRow W a len cap [x]) : len = 1 ∧ ∃ b off, a = some ⟨b, off, none⟩ ∧ b < W.heap.size ∧ ∀ j v, (encO x)[j]? = some v → W.cell? ⟨b, off + j, none⟩ = some v := by
  have hl : 1 = len := h.row.hlen
  subst hl
  obtain ⟨b, off, y, h1, h2, h3, _, h5⟩ := h.row.get (k := 0) (by decide)
  obtain rfl : x = y := Option.some.inj h3
  exact ⟨rfl, b, off, h1, h2, fun j v hv => by have := h5 j v hv; rwa [Nat.zero_mul, Nat.add_zero] at this⟩
theorem mvSmall {L : List NodeD} {F : List Core} (h : coreL L = F) (hd : decide (F.length ≤ 1000 ∧ ∀ c ∈ F, c.kids.length ≤ 1000 ∧ c.attrs.length ≤ 1000 ∧ c.name.size ≤ 1000) = true) : smallF L := by
  have hd := of_decide_eq_true hd
  refine ⟨by rw [← coreL_len, h]; exact hd.1, fun x hx => ?_⟩
  have hm : x.core ∈ F := by rw [← h]; exact List.mem_map.2 ⟨x, hx, rfl⟩
  exact hd.2 _ hm
end Go.Proofs.YtkgbgnmmgmnnlaaGreatDoor
namespace Go.Proofs.YtkgbgnmmgmnnlaaGreatDoor
open Go.RowKit
def NearIs (F : List Core) (n : Nat) : Prop :=
  (nearF F n = -1 ∧ ∀ k, formB F k = true → k ≠ n → ¬ holdsT (parF F) k n) ∨
  ∃ p : Nat, nearF F n = p ∧ p < F.length ∧ formB F p = true ∧ p ≠ n ∧ holdsT (parF F) p n ∧ ∀ k, formB F k = true → k ≠ n → holdsT (parF F) k n → holdsT (parF F) k p
theorem near_is {m : Int} {F : List Core} (h : rightF m F = true) : ∀ (r n : Nat), n < F.length → rankF F n = r → NearIs F n := by
  intro r
  induction r with
  | zero =>
    intro n hn hr
    cases hp : parF F n with
    | some p => have := par_lt h hn hp; omega
    | none =>
      refine .inl ⟨nearF_none hp, fun k hk hne hh => ?_⟩
      rcases holds_up hh with e | ⟨p, e, _⟩
      · exact hne e
      · rw [hp] at e; cases e
  | succ r ih =>
    intro n hn hr
    have T := tree_of_right h
    cases hp : parF F n with
    | none =>
      refine .inl ⟨nearF_none hp, fun k hk hne hh => ?_⟩
      rcases holds_up hh with e | ⟨p, e, _⟩
      · exact hne e
      · rw [hp] at e; cases e
    | some p =>
      have hl := par_lt h hn hp
      have hup : ∀ k, k ≠ n → holdsT (parF F) k n → holdsT (parF F) k p := fun k hne hh => by
        rcases holds_up hh with e | ⟨q, e, h2⟩
        · exact absurd e hne
        · rw [hp] at e
          injection e with e
          subst e
          exact h2
      have hpn : p ≠ n := fun e => by subst e; omega
      cases hf : formB F p with
      | true => exact .inr ⟨p, nearF_form hp hf, hl.1, hf, hpn, holds_par hp, fun k _ hne hh => hup k hne hh⟩
      | false =>
        have e := nearF_up h hn hp hf
        have hkp : ∀ k, formB F k = true → k ≠ p := fun k hk e => by subst e; rw [hf] at hk; cases hk
        rcases ih p hl.1 (by omega) with ⟨h1, h2⟩ | ⟨q, h1, h2, h3, h4, h5, h6⟩
        · exact .inl ⟨e.trans h1, fun k hk hne hh => h2 k hk (hkp k hk) (hup k hne hh)⟩
        · have hqn : q ≠ n := fun e2 => by
            subst e2
            have := T.holds_rank hl.1 h5
            omega
          exact .inr ⟨q, e.trans h1, h2, h3, hqn, holds_trans h5 (holds_par hp), fun k hk hne hh => h6 k hk (hkp k hk) (hup k hne hh)⟩
end Go.Proofs.YtkgbgnmmgmnnlaaGreatDoor
namespace Go.Proofs.YtkgbgnmmgmnnlaaGreatDoor
open Go.RowKit
theorem nearN_form {F : List Core} : ∀ (f i p : Nat), nearN F f i = (p : Int) → formB F p = true
  | 0, _, _, h => by unfold nearN at h; omega
  | f + 1, i, p, h => by
    unfold nearN at h
    cases hp : parF F i with
    | none => rw [hp] at h; exact absurd h (by show ¬ (-1 : Int) = p; omega)
    | some q =>
      rw [hp] at h
      dsimp only at h
      by_cases hf : formB F q = true
      · rw [if_pos hf] at h
        obtain rfl : q = p := by omega
        exact hf
      · rw [if_neg hf] at h
        exact nearN_form f q p h
theorem pick_form {F : List Core} {t : List Nat} {v : List UInt8} {p : Nat} (h : pickF F t v = (p : Int)) : formB F p = true ∧ p ∈ t ∧ idF F p = v ∧ v ≠ [] := by
  unfold pickF at h
  by_cases e : v = []
  · rw [if_pos e] at h; omega
  · rw [if_neg e] at h
    cases hf : t.find? (fun k => idF F k == v) with
    | none => rw [hf] at h; exact absurd h (by show ¬ (-1 : Int) = p; omega)
    | some k =>
      rw [hf] at h
      dsimp only at h
      by_cases hq : formB F k = true
      · rw [if_pos hq] at h
        obtain rfl : k = p := by omega
        have h2 := List.find?_some (p := fun k => idF F k == v) hf
        exact ⟨hq, List.mem_of_find?_eq_some hf, beq_iff_eq.1 h2, e⟩
      · rw [if_neg hq] at h; omega
theorem own_form {F : List Core} {n p : Nat} (h : ownF F n = (p : Int)) : formB F p = true := by
  unfold ownF at h
  cases hx : F[n]? with
  | none => rw [hx] at h; exact absurd h (by show ¬ (-1 : Int) = p; omega)
  | some x =>
    rw [hx] at h
    dsimp only at h
    unfold ownC at h
    by_cases hk : x.kind = 1
    · rw [if_pos hk] at h
      by_cases hc : (asksC x && linkF F n) = true
      · rw [if_pos hc] at h
        exact (pick_form h).1
      · rw [if_neg hc] at h
        exact nearN_form _ _ _ h
    · rw [if_neg hk] at h; omega
end Go.Proofs.YtkgbgnmmgmnnlaaGreatDoor
namespace Go.Proofs.YtkgbgnmmgmnnlaaGreatDoor
open Go.RowKit
theorem own_root {m : Int} {F : List Core} (h : rightF m F = true) {n p : Nat} (hn : n < F.length) (ho : ownF F n = (p : Int)) : p < F.length ∧ rootF F p = rootF F n := by
  have hp : p < F.length := by have := (ownF_lt h n).2; omega
  refine ⟨hp, ?_⟩
  have hx : F[n]? = some F[n] := List.getElem?_eq_getElem hn
  rw [ownF_at hx] at ho
  unfold ownC at ho
  by_cases hk : F[n].kind = 1
  · rw [if_pos hk] at ho
    by_cases hc : (asksC F[n] && linkF F n) = true
    · rw [if_pos hc] at ho
      exact (root_self h (rootF_lt2 h hn) (root_none h hn) (pick_form ho).2.1).2
    · rw [if_neg hc] at ho
      rcases near_is h _ n hn rfl with ⟨h1, _⟩ | ⟨q, h1, _, _, _, h5, _⟩
      · omega
      · obtain rfl : p = q := by omega
        exact (tree_of_right h).root_held hn (Nat.le_refl _) h5
  · rw [if_neg hk] at ho; omega
theorem mem_mem {m : Int} {F : List Core} (h : rightF m F = true) {x : Nat} (hx : x < F.length) {z : Int} : z ∈ memO F x ↔ ∃ n : Nat, z = n ∧ n < F.length ∧ ownF F n = (x : Int) := by
  unfold memO
  rw [List.mem_filter, ordI_nat]
  unfold natL
  rw [List.mem_map]
  constructor
  · rintro ⟨⟨n, hn, rfl⟩, h2⟩
    exact ⟨n, rfl, ordF_lt h (rootF_lt2 h hx) n hn, beq_iff_eq.1 h2⟩
  · rintro ⟨n, rfl, hn, ho⟩
    have hr := (own_root h hn ho).2
    exact ⟨⟨n, by rw [hr]; exact in_tree h hn, rfl⟩, beq_iff_eq.2 (by rw [Int.toNat_natCast]; exact ho)⟩
theorem ordI_nodup {m : Int} {F : List Core} (h : rightF m F = true) {r : Nat} (hr : r < F.length) : (ordI F (r : Int)).Nodup := by
  rw [ordI_nat]
  unfold natL
  exact List.Pairwise.map Int.ofNat (fun a b hab e => hab (Int.ofNat.inj e)) (ordF_nodup h hr)
theorem mem_nodup {m : Int} {F : List Core} (h : rightF m F = true) {x : Nat} (hx : x < F.length) : (memO F x).Nodup := (ordI_nodup h (rootF_lt2 h hx)).filter _
theorem mem_ahead {m : Int} {F : List Core} (h : rightF m F = true) {x i a b : Nat} (hx : x < F.length) (h1 : (memO F x)[i]? = some (a : Int)) (h2 : (memO F x)[i + 1]? = some (b : Int)) : aheadZ m F a b = true := by
  have hrl := rootF_lt2 h hx
  obtain ⟨a', e1, ha, hoa⟩ := (mem_mem h hx).1 (List.mem_of_getElem? h1)
  obtain rfl : a = a' := by omega
  obtain ⟨b', e2, hb, hob⟩ := (mem_mem h hx).1 (List.mem_of_getElem? h2)
  obtain rfl : b = b' := by omega
  have hra : rootF F a = rootF F x := (own_root h ha hoa).2.symm
  have hsub : (memO F x).Sublist (ordI F (rootF F x : Nat)) := List.filter_sublist
  have hlt := sub_find hsub (ordI_nodup h hrl) i a b h1 h2
  have hma := hsub.subset (List.mem_of_getElem? h1)
  have hmb := hsub.subset (List.mem_of_getElem? h2)
  have he : ordZ m F (rootF F a : Nat) = ordI F (rootF F x : Nat) := by
    rw [hra, ordZ_eq h hrl, ordI_nat]
  rw [ahead_find h ha hb, he, findZ_mem hma, findZ_mem hmb]
  exact decide_eq_true (by omega)
theorem hasZ_no : ∀ {l : List Int} {z : Int}, z ∉ l → hasZ l z = 0
  | [], _, _ => rfl
  | a :: r, z, h => by
    have ih := hasZ_no (l := r) (z := z) (fun h2 => h (List.mem_cons_of_mem _ h2))
    unfold hasZ at ih ⊢
    rw [List.countP_cons, ih, beq_eq_false_iff_ne.2 (fun e => h (by rw [← e]; exact List.mem_cons_self))]
    rfl
theorem hasZ_one : ∀ {l : List Int}, l.Nodup → ∀ {z : Int}, z ∈ l → hasZ l z = 1
  | [], _, _, h => by cases h
  | a :: r, hn, z, hz => by
    have hc := List.nodup_cons.1 hn
    unfold hasZ
    rw [List.countP_cons]
    by_cases e : a = z
    · have h0 := hasZ_no (l := r) (z := z) (by rw [← e]; exact hc.1)
      unfold hasZ at h0
      rw [h0, beq_iff_eq.2 e]
      rfl
    · have h1 := hasZ_one hc.2 (z := z) (by rcases List.mem_cons.1 hz with h | h; exact absurd h.symm e; exact h)
      unfold hasZ at h1
      rw [h1, beq_eq_false_iff_ne.2 e]
      rfl
def cntP (F : List Core) (x n : Nat) : Int := if 0 ≤ ownF F n ∧ ownF F n < (x : Int) then 1 else 0
structure Times (F : List Core) (W : World) (q len x : Nat) (l : List Int) (k : Nat) (T : List Int) : Prop where
  row : ORow encI W q T
  hl : T.length = 60
  at_ : ∀ n : Nat, n < len → T[n]? = some (cntP F x n + if (n : Int) ∈ l.take k then 1 else 0)
theorem Times.keep {F : List Core} {W V : World} {q len x k : Nat} {l T : List Int} (h : Times F W q len x l k T) (hb : Below W.heap.size W V) : Times F V q len x l k T := ⟨h.row.keep hb, h.hl, h.at_⟩
theorem Times.step {m : Int} {F : List Core} (hr : rightF m F = true) {W : World} {q len x k : Nat} {T : List Int} (h : Times F W q len x (memO F x) k T) (hlen : len = F.length) (hl60 : len ≤ 60) (hx : x < F.length) {n : Nat} (hn : (memO F x)[k]? = some (n : Int)) :
    T[n]? = some 0 ∧ n < len ∧ Times F (W.setCell ⟨q, n, none⟩ (.int .i64 1)) q len x (memO F x) (k + 1) (T.set n 1) := by
  obtain ⟨n', e1, hnl, ho⟩ := (mem_mem hr hx).1 (List.mem_of_getElem? hn)
  obtain rfl : n = n' := by omega
  have hnd := mem_nodup hr hx
  have hnot : (n : Int) ∉ (memO F x).take k := fun hm => by
    obtain ⟨j, hj, he⟩ := List.mem_iff_getElem.1 hm
    rw [List.length_take] at hj
    rw [List.getElem_take] at he
    obtain ⟨hk, hke⟩ := List.getElem?_eq_some_iff.1 hn
    exact (List.pairwise_iff_getElem.1 hnd) j k (by omega) hk (by omega) (by rw [he, hke])
  have hc : cntP F x n = 0 := by unfold cntP; rw [if_neg (by omega)]
  refine ⟨by rw [h.at_ n (by omega), hc, if_neg hnot]; rfl, by omega, h.row.set (by rw [h.hl]; omega) 1, by rw [List.length_set]; exact h.hl, fun j hj => ?_⟩
  have hm : ∀ z, z ∈ (memO F x).take (k + 1) ↔ z ∈ (memO F x).take k ∨ z = (n : Int) := fun z => by
    rw [List.take_add_one, hn]
    simp
  by_cases e : n = j
  · subst e
    rw [List.getElem?_set_self (by rw [h.hl]; omega), hc, if_pos ((hm _).2 (.inr rfl))]
    rfl
  · rw [List.getElem?_set_ne e, h.at_ j hj]
    by_cases hj2 : (j : Int) ∈ (memO F x).take k
    · rw [if_pos hj2, if_pos ((hm _).2 (.inl hj2))]
    · rw [if_neg hj2, if_neg (fun h3 => by rcases (hm _).1 h3 with h3 | h3; exact hj2 h3; omega)]
theorem Times.next {m : Int} {F : List Core} (hr : rightF m F = true) {W : World} {q len x : Nat} {T : List Int} (h : Times F W q len x (memO F x) (memO F x).length T) (hlen : len = F.length) (hx : x < F.length) (l : List Int) : Times F W q len (x + 1) l 0 T := by
  refine ⟨h.row, h.hl, fun n hn => ?_⟩
  rw [h.at_ n hn, List.take_length, List.take_zero]
  congr 1
  have hm := mem_mem hr hx (z := (n : Int))
  unfold cntP
  by_cases e : ownF F n = (x : Int)
  · rw [if_neg (by omega), if_pos (hm.2 ⟨n, rfl, by omega, e⟩), if_pos (by omega), if_neg (by simp)]
    rfl
  · rw [if_neg (show ¬ (n : Int) ∈ memO F x from fun h3 => by
      obtain ⟨n', e1, _, e2⟩ := hm.1 h3
      obtain rfl : n = n' := by omega
      exact e e2)]
    rw [if_neg (show ¬ (n : Int) ∈ ([] : List Int) by simp)]
    by_cases e2 : 0 ≤ ownF F n ∧ ownF F n < (x : Int)
    · rw [if_pos e2, if_pos (by omega)]
    · rw [if_neg e2, if_neg (by omega)]
theorem Times.last {m : Int} {F : List Core} (hr : rightF m F = true) {W : World} {q : Nat} {l T : List Int} (h : Times F W q F.length F.length l 0 T) {n : Nat} (hn : n < F.length) : T[n]? = some (if ownF F n = -1 then 0 else 1) := by
  have := ownF_lt hr n
  rw [h.at_ n hn, List.take_zero, if_neg (show ¬ (n : Int) ∈ ([] : List Int) by simp)]
  unfold cntP
  by_cases e : ownF F n = -1
  · rw [if_neg (by omega), if_pos e]; rfl
  · rw [if_pos (by omega), if_neg e]; rfl
end Go.Proofs.YtkgbgnmmgmnnlaaGreatDoor
namespace Go.Proofs.YtkgbgnmmgmnnlaaGreatDoor
open Go.ChangeShapes Go.WideShapes Go.ChangeAt Go.RowKit
theorem tied_own : ownKnob Tryz.prog.godebug = none := by kernel_rfl
theorem tied_laidOut : laidOutB Tryz.prog = true := by kernel_rfl
theorem tied_et : Tryz.prog.globalNamed "errors.errorType" = some 0 := by kernel_rfl
theorem tied_rt : (Tryz.prog.cutTypes.find? (·.1 == "internal/reflectlite.rtype")).map (·.2) = some 156 := by kernel_rfl
theorem tied_oneRow : ((List.range Tryz.prog.types.size).filter fun t => Tryz.prog.rowNamed t [101, 114, 114, 111, 114]) = [74] := by kernel_rfl
abbrev errLaid : List (String × DataW Unit) := [("errors.errorType", Rows.laid_errors_errorType)]
theorem handle_of_laid {W : World} (h : laidMetH Tryz.prog errLaid W) : ErrVar W := by
  have h' : laidMet Tryz.prog [] W ∧ handlesMet Tryz.prog errLaid W := h
  obtain ⟨name, u, ty, e1, e2, e3, e4, e5⟩ := h'.2 _ (List.mem_singleton.2 rfl)
  have en : name = [101, 114, 114, 111, 114] := (Option.some.inj e1).symm
  subst en
  obtain rfl := Option.some.inj (tied_rt.symm.trans e2)
  have hm : ty ∈ (List.range Tryz.prog.types.size).filter fun t => Tryz.prog.rowNamed t [101, 114, 114, 111, 114] := List.mem_filter.2 ⟨List.mem_range.2 e3, e4⟩
  rw [tied_oneRow] at hm
  obtain rfl := List.mem_singleton.1 hm
  have hh : typeHandle Tryz.prog 74 = .pointer (some ⟨2, 74, none⟩) := by kernel_rfl
  rw [hh] at e5
  unfold ErrVar
  simpa using World.var?_cell tied_et e5 0
noncomputable def laidWorld (os : Os) : World :=
  let w0 := World.holding Tryz.prog os ⟨#[], #[], []⟩
  { w0 with heap := w0.heap.modify 0 fun
      | .cells _ t frozen => .cells #[.iface 156 (.agg #[.pointer (some ⟨2, 74, none⟩)])] t frozen
      | o => o }
theorem laidWorld_met (os : Os) (args : Array Value) : laidMetH Tryz.prog errLaid ((laidWorld os).forCall (fun _ _ => 0) ⟨#[], args, []⟩).memory :=
  laidMetH_of_parts (laidMet_nil _ _) (by kernel_rfl)
end Go.Proofs.YtkgbgnmmgmnnlaaGreatDoor
