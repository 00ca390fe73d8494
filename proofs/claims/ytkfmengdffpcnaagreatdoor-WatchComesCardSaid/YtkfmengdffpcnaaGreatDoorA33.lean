/- Texts joined in build order: MoveInsert. -/
import Derived.Test.YtkfmengdffpcnaaGreatDoorA32
namespace Go.Proofs.YtkfmengdffpcnaaGreatDoor
open Go.RowKit
structure NoteRow (w : World) (a : Option Addr) (len cap : Nat) (N : List NoteD) : Prop where
  row : SRow encO 9 w a len cap N
  ok : ∀ x ∈ N, NoteOk x
  hnil : a = none → cap = 0
theorem NoteRow.below {w w' : World} {a : Option Addr} {len cap : Nat} {N : List NoteD} (h : NoteRow w a len cap N) (hb : Below w.heap.size w w') : NoteRow w' a len cap N := ⟨h.row.below hb, h.ok, h.hnil⟩
theorem NoteRow.nil (w : World) : NoteRow w none 0 0 [] := ⟨SRow.nil, (fun x hx => by cases hx), fun _ => rfl⟩
def MvNew (B : Nat) (a va : Option Addr) (M : List NodeD) : Prop := ∀ k, k < B → (∀ b off, a = some ⟨b, off, none⟩ → b ≠ k) ∧ (∀ x ∈ M, NodeAway k x) ∧ ∀ b off, va = some ⟨b, off, none⟩ → b ≠ k
theorem MvNew.mono {B C : Nat} {a va : Option Addr} {M : List NodeD} (h : MvNew B a va M) (hc : C ≤ B) : MvNew C a va M := fun k hk => h k (Nat.lt_of_lt_of_le hk hc)
def MvPost (w : World) (m : Int) (R : List Core × List NoteD × Int) (e : Ending) (w' : World) : Prop :=
  ∃ a len cap M va vl vc, e = .returned (.tuple #[forV a len cap m, .slice va vl vc, .int .i64 R.2.2]) ∧ NodeRow w' a len cap M ∧ coreL M = R.1 ∧ smallF M ∧ NoteRow w' va vl vc R.2.1 ∧ Below w.heap.size w w' ∧ MvNew w.heap.size a va M
theorem small_core {L M : List NodeD} (h : coreL M = coreL L) (hs : smallF L) : smallF M := by
  have hl : M.length = L.length := by have := congrArg List.length h; rwa [coreL_len, coreL_len] at this
  refine ⟨by rw [hl]; exact hs.1, fun x hx => ?_⟩
  obtain ⟨i, hi⟩ := List.getElem?_of_mem hx
  have h1 := coreL_get hi
  rw [h] at h1
  have := List.mem_of_getElem? h1
  unfold coreL at this
  obtain ⟨y, hy, he⟩ := List.mem_map.1 this
  have := hs.2 y hy
  unfold smallN at this ⊢
  rw [← he]
  exact this
section
variable {ρ : Nat → Nat} {W : World} {pw g cap len : Nat} {m : Int} {M : List NodeD} {v : Value} {N : List NoteD}
theorem Wk.notes (h : Wk ρ W pw g cap len m M v N) : ∃ va vc, v = .slice va N.length vc ∧ NoteRow W va N.length vc N := by
  obtain ⟨a, c, he, hr, _⟩ := SRow.of_own (fun x _ => encO_len x) rfl h.nown
  refine ⟨a, c, he, hr, h.nok, fun e => ?_⟩
  subst e
  rcases h.nown.2 with ⟨hv, _⟩ | ⟨g', c', cur, hv, _⟩
  · rw [hv] at he
    injection he with _ _ h3
    exact h3.symm
  · rw [hv] at he
    injection he with h1
    cases h1
theorem Wk.news {B : Nat} {va : Option Addr} {vl vc : Nat} (h : Wk ρ W pw g cap len m M (.slice va vl vc) N) (h0 : ∀ k, k < B → ρ k = 0) : MvNew B (some ⟨g, 0, none⟩) va M := by
  refine fun k hk => ⟨fun b off e e2 => ?_, fun x hx => ⟨fun b off e hp e2 => ?_, fun b off e hp e2 => ?_⟩, fun b off e e2 => ?_⟩
  · injection e with e
    injection e with e3
    have h1 := h0 k hk
    rw [← e2, ← e3, h.grole] at h1
    cases h1
  · obtain ⟨g0, h1, h2⟩ := (h.arole x hx b off e hp).2
    exact h1 (h0 g0 (by omega))
  · obtain ⟨i, hi⟩ := List.getElem?_of_mem hx
    have h1 := h.kown i x hi
    obtain ⟨g2, c2, h2⟩ := own_some h1 hp
    have h3 := h.krole i x g2 hi (by rw [h2]; rfl)
    injection h2 with h4 _ _
    rw [e] at h4
    injection h4 with h4
    injection h4 with h5
    have h6 := h0 k hk
    rw [← e2, h5, h3] at h6
    omega
  · rcases h.nown.2 with ⟨hv, _⟩ | ⟨g2, c2, cur, hv, _⟩
    · injection hv with h1
      rw [e] at h1
      cases h1
    · have h3 := h.nrole g2 (by rw [hv]; rfl)
      injection hv with h4 _ _
      rw [e] at h4
      injection h4 with h4
      injection h4 with h5
      have h6 := h0 k hk
      rw [← e2, h5, h3] at h6
      cases h6
end
theorem stored2 {W : World} {b : Nat} {x y : Value} (h : Box2 W b x y) (u v : Value) : ((W.setCell ⟨b, 0, none⟩ u).setCell ⟨b, 1, none⟩ v).cell? ⟨b, 0, none⟩ = some u ∧ ((W.setCell ⟨b, 0, none⟩ u).setCell ⟨b, 1, none⟩ v).cell? ⟨b, 1, none⟩ = some v :=
  ⟨(World.cell?_setCell_other _ _ _ _ (fun e => by injection e with _ e; omega)).trans (World.cell?_setCell_same _ _ _ h.c0), World.cell?_setCell_same _ _ _ ((World.cell?_setCell_other _ _ _ _ (fun e => by injection e with _ e; omega)).trans h.c1)⟩
theorem Wk.stored {ρ : Nat → Nat} {W : World} {pw g cap len : Nat} {m : Int} {M : List NodeD} {v : Value} {N : List NoteD} (h : Wk ρ W pw g cap len m M v N) {b B : Nat} (hb : b < B) (hB : B ≤ W.heap.size) (h0 : ∀ k, k < B → ρ k = 0) (o1 o2 : Nat) (u1 u2 : Value) :
    ∃ ρ', Wk ρ' ((W.setCell ⟨b, o1, none⟩ u1).setCell ⟨b, o2, none⟩ u2) pw g cap len m M v N := by
  have hbg : b < g := by
    rcases Nat.lt_or_ge g B with h1 | h1
    · have := h0 g h1
      rw [h.grole] at this
      cases this
    · omega
  have hm := h.mark (b := b) (by omega) (h0 b hb) (fun x hx b' off he hp e => by
    obtain ⟨g0, h1, h2⟩ := (h.arole x hx b' off he hp).2
    have : ¬ g0 < B := fun h4 => h1 (h0 g0 h4)
    omega)
  have h4 : upd ρ (some b) 4 b = 4 := by unfold upd; rw [if_pos rfl]
  exact ⟨_, (hm.other h4 o1 u1).other h4 o2 u2⟩
def insZ (m : Int) (F : List Core) (n p c : Int) : List Core × List NoteD × Int :=
  if mayZ m F n p c = 0 then ((putS (F, []) n.toNat p.toNat (beforeZ m F n p c)).1, (putS (F, []) n.toNat p.toNat (beforeZ m F n p c)).2, 0) else (F, [], mayZ m F n p c)
structure Two (w W : World) (a : Option Addr) (len cap : Nat) (m : Int) (L : List NodeD) : Prop where
  bx : Box w W w.heap.size a len cap m L (coreL L)
  rb : Box2 W (w.heap.size + 1) (.slice none 0 0) (.int .i64 0)
theorem Two.start {w : World} {a : Option Addr} {len cap : Nat} {m : Int} {L : List NodeD} (h : NodeRow w a len cap L) : Two w ((w.alloc (forB a len cap m)).alloc zeroFB) a len cap m L :=
  ⟨(Box.start h).keep (below_box _ _), Box2.newAt (by simp)⟩
theorem Two.keep {w W W2 : World} {a : Option Addr} {len cap : Nat} {m : Int} {L : List NodeD} (h : Two w W a len cap m L) (hb : Below W.heap.size W W2) : Two w W2 a len cap m L := ⟨h.bx.keep hb, h.rb.keep hb⟩
theorem mrefused_any {w0 w1 : World} {pw wb : Nat} {a2 : Option Addr} {len cap2 : Nat} {m : Int} {M : List NodeD} {F : List Core} (h : Held w0 w1 pw wb a2 len cap2 m M F) (hg : ErrVar w1) (s : ByteArray) (no : Int) :
    Calls Tryz.prog 25 #[workV pw, refusedV s no] w1 fun e w' => e = .returned (.tuple #[forV a2 len cap2 m, .slice none 0 0, .int .i64 no]) ∧ Below w1.heap.size w1 w' :=
  mend_any w1 pw a2 none len cap2 0 0 m _ no h.c0 h.c1 h.c2 h.lt (fun W hb => mwhy_any s no W (hg.keep hb))
theorem mended_any {w1 : World} {ρ : Nat → Nat} {pw g cap len : Nat} {m : Int} {M : List NodeD} {va : Option Addr} {vc : Nat} {N : List NoteD} (h : Wk ρ w1 pw g cap len m M (.slice va N.length vc) N) :
    Calls Tryz.prog 25 #[workV pw, .nilIface] w1 fun e w' => e = .returned (.tuple #[forV (some ⟨g, 0, none⟩) len cap m, .slice va N.length vc, .int .i64 0]) ∧ Below w1.heap.size w1 w' :=
  mend_any w1 pw (some ⟨g, 0, none⟩) va len cap N.length vc m _ 0 h.c0 h.c1 h.c2 h.plt (fun W _ => mwhyNil_any W)
set_option maxHeartbeats 8000000 in
set_option maxRecDepth 100000 in
theorem minsert_any (a : Option Addr) (len cap : Nat) (m : Int) (L : List NodeD) (n p c : Int) (w : World) (h : NodeRow w a len cap L) (hm : In64 m) (hn : In64 n) (hp : In64 p) (hc : In64 c) (hs : smallF L) (hg : ErrVar w) :
    Calls Tryz.prog 7 #[forV a len cap m, .int .i64 n, .int .i64 p, .int .i64 c] w (MvPost w m (insZ m (coreL L) n p c)) := by
  have HCL : Hid ((coreL L).length = len) := Lib.hid (by rw [coreL_len, h.hlen])
  have HS := Lib.hid hs
  have HM := Lib.hid hm
  have HC64 := Lib.hid hc
  have CB : Hid (∀ W, NodeRow W a len cap L → Calls Tryz.prog 23 #[forV a len cap m] W fun e w' => ∃ pw a2 cap2 M, e = .returned (workV pw) ∧ Begun W w' pw a2 len cap2 m M (coreL L)) := Lib.hid (fun W h1 => mbegin_any a len cap m L W h1 hs)
  obtain ⟨E, hE⟩ : ∃ E, mayZ m (coreL L) n p c = E := ⟨_, rfl⟩
  have CM : Hid (∀ W, NodeRow W a len cap L → Calls Tryz.prog 24 #[forV a len cap m, .int .i64 n, .int .i64 p, .int .i64 c] W fun e w' => e = .returned (.int .i64 E) ∧ Below W.heap.size W w') := Lib.hid (fun W h1 => by
    rw [← hE]
    exact vmay_any a len cap m L n p c W h1 hm hn hp hc hs)
  obtain ⟨w0, hw0, TW, HB0⟩ : ∃ w0, (w.alloc (forB a len cap m)).alloc zeroFB = w0 ∧ Hid (Two w w0 a len cap m L) ∧ Hid (Below w.heap.size w w0) := ⟨_, rfl, Lib.hid (Two.start h), Lib.hid ((below_box _ _).trans ((below_box _ _).mono (by simp)))⟩
  have HG := Lib.hid (hg.keep HB0.out)
  have HW0 := Lib.hid hw0
  have z0 := TW.out.bx.c0
  have z1 := TW.out.bx.c1
  have HE := Lib.hid hE
  clear h hs hm hn hp hc hg hw0
  by_cases h0 : E = 0
  · have e1 : (E != 0) = false := by rw [h0]; rfl
    have PO : mayZ m (coreL L) n p c = 0 := by rw [HE.out]; exact h0
    obtain ⟨hk, _⟩ := may_ok PO
    obtain ⟨hr, ⟨N0, rfl, hN⟩, ⟨P0, rfl, hP⟩, hcc⟩ := vknows_nat hk
    rw [HCL.out] at hN hP
    have HPO := Lib.hid PO
    have HQ : Hid (insZ m (coreL L) N0 P0 c = ((putS (coreL L, []) N0 P0 (beforeZ m (coreL L) N0 P0 c)).1, (putS (coreL L, []) N0 P0 (beforeZ m (coreL L) N0 P0 c)).2, 0)) := Lib.hid (by
      unfold insZ
      rw [if_pos HPO.out]
      simp only [Int.toNat_natCast])
    clear hk hr h0 PO hcc
    go_enter Tryz.func7, Tryz.ntmps7
    go_upto_region 1 with fail
    rw [HW0.out]
    go_upto_region 2 with (go_at_call 23; (with_reducible refine (CB.out _ TW.out.bx.row).mono ?_); rintro e w1 ⟨pw, a2, cap2, M, rfl, hB⟩; have BG := Lib.hid hB; have TW1 := Lib.hid (TW.out.keep hB.below); have z0 := TW1.out.bx.c0; have z1 := TW1.out.bx.c1; clear hB)
    (
      have HD0 := Lib.hid BG.out.held
      have HBW := Lib.hid (held_below w1 pw)
      obtain ⟨wh, hwh⟩ : ∃ wh, w1.alloc (wkB pw) = wh := ⟨_, rfl⟩
      rw [hwh] at HD0 HBW ⊢
      have TW1 := Lib.hid (TW1.out.keep HBW.out)
      clear BG z0 z1 hwh
      have BG := HD0
      clear HD0
      have z0 := TW1.out.bx.c0
      have z1 := TW1.out.bx.c1
      have zw := BG.out.wc)
    go_wp2_with (first
      | (go_at_call 24; (with_reducible refine (CM.out _ TW1.out.bx.row).mono ?_); rintro e w2 ⟨rfl, hb⟩; have BG := Lib.hid (BG.out.keep hb); have zw := BG.out.wc; clear hb)
      | (go_at_call 27; obtain ⟨g, ρ, rfl, hwk, hρ, hwb⟩ := BG.out.wk (by omega); have HBC := Lib.hid BG.out.core; (refine (mput_any _ hwk HM.out (small_core HBC.out HS.out) N0 P0 c HC64.out hN hP (by rw [HBC.out]; exact HPO.out) (by simp)).mono ?_); rintro e w3 ⟨rfl, ρ3, M3, v3, N3, hW3, hT3, hA3, hE3, hS3, hR3⟩; obtain ⟨va, vc, rfl, hNR⟩ := hW3.notes; have W3 := Lib.hid hW3; have NR := Lib.hid hNR; have E3 := Lib.hid hE3; have S3 := Lib.hid hS3; have HB3 := Lib.hid (BG.out.below.trans (hT3.below BG.out.below.size hρ)); have A3 : Hid (∀ k, k < w0.heap.size → ρ3 k = 0) := (Lib.hid (fun k hk => (hA3 k (Nat.lt_of_lt_of_le hk BG.out.below.size)).trans (hρ k hk))); have zw := (hT3.cell BG.out.wlt hwb).trans BG.out.wc; clear hW3 hT3 hA3 hE3 hS3 hR3 hNR hwk hρ hwb)
      | (go_at_call 25; (refine (mended_any W3.out).mono ?_); rintro e w4 ⟨rfl, hb⟩; have HB4 := Lib.hid (HB3.out.trans (hb.mono HB3.out.size)); have HB34 := Lib.hid hb; have TW4 := Lib.hid (TW.out.keep HB4.out); have d0 := TW4.out.rb.c0; have d1 := TW4.out.rb.c1; have f0 := TW4.out.rb.f0; have f1 := TW4.out.rb.f1; clear hb))
    obtain ⟨q0, q1⟩ := stored2 TW4.out.rb (.slice (some ⟨g, 0, none⟩) len cap2) (.int .i64 m)
    obtain ⟨ρ5, W5⟩ := (W3.out.keep (by exact HB34.out)).stored (b := w.heap.size + 1) (B := w0.heap.size) TW.out.rb.lt HB4.out.size A3.out 0 1 (.slice (some ⟨g, 0, none⟩) len cap2) (.int .i64 m)
    obtain ⟨va', vc', hv', NR5⟩ := W5.notes
    injection hv' with e2 e3 e4
    subst e2 e4
    refine bodyPost_ret (v := .tuple #[forV (some ⟨g, 0, none⟩) len cap2 m, .slice va N3.length vc, .int .i64 0]) ?_ rfl ⟨some ⟨g, 0, none⟩, len, cap2, M3, va, N3.length, vc, by rw [HQ.out], W5.row, by rw [HQ.out, ← HBC.out, ← E3.out], S3.out, by rw [HQ.out, ← HBC.out, ← E3.out]; exact NR5, ?_, (W3.out.news A3.out).mono HB0.out.size⟩
    · simp [results, Tryz.results7, go_sem, q0, q1]
    · exact ((HB0.out.trans (HB4.out.mono HB0.out.size)).setCell (p := ⟨w.heap.size + 1, 0, none⟩) (by show w.heap.size ≤ w.heap.size + 1; omega) _).setCell (p := ⟨w.heap.size + 1, 1, none⟩) (by show w.heap.size ≤ w.heap.size + 1; omega) _
  · have e1 : (E != 0) = true := bne_iff_ne.2 h0
    have HQ : Hid (insZ m (coreL L) n p c = (coreL L, [], E)) := Lib.hid (by
      unfold insZ
      rw [if_neg (by rw [HE.out]; exact h0), HE.out])
    clear h0
    go_enter Tryz.func7, Tryz.ntmps7
    go_upto_region 1 with fail
    rw [HW0.out]
    go_upto_region 2 with (go_at_call 23; (with_reducible refine (CB.out _ TW.out.bx.row).mono ?_); rintro e w1 ⟨pw, a2, cap2, M, rfl, hB⟩; have BG := Lib.hid hB; have TW1 := Lib.hid (TW.out.keep hB.below); have z0 := TW1.out.bx.c0; have z1 := TW1.out.bx.c1; clear hB)
    (
      have HD0 := Lib.hid BG.out.held
      have HBW := Lib.hid (held_below w1 pw)
      obtain ⟨wh, hwh⟩ : ∃ wh, w1.alloc (wkB pw) = wh := ⟨_, rfl⟩
      rw [hwh] at HD0 HBW ⊢
      have TW1 := Lib.hid (TW1.out.keep HBW.out)
      clear BG z0 z1 hwh
      have BG := HD0
      clear HD0
      have z0 := TW1.out.bx.c0
      have z1 := TW1.out.bx.c1
      have zw := BG.out.wc)
    go_upto_region 4 with (go_at_call 24; (with_reducible refine (CM.out _ TW1.out.bx.row).mono ?_); rintro e w2 ⟨rfl, hb⟩; have BG := Lib.hid (BG.out.keep hb); have zw := BG.out.wc; clear hb)
    (
      have BD := Lib.hid (BG.out.keep ((Below.refl _ _).drew))
      have zw := BG.out.wc
      go_region_with (first | (go_at_call 26; (refine (mrefuse_any _ _ _).mono ?_); rintro e w' ⟨rfl, rfl⟩) | (go_at_call 25; (refine (mrefused_any BD.out (HG.out.keep BD.out.below) _ _).mono ?_); rintro e w4 ⟨rfl, hb⟩; have BG4 := Lib.hid (BD.out.keep hb); have TW4 := Lib.hid (TW.out.keep BG4.out.below); have d0 := TW4.out.rb.c0; have d1 := TW4.out.rb.c1; have f0 := TW4.out.rb.f0; have f1 := TW4.out.rb.f1; clear hb))
      all_goals go_wp2)
    all_goals (
                obtain ⟨q0, q1⟩ := stored2 TW4.out.rb (.slice a2 len cap2) (.int .i64 m)
                have hlt0 := TW.out.rb.lt
                have R5 := (BG4.out.row.far (q := w.heap.size + 1) (fun b off e => by have := BG4.out.rlo b off e; omega) (fun x hx => (BG4.out.new x hx).away hlt0) 0 (.slice a2 len cap2)).far (q := w.heap.size + 1) (fun b off e => by have := BG4.out.rlo b off e; omega) (fun x hx => (BG4.out.new x hx).away hlt0) 1 (.int .i64 m)
                have HB5 := ((HB0.out.trans (BG4.out.below.mono HB0.out.size)).setCell (p := ⟨w.heap.size + 1, 0, none⟩) (by show w.heap.size ≤ w.heap.size + 1; omega) (.slice a2 len cap2)).setCell (p := ⟨w.heap.size + 1, 1, none⟩) (by show w.heap.size ≤ w.heap.size + 1; omega) (.int .i64 m)
                refine bodyPost_ret (v := .tuple #[forV a2 len cap2 m, .slice none 0 0, .int .i64 E]) ?_ rfl ⟨a2, len, cap2, M, none, 0, 0, by rw [HQ.out], R5, by rw [HQ.out, BG4.out.core], small_core BG4.out.core HS.out, by rw [HQ.out]; exact NoteRow.nil _, HB5, fun k hk => ⟨fun b off e e2 => (by have := BG4.out.rlo b off e; have := HB0.out.size; omega), fun x hx => (BG4.out.new x hx).away (Nat.lt_of_lt_of_le hk HB0.out.size), fun b off e => (by cases e)⟩⟩)
    all_goals simp [results, Tryz.results7, go_sem, q0, q1]
end Go.Proofs.YtkfmengdffpcnaaGreatDoor
