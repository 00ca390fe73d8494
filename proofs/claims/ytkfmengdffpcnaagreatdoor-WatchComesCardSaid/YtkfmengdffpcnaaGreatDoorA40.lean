/- Texts joined in build order: WatchAsked WatchSmall. -/
import Derived.Test.YtkfmengdffpcnaaGreatDoorA39
import Derived.Test.YtkfmengdffpcnaaGreatDoorA38
import Derived.Test.YtkfmengdffpcnaaGreatDoorA13
namespace Go.Proofs.YtkfmengdffpcnaaGreatDoor
open Go.RowKit
theorem TCells.frozen {W : World} {g : Nat} {cs : List Value} (h : CBox W g cs) : (W.frozen? ⟨g, 0, none⟩ = false ∧ W.frozen? ⟨g, 1, none⟩ = false ∧ W.frozen? ⟨g, 2, none⟩ = false ∧ W.frozen? ⟨g, 3, none⟩ = false ∧ W.frozen? ⟨g, 4, none⟩ = false) ∧ W.frozen? ⟨g, 5, none⟩ = false ∧ W.frozen? ⟨g, 6, none⟩ = false ∧ W.frozen? ⟨g, 7, none⟩ = false ∧ W.frozen? ⟨g, 8, none⟩ = false ∧ W.frozen? ⟨g, 9, none⟩ = false :=
  ⟨⟨h.f 0, h.f 1, h.f 2, h.f 3, h.f 4⟩, h.f 5, h.f 6, h.f 7, h.f 8, h.f 9⟩
theorem asked_no {x : NoteD} {z : Int} {s : StateD} {c : Option ClassC} (h1 : s.phase ≠ 1) (h2 : s.phase ≠ 3) : askedZ x z s c = none := by
  unfold askedZ
  rw [if_neg h1, if_neg h2]
theorem asked_open {x : NoteD} {z : Int} {s : StateD} {c : Option ClassC} (h1 : s.phase = 1) : askedZ x z s c = if x.kind = 1 then upZ z else none := by
  unfold askedZ
  rw [if_pos h1]
theorem asked_custom {x : NoteD} {z : Int} {s : StateD} {c : Option ClassC} (h2 : s.phase = 3) : askedZ x z s c = match c with | none => none | some c => if toldC c x.kind x.name then some (callT x) else none := by
  unfold askedZ
  rw [if_neg (by omega), if_pos h2]
  cases c <;> rfl
set_option maxHeartbeats 2000000 in
set_option maxRecDepth 100000 in
theorem asked_any (y : NoteD) (x : NodeD) (s : StateD) (da : Option Addr) (dl dc : Nat) (wa : Option Addr) (wl wc : Nat) (nx : Int) (bz : Bool) (ca : Option Addr) (cl cc : Nat) (D : List DefD) (L : List ClassD) (w : World) (hd : DefRow w da dl dc D) (hc : ClsRow w ca cl cc L) :
    Calls Tryz.prog 30 #[noteV y, nodVal x, stateV s, deskV da dl dc wa wl wc nx bz, .slice ca cl cc] w (AskPost w (askedZ y (fateC ⟨D, [], nx, bz⟩ x.core) s (classZ s D (coreCl L)))) := by
  have CU : Hid (∀ V, DefRow V da dl dc D → Calls Tryz.prog 57 #[nodVal x, deskV da dl dc wa wl wc nx bz] V (AskPost V (upZ (fateC ⟨D, [], nx, bz⟩ x.core)))) := Lib.hid (fun V h => upgrade_any x da dl dc wa wl wc nx bz D V h)
  have CC : Hid (∀ V, DefRow V da dl dc D → ClsRow V ca cl cc L → Calls Tryz.prog 32 #[stateV s, deskV da dl dc wa wl wc nx bz, .slice ca cl cc] V (ClassPost V L (classZ s D (coreCl L)))) := Lib.hid (fun V h1 h2 => class_any s da dl dc wa wl wc nx bz ca cl cc D L V h1 h2)
  have CT : Hid (∀ V c, ClassAt V c → Calls Tryz.prog 40 #[c.val, noteV y] V fun e w' => e = .returned (.bool (toldC c.core y.kind y.name)) ∧ Below V.heap.size V w') := Lib.hid (fun V c h => told_any c y V h)
  have CL : Hid (∀ V, Calls Tryz.prog 58 #[noteV y] V fun e w' => e = .returned (todoVal (callT y)) ∧ Below V.heap.size V w') := Lib.hid (fun V => call_any y V)
  obtain ⟨z, hz⟩ : ∃ z, fateC ⟨D, [], nx, bz⟩ x.core = z := ⟨_, rfl⟩
  obtain ⟨c, hcz⟩ : ∃ c, classZ s D (coreCl L) = c := ⟨_, rfl⟩
  obtain ⟨u, hu⟩ : ∃ u, upZ z = u := ⟨_, rfl⟩
  rw [hz, hu] at CU
  rw [hcz] at CC
  rw [hz, hcz]
  have HUP := Lib.hid hu
  clear hz hcz hu
  obtain ⟨r, hr⟩ : ∃ r, askedZ y z s c = r := ⟨_, rfl⟩
  rw [hr]
  have HRZ := Lib.hid hr
  have HTC : Hid (∀ q : ClassC, toldC q y.kind y.name = toldC q y.kind y.name) := Lib.hid (fun _ => rfl)
  clear hr HTC
  obtain ⟨⟨kind, name, is, data, attrs, parent, kids, host, under, doc⟩, aA, aN, aC, kA, kN, kC⟩ := x
  obtain ⟨ph, df, ow, ba⟩ := s
  obtain ⟨W0, hW0, B0, B1, B2, B3, B4, HS, HB⟩ := boxes5 w (noteCs y) (nodeCs ⟨⟨kind, name, is, data, attrs, parent, kids, host, under, doc⟩, aA, aN, aC, kA, kN, kC⟩) #[.int .i64 ph, .int .i64 df, .int .i64 ow, .bool ba] #[.slice da dl dc, .slice wa wl wc, .int .i64 nx, .bool bz] (todoCs zeroT) 71 36 46 29 55
  have HW0 := Lib.hid hW0
  have BN := Lib.hid B0
  have BR := Lib.hid B4
  have HBE := Lib.hid HB
  have HD := Lib.hid (hd.below HB)
  have HC := Lib.hid (hc.below HB)
  have s0 := B2.c 0 _ rfl
  have s1 := B2.c 1 _ rfl
  have s2 := B2.c 2 _ rfl
  have s3 := B2.c 3 _ rfl
  have d0 := B3.c 0 _ rfl
  have d1 := B3.c 1 _ rfl
  have d2 := B3.c 2 _ rfl
  have d3 := B3.c 3 _ rfl
  have n0 := B0.c 0 _ rfl
  have e0 := B1.c 0 _ rfl
  have e1 := B1.c 1 _ rfl
  have e2 := B1.c 2 _ rfl
  have e3 := B1.c 3 _ rfl
  have e4 := B1.c 4 _ rfl
  have e5 := B1.c 5 _ rfl
  have e6 := B1.c 6 _ rfl
  have e7 := B1.c 7 _ rfl
  have e8 := B1.c 8 _ rfl
  have e9 := B1.c 9 _ rfl
  clear hW0 B0 B1 B2 B3 B4 HS HB hd hc
  by_cases h1 : ph = 1
  · have g1 : (ph == 1) = true := beq_iff_eq.2 h1
    have HQ := Lib.hid (HRZ.out.symm.trans (asked_open h1))
    clear h1
    by_cases h2 : y.kind = 1
    · have g2 : (y.kind == 1) = true := beq_iff_eq.2 h2
      have HZ : Hid (r = u) := Lib.hid (by rw [HQ.out, if_pos h2, HUP.out])
      clear h2
      go_enter Tryz.func30, Tryz.ntmps30
      go_upto_region 1 with fail
      rw [HW0.out]
      go_wp2_with (go_at_call 57; (with_reducible refine (CU.out _ HD.out).mono ?_); rintro e w1 ⟨t, ok, rfl, hb, ht⟩; have HT := Lib.hid ht; have BR := Lib.hid (BR.out.keep hb); have HBE := Lib.hid (HBE.out.trans (hb.mono HBE.out.size)); clear hb ht s0 s1 s2 s3 d0 d1 d2 d3 n0 e0 e1 e2 e3 e4 e5 e6 e7 e8 e9; (obtain ⟨r0, r1, r2, r3, r4, r5, r6, r7, r8, r9⟩ := CBox.todo (x := zeroT) BR.out; obtain ⟨⟨f0, f1, f2, f3, f4⟩, f5, f6, f7, f8, f9⟩ := TCells.frozen BR.out))
      obtain ⟨q0, q1, q2, q3, q4, q5, q6, q7, q8, q9⟩ := (box10 (y := zeroT) BR.out t).todo
      unfold put10 at q0 q1 q2 q3 q4 q5 q6 q7 q8 q9
      refine bodyPost_ret (v := .tuple #[todoVal t, .bool ok]) ?_ rfl ⟨t, ok, rfl, below10 HBE.out (by omega) t, by rw [HZ.out, HT.out]⟩
      simp [results, Tryz.results30, go_sem, q0, q1, q2, q3, q4, q5, q6, q7, q8, q9]
    · have g2 : (y.kind == 1) = false := beq_eq_false_iff_ne.2 h2
      have HZ : Hid (r = none) := Lib.hid (by rw [HQ.out, if_neg h2])
      clear h2
      (obtain ⟨r0, r1, r2, r3, r4, r5, r6, r7, r8, r9⟩ := CBox.todo (x := zeroT) BR.out; obtain ⟨⟨f0, f1, f2, f3, f4⟩, f5, f6, f7, f8, f9⟩ := TCells.frozen BR.out)
      go_enter Tryz.func30, Tryz.ntmps30
      go_upto_region 1 with fail
      rw [HW0.out]
      go_wp2_with fail
      (obtain ⟨q0, q1, q2, q3, q4, q5, q6, q7, q8, q9⟩ := (box10 (y := zeroT) BR.out zeroT).todo; unfold put10 at q0 q1 q2 q3 q4 q5 q6 q7 q8 q9; dsimp only at q0 q1 q2 q3 q4 q5 q6 q7 q8 q9; refine bodyPost_ret (v := .tuple #[todoVal zeroT, .bool false]) ?_ rfl ⟨zeroT, false, rfl, below10 HBE.out (by omega) zeroT, by rw [HZ.out]; rfl⟩; simp [results, Tryz.results30, go_sem, q0, q1, q2, q3, q4, q5, q6, q7, q8, q9])
  · have g1 : (ph == 1) = false := beq_eq_false_iff_ne.2 h1
    by_cases h3 : ph = 3
    · have g3 : (ph == 3) = true := beq_iff_eq.2 h3
      have HQ := Lib.hid (HRZ.out.symm.trans (asked_custom h3))
      clear h3 h1
      go_enter Tryz.func30, Tryz.ntmps30
      go_upto_region 1 with fail
      rw [HW0.out]
      go_upto_region 7 with (go_at_call 32; (with_reducible refine (CC.out _ HD.out HC.out).mono ?_); rintro e w1 ⟨k, ok, rfl, hk, hb, -, hor⟩; have HK := Lib.hid hk; have HOR := Lib.hid hor; have BN := Lib.hid (BN.out.keep hb); have BR := Lib.hid (BR.out.keep hb); have HBE := Lib.hid (HBE.out.trans (hb.mono HBE.out.size)); clear hb hk hor s0 s1 s2 s3 d0 d1 d2 d3 n0 e0 e1 e2 e3 e4 e5 e6 e7 e8 e9)
      obtain ⟨V, hV, C0, HSV, HBV⟩ := boxes1 w1 (encClD k).toArray 51
      have hV2 : w1.alloc (.cells #[.bool k.form, .slice k.wa k.wn k.wk, .slice k.pa k.pn k.pk, .slice k.ma k.mn k.mc, .slice k.ha k.hn k.hk] 51) = V := hV
      rw [hV2]
      have C0 : CBox V w1.heap.size (encClD k) := C0
      have HKV := Lib.hid (HK.out.below HBV)
      have BN := Lib.hid (BN.out.keep HBV)
      have BR := Lib.hid (BR.out.keep HBV)
      have HBE := Lib.hid (HBE.out.trans (HBV.mono HBE.out.size))
      have k0 := C0.c 0 _ rfl
      have k1 := C0.c 1 _ rfl
      have k2 := C0.c 2 _ rfl
      have k3 := C0.c 3 _ rfl
      have k4 := C0.c 4 _ rfl
      have n0 := BN.out.c 0 _ rfl
      have n1 := BN.out.c 1 _ rfl
      have n2 := BN.out.c 2 _ rfl
      have n3 := BN.out.c 3 _ rfl
      have n4 := BN.out.c 4 _ rfl
      have n5 := BN.out.c 5 _ rfl
      have n6 := BN.out.c 6 _ rfl
      have n7 := BN.out.c 7 _ rfl
      have n8 := BN.out.c 8 _ rfl
      clear hV hV2 C0 HSV HBV
      cases ok with
      | false =>
        have HZ : Hid (r = none) := Lib.hid (by
          rcases HOR.out with ⟨-, e, -⟩ | ⟨e, -⟩
          · rw [HQ.out, e]
          · cases e)
        (obtain ⟨r0, r1, r2, r3, r4, r5, r6, r7, r8, r9⟩ := CBox.todo (x := zeroT) BR.out; obtain ⟨⟨f0, f1, f2, f3, f4⟩, f5, f6, f7, f8, f9⟩ := TCells.frozen BR.out)
        go_wp2_with fail
        (obtain ⟨q0, q1, q2, q3, q4, q5, q6, q7, q8, q9⟩ := (box10 (y := zeroT) BR.out zeroT).todo; unfold put10 at q0 q1 q2 q3 q4 q5 q6 q7 q8 q9; dsimp only at q0 q1 q2 q3 q4 q5 q6 q7 q8 q9; refine bodyPost_ret (v := .tuple #[todoVal zeroT, .bool false]) ?_ rfl ⟨zeroT, false, rfl, below10 HBE.out (by omega) zeroT, by rw [HZ.out]; rfl⟩; simp [results, Tryz.results30, go_sem, q0, q1, q2, q3, q4, q5, q6, q7, q8, q9])
      | true =>
        have HCE : Hid (c = some k.core) := Lib.hid (by
          rcases HOR.out with ⟨e, -⟩ | ⟨-, e⟩
          · cases e
          · exact e)
        obtain ⟨q, hq⟩ : ∃ q, toldC k.core y.kind y.name = q := ⟨_, rfl⟩
        have CT2 : Hid (Calls Tryz.prog 40 #[k.val, noteV y] V fun e w' => e = .returned (.bool q) ∧ Below V.heap.size V w') := Lib.hid (by
          have := CT.out V k HKV.out
          rw [hq] at this
          exact this)
        have HZ : Hid (r = if q then some (callT y) else none) := Lib.hid (by rw [HQ.out, HCE.out, ← hq])
        clear hq
        cases q with
        | false =>
          go_wp2_with (go_at_call 40; (with_reducible refine CT2.out.mono ?_); rintro e w2 ⟨rfl, hb⟩; have BR := Lib.hid (BR.out.keep hb); have HBE := Lib.hid (HBE.out.trans (hb.mono HBE.out.size)); clear hb k0 k1 k2 k3 k4 n0 n1 n2 n3 n4 n5 n6 n7 n8; (obtain ⟨r0, r1, r2, r3, r4, r5, r6, r7, r8, r9⟩ := CBox.todo (x := zeroT) BR.out; obtain ⟨⟨f0, f1, f2, f3, f4⟩, f5, f6, f7, f8, f9⟩ := TCells.frozen BR.out))
          (obtain ⟨q0, q1, q2, q3, q4, q5, q6, q7, q8, q9⟩ := (box10 (y := zeroT) BR.out zeroT).todo; unfold put10 at q0 q1 q2 q3 q4 q5 q6 q7 q8 q9; dsimp only at q0 q1 q2 q3 q4 q5 q6 q7 q8 q9; refine bodyPost_ret (v := .tuple #[todoVal zeroT, .bool false]) ?_ rfl ⟨zeroT, false, rfl, below10 HBE.out (by omega) zeroT, by rw [HZ.out]; rfl⟩; simp [results, Tryz.results30, go_sem, q0, q1, q2, q3, q4, q5, q6, q7, q8, q9])
        | true =>
          go_upto_region 8 with (go_at_call 40; (with_reducible refine CT2.out.mono ?_); rintro e w2 ⟨rfl, hb⟩; have BN := Lib.hid (BN.out.keep hb); have BR := Lib.hid (BR.out.keep hb); have HBE := Lib.hid (HBE.out.trans (hb.mono HBE.out.size)); clear hb k0 k1 k2 k3 k4 n0 n1 n2 n3 n4 n5 n6 n7 n8; have n0 := BN.out.c 0 _ rfl; have n1 := BN.out.c 1 _ rfl; have n2 := BN.out.c 2 _ rfl; have n3 := BN.out.c 3 _ rfl; have n4 := BN.out.c 4 _ rfl; have n5 := BN.out.c 5 _ rfl; have n6 := BN.out.c 6 _ rfl; have n7 := BN.out.c 7 _ rfl; have n8 := BN.out.c 8 _ rfl)
          go_wp2_with (go_at_call 58; (with_reducible refine (CL.out _).mono ?_); rintro e w3 ⟨rfl, hb⟩; have BR := Lib.hid (BR.out.keep hb); have HBE := Lib.hid (HBE.out.trans (hb.mono HBE.out.size)); clear hb n0 n1 n2 n3 n4 n5 n6 n7 n8; (obtain ⟨r0, r1, r2, r3, r4, r5, r6, r7, r8, r9⟩ := CBox.todo (x := zeroT) BR.out; obtain ⟨⟨f0, f1, f2, f3, f4⟩, f5, f6, f7, f8, f9⟩ := TCells.frozen BR.out))
          obtain ⟨q0, q1, q2, q3, q4, q5, q6, q7, q8, q9⟩ := (box10 (y := zeroT) BR.out (callT y)).todo
          unfold put10 callT at q0 q1 q2 q3 q4 q5 q6 q7 q8 q9
          dsimp only at q0 q1 q2 q3 q4 q5 q6 q7 q8 q9
          refine bodyPost_ret (v := .tuple #[todoVal (callT y), .bool true]) ?_ rfl ⟨callT y, true, rfl, below10 HBE.out (by omega) (callT y), by rw [HZ.out]; simp⟩
          simp [results, Tryz.results30, go_sem, q0, q1, q2, q3, q4, q5, q6, q7, q8, q9, callT]
    · have g3 : (ph == 3) = false := beq_eq_false_iff_ne.2 h3
      have HZ : Hid (r = none) := Lib.hid (HRZ.out.symm.trans (asked_no h1 h3))
      clear h1 h3
      (obtain ⟨r0, r1, r2, r3, r4, r5, r6, r7, r8, r9⟩ := CBox.todo (x := zeroT) BR.out; obtain ⟨⟨f0, f1, f2, f3, f4⟩, f5, f6, f7, f8, f9⟩ := TCells.frozen BR.out)
      go_enter Tryz.func30, Tryz.ntmps30
      go_upto_region 1 with fail
      rw [HW0.out]
      go_wp2_with fail
      (obtain ⟨q0, q1, q2, q3, q4, q5, q6, q7, q8, q9⟩ := (box10 (y := zeroT) BR.out zeroT).todo; unfold put10 at q0 q1 q2 q3 q4 q5 q6 q7 q8 q9; dsimp only at q0 q1 q2 q3 q4 q5 q6 q7 q8 q9; refine bodyPost_ret (v := .tuple #[todoVal zeroT, .bool false]) ?_ rfl ⟨zeroT, false, rfl, below10 HBE.out (by omega) zeroT, by rw [HZ.out]; rfl⟩; simp [results, Tryz.results30, go_sem, q0, q1, q2, q3, q4, q5, q6, q7, q8, q9])
end Go.Proofs.YtkfmengdffpcnaaGreatDoor
namespace Go.Proofs.YtkfmengdffpcnaaGreatDoor
open Go.RowKit
def elemB (F : List Core) (n : Int) : Bool := decide (0 ≤ n) && decide (n < (F.length : Int)) && (match F[n.toNat]? with | some c => c.kind == 1 | none => false)
def rightW (m : Int) (F : List Core) (S : List StateD) (D : DeskD) : Bool := decide (S.length = F.length) && rightF m F && rightK D
def oneZ (F : List Core) (S : List StateD) (D : DeskD) (L : List ClassC) (x : NoteD) : Option DueD :=
  if elemB F x.node then
    match F[x.node.toNat]?, S[x.node.toNat]? with
    | some e, some s => (askedZ x (fateC D e) s (classZ s D.defs L)).map (fun t => ⟨x.node, t⟩)
    | _, _ => none
  else none
def dueZ (m : Int) (F : List Core) (S : List StateD) (D : DeskD) (L : List ClassC) (N : List NoteD) : List DueD := if rightW m F S D then N.filterMap (oneZ F S D L) else []
def attrT (a : ByteArray × ByteArray) : TodoD := ⟨4, 0, a.1, false, true, ⟨#[]⟩, a.2, 0, 0, false⟩
def cameT : TodoD := ⟨1, 0, ⟨#[]⟩, false, false, ⟨#[]⟩, ⟨#[]⟩, 0, 0, false⟩
def attrZ (c : ClassC) (n : Int) (a : ByteArray × ByteArray) : Option DueD := if watchesC c a.1 then some ⟨n, attrT a⟩ else none
def firstW (c : ClassC) (n : Int) (A : AL) (con : Bool) : List DueD := A.filterMap (attrZ c n) ++ (if hearsC c 1 && con then [⟨n, cameT⟩] else [])
theorem elemB_at {F : List Core} {n : Int} (h : elemB F n = true) : ∃ (k : Nat) (c : Core), n = (k : Int) ∧ F[k]? = some c ∧ c.kind = 1 := by
  unfold elemB at h
  simp only [Bool.and_eq_true, decide_eq_true_eq] at h
  obtain ⟨⟨h1, h2⟩, h3⟩ := h
  cases hc : F[n.toNat]? with
  | none => rw [hc] at h3; cases h3
  | some c =>
    rw [hc] at h3
    exact ⟨n.toNat, c, by omega, hc, beq_iff_eq.1 h3⟩
theorem elemB_nat {F : List Core} {k : Nat} {c : Core} (h : F[k]? = some c) : elemB F (k : Int) = (c.kind == 1) := by
  have := (List.getElem?_eq_some_iff.1 h).1
  unfold elemB
  rw [decide_eq_true (by omega), decide_eq_true (by omega), Int.toNat_natCast, h]
  rfl
set_option maxHeartbeats 1000000 in
set_option maxRecDepth 100000 in
theorem iselem_any (a : Option Addr) (len cap : Nat) (m : Int) (K : List NodeD) (n : Int) (w : World) (h : NodeRow w a len cap K) (hn : In64 n) :
    Calls Tryz.prog 29 #[forV a len cap m, .int .i64 n] w fun e w' => e = .returned (.bool (elemB (coreL K) n)) ∧ Below w.heap.size w w' := by
  have BX := Lib.hid (Box.start (m := m) h)
  have z0 := BX.out.c0
  have hl := h.len64
  have hlen : (coreL K).length = len := by rw [coreL_len, h.hlen]
  have hn1 := hn.1
  have hn2 := hn.2
  by_cases h1 : n < 0
  · have HE : Hid (elemB (coreL K) n = false) := Lib.hid (by unfold elemB; rw [decide_eq_false (by omega)]; rfl)
    rw [HE.out]
    clear h hn hlen HE
    go_enter Tryz.func29, Tryz.ntmps29
    go_wp2
    go_ret
    exact ⟨rfl, BX.out.below⟩
  · by_cases h2 : (len : Int) ≤ n
    · have HE : Hid (elemB (coreL K) n = false) := Lib.hid (by unfold elemB; rw [decide_eq_false (p := n < ((coreL K).length : Int)) (by rw [hlen]; omega), Bool.and_false]; rfl)
      rw [HE.out]
      clear h hn hlen HE
      go_enter Tryz.func29, Tryz.ntmps29
      go_wp2
      go_ret
      exact ⟨rfl, BX.out.below⟩
    · obtain ⟨k, rfl, hk⟩ : ∃ k : Nat, n = (k : Int) ∧ k < len := ⟨n.toNat, by omega, by omega⟩
      obtain ⟨b, off, x, rfl, hb, hx, hat, -⟩ := BX.out.row.get hk
      have HE := Lib.hid (elemB_nat (coreL_get hx))
      rw [HE.out]
      obtain ⟨q, hq⟩ : ∃ q, (x.core.kind == 1) = q := ⟨_, rfl⟩
      obtain ⟨x0, -⟩ := hat
      rw [hq]
      clear h hn hlen HE hx hb
      go_enter Tryz.func29, Tryz.ntmps29
      go_wp2
      go_ret
      exact ⟨rfl, BX.out.below⟩
set_option maxHeartbeats 1000000 in
set_option maxRecDepth 100000 in
theorem wright_any (a : Option Addr) (len cap : Nat) (m : Int) (K : List NodeD) (sa : Option Addr) (sl sc : Nat) (S : List StateD) (da : Option Addr) (dl dc : Nat) (wa : Option Addr) (wl wc : Nat) (nx : Int) (bz : Bool) (L : List DefD) (M : List WaitD) (w : World)
    (h : NodeRow w a len cap K) (hm : In64 m) (hsm : smallF K) (hs : StaRow w sa sl sc S) (hd : DefRow w da dl dc L) (ht : WaitRow w wa wl wc M) :
    Calls Tryz.prog 28 #[forV a len cap m, .slice sa sl sc, deskV da dl dc wa wl wc nx bz] w fun e w' => e = .returned (.bool (rightW m (coreL K) S ⟨L, M, nx, bz⟩)) ∧ Below w.heap.size w w' := by
  have FX := Lib.hid (FD.start (m := m) (nx := nx) (bz := bz) h hd ht)
  have hl := h.len64
  have hsl := hs.len64
  obtain ⟨q2, hq2⟩ : ∃ q, rightF m (coreL K) = q := ⟨_, rfl⟩
  obtain ⟨q3, hq3⟩ : ∃ q, rightK ⟨L, M, nx, bz⟩ = q := ⟨_, rfl⟩
  have R9 : Hid (∀ V, DefRow V da dl dc L → WaitRow V wa wl wc M → Calls Tryz.prog 21 #[deskV da dl dc wa wl wc nx bz] V fun e w' => e = .returned (.bool q3) ∧ Below V.heap.size V w') := Lib.hid (fun V h1 h2 => by
    have h := deskright_any da dl dc wa wl wc nx bz L M V h1 h2
    rw [hq3] at h
    exact h)
  have R3 : Hid (∀ V, NodeRow V a len cap K → Calls Tryz.prog 20 #[forV a len cap m] V fun e w' => e = .returned (.bool q2) ∧ Below V.heap.size V w') := Lib.hid (fun V h1 => by
    have h := rightF_any a len cap m K V h1 hm hsm
    rw [hq2] at h
    exact h)
  have HE : Hid (rightW m (coreL K) S ⟨L, M, nx, bz⟩ = (decide (sl = len) && q2 && q3)) := Lib.hid (by
    unfold rightW
    rw [hq2, hq3, coreL_len, h.hlen, hs.hlen])
  rw [HE.out]
  obtain ⟨r, hr⟩ : ∃ r, (decide (sl = len) && q2 && q3) = r := ⟨_, rfl⟩
  rw [hr]
  have z0 := FX.out.f.c0
  have z1 := FX.out.f.c1
  have d0 := FX.out.d.c0
  have d1 := FX.out.d.c1
  have d2 := FX.out.d.c2
  have d3 := FX.out.d.c3
  clear h hm hsm hs hd ht HE hq2 hq3
  by_cases he : sl = len
  · have e1 : ((sl : Int) == (len : Int)) = true := by rw [he]; simp
    have HR : Hid (r = (q2 && q3)) := Lib.hid (by rw [← hr, decide_eq_true he]; rfl)
    clear he hr
    cases q2 with
    | false =>
      go_enter Tryz.func28, Tryz.ntmps28
      go_wp2_with (go_at_call 20; (with_reducible refine (R3.out _ FX.out.f.row).mono ?_); rintro e w1 ⟨rfl, hb⟩; have FX := Lib.hid (FX.out.keep hb); clear hb)
      go_ret
      exact ⟨by rw [HR.out]; rfl, FX.out.f.below⟩
    | true =>
      go_enter Tryz.func28, Tryz.ntmps28
      go_wp2_with (first
        | (go_at_call 20; (with_reducible refine (R3.out _ FX.out.f.row).mono ?_); rintro e w1 ⟨rfl, hb⟩; have FX := Lib.hid (FX.out.keep hb); clear hb z0 z1 d0 d1 d2 d3; have d0 := FX.out.d.c0; have d1 := FX.out.d.c1; have d2 := FX.out.d.c2; have d3 := FX.out.d.c3)
        | (go_at_call 21; (with_reducible refine (R9.out _ FX.out.d.d FX.out.d.t).mono ?_); rintro e w2 ⟨rfl, hb⟩; have FX := Lib.hid (FX.out.keep hb); clear hb))
      go_ret
      exact ⟨by rw [HR.out]; rfl, FX.out.f.below⟩
  · have e1 : ((sl : Int) == (len : Int)) = false := beq_eq_false_iff_ne.2 (by omega)
    have HR : Hid (r = false) := Lib.hid (by rw [← hr, decide_eq_false he]; rfl)
    clear he hr
    go_enter Tryz.func28, Tryz.ntmps28
    go_wp2
    go_ret
    exact ⟨by rw [HR.out]; rfl, FX.out.f.below⟩
end Go.Proofs.YtkfmengdffpcnaaGreatDoor
