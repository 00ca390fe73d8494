/- Texts joined in build order: DeskPred DeskClos DeskStand. -/
import Derived.Test.YtkfmengdffpcnaaGreatDoorA17
import Derived.Deep.CutBlock
import Derived.Shelf.Abstract
import Derived.Test.YtkfmengdffpcnaaGreatDoorA04
import Derived.Test.YtkfmengdffpcnaaGreatDoorA15
namespace Go.Proofs.YtkfmengdffpcnaaGreatDoor
open Go.RowKit
def PredD (g : Nat) (lb : Array Value) (p : DefD → Bool) (w : World) : Prop :=
  ∀ (W : World) (n o : ByteArray) (c : Int), Below w.heap.size w W → Calls Tryz.prog g (#[.agg #[.string n, .string o, .int .i64 c]] ++ lb) W fun e W' => e = .returned (.bool (p ⟨n, o, c⟩)) ∧ Below W.heap.size W W'
def PredT (g : Nat) (lb : Array Value) (p : WaitD → Bool) (w : World) : Prop :=
  ∀ (W : World) (n : ByteArray) (c : Int), Below w.heap.size w W → Calls Tryz.prog g (#[.agg #[.string n, .int .i64 c]] ++ lb) W fun e W' => e = .returned (.bool (p ⟨n, c⟩)) ∧ Below W.heap.size W W'
theorem PredD.later {g : Nat} {lb : Array Value} {p : DefD → Bool} {w W : World} (h : PredD g lb p w) (hb : Below w.heap.size w W) : PredD g lb p W :=
  fun V n o c hv => h V n o c (hb.trans (hv.mono hb.size))
theorem PredT.later {g : Nat} {lb : Array Value} {p : WaitD → Bool} {w W : World} (h : PredT g lb p w) (hb : Below w.heap.size w W) : PredT g lb p W :=
  fun V n c hv => h V n c (hb.trans (hv.mono hb.size))
set_option maxHeartbeats 4000000 in
set_option maxRecDepth 100000 in
theorem indexD_any (g : Nat) (lb : Array Value) (p : DefD → Bool) (eg : ∀ args w, (callFunc g args).run Tryz.prog w = .ok (.enter g args) w) (a : Option Addr) (len cap : Nat) (L : List DefD) (w : World) (h : DefRow w a len cap L) (hp : PredD g lb p w) :
    Calls Tryz.prog 104 #[.slice a len cap, .func (.func g) #[] lb] w fun e w' => e = .returned (.int .i64 (firstZ p L)) ∧ Below w.heap.size w w' := by
  have hl := h.len64
  have HLN := Lib.hid h.hlen
  have HH := Lib.hid h
  have HP := Lib.hid hp
  clear h hp
  go_enter Tryz.func104, Tryz.ntmps104
  go_wp2
  go_loopw [5, 8] (fun _ i wr => ∃ k : Nat, k ≤ len ∧ i = .int .i64 k ∧ Hid (k ≤ firstN p L) ∧ Hid (Below w.heap.size w wr)) (fun _ i _ => len - (intOf i).toNat)
  case atStart => exact ⟨0, Nat.zero_le _, rfl, Lib.hid (Nat.zero_le _), Lib.hid (Below.refl _ _)⟩
  case round =>
    obtain ⟨k, hk, rfl, HA, HB⟩ := hrel
    by_cases hlt : k < len
    · obtain ⟨b, off, x, rfl, hb, hx, c0, c1, c2, -⟩ := (HH.out.below HB.out).get hlt
      have HX := Lib.hid hx
      clear hx
      obtain ⟨n, o, c⟩ := x
      dsimp only at c0 c1 c2
      have hcall := HP.out wr n o c HB.out
      obtain ⟨q, hq⟩ : ∃ q, p ⟨n, o, c⟩ = q := ⟨_, rfl⟩
      rw [hq] at hcall
      cases q with
      | true =>
        have HR : Hid (firstZ p L = (k : Int)) := Lib.hid (firstZ_here HA.out HX.out hq)
        clear hq
        go_wp2_with (go_at_fn g; refine hcall.mono ?_; rintro e w' ⟨rfl, hb'⟩)
        go_ret
        exact ⟨ret_int HR.out.symm, HB.out.trans (hb'.mono HB.out.size)⟩
      | false =>
        have HR : Hid (k + 1 ≤ firstN p L) := Lib.hid (first_step HA.out HX.out hq)
        clear hq
        go_wp2_with (go_at_fn g; refine hcall.mono ?_; rintro e w' ⟨rfl, hb'⟩)
        go_roundw
        case rel => exact ⟨k + 1, by omega, by go_num, HR, Lib.hid (HB.out.trans (hb'.mono HB.out.size))⟩
        case measure => simp [intOf]; omega
    · have HR : Hid (firstZ p L = -1) := Lib.hid (firstZ_none HA.out (by rw [HLN.out]; omega))
      go_wp2
      go_ret
      exact ⟨ret_int HR.out.symm, HB.out⟩
set_option maxHeartbeats 4000000 in
set_option maxRecDepth 100000 in
theorem containsD_any (g : Nat) (lb : Array Value) (p : DefD → Bool) (eg : ∀ args w, (callFunc g args).run Tryz.prog w = .ok (.enter g args) w) (a : Option Addr) (len cap : Nat) (L : List DefD) (w : World) (h : DefRow w a len cap L) (hp : PredD g lb p w) :
    Calls Tryz.prog 73 #[.slice a len cap, .func (.func g) #[] lb] w fun e w' => e = .returned (.bool (decide (0 ≤ firstZ p L))) ∧ Below w.heap.size w w' := by
  have hcall := indexD_any g lb p eg a len cap L w h hp
  clear h hp
  obtain ⟨q, hq⟩ : ∃ q, firstZ p L = q := ⟨_, rfl⟩
  rw [hq] at hcall ⊢
  clear hq
  go_enter Tryz.func73, Tryz.ntmps73
  go_wp2_with (go_at_call 104; refine hcall.mono ?_; rintro e w' ⟨rfl, hb'⟩)
  all_goals (go_ret; exact ⟨rfl, hb'⟩)
end Go.Proofs.YtkfmengdffpcnaaGreatDoor
namespace Go.Proofs.YtkfmengdffpcnaaGreatDoor
open Go.RowKit
theorem stayS {w W : World} {b : Nat} {v : Value} (h : w.cell? ⟨b, 0, none⟩ = some v) (hp : b < w.heap.size) (hb : Below w.heap.size w W) : W.cell? ⟨b, 0, none⟩ = some v ∧ b < W.heap.size := ⟨(hb.cell (p := ⟨b, 0, none⟩) hp).trans h, Nat.lt_of_lt_of_le hp hb.size⟩
set_option maxHeartbeats 4000000 in
set_option maxRecDepth 100000 in
theorem pred_own (s : ByteArray) (b : Nat) (w : World) (hb : b < w.heap.size) (hc : w.cell? ⟨b, 0, none⟩ = some (.string s)) : PredD 94 #[.pointer (some ⟨b, 0, none⟩)] (isOwn s.toList) w := fun W n o c hw => by
  obtain ⟨hc2, hb2⟩ := stayS hc hb hw
  clear hc hb hw
  show Calls Tryz.prog 94 #[.agg #[.string n, .string o, .int .i64 c], .pointer (some ⟨b, 0, none⟩)] W _
  obtain ⟨q, hq⟩ : ∃ q, (n.toList == s.toList) = q := ⟨_, rfl⟩
  obtain ⟨r, hr⟩ : ∃ q, (o.toList == s.toList) = q := ⟨_, rfl⟩
  have HR : Hid (isOwn s.toList ⟨n, o, c⟩ = (r && q)) := Lib.hid (by unfold isOwn; dsimp only; rw [hq, hr])
  cases q <;> cases r
  all_goals
    go_enter Tryz.func94, Tryz.ntmps94
    go_wp2
    go_ret
    exact ⟨ret_bool HR.out.symm, below_desk _ _⟩
set_option maxHeartbeats 4000000 in
set_option maxRecDepth 100000 in
theorem pred_is (l s : ByteArray) (b b' : Nat) (w : World) (hb : b < w.heap.size) (hc : w.cell? ⟨b, 0, none⟩ = some (.string s)) (hb' : b' < w.heap.size) (hc' : w.cell? ⟨b', 0, none⟩ = some (.string l)) : PredD 95 #[.pointer (some ⟨b, 0, none⟩), .pointer (some ⟨b', 0, none⟩)] (isIs l.toList s.toList) w := fun W n o c hw => by
  obtain ⟨hc2, hb2⟩ := stayS hc hb hw
  obtain ⟨hc3, hb3⟩ := stayS hc' hb' hw
  clear hc hb hw hc' hb'
  show Calls Tryz.prog 95 #[.agg #[.string n, .string o, .int .i64 c], .pointer (some ⟨b, 0, none⟩), .pointer (some ⟨b', 0, none⟩)] W _
  obtain ⟨q, hq⟩ : ∃ q, (n.toList == s.toList) = q := ⟨_, rfl⟩
  obtain ⟨r, hr⟩ : ∃ q, (o.toList == l.toList) = q := ⟨_, rfl⟩
  have HR : Hid (isIs l.toList s.toList ⟨n, o, c⟩ = (r && q)) := Lib.hid (by unfold isIs; dsimp only; rw [hq, hr])
  cases q <;> cases r
  all_goals
    go_enter Tryz.func95, Tryz.ntmps95
    go_wp2
    go_ret
    exact ⟨ret_bool HR.out.symm, below_desk _ _⟩
def isLike (n : ByteArray) (c : Int) (x : DefD) : Bool := x.name.toList == n.toList || x.cls == c
set_option maxHeartbeats 4000000 in
set_option maxRecDepth 100000 in
theorem pred_like (n0 o0 : ByteArray) (c0 : Int) (b : Nat) (w : World) (hx : XBox w b n0 o0 c0) : PredD 74 #[.pointer (some ⟨b, 0, none⟩)] (isLike n0 c0) w := fun W n o c hw => by
  have hy := hx.keep hw
  have hb2 := hy.lt
  have hc0 := hy.c0
  have hc2 := hy.c2
  clear hx hw hy
  show Calls Tryz.prog 74 #[.agg #[.string n, .string o, .int .i64 c], .pointer (some ⟨b, 0, none⟩)] W _
  obtain ⟨q, hq⟩ : ∃ q, (n.toList == n0.toList) = q := ⟨_, rfl⟩
  obtain ⟨r, hr⟩ : ∃ q, (c == c0) = q := ⟨_, rfl⟩
  have HR : Hid (isLike n0 c0 ⟨n, o, c⟩ = (q || r)) := Lib.hid (by unfold isLike; dsimp only; rw [hq, hr])
  cases q <;> cases r
  all_goals
    go_enter Tryz.func74, Tryz.ntmps74
    go_wp2
    go_ret
    exact ⟨ret_bool HR.out.symm, below_desk _ _⟩
set_option maxHeartbeats 4000000 in
set_option maxRecDepth 100000 in
theorem pred_waits (n0 : ByteArray) (k0 : Int) (b : Nat) (w : World) (hx : TBox9 w b n0 k0) : PredD 76 #[.pointer (some ⟨b, 0, none⟩)] (isName n0.toList) w := fun W n o c hw => by
  have hy := hx.keep hw
  have hb2 := hy.lt
  have hc0 := hy.c0
  clear hx hw hy
  show Calls Tryz.prog 76 #[.agg #[.string n, .string o, .int .i64 c], .pointer (some ⟨b, 0, none⟩)] W _
  obtain ⟨q, hq⟩ : ∃ q, (n.toList == n0.toList) = q := ⟨_, rfl⟩
  have HR : Hid (isName n0.toList ⟨n, o, c⟩ = q) := Lib.hid hq
  go_enter Tryz.func76, Tryz.ntmps76
  go_wp2
  go_ret
  exact ⟨ret_bool HR.out.symm, below_desk _ _⟩
end Go.Proofs.YtkfmengdffpcnaaGreatDoor
namespace Go.Proofs.YtkfmengdffpcnaaGreatDoor
open Go.RowKit
def okS (n o : ByteArray) (c : Int) : Bool := customL n.toList && (o.toList == n.toList || knownL o.toList) && decide (0 ≤ c) && decide (c < 12)
theorem DefRow.take {w : World} {a : Option Addr} {len cap : Nat} {L : List DefD} (h : DefRow w a len cap L) {k : Nat} (hk : k ≤ len) : DefRow w a k cap (L.take k) := by
  have h1 := h.row.hcap
  refine ⟨⟨?_, by omega, h.row.hmax, fun x hx => h.row.henc x (List.mem_of_mem_take hx), ?_⟩, fun x hx => h.ok x (List.mem_of_mem_take hx), h.hnil⟩
  · rw [List.length_take, h.row.hlen]; omega
  · rcases h.row.cells with h0 | ⟨b, off, ha, hb, hc⟩
    · exact .inl (by omega)
    · refine .inr ⟨b, off, ha, hb, fun i x j v hx hv => hc i x j v ?_ hv⟩
      rw [List.getElem?_take] at hx
      split at hx
      · exact hx
      · cases hx
theorem like_taken {L : List DefD} {k : Nat} {n o : ByteArray} {c : Int} (hx : L[k]? = some ⟨n, o, c⟩) : (namedZ L n.toList == (k : Int) && classedZ L c == (k : Int)) = !decide (0 ≤ firstZ (isLike n c) (L.take k)) := by
  rcases firstZ_cases (isLike n c) (L.take k) with ⟨h1, h2⟩ | ⟨j, y, h1, h2, h3, _⟩
  · have hn : ∀ (j : Nat) y, j < k → L[j]? = some y → isLike n c y = false := fun j y hj hy => h2 y (List.mem_of_getElem? (i := j) (by rw [List.getElem?_take, if_pos hj]; exact hy))
    have e1 : namedZ L n.toList = (k : Int) := firstZ_is hx (by unfold isName; simp) fun j y hj hy => by
      have := hn j y hj hy
      unfold isLike at this
      unfold isName
      revert this
      cases y.name.toList == n.toList <;> simp
    have e2 : classedZ L c = (k : Int) := firstZ_is hx (by unfold isCls; simp) fun j y hj hy => by
      have := hn j y hj hy
      unfold isLike at this
      unfold isCls
      revert this
      cases y.cls == c <;> simp
    rw [h1, e1, e2]
    simp
  · obtain ⟨hj, hy⟩ : j < k ∧ L[j]? = some y := by
      rw [List.getElem?_take] at h2
      split at h2
      · exact ⟨by assumption, h2⟩
      · cases h2
    rw [h1, decide_eq_true (by omega : (0 : Int) ≤ (j : Int))]
    unfold isLike at h3
    rcases (Bool.or_eq_true _ _).mp h3 with h4 | h4
    · have : namedZ L n.toList ≠ (k : Int) := fun e => by
        have h5 : ¬ (k ≤ firstN (isName n.toList) L) := fun h6 => by
          have := first_here (p := isName n.toList) (L := L) (k := j) (x := y)
          have h7 : firstN (isName n.toList) L ≤ j := by
            have := List.not_of_lt_findIdx (p := isName n.toList) (xs := L) (i := j)
            by_cases h8 : j < firstN (isName n.toList) L
            · have h9 := this h8
              obtain ⟨hl, hg⟩ := List.getElem?_eq_some_iff.1 hy
              rw [hg] at h9
              unfold isName at h9
              rw [h4] at h9
              cases h9
            · omega
          omega
        unfold namedZ firstZ at e
        split at e
        · exact h5 (by omega)
        · omega
      rw [beq_eq_false_iff_ne.2 this]
      rfl
    · have : classedZ L c ≠ (k : Int) := fun e => by
        have h5 : ¬ (k ≤ firstN (isCls c) L) := fun h6 => by
          have h7 : firstN (isCls c) L ≤ j := by
            have := List.not_of_lt_findIdx (p := isCls c) (xs := L) (i := j)
            by_cases h8 : j < firstN (isCls c) L
            · have h9 := this h8
              obtain ⟨hl, hg⟩ := List.getElem?_eq_some_iff.1 hy
              rw [hg] at h9
              unfold isCls at h9
              rw [h4] at h9
              cases h9
            · omega
          omega
        unfold classedZ firstZ at e
        split at e
        · exact h5 (by omega)
        · omega
      rw [beq_eq_false_iff_ne.2 this, Bool.and_false]
      rfl
theorem okD_parts {L : List DefD} {k : Nat} {n o : ByteArray} {c : Int} (hx : L[k]? = some ⟨n, o, c⟩) : okD L k ⟨n, o, c⟩ = (okS n o c && !decide (0 ≤ firstZ (isLike n c) (L.take k))) := by
  rw [← like_taken hx]
  unfold okD okS
  dsimp only
  have : decide (c ≤ 11) = decide (c < 12) := decide_eq_decide.2 (by omega)
  rw [this]
  simp only [Bool.and_assoc]
set_option maxHeartbeats 8000000 in
set_option maxRecDepth 100000 in
theorem maystand_any (n o : ByteArray) (c : Int) (w : World) (hn : n.size ≤ maxLen) :
    Calls Tryz.prog 75 #[.agg #[.string n, .string o, .int .i64 c]] w fun e w' => e = .returned (.bool (okS n o c)) ∧ Below w.heap.size w w' := by
  obtain ⟨q1, hq1⟩ : ∃ q, customL n.toList = q := ⟨_, rfl⟩
  obtain ⟨q2, hq2⟩ : ∃ q, knownL o.toList = q := ⟨_, rfl⟩
  obtain ⟨e1, he1⟩ : ∃ q, (o.toList == n.toList) = q := ⟨_, rfl⟩
  have CU : Hid (∀ V, Calls Tryz.prog 77 #[.string n] V fun e w' => e = .returned (.bool q1) ∧ Below V.heap.size V w') := Lib.hid (fun V => by
    have h := custom_any n V hn
    rwa [hq1] at h)
  have KN : Hid (∀ V, Calls Tryz.prog 105 #[.string o] V fun e w' => e = .returned (.bool q2) ∧ Below V.heap.size V w') := Lib.hid (fun V => by
    have h := known_any o V
    rw [hq2] at h
    exact h.mono (fun e w' h => ⟨h.1, by rw [← h.2]; exact Below.refl _ _⟩))
  have HO : Hid (okS n o c = (q1 && (e1 || q2) && decide (0 ≤ c) && decide (c < 12))) := Lib.hid (by unfold okS; rw [hq1, hq2, he1])
  have XX := Lib.hid (XBox.new w n o c)
  have HB := Lib.hid (below_desk w (.cells #[.string n, .string o, .int .i64 c] 64))
  have x0 := XX.out.c0
  have x1 := XX.out.c1
  have x2 := XX.out.c2
  have HV := Lib.hid (Below.refl (w.alloc (.cells #[.string n, .string o, .int .i64 c] 64)).heap.size (w.alloc (.cells #[.string n, .string o, .int .i64 c] 64)))
  clear hq1 hq2
  have fin : ∀ V, Below (w.alloc (.cells #[.string n, .string o, .int .i64 c] 64)).heap.size (w.alloc (.cells #[.string n, .string o, .int .i64 c] 64)) V → Below w.heap.size w V := fun V h => HB.out.trans (h.mono HB.out.size)
  have FIN := Lib.hid fin
  clear fin
  cases q1 with
  | false =>
    have HR : Hid (okS n o c = false) := Lib.hid (by rw [HO.out]; rfl)
    go_enter Tryz.func75, Tryz.ntmps75
    go_wp2_with (first
                    | (go_at_call 77; (with_reducible refine (CU.out _).mono ?_); rintro e w5 ⟨rfl, hb⟩; (have HV := Lib.hid (HV.out.trans (hb.mono HV.out.size)); clear x0 x1 x2 hb; have x0 := (XX.out.keep HV.out).c0; have x1 := (XX.out.keep HV.out).c1; have x2 := (XX.out.keep HV.out).c2))
                    | (go_at_call 105; (with_reducible refine (KN.out _).mono ?_); rintro e w5 ⟨rfl, hb⟩; (have HV := Lib.hid (HV.out.trans (hb.mono HV.out.size)); clear x0 x1 x2 hb; have x0 := (XX.out.keep HV.out).c0; have x1 := (XX.out.keep HV.out).c1; have x2 := (XX.out.keep HV.out).c2)))
    go_ret
    exact ⟨ret_bool HR.out.symm, FIN.out _ HV.out⟩
  | true =>
    cases e1 <;> cases q2 <;> by_cases d0 : 0 ≤ c <;> by_cases d1 : c < 12
    all_goals first | (exfalso; omega) | skip
    all_goals
      have HR : Hid (okS n o c = _) := Lib.hid (HO.out.trans (by rw [show decide (0 ≤ c) = _ from (by first | exact decide_eq_true d0 | exact decide_eq_false d0), show decide (c < 12) = _ from (by first | exact decide_eq_true d1 | exact decide_eq_false d1)]))
      go_enter Tryz.func75, Tryz.ntmps75
      go_wp2_with (first
                      | (go_at_call 77; (with_reducible refine (CU.out _).mono ?_); rintro e w5 ⟨rfl, hb⟩; (have HV := Lib.hid (HV.out.trans (hb.mono HV.out.size)); clear x0 x1 x2 hb; have x0 := (XX.out.keep HV.out).c0; have x1 := (XX.out.keep HV.out).c1; have x2 := (XX.out.keep HV.out).c2))
                      | (go_at_call 105; (with_reducible refine (KN.out _).mono ?_); rintro e w5 ⟨rfl, hb⟩; (have HV := Lib.hid (HV.out.trans (hb.mono HV.out.size)); clear x0 x1 x2 hb; have x0 := (XX.out.keep HV.out).c0; have x1 := (XX.out.keep HV.out).c1; have x2 := (XX.out.keep HV.out).c2)))
      go_ret
      exact ⟨ret_bool (by rw [HR.out]; first | rfl | (simp; try omega)), FIN.out _ HV.out⟩
end Go.Proofs.YtkfmengdffpcnaaGreatDoor
