/- Package attr's Alike. -/
import Derived.Test.YtmofeddldcifbaaAttrTog2
import Derived.Test.YtmofeddldcifbaaAttrFns
import Derived.Maps.RangeWalk
namespace Go.Proofs.Ytmofeddldcifbaa
open Go.RowKit Go.Maps Go.WideMaps
/-- A step of a range over a map from strings to ints. -/
theorem wpList_next_si {P : Program} (w : World) {ops : Array Oper} {rest : List Oper} {o : Oper} {a : Act} {Q : Exit → Act → World → Prop} (hg : o.guard = none) (it : Operand) (hop : o.op = Op.next it false) (k e : TypeId) (K : Keyed P k) (hk : P.underlying k = some .string) (he : P.underlying e = some (.int .i64))
    (b r n : Nat) (D : DataW Unit) (left : Lit → Bool) (cnt : Nat) (hit : a.eval it = .pointer (some ⟨r, 0, none⟩)) (h : w.ranges P k (plainElem P e) b r n D left cnt)
    (hDone : cnt = 0 → (∀ kl, left kl = false) → wpList P ops Q rest (a.put o.dst (.tuple #[.bool false])) w)
    (hMore : ∀ (x : ByteArray) (c : Int) (w' : World) (cnt' : Nat), x.size ≤ maxLen → left (.string x.data.toList) = true → (∀ zd, D.atKey (.string x.data.toList) zd = .lit (.int .i64 c)) → w'.ranges P k (plainElem P e) b r n D (fun z => left z && !z.sameKey (.string x.data.toList)) cnt' → cnt' < cnt →
      w.grownBy w' (some r) → w'.heap.size = w.heap.size → (Instr.entry (.pointer (some ⟨r, 0, none⟩))).run P w' = .ok (.tuple #[.string x, .int .i64 c]) w' → wpList P ops Q rest (a.put o.dst (.tuple #[.bool true, .string x, .int .i64 c])) w') :
    wpList P ops Q (o :: rest) a w :=
  wpList_next_ranges w hg it hop k K (plainElem P e) Value.string (Value.int .i64) (fun key kl hkey => by obtain ⟨x, rfl, _⟩ := string_of_keyOf hk hkey; exact ⟨x, rfl⟩) (fun v y hv => by obtain ⟨c, rfl, _⟩ := plainElem_int_inv he hv; exact ⟨c, rfl⟩)
    b r n D left cnt hit h hDone (fun x c kl y w' cnt' hkey hlk hv hat hrg hlt hgr hsz hen => by
      obtain ⟨x', ex, rfl, hwx⟩ := string_of_keyOf hk hkey
      cases ex
      obtain ⟨c', ec, rfl, hwc⟩ := plainElem_int_inv he hv
      cases ec
      exact hMore x c w' cnt' hwx hlk hat hrg hlt hgr hsz hen)
theorem alike_wrong {L M : AL} (h : (rightA L && rightA M) = false) : alikeA L M = false := by unfold alikeA; rw [h]; rfl
theorem alike_len {L M : AL} (h : L.length ≠ M.length) : alikeA L M = false := by unfold alikeA; rw [decide_eq_false h]; simp
theorem alike_stop {L M : AL} {k : Nat} {x : ByteArray × ByteArray} (hx : L[k]? = some x) (h : pairIn M x = false) : alikeA L M = false := by
  unfold alikeA
  have : L.all (pairIn M) = false := by
    rw [List.all_eq_false]
    exact ⟨x, List.mem_of_getElem? hx, by simp [h]⟩
  rw [this, Bool.and_false]
theorem alike_all {L M : AL} (h1 : rightA L = true) (h2 : rightA M = true) (h3 : L.length = M.length) (h : ∀ (k : Nat) x, L[k]? = some x → pairIn M x = true) : alikeA L M = true := by
  unfold alikeA
  have : L.all (pairIn M) = true := by
    rw [List.all_eq_true]
    intro x hx
    obtain ⟨k, hk, he⟩ := List.mem_iff_getElem.1 hx
    exact h k x (by rw [List.getElem?_eq_getElem hk, he])
  rw [h1, h2, decide_eq_true h3, this]
  rfl
/-- What an entry of the map of places tells. -/
theorem entry_at {L : AL} {x : ByteArray} {c : Int} (hr : rightA L = true) (h : ∀ zd, (plD L L.length).atKey (.string x.data.toList) zd = .lit (.int .i64 c)) : ∃ (k : Nat) (v : ByteArray), c = (k : Int) ∧ k < L.length ∧ L[k]? = some (x, v) := by
  have h1 := has_true_of_atKey h
  have h2 := plD_has (L := L) x.data.toList L.length (Nat.le_refl _)
  rw [h1] at h2
  have h3 : atN L x.data.toList < L.length := of_decide_eq_true h2.symm
  have h4 := plD_at (L := L) x.data.toList (.lit (.int .i64 0)) L.length (Nat.le_refl _) (right_first hr) h3
  rw [h] at h4
  injection h4 with h4
  injection h4 with _ h4
  have h5 : keyIs x.data.toList (L[atN L x.data.toList]'h3) = true := List.findIdx_getElem (w := h3)
  refine ⟨atN L x.data.toList, (L[atN L x.data.toList]'h3).2, h4, h3, ?_⟩
  rw [List.getElem?_eq_getElem h3]
  congr 1
  refine Prod.ext (toList_inj ?_) rfl
  rw [tl x]
  exact beq_iff_eq.1 h5
set_option maxHeartbeats 16000000 in
set_option maxRecDepth 100000 in
theorem attralike_any (a a' : Option Addr) (len cap len' cap' : Nat) (L M : AL) (w : World) (h : AttrRow w a len cap L) (h' : AttrRow w a' len' cap' M) :
    Calls Try.prog 22 #[.slice a len cap, .slice a' len' cap'] w fun e w' => e = .returned (.bool (alikeA L M)) ∧ Below w.heap.size w w' := by
  have H := Lib.hid h
  have H' := Lib.hid h'
  obtain rfl := h.hlen
  obtain rfl := h'.hlen
  have hl := h.len64
  have hl' := h'.len64
  clear h h'
  by_cases hr : rightA L = true
  rotate_left
  · have hr : rightA L = false := by simpa using hr
    have HR := Lib.hid (alike_wrong (M := M) (show (rightA L && rightA M) = false by rw [hr]; rfl))
    have C1 : Hid (∀ W, Below w.heap.size w W → Calls Try.prog 30 #[.slice a L.length cap] W fun e w' => e = .returned (.tuple #[.map none, .bool false]) ∧ Below W.heap.size W w') := Lib.hid (fun W hb => placesWrong_any a L.length cap L W (H.out.below hb) hr)
    have C2 : Hid (∀ W, Below w.heap.size w W → Calls Try.prog 30 #[.slice a' M.length cap'] W fun e w' => ∃ m bo, e = .returned (.tuple #[m, .bool bo]) ∧ Below W.heap.size W w') := Lib.hid (fun W hb => by
      by_cases hr2 : rightA M = true
      · exact (placesRight_any a' M.length cap' M W (H'.out.below hb) hr2).mono fun e w' ⟨b, he, _, _, hb⟩ => ⟨_, _, he, hb⟩
      · exact (placesWrong_any a' M.length cap' M W (H'.out.below hb) (by simpa using hr2)).mono fun e w' ⟨he, hb⟩ => ⟨_, _, he, hb⟩)
    clear hr
    go_enter Try.func22, Try.ntmps22
    go_wp2_with (first
      | (go_at_call 30; ((with_reducible refine (C1.out _ (Below.refl _ _)).mono ?_); rintro e w1 ⟨rfl, HB⟩))
      | (go_at_call 30; ((with_reducible refine (C2.out _ HB).mono ?_); rintro e w2 ⟨m, bo, rfl, hb⟩; have HB2 := HB.trans (hb.mono HB.size))))
    go_ret
    exact ⟨ret_bool HR.out.symm, HB2⟩
  by_cases hr2 : rightA M = true
  rotate_left
  · have hr2 : rightA M = false := by simpa using hr2
    have HR := Lib.hid (alike_wrong (L := L) (show (rightA L && rightA M) = false by rw [hr2]; simp))
    have C1 : Hid (∀ W, Below w.heap.size w W → Calls Try.prog 30 #[.slice a L.length cap] W fun e w' => ∃ b, e = .returned (.tuple #[.map (some b), .bool true]) ∧ Below W.heap.size W w') := Lib.hid (fun W hb => (placesRight_any a L.length cap L W (H.out.below hb) hr).mono fun e w' ⟨b, he, _, _, hb⟩ => ⟨_, he, hb⟩)
    have C2 : Hid (∀ W, Below w.heap.size w W → Calls Try.prog 30 #[.slice a' M.length cap'] W fun e w' => e = .returned (.tuple #[.map none, .bool false]) ∧ Below W.heap.size W w') := Lib.hid (fun W hb => placesWrong_any a' M.length cap' M W (H'.out.below hb) hr2)
    clear hr hr2
    go_enter Try.func22, Try.ntmps22
    go_wp2_with (first
      | (go_at_call 30; ((with_reducible refine (C1.out _ (Below.refl _ _)).mono ?_); rintro e w1 ⟨b, rfl, HB⟩))
      | (go_at_call 30; ((with_reducible refine (C2.out _ HB).mono ?_); rintro e w2 ⟨rfl, hb⟩; have HB2 := HB.trans (hb.mono HB.size))))
    go_ret
    exact ⟨ret_bool HR.out.symm, HB2⟩
  have C1 : Hid (∀ W, Below w.heap.size w W → Calls Try.prog 30 #[.slice a L.length cap] W fun e w' => ∃ b, e = .returned (.tuple #[.map (some b), .bool true]) ∧ W.heap.size ≤ b ∧ ownsPl w' b L.length (plD L L.length) ∧ Below W.heap.size W w') := Lib.hid (fun W hb => placesRight_any a L.length cap L W (H.out.below hb) hr)
  have C2 : Hid (∀ W, Below w.heap.size w W → Calls Try.prog 30 #[.slice a' M.length cap'] W fun e w' => ∃ b, e = .returned (.tuple #[.map (some b), .bool true]) ∧ W.heap.size ≤ b ∧ ownsPl w' b M.length (plD M M.length) ∧ Below W.heap.size W w') := Lib.hid (fun W hb => placesRight_any a' M.length cap' M W (H'.out.below hb) hr2)
  have HR1 := Lib.hid hr
  have HR2 := Lib.hid hr2
  have SL := Lib.hid (plD_size (L := L) L.length (Nat.le_refl _) (right_first hr))
  have SM := Lib.hid (plD_size (L := M) M.length (Nat.le_refl _) (right_first hr2))
  clear hr hr2
  by_cases hll : L.length = M.length
  rotate_left
  · have HR := Lib.hid (alike_len hll)
    have z1 : ((L.length : Int) == (M.length : Int)) = false := beq_eq_false_iff_ne.2 (by omega)
    have z2 : ((L.length : Int) != (M.length : Int)) = true := by unfold bne; rw [z1]; rfl
    clear hll
    go_enter Try.func22, Try.ntmps22
    go_wp2_with (first
      | (go_at_call 30; ((with_reducible refine (C1.out _ (Below.refl _ _)).mono ?_); rintro e w1 ⟨b1, rfl, hb1, hown1, HB⟩; have HM1 := Lib.hid hown1; clear hown1))
      | (go_at_call 30; ((with_reducible refine (C2.out _ HB).mono ?_); rintro e w2 ⟨b2, rfl, hb2, hown2, hb⟩; have HM1' := Lib.hid (own_belowM HM1.out hb); have HB2 := HB.trans (hb.mono HB.size); clear hb; have q1 := fun ty => HM1'.out.len Try.underlying61 ty; have q2 := fun ty => hown2.len Try.underlying61 ty; rw [SL.out] at q1; rw [SM.out] at q2; clear hown2)))
    go_ret
    exact ⟨ret_bool HR.out.symm, HB2⟩
  have z1 : ((L.length : Int) == (M.length : Int)) = true := beq_iff_eq.2 (by omega)
  have z2 : ((L.length : Int) != (M.length : Int)) = false := by unfold bne; rw [z1]; rfl
  have HLL := Lib.hid hll
  clear hll
  go_enter Try.func22, Try.ntmps22
  go_wp2_with (first
    | (go_at_call 30; ((with_reducible refine (C1.out _ (Below.refl _ _)).mono ?_); rintro e w1 ⟨b1, rfl, hb1, hown1, HB⟩; have HM1 := Lib.hid hown1; clear hown1))
    | (go_at_call 30; ((with_reducible refine (C2.out _ HB).mono ?_); rintro e w2 ⟨b2, rfl, hb2, hown2, hb⟩; have HM1' := Lib.hid (own_belowM HM1.out hb); have hne := HM1.out.lt; have HB2 := HB.trans (hb.mono HB.size); clear hb; have q1 := fun ty => HM1'.out.len Try.underlying61 ty; have q2 := fun ty => hown2.len Try.underlying61 ty; rw [SL.out] at q1; rw [SM.out] at q2; have HM2 := Lib.hid hown2; clear hown2))
    | (at_range; refine wpList_range_own _ rfl _ 61 rfl 9 3 lawS Try.underlying61 _ b1 L.length _ rfl HM1'.out ?_; intro w0 hrg0 hg0 hs0))
  go_frame
  obtain ⟨r, hr⟩ : ∃ r, w2.heap.size = r := ⟨_, rfl⟩
  have hb2r : b2 < r := by rw [← hr]; exact HM2.out.lt
  have hwr : w.heap.size ≤ r := by rw [← hr]; exact HB2.size
  rw [hr] at hrg0 ⊢
  have HB0 := HB2.grown hg0 HB2.size (fun j hj => by cases hj)
  have HM0 := Lib.hid (HM2.out.kept hg0 (by simp))
  have HRG0 := Lib.hid hrg0
  clear hrg0 hg0 hs0 hr q1 q2 HM2 HM1 HM1' C1 C2 SL SM HB2
  go_loopw [9] (fun _ wr => ∃ (left : Lit → Bool) (cnt : Nat), Hid (wr.ranges Try.prog 9 (plainElem Try.prog 3) b1 r L.length (plD L L.length) left cnt) ∧
      Hid (∀ (k : Nat) x, L[k]? = some x → left (.string x.1.data.toList) = false → pairIn M x = true) ∧ Hid (ownsPl wr b2 M.length (plD M M.length)) ∧ Below w.heap.size w wr) (fun _ wr => wr.rangeLeft b1 r)
  case atStart =>
    refine ⟨_, _, HRG0, Lib.hid (fun k x hx hf => ?_), HM0, HB0⟩
    have h1 := plD_has (L := L) x.1.data.toList L.length (Nat.le_refl _)
    rw [hf] at h1
    have h2 : ¬ atN L x.1.data.toList < L.length := of_decide_eq_false h1.symm
    have h3 := atN_here_le hx
    rw [tl] at h3
    have := (List.getElem?_eq_some_iff.1 hx).1
    omega
  case round =>
    obtain ⟨left, cnt, HRG, HP, HMr, HBr⟩ := hrel
    go_wp2_with (first
      | (at_next; refine wpList_next_si _ rfl _ rfl 9 3 lawS Try.underlying9 Try.underlying3 b1 r L.length _ _ _ rfl HRG.out ?_ ?_))
    · intro hc0 hl0
      go_wp2
      go_ret
      exact ⟨ret_bool (alike_all HR1.out HR2.out HLL.out (fun k x hx => HP.out k x hx (hl0 _))).symm, HBr⟩
    · intro x c w3 cnt3 hx hlx hat hrg3 hlt hg3 hs3 hen
      obtain ⟨k, v, rfl, hk, hLk⟩ := entry_at HR1.out hat
      have HM3 := Lib.hid (HMr.out.kept hg3 (by intro e; injection e with e; omega))
      have HB3 := HBr.grown hg3 HBr.size (fun j hj => by injection hj with hj; omega)
      have HRG3 := Lib.hid hrg3
      have hkey := Lib.hid (keyS hx)
      have HX := Lib.hid hLk
      have HLT := Lib.hid hlt
      have HH := Lib.hid (plD_has (L := M) x.data.toList M.length (Nat.le_refl _))
      obtain ⟨bl, off, xn, xv, rfl, hblt, hx2, hc1, hc2, _, _⟩ := (H.out.below HB3).get hk
      rw [hLk] at hx2
      obtain ⟨rfl, rfl⟩ : x = xn ∧ v = xv := by injection hx2 with hx2; injection hx2 with h1 h2; exact ⟨h1, h2⟩
      clear hx hlx hat hrg3 hlt hg3 hs3 hx2 hLk hc1
      by_cases hp : atN M x.data.toList < M.length
      · have HHt : Hid (Maps.has (plD M M.length) (.string x.data.toList) = true) := Lib.hid (by rw [HH.out, decide_eq_true hp])
        have HA := Lib.hid (plD_at (L := M) x.data.toList (.lit (.int .i64 0)) M.length (Nat.le_refl _) (right_first HR2.out) hp)
        have hy0 : M[atN M x.toList]? = M[atN M x.data.toList]? := by rw [tl]
        obtain ⟨j, hj⟩ : ∃ j, atN M x.data.toList = j := ⟨_, rfl⟩
        rw [hj] at hp HA hy0
        obtain ⟨bm, offm, yn, yv, rfl, hmlt, hy, _, hd2, _, _⟩ := (H'.out.below HB3).get hp
        have HPI : Hid (pairIn M (x, v) = (yv.toList == v.toList)) := Lib.hid (by
          unfold pairIn
          rw [show M[atN M (x, v).1.toList]? = some (yn, yv) from hy0.trans hy])
        clear hy0 hy hj
        by_cases heq : v.toList = yv.toList
        · have s1 : (v.toList == yv.toList) = true := beq_iff_eq.2 heq
          have s2 : (v.toList != yv.toList) = false := by unfold bne; rw [s1]; rfl
          have HOK : Hid (pairIn M (x, v) = true) := Lib.hid (by rw [HPI.out, ← heq]; simp)
          clear heq
          go_wp2_with (first
            | (at_lookup; refine wpList_lookup_own_ok_int _ rfl _ _ 61 rfl 9 3 .i64 lawS Try.underlying61 Try.underlying3 (zeroI _) b2 M.length (plD M M.length) rfl HM3.out _ _ rfl hkey.out ?_; intro c hat hwc; simp only [HHt.out]; obtain rfl : (j : Int) = c := (by rw [HA.out] at hat; injection hat with hat; injection hat); clear hat hwc))
          go_quiet (fail)
          go_wp2
          go_roundw
          case rel =>
            refine ⟨(fun z => left z && !z.sameKey (.string x.data.toList)), cnt3, Lib.hid (by exact HRG3.out), Lib.hid (fun k' x' hx' hf => ?_), Lib.hid (by exact HM3.out), below_drewN HB3 _⟩
            by_cases hl0 : left (.string x'.1.data.toList) = true
            · have hs : (Lit.string x'.1.data.toList).sameKey (.string x.data.toList) = true := by
                have hf2 : (left (.string x'.1.data.toList) && !(Lit.string x'.1.data.toList).sameKey (.string x.data.toList)) = false := hf
                rw [hl0] at hf2
                simpa using hf2
              have he : x'.1.toList = x.toList := by
                have := WideAt.sameKey_eq hs
                injection this with this
                rw [tl, tl]
                exact this
              have e1 := right_first HR1.out k' x' (List.getElem?_eq_some_iff.1 hx').1 hx'
              have e2 := right_first HR1.out k (x, v) hk HX.out
              rw [he] at e1
              have e3 : k' = k := e1.symm.trans e2
              rw [e3, HX.out] at hx'
              rw [← Option.some.inj hx']
              exact HOK.out
            · exact HP.out k' x' hx' (by simpa using hl0)
          case measure =>
            have h1 := HRG3.out.left_eq
            have h2 := HRG.out.left_eq
            rw [h2, show (w3.drewN nq).rangeLeft b1 r = w3.rangeLeft b1 r from rfl, h1]
            exact HLT.out
        · have s1 : (v.toList == yv.toList) = false := beq_eq_false_iff_ne.2 heq
          have s2 : (v.toList != yv.toList) = true := by unfold bne; rw [s1]; rfl
          have HR := Lib.hid (alike_stop (M := M) HX.out (by rw [HPI.out]; exact beq_eq_false_iff_ne.2 (fun e => heq e.symm)))
          clear heq
          go_wp2_with (first
            | (at_lookup; refine wpList_lookup_own_ok_int _ rfl _ _ 61 rfl 9 3 .i64 lawS Try.underlying61 Try.underlying3 (zeroI _) b2 M.length (plD M M.length) rfl HM3.out _ _ rfl hkey.out ?_; intro c hat hwc; simp only [HHt.out]; obtain rfl : (j : Int) = c := (by rw [HA.out] at hat; injection hat with hat; injection hat); clear hat hwc))
          go_quiet (fail)
          go_wp2
          go_ret
          exact ⟨ret_bool HR.out.symm, below_drewN HB3 _⟩
      · have HHt : Hid (Maps.has (plD M M.length) (.string x.data.toList) = false) := Lib.hid (by rw [HH.out, decide_eq_false hp])
        have HR := Lib.hid (alike_stop (M := M) HX.out (by
          unfold pairIn
          rw [tl, List.getElem?_eq_none (by show M.length ≤ atN M x.data.toList; omega)]))
        clear hp
        go_wp2_with (first
          | (at_lookup; refine wpList_lookup_own_ok_int _ rfl _ _ 61 rfl 9 3 .i64 lawS Try.underlying61 Try.underlying3 (zeroI _) b2 M.length (plD M M.length) rfl HM3.out _ _ rfl hkey.out ?_; intro c hat hwc; simp only [HHt.out]; clear hat hwc))
        go_quiet (fail)
        go_wp2
        go_ret
        exact ⟨ret_bool HR.out.symm, below_drewN HB3 _⟩
end Go.Proofs.Ytmofeddldcifbaa
