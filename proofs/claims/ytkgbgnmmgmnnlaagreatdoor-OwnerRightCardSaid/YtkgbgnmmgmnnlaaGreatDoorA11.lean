/- Texts joined in build order: ForestFit5 ForestOnce ForestWays. -/
import Derived.Test.YtkgbgnmmgmnnlaaGreatDoorA06
import Derived.Test.YtkgbgnmmgmnnlaaGreatDoorA07
import Derived.Test.YtkgbgnmmgmnnlaaGreatDoorA01
import Derived.Test.YtkgbgnmmgmnnlaaGreatDoorA08
namespace Go.Proofs.YtkgbgnmmgmnnlaaGreatDoor
open Go.RowKit
def fitsB (F : List Core) (i : Int) (x : Core) : Bool := fieldsB x && docB F i x && kidsB F i x && shadowB F i x
structure FKeep (w W : World) (a : Option Addr) (len cap : Nat) (L : List NodeD) (x : NodeD) : Prop where
  row : NodeRow W a len cap L
  ok : NodeOk W x
  below : Below w.heap.size w W
theorem FKeep.keep {w W W2 : World} {a : Option Addr} {len cap : Nat} {L : List NodeD} {x : NodeD} (h : FKeep w W a len cap L x) (hb : Below W.heap.size W W2) : FKeep w W2 a len cap L x := ⟨h.row.below hb, h.ok.below hb, h.below.trans (hb.mono h.below.size)⟩
set_option maxHeartbeats 8000000 in
set_option maxRecDepth 100000 in
theorem fits_any (a : Option Addr) (len cap : Nat) (L : List NodeD) (n : Nat) (x : NodeD) (w : World) (h : NodeRow w a len cap L) (hx : L[n]? = some x) :
    Calls Tryz.prog 41 #[.slice a len cap, .int .i64 n] w fun e w' => e = .returned (.bool (fitsB (coreL L) n x.core)) ∧ Below w.heap.size w w' := by
  have hl := h.len64
  have hnl : n < len := by rw [← h.hlen]; exact (List.getElem?_eq_some_iff.1 hx).1
  obtain ⟨b, off, x', rfl, hb, hx', hc, hok⟩ := h.get hnl
  obtain rfl : x = x' := Option.some.inj (hx.symm.trans hx')
  have RW : Hid (FKeep w w (some ⟨b, off, none⟩) len cap L x) := Lib.hid ⟨h, hok, Below.refl _ _⟩
  obtain ⟨c0, c1, c2, c3, c4, c5, c6, c7, c8, c9⟩ := hc
  have C1 : Hid (∀ W, NodeOk W x → Calls Tryz.prog 73 #[nodVal x] W fun e w' => e = .returned (.bool (fieldsB x.core)) ∧ Below W.heap.size W w') := Lib.hid (fun W h => fieldsFit_any x W h)
  have C2 : Hid (∀ W, NodeRow W (some ⟨b, off, none⟩) len cap L → Calls Tryz.prog 74 #[.slice (some ⟨b, off, none⟩) len cap, .int .i64 n] W fun e w' => e = .returned (.bool (docB (coreL L) n x.core)) ∧ W = w') := Lib.hid (fun W h => docFits_any _ len cap L n x W h hx)
  have C3 : Hid (∀ W, NodeRow W (some ⟨b, off, none⟩) len cap L → Calls Tryz.prog 75 #[.slice (some ⟨b, off, none⟩) len cap, .int .i64 n] W fun e w' => e = .returned (.bool (kidsB (coreL L) n x.core)) ∧ Below W.heap.size W w') := Lib.hid (fun W h => kidsFit_any _ len cap L n x W h hx)
  have C4 : Hid (∀ W, NodeRow W (some ⟨b, off, none⟩) len cap L → Calls Tryz.prog 76 #[.slice (some ⟨b, off, none⟩) len cap, .int .i64 n] W fun e w' => e = .returned (.bool (shadowB (coreL L) n x.core)) ∧ Below W.heap.size W w') := Lib.hid (fun W h => shadowFits_any _ len cap L n x W h hx)
  have HR : Hid (fitsB (coreL L) n x.core = (fieldsB x.core && docB (coreL L) n x.core && kidsB (coreL L) n x.core && shadowB (coreL L) n x.core)) := Lib.hid rfl
  clear h hok hx hx' hb
  generalize fitsB (coreL L) n x.core = R at HR ⊢
  generalize fieldsB x.core = b1 at HR C1
  generalize docB (coreL L) n x.core = b2 at HR C2
  generalize kidsB (coreL L) n x.core = b3 at HR C3
  generalize shadowB (coreL L) n x.core = b4 at HR C4
  cases b1
  · go_enter Tryz.func41, Tryz.ntmps41
    go_wp2_with (first
                    | (go_at_call 73; (refine (C1.out _ RW.out.ok).mono ?_); rintro e w1 ⟨rfl, hb⟩; have RW := Lib.hid (RW.out.keep hb); clear hb)
                    | (go_at_call 74; (refine (C2.out _ RW.out.row).mono ?_); rintro e w1 ⟨rfl, rfl⟩)
                    | (go_at_call 75; (refine (C3.out _ RW.out.row).mono ?_); rintro e w1 ⟨rfl, hb⟩; have RW := Lib.hid (RW.out.keep hb); clear hb)
                    | (go_at_call 76; (refine (C4.out _ RW.out.row).mono ?_); rintro e w1 ⟨rfl, hb⟩; have RW := Lib.hid (RW.out.keep hb); clear hb))
    go_ret
    exact ⟨ret_bool HR.out.symm, RW.out.below⟩
  cases b2
  · go_enter Tryz.func41, Tryz.ntmps41
    go_wp2_with (first
                    | (go_at_call 73; (refine (C1.out _ RW.out.ok).mono ?_); rintro e w1 ⟨rfl, hb⟩; have RW := Lib.hid (RW.out.keep hb); clear hb)
                    | (go_at_call 74; (refine (C2.out _ RW.out.row).mono ?_); rintro e w1 ⟨rfl, rfl⟩)
                    | (go_at_call 75; (refine (C3.out _ RW.out.row).mono ?_); rintro e w1 ⟨rfl, hb⟩; have RW := Lib.hid (RW.out.keep hb); clear hb)
                    | (go_at_call 76; (refine (C4.out _ RW.out.row).mono ?_); rintro e w1 ⟨rfl, hb⟩; have RW := Lib.hid (RW.out.keep hb); clear hb))
    go_ret
    exact ⟨ret_bool HR.out.symm, RW.out.below⟩
  cases b3
  · go_enter Tryz.func41, Tryz.ntmps41
    go_wp2_with (first
                    | (go_at_call 73; (refine (C1.out _ RW.out.ok).mono ?_); rintro e w1 ⟨rfl, hb⟩; have RW := Lib.hid (RW.out.keep hb); clear hb)
                    | (go_at_call 74; (refine (C2.out _ RW.out.row).mono ?_); rintro e w1 ⟨rfl, rfl⟩)
                    | (go_at_call 75; (refine (C3.out _ RW.out.row).mono ?_); rintro e w1 ⟨rfl, hb⟩; have RW := Lib.hid (RW.out.keep hb); clear hb)
                    | (go_at_call 76; (refine (C4.out _ RW.out.row).mono ?_); rintro e w1 ⟨rfl, hb⟩; have RW := Lib.hid (RW.out.keep hb); clear hb))
    go_ret
    exact ⟨ret_bool HR.out.symm, RW.out.below⟩
  cases b4
  · go_enter Tryz.func41, Tryz.ntmps41
    go_wp2_with (first
                    | (go_at_call 73; (refine (C1.out _ RW.out.ok).mono ?_); rintro e w1 ⟨rfl, hb⟩; have RW := Lib.hid (RW.out.keep hb); clear hb)
                    | (go_at_call 74; (refine (C2.out _ RW.out.row).mono ?_); rintro e w1 ⟨rfl, rfl⟩)
                    | (go_at_call 75; (refine (C3.out _ RW.out.row).mono ?_); rintro e w1 ⟨rfl, hb⟩; have RW := Lib.hid (RW.out.keep hb); clear hb)
                    | (go_at_call 76; (refine (C4.out _ RW.out.row).mono ?_); rintro e w1 ⟨rfl, hb⟩; have RW := Lib.hid (RW.out.keep hb); clear hb))
    go_ret
    exact ⟨ret_bool HR.out.symm, RW.out.below⟩
  · go_enter Tryz.func41, Tryz.ntmps41
    go_wp2_with (first
                    | (go_at_call 73; (refine (C1.out _ RW.out.ok).mono ?_); rintro e w1 ⟨rfl, hb⟩; have RW := Lib.hid (RW.out.keep hb); clear hb)
                    | (go_at_call 74; (refine (C2.out _ RW.out.row).mono ?_); rintro e w1 ⟨rfl, rfl⟩)
                    | (go_at_call 75; (refine (C3.out _ RW.out.row).mono ?_); rintro e w1 ⟨rfl, hb⟩; have RW := Lib.hid (RW.out.keep hb); clear hb)
                    | (go_at_call 76; (refine (C4.out _ RW.out.row).mono ?_); rintro e w1 ⟨rfl, hb⟩; have RW := Lib.hid (RW.out.keep hb); clear hb))
    go_ret
    exact ⟨ret_bool HR.out.symm, RW.out.below⟩
end Go.Proofs.YtkgbgnmmgmnnlaaGreatDoor
namespace Go.Proofs.YtkgbgnmmgmnnlaaGreatDoor
open Go.RowKit
def allK (F : List Core) : List Int := F.flatMap (·.kids)
def namedAt (F : List Core) (i : Nat) (x : Core) : Bool := decide (hasZ (allK F) i = 1) == (x.parent != -1)
def namedB (F : List Core) : Bool := F.zipIdx.all (fun p => namedAt F p.2 p.1)
def kidsUp (F : List Core) (k : Nat) (l : List Int) (j : Nat) : List Int := allK (F.take k) ++ l.take j
theorem hasZ_app (A B : List Int) (n : Int) : hasZ (A ++ B) n = hasZ A n + hasZ B n := by unfold hasZ; exact List.countP_append
theorem kidsUp_step {F : List Core} {k j : Nat} {l : List Int} {z : Int} (h : l[j]? = some z) (n : Int) : hasZ (kidsUp F k l (j + 1)) n = hasZ (kidsUp F k l j) n + if z == n then 1 else 0 := by
  unfold kidsUp
  rw [hasZ_app, hasZ_app, hasZ_step h]
  omega
theorem kidsUp_next {F : List Core} {k : Nat} {x : Core} (h : F[k]? = some x) {j : Nat} (hj : x.kids.length ≤ j) (l : List Int) : kidsUp F k x.kids j = kidsUp F (k + 1) l 0 := by
  obtain ⟨hl, hg⟩ := List.getElem?_eq_some_iff.1 h
  unfold kidsUp allK
  rw [List.take_of_length_le hj, List.take_succ_eq_append_getElem hl, hg]
  simp
theorem allK_len {F : List Core} {b : Nat} (h : ∀ x ∈ F, x.kids.length ≤ b) : (allK F).length ≤ F.length * b := by
  unfold allK
  induction F with
  | nil => simp
  | cons x r ih =>
    have h1 := h x (by simp)
    have h2 := ih (fun y hy => h y (by simp [hy]))
    rw [List.flatMap_cons, List.length_append, List.length_cons, Nat.add_mul]
    omega
theorem hasZ_len (L : List Int) (n : Int) : hasZ L n ≤ L.length := List.countP_le_length
abbrev encI (z : Int) : Value := .int .i64 z
structure Counts (w W : World) (g len : Nat) (K : List Int) (T : List Int) : Prop where
  below : Below w.heap.size w W
  row : ORow encI W g T
  hl : T.length = len
  at_ : ∀ i : Nat, i < len → T[i]? = some (hasZ K i : Int)
theorem Counts.keep {w W W2 : World} {g len : Nat} {K T : List Int} (h : Counts w W g len K T) (hb : Below W.heap.size W W2) : Counts w W2 g len K T := ⟨h.below.trans (hb.mono h.below.size), h.row.keep hb, h.hl, h.at_⟩
theorem Counts.more {w W : World} {g len : Nat} {K K2 T : List Int} (h : Counts w W g len K T) (hg : w.heap.size ≤ g) {m : Nat} (hm : m < len) {c : Nat} (hc : hasZ K m = c) (hK : ∀ n : Int, hasZ K2 n = hasZ K n + if (m : Int) == n then 1 else 0) :
    Counts w (W.setCell ⟨g, m, none⟩ (.int .i64 ((c : Int) + 1))) g len K2 (T.set m ((c : Int) + 1)) := by
  refine ⟨h.below.setCell (p := ⟨g, m, none⟩) hg _, h.row.set (by rw [h.hl]; exact hm) _, by rw [List.length_set]; exact h.hl, fun i hi => ?_⟩
  by_cases e : m = i
  · subst e
    rw [List.getElem?_set_self (by rw [h.hl]; exact hm), hK, hc]
    simp
  · rw [List.getElem?_set_ne e, h.at_ i hi, hK]
    have : ((m : Int) == (i : Int)) = false := beq_eq_false_iff_ne.2 (by omega)
    rw [this]
    simp
theorem int_info : (Tryz.prog.info? 3).map (fun i => (i.zero, i.size, i.bytes)) = some (some (.int .i64 0), 1, 8) := by kernel_rfl
theorem kidsUp_all (F : List Core) : kidsUp F F.length [] 0 = allK F := by
  unfold kidsUp
  rw [List.take_length, List.take_nil, List.append_nil]
theorem kidsUp_len {F : List Core} (h1 : F.length ≤ 1000) (h2 : ∀ x ∈ F, x.kids.length ≤ 1000) {l : List Int} (hl : l.length ≤ 1000) (k j : Nat) : (kidsUp F k l j).length ≤ 1001000 := by
  unfold kidsUp
  rw [List.length_append]
  have a := allK_len (F := F.take k) (b := 1000) (fun x hx => h2 x (List.mem_of_mem_take hx))
  have b : (F.take k).length ≤ 1000 := Nat.le_trans (List.length_take_le' _ _) h1
  have c : (l.take j).length ≤ 1000 := Nat.le_trans (List.length_take_le' _ _) hl
  have d : (F.take k).length * 1000 ≤ 1000 * 1000 := Nat.mul_le_mul_right _ b
  omega
theorem smallF_core {L : List NodeD} (h : smallF L) : (coreL L).length ≤ 1000 ∧ ∀ c ∈ coreL L, c.kids.length ≤ 1000 := by
  refine ⟨by rw [coreL_len]; exact h.1, fun c hc => ?_⟩
  obtain ⟨x, hx, rfl⟩ := List.mem_map.1 hc
  exact (h.2 x hx).1
set_option maxHeartbeats 8000000 in
set_option maxRecDepth 100000 in
theorem namedOnce_any (a : Option Addr) (len cap : Nat) (L : List NodeD) (w : World) (h : NodeRow w a len cap L) (hk : ∀ x ∈ L, ∀ z ∈ x.core.kids, 0 ≤ z ∧ z < (len : Int)) (hs : smallF L) :
    Calls Tryz.prog 42 #[.slice a len cap] w fun e w' => e = .returned (.bool (namedB (coreL L))) ∧ Below w.heap.size w w' := by
  have HL := Lib.hid h.hlen
  have hlen : len ≤ 1000 := by rw [← h.hlen]; exact hs.1
  have HS := Lib.hid hs
  have HK := Lib.hid hk
  have HH := Lib.hid h
  clear hs hk h
  have hmk := run_make_row' (P := Tryz.prog) 27 3 (.int .i64 0) 8 Tryz.underlying27 int_info rfl .i64 .i64 len (by omega) (by omega)
  have C0 : Hid (Counts w (w.alloc (.cells (madeCells #[.int .i64 0] len) 3)) w.heap.size len (kidsUp (coreL L) 0 [] 0) (List.replicate len 0)) := Lib.hid (by
    refine ⟨below_box _ _, ORow.made w 3 (0 : Int) len, by rw [List.length_replicate], fun i hi => ?_⟩
    rw [List.getElem?_replicate, if_pos hi]
    rfl)
  go_enter Tryz.func42, Tryz.ntmps42
  go_wp2
  clear hmk
  go_loopw [15] (fun i wr => ∃ (k : Nat) (T : List Int), k ≤ len ∧ i = .int .i64 k ∧ Hid (Counts w wr w.heap.size len (kidsUp (coreL L) k [] 0) T)) (fun i _ => len - (intOf i).toNat)
  case atStart => exact ⟨0, _, Nat.zero_le _, rfl, C0⟩
  case round =>
    clear C0
    obtain ⟨k, T, hk, rfl, CT⟩ := hrel
    by_cases hlt : k < len
    · have RW := Lib.hid (HH.out.below CT.out.below)
      obtain ⟨b, off, x, rfl, hb, hx, hc, hok⟩ := RW.out.get hlt
      obtain ⟨c0, c1, c2, c3, c4, c5, c6, c7, c8, c9⟩ := hc
      have hn3 : x.core.data.size ≤ 9223372036854775807 := by have := hok.data; unfold maxLen at this; omega
      obtain ⟨kA, hkA⟩ : ∃ q, x.kA = q := ⟨_, rfl⟩
      have hks := (HH.out.ok x (List.mem_of_getElem? hx)).kids
      rw [hkA] at c6 hks
      have KR := Lib.hid hks
      have hkl := hks.len64
      have HXC : Hid ((coreL L)[k]? = some x.core) := Lib.hid (coreL_get hx)
      have HXM : Hid (∀ z ∈ x.core.kids, 0 ≤ z ∧ z < (len : Int)) := Lib.hid (HK.out x (List.mem_of_getElem? hx))
      have HXL : Hid (x.core.kids.length ≤ 1000) := Lib.hid (HS.out.2 x (List.mem_of_getElem? hx)).1
      have CT1 : Hid (Counts w (wr.alloc (nodB x)) w.heap.size len (kidsUp (coreL L) k x.core.kids 0) T) := Lib.hid (by
        have : kidsUp (coreL L) k x.core.kids 0 = kidsUp (coreL L) k [] 0 := by unfold kidsUp; simp
        rw [this]
        exact CT.out.keep (below_box _ _))
      unfold nodB at CT1
      rw [hkA] at CT1
      clear hks hok hx CT hb
      go_wp2
      clear c0 c1 c2 c3 c4 c5 c6 c7 c8 c9 hn3
      go_loopw [22] (fun i wr => ∃ (j : Nat) (T : List Int), j ≤ x.kN ∧ i = .int .i64 j ∧ Hid (Counts w wr w.heap.size len (kidsUp (coreL L) k x.core.kids j) T)) (fun i _ => x.kN - (intOf i).toNat)
      case atStart => exact ⟨0, T, Nat.zero_le _, rfl, CT1⟩
      case round =>
        clear CT1 T
        obtain ⟨j, T, hj, rfl, CT⟩ := hrel
        by_cases hjt : j < x.kN
        · obtain ⟨b2, off2, z, rfl, hb2, hz, hcz, hin⟩ := (KR.out.below CT.out.below).get hjt
          obtain ⟨hz0, hz1⟩ := HXM.out z (List.mem_of_getElem? hz)
          obtain ⟨m, rfl⟩ : ∃ m : Nat, z = m := ⟨z.toNat, by omega⟩
          have hm : m < len := by omega
          have HST := Lib.hid (kidsUp_step (F := coreL L) (k := k) hz)
          obtain ⟨c, hc⟩ : ∃ c, hasZ (kidsUp (coreL L) k x.core.kids j) m = c := ⟨_, rfl⟩
          have hcl : c ≤ 1001000 := by
            rw [← hc]
            exact Nat.le_trans (hasZ_len _ _) (kidsUp_len (smallF_core HS.out).1 (smallF_core HS.out).2 HXL.out k j)
          have hTc := CT.out.row.cell m _ (by rw [CT.out.at_ m hm, hc])
          have hTf := CT.out.row.free m
          unfold encI at hTc
          have CT2 := Lib.hid (CT.out.more (Nat.le_refl _) hm hc HST.out)
          clear hc hz hin hz0 hz1
          go_wp2
          go_roundw
          case rel => exact ⟨j + 1, _, by omega, by go_num, CT2⟩
          case measure => simp [intOf]; omega
        · have CT2 : Hid (Counts w wr w.heap.size len (kidsUp (coreL L) (k + 1) [] 0) T) := Lib.hid (by
            rw [← kidsUp_next HXC.out (j := j) (by have := KR.out.hlen; omega) []]
            exact CT.out)
          go_wp2
          go_roundw
          case rel => exact ⟨k + 1, _, by omega, by go_num, CT2⟩
          case measure => simp [intOf]; omega
    · have hkk : k = len := by omega
      subst hkk
      have CT2 : Hid (Counts w wr w.heap.size k (allK (coreL L)) T) := Lib.hid (by
        have h1 := CT.out
        have h2 : k = (coreL L).length := by rw [coreL_len, HL.out]
        rw [h2, kidsUp_all, ← h2] at h1
        exact h1)
      clear CT
      go_wp2
      go_loop [36] (fun i => ∃ j : Nat, j ≤ k ∧ i = .int .i64 j ∧ Hid (∀ (n : Nat) x, n < j → (coreL L)[n]? = some x → namedAt (coreL L) n x = true)) (fun i => k - (intOf i).toNat)
      case atStart => exact ⟨0, Nat.zero_le _, rfl, Lib.hid (fun n x hn _ => absurd hn (by omega))⟩
      case round =>
        obtain ⟨j, hj, rfl, HA⟩ := hrel
        by_cases hjt : j < k
        · obtain ⟨b, off, x, rfl, hb, hx, hc, hok⟩ := (HH.out.below CT2.out.below).get hjt
          have c5 := hc.c5
          obtain ⟨c, hcn⟩ : ∃ c, hasZ (allK (coreL L)) j = c := ⟨_, rfl⟩
          have hTc := CT2.out.row.cell j _ (by rw [CT2.out.at_ j hjt, hcn])
          unfold encI at hTc
          have HXC : Hid ((coreL L)[j]? = some x.core) := Lib.hid (coreL_get hx)
          have HN : Hid (namedAt (coreL L) j x.core = (decide ((c : Int) = 1) == (x.core.parent != -1))) := Lib.hid (by
            unfold namedAt
            rw [hcn]
            congr 1
            exact decide_eq_decide.2 (by omega))
          have STOP : Hid (∀ x, (coreL L)[j]? = some x → namedAt (coreL L) j x = false → namedB (coreL L) = false) := Lib.hid (fun x hx hq => by
            unfold namedB
            rw [List.all_eq_false]
            exact ⟨(x, j), List.mk_mem_zipIdx_iff_getElem?.2 hx, by simp [hq]⟩)
          have MORE : Hid (∀ x, (coreL L)[j]? = some x → namedAt (coreL L) j x = true → (∀ (n : Nat) x, n < j → (coreL L)[n]? = some x → namedAt (coreL L) n x = true) → ∀ (n : Nat) x, n < j + 1 → (coreL L)[n]? = some x → namedAt (coreL L) n x = true) := Lib.hid (fun x hx hq ha n y hn hy => by
            by_cases e : n = j
            · subst e
              rw [hx] at hy
              rw [← Option.some.inj hy]
              exact hq
            · exact ha n y (by omega) hy)
          clear hc hok hx hcn hb
          by_cases p1 : (c : Int) = 1 <;> by_cases p2 : x.core.parent = -1
          · have HQ : Hid (namedB (coreL L) = false) := Lib.hid (STOP.out _ HXC.out (by rw [HN.out, decide_eq_true p1, p2]; rfl))
            rw [p1] at hTc
            rw [p2] at c5
            clear p1 p2 HA
            go_wp2
            go_ret
            exact ⟨ret_bool HQ.out.symm, CT2.out.below⟩
          · have r2 : (x.core.parent != -1) = true := bne_iff_ne.2 p2
            have HQ : Hid (namedAt (coreL L) j x.core = true) := Lib.hid (by rw [HN.out, decide_eq_true p1, r2]; rfl)
            rw [p1] at hTc
            clear p1 p2
            go_wp2
            go_round
            case rel => exact ⟨j + 1, by omega, by go_num, Lib.hid (MORE.out _ HXC.out HQ.out HA.out)⟩
            case measure => simp [intOf]; omega
          · have r1 : ((c : Int) == 1) = false := beq_eq_false_iff_ne.2 p1
            have HQ : Hid (namedAt (coreL L) j x.core = true) := Lib.hid (by rw [HN.out, decide_eq_false p1, p2]; rfl)
            rw [p2] at c5
            clear p1 p2
            go_wp2
            go_round
            case rel => exact ⟨j + 1, by omega, by go_num, Lib.hid (MORE.out _ HXC.out HQ.out HA.out)⟩
            case measure => simp [intOf]; omega
          · have r1 : ((c : Int) == 1) = false := beq_eq_false_iff_ne.2 p1
            have r2 : (x.core.parent != -1) = true := bne_iff_ne.2 p2
            have HQ : Hid (namedB (coreL L) = false) := Lib.hid (STOP.out _ HXC.out (by rw [HN.out, decide_eq_false p1, r2]; rfl))
            clear p1 p2 HA
            go_wp2
            go_ret
            exact ⟨ret_bool HQ.out.symm, CT2.out.below⟩
        · have HR : Hid (namedB (coreL L) = true) := Lib.hid (by
            unfold namedB
            rw [List.all_eq_true]
            intro p hp
            have h1 := List.mk_mem_zipIdx_iff_getElem?.1 hp
            exact HA.out p.2 p.1 (by have := (List.getElem?_eq_some_iff.1 h1).1; rw [coreL_len, HL.out] at this; omega) h1)
          go_wp2
          go_ret
          exact ⟨ret_bool HR.out.symm, CT2.out.below⟩
end Go.Proofs.YtkgbgnmmgmnnlaaGreatDoor
namespace Go.Proofs.YtkgbgnmmgmnnlaaGreatDoor
open Go.RowKit
def upC (x : Core) : Int := if x.parent = -1 then x.host else x.parent
set_option maxHeartbeats 2000000 in
theorem up_any (x : NodeD) (w : World) : Calls Tryz.prog 77 #[nodVal x] w fun e w' => e = .returned (.int .i64 (upC x.core)) ∧ Below w.heap.size w w' := by
  obtain ⟨⟨kind, name, is, data, attrs, parent, kids, host, under, doc⟩, aA, aN, aC, kA, kN, kC⟩ := x
  by_cases hp : parent = -1
  · subst hp
    go_enter Tryz.func77, Tryz.ntmps77
    go_wp2
    go_ret
    exact ⟨rfl, below_box _ _⟩
  · have HR : Hid (upC ⟨kind, name, is, data, attrs, parent, kids, host, under, doc⟩ = parent) := Lib.hid (by unfold upC; dsimp only; rw [if_neg hp])
    go_enter Tryz.func77, Tryz.ntmps77
    go_wp2
    go_ret
    exact ⟨ret_int HR.out.symm, below_box _ _⟩
theorem nextUp_at {F : List Core} {k : Nat} {x : Core} (h : F[k]? = some x) : nextUp F (k : Int) = upC x := by
  unfold nextUp
  rw [getC_nat, h]
  rfl
abbrev encT (b : Bool) : Value := .bool b
structure Known (w W : World) (g len : Nat) (F : List Core) (E : List Bool) : Prop where
  below : Below w.heap.size w W
  row : ORow encT W g E
  hl : E.length = len
  sound : ∀ i : Nat, E[i]? = some true → endsZ (nextUp F) (len + 1) (i : Int) = true
theorem Known.keep {w W W2 : World} {g len : Nat} {F : List Core} {E : List Bool} (h : Known w W g len F E) (hb : Below W.heap.size W W2) : Known w W2 g len F E := ⟨h.below.trans (hb.mono h.below.size), h.row.keep hb, h.hl, h.sound⟩
theorem Known.more {w W : World} {g len : Nat} {F : List Core} {E : List Bool} (h : Known w W g len F E) (hg : w.heap.size ≤ g) {m : Nat} (hm : m < len) (he : endsZ (nextUp F) (len + 1) (m : Int) = true) : Known w (W.setCell ⟨g, m, none⟩ (.bool true)) g len F (E.set m true) := by
  refine ⟨h.below.setCell (p := ⟨g, m, none⟩) hg _, h.row.set (by rw [h.hl]; exact hm) _, by rw [List.length_set]; exact h.hl, fun i hi => ?_⟩
  by_cases e : m = i
  · subst e
    exact he
  · rw [List.getElem?_set_ne e] at hi
    exact h.sound i hi
def waysB (F : List Core) : Bool := (List.range F.length).all (fun i => endsZ (nextUp F) (F.length + 1) (i : Int))
def upIn (F : List Core) (len : Nat) : Prop := ∀ i : Int, 0 ≤ i → i < len → nextUp F i = -1 ∨ (0 ≤ nextUp F i ∧ nextUp F i < len)
theorem bool_info : (Tryz.prog.info? 4).map (fun i => (i.zero, i.size, i.bytes)) = some (some (.bool false), 1, 1) := by kernel_rfl
set_option maxHeartbeats 8000000 in
set_option maxRecDepth 100000 in
theorem waysEnd_any (a : Option Addr) (len cap : Nat) (L : List NodeD) (w : World) (h : NodeRow w a len cap L) (hk : upIn (coreL L) len) (hs : smallF L) :
    Calls Tryz.prog 43 #[.slice a len cap] w fun e w' => e = .returned (.bool (waysB (coreL L))) ∧ Below w.heap.size w w' := by
  have HL := Lib.hid h.hlen
  have HCL : Hid ((coreL L).length = len) := Lib.hid (by rw [coreL_len, HL.out])
  have hlen : len ≤ 1000 := by rw [← h.hlen]; exact hs.1
  have HK := Lib.hid hk
  have HH := Lib.hid h
  clear hs hk h
  have hmk := run_make_row' (P := Tryz.prog) 98 4 (.bool false) 1 Tryz.underlying98 bool_info rfl .i64 .i64 len (by omega) (by omega)
  have C0 : Hid (Known w (w.alloc (.cells (madeCells #[.bool false] len) 4)) w.heap.size len (coreL L) (List.replicate len false)) := Lib.hid (by
    refine ⟨below_box _ _, ORow.made (enc := encT) w 4 false len, by rw [List.length_replicate], fun i hi => ?_⟩
    have := List.mem_of_getElem? hi
    have := List.eq_of_mem_replicate this
    cases this)
  go_enter Tryz.func43, Tryz.ntmps43
  go_wp2
  clear hmk
  go_loopw [13] (fun i wr => ∃ (k : Nat) (E : List Bool), k ≤ len ∧ i = .int .i64 k ∧ Hid (Known w wr w.heap.size len (coreL L) E) ∧ Hid (∀ j : Nat, j < k → E[j]? = some true)) (fun i _ => len - (intOf i).toNat)
  case atStart => exact ⟨0, _, Nat.zero_le _, rfl, C0, Lib.hid (fun j hj => absurd hj (by omega))⟩
  case round =>
    clear C0
    obtain ⟨k, E, hk, rfl, KN, DN⟩ := hrel
    by_cases hlt : k < len
    · go_wp2
      go_loopw [5, 6] (fun s i wr => ∃ (t : Nat) (at_ : Int), t ≤ len ∧ s = .int .i64 t ∧ i = .int .i64 at_ ∧ (at_ = -1 ∨ (0 ≤ at_ ∧ at_ < len)) ∧ Hid (Known w wr w.heap.size len (coreL L) E) ∧ Hid (∀ m, endsZ (nextUp (coreL L)) (m + t) (k : Int) = endsZ (nextUp (coreL L)) m at_)) (fun s _ _ => len - (intOf s).toNat)
      case atStart => exact ⟨0, k, Nat.zero_le _, rfl, rfl, .inr ⟨by omega, by omega⟩, KN, Lib.hid (fun m => rfl)⟩
      case round =>
        clear KN
        obtain ⟨t, at_, ht, rfl, rfl, hat, KN, CH⟩ := hrel
        by_cases hC : ∃ m : Nat, at_ = m ∧ m < len ∧ E[m]? = some false
        · obtain ⟨m, rfl, hm, hE⟩ := hC
          obtain ⟨b, off, x, rfl, hb, hx, hc, hok⟩ := (HH.out.below KN.out.below).get hm
          obtain ⟨c0, c1, c2, c3, c4, c5, c6, c7, c8, c9⟩ := hc
          have hTc := KN.out.row.cell m _ hE
          unfold encT at hTc
          have UP : Hid (∀ W, Calls Tryz.prog 77 #[nodVal x] W fun e w' => e = .returned (.int .i64 (nextUp (coreL L) m)) ∧ Below W.heap.size W w') := Lib.hid (fun W => by
            rw [nextUp_at (coreL_get hx)]
            exact up_any x W)
          have CH2 : Hid (∀ q, endsZ (nextUp (coreL L)) (q + (t + 1)) (k : Int) = endsZ (nextUp (coreL L)) q (nextUp (coreL L) m)) := Lib.hid (fun q => by
            have h1 := CH.out (q + 1)
            rw [endsZ_step (by omega)] at h1
            rw [← h1]
            congr 1
            omega)
          have UIN := Lib.hid (HK.out m (by omega) (by omega))
          clear hx hok hE hb
          by_cases htl : t < len
          · go_wp2_with (go_at_call 77; (refine (UP.out _).mono ?_); rintro e w1 ⟨rfl, hb⟩; have KN := Lib.hid (KN.out.keep hb); clear hb)
            go_roundw
            case rel => exact ⟨t + 1, _, by omega, by go_num, rfl, UIN.out, KN, CH2⟩
            case measure => simp [intOf]; omega
          · have htt : t = len := by omega
            subst htt
            have HR : Hid (waysB (coreL L) = false) := Lib.hid (by
              unfold waysB
              rw [List.all_eq_false]
              refine ⟨k, List.mem_range.2 (by rw [HCL.out]; exact hlt), ?_⟩
              rw [HCL.out]
              intro he
              have h1 := ends_small (n := t) HK.out (.inr ⟨by omega, by omega⟩) he
              have h2 := CH.out 0
              rw [Nat.zero_add, h1] at h2
              have h3 : (m : Int) = -1 := beq_iff_eq.1 h2.symm
              omega)
            go_wp2
            go_ret
            exact ⟨ret_bool HR.out.symm, KN.out.below⟩
        have AB : at_ = -1 ∨ ∃ m : Nat, at_ = m ∧ m < len ∧ E[m]? = some true := by
          rcases hat with h | h
          · exact .inl h
          · refine .inr ⟨at_.toNat, by omega, by omega, ?_⟩
            have hl : at_.toNat < E.length := by rw [KN.out.hl]; omega
            cases hq : E[at_.toNat]'hl with
            | true => rw [List.getElem?_eq_getElem hl, hq]
            | false => exact absurd ⟨at_.toNat, by omega, by omega, by rw [List.getElem?_eq_getElem hl, hq]⟩ hC
        have EN : Hid (endsZ (nextUp (coreL L)) (len + 1) (k : Int) = true) := Lib.hid (by
          rcases AB with e | ⟨m, e, hm, he⟩
          · have h1 := CH.out 0
            rw [e, Nat.zero_add] at h1
            exact endsZ_le (by omega) (h1.trans rfl)
          · have h1 := CH.out (len + 1)
            rw [e, KN.out.sound m he] at h1
            exact endsZ_more _ _ (ends_small (n := len) HK.out (.inr ⟨by omega, by omega⟩) h1))
        clear hC CH hat
        rcases AB with rfl | ⟨m, rfl, hm, hE⟩
        rotate_left
        · have hTc := KN.out.row.cell m _ hE
          unfold encT at hTc
          clear hE
          go_wp2
          clear hTc hm
          (
            go_loopw [7] (fun i wr => ∃ (at_ : Int) (E : List Bool), i = .int .i64 at_ ∧ (at_ = -1 ∨ (0 ≤ at_ ∧ at_ < len)) ∧ Hid (Known w wr w.heap.size len (coreL L) E) ∧ Hid (∀ j : Nat, j < k → E[j]? = some true) ∧ Hid (at_ = (k : Int) ∨ E[k]? = some true) ∧ Hid (endsZ (nextUp (coreL L)) (len + 1) at_ = true)) (fun i _ => rankZ (nextUp (coreL L)) len (intOf i))
            case atStart => exact ⟨k, E, rfl, .inr ⟨by omega, by omega⟩, KN, DN, Lib.hid (.inl rfl), EN⟩
            case round =>
              clear KN DN EN
              obtain ⟨at_, E, rfl, hat, KN, DN, KK, EN⟩ := hrel
              by_cases hC : ∃ m : Nat, at_ = m ∧ m < len ∧ E[m]? = some false
              · obtain ⟨m, rfl, hm, hE⟩ := hC
                have hTc := KN.out.row.cell m _ hE
                have hTf := KN.out.row.free m
                unfold encT at hTc
                have KN2 := Lib.hid (KN.out.more (Nat.le_refl _) hm EN.out)
                obtain ⟨b, off, x, rfl, hb, hx, hc, hok⟩ := (HH.out.below KN2.out.below).get hm
                obtain ⟨c0, c1, c2, c3, c4, c5, c6, c7, c8, c9⟩ := hc
                have UP : Hid (∀ W, Calls Tryz.prog 77 #[nodVal x] W fun e w' => e = .returned (.int .i64 (nextUp (coreL L) m)) ∧ Below W.heap.size W w') := Lib.hid (fun W => by
                  rw [nextUp_at (coreL_get hx)]
                  exact up_any x W)
                have UIN := Lib.hid (HK.out m (by omega) (by omega))
                have EN2 : Hid (endsZ (nextUp (coreL L)) (len + 1) (nextUp (coreL L) m) = true) := Lib.hid (by
                  have := EN.out
                  rw [endsZ_step (by omega)] at this
                  exact endsZ_more _ _ this)
                have ME := Lib.hid (rankZ_up (n := len) (show (m : Int) ≠ -1 by omega) EN.out EN2.out)
                have DN2 : Hid (∀ j : Nat, j < k → (E.set m true)[j]? = some true) := Lib.hid (fun j hj => by
                  by_cases e : m = j
                  · subst e
                    rw [List.getElem?_set_self (by rw [KN.out.hl]; exact hm)]
                  · rw [List.getElem?_set_ne e]
                    exact DN.out j hj)
                have KK2 : Hid (nextUp (coreL L) m = (k : Int) ∨ (E.set m true)[k]? = some true) := Lib.hid (.inr (by
                  by_cases e : m = k
                  · subst e
                    rw [List.getElem?_set_self (by rw [KN.out.hl]; exact hm)]
                  · rw [List.getElem?_set_ne e]
                    rcases KK.out with h | h
                    · omega
                    · exact h))
                clear hx hok hE hb
                go_wp2_with (go_at_call 77; (refine (UP.out _).mono ?_); rintro e w1 ⟨rfl, hb⟩; have KN2 := Lib.hid (KN2.out.keep hb); clear hb)
                go_roundw
                case rel => exact ⟨_, _, rfl, UIN.out, KN2, DN2, KK2, EN2⟩
                case measure => simp [intOf]; rw [ME.out]; omega
              have AB : at_ = -1 ∨ ∃ m : Nat, at_ = m ∧ m < len ∧ E[m]? = some true := by
                rcases hat with h | h
                · exact .inl h
                · refine .inr ⟨at_.toNat, by omega, by omega, ?_⟩
                  have hl : at_.toNat < E.length := by rw [KN.out.hl]; omega
                  cases hq : E[at_.toNat]'hl with
                  | true => rw [List.getElem?_eq_getElem hl, hq]
                  | false => exact absurd ⟨at_.toNat, by omega, by omega, by rw [List.getElem?_eq_getElem hl, hq]⟩ hC
              have DN2 : Hid (∀ j : Nat, j < k + 1 → E[j]? = some true) := Lib.hid (fun j hj => by
                by_cases e : j = k
                · subst e
                  rcases KK.out with h | h
                  · rcases AB with h2 | ⟨m, h2, _, h3⟩
                    · omega
                    · have : m = j := by omega
                      rw [← this]
                      exact h3
                  · exact h
                · exact DN.out j (by omega))
              clear hC hat KK EN DN
              rcases AB with rfl | ⟨m, rfl, hm, hE⟩
              · go_wp2
                go_roundw
                case rel => exact ⟨k + 1, E, by omega, by go_num, KN, DN2⟩
                case measure => simp [intOf]; omega
              · have hTc := KN.out.row.cell m _ hE
                unfold encT at hTc
                clear hE
                go_wp2
                go_roundw
                case rel => exact ⟨k + 1, E, by omega, by go_num, KN, DN2⟩
                case measure => simp [intOf]; omega)
        · go_wp2
          (
            go_loopw [7] (fun i wr => ∃ (at_ : Int) (E : List Bool), i = .int .i64 at_ ∧ (at_ = -1 ∨ (0 ≤ at_ ∧ at_ < len)) ∧ Hid (Known w wr w.heap.size len (coreL L) E) ∧ Hid (∀ j : Nat, j < k → E[j]? = some true) ∧ Hid (at_ = (k : Int) ∨ E[k]? = some true) ∧ Hid (endsZ (nextUp (coreL L)) (len + 1) at_ = true)) (fun i _ => rankZ (nextUp (coreL L)) len (intOf i))
            case atStart => exact ⟨k, E, rfl, .inr ⟨by omega, by omega⟩, KN, DN, Lib.hid (.inl rfl), EN⟩
            case round =>
              clear KN DN EN
              obtain ⟨at_, E, rfl, hat, KN, DN, KK, EN⟩ := hrel
              by_cases hC : ∃ m : Nat, at_ = m ∧ m < len ∧ E[m]? = some false
              · obtain ⟨m, rfl, hm, hE⟩ := hC
                have hTc := KN.out.row.cell m _ hE
                have hTf := KN.out.row.free m
                unfold encT at hTc
                have KN2 := Lib.hid (KN.out.more (Nat.le_refl _) hm EN.out)
                obtain ⟨b, off, x, rfl, hb, hx, hc, hok⟩ := (HH.out.below KN2.out.below).get hm
                obtain ⟨c0, c1, c2, c3, c4, c5, c6, c7, c8, c9⟩ := hc
                have UP : Hid (∀ W, Calls Tryz.prog 77 #[nodVal x] W fun e w' => e = .returned (.int .i64 (nextUp (coreL L) m)) ∧ Below W.heap.size W w') := Lib.hid (fun W => by
                  rw [nextUp_at (coreL_get hx)]
                  exact up_any x W)
                have UIN := Lib.hid (HK.out m (by omega) (by omega))
                have EN2 : Hid (endsZ (nextUp (coreL L)) (len + 1) (nextUp (coreL L) m) = true) := Lib.hid (by
                  have := EN.out
                  rw [endsZ_step (by omega)] at this
                  exact endsZ_more _ _ this)
                have ME := Lib.hid (rankZ_up (n := len) (show (m : Int) ≠ -1 by omega) EN.out EN2.out)
                have DN2 : Hid (∀ j : Nat, j < k → (E.set m true)[j]? = some true) := Lib.hid (fun j hj => by
                  by_cases e : m = j
                  · subst e
                    rw [List.getElem?_set_self (by rw [KN.out.hl]; exact hm)]
                  · rw [List.getElem?_set_ne e]
                    exact DN.out j hj)
                have KK2 : Hid (nextUp (coreL L) m = (k : Int) ∨ (E.set m true)[k]? = some true) := Lib.hid (.inr (by
                  by_cases e : m = k
                  · subst e
                    rw [List.getElem?_set_self (by rw [KN.out.hl]; exact hm)]
                  · rw [List.getElem?_set_ne e]
                    rcases KK.out with h | h
                    · omega
                    · exact h))
                clear hx hok hE hb
                go_wp2_with (go_at_call 77; (refine (UP.out _).mono ?_); rintro e w1 ⟨rfl, hb⟩; have KN2 := Lib.hid (KN2.out.keep hb); clear hb)
                go_roundw
                case rel => exact ⟨_, _, rfl, UIN.out, KN2, DN2, KK2, EN2⟩
                case measure => simp [intOf]; rw [ME.out]; omega
              have AB : at_ = -1 ∨ ∃ m : Nat, at_ = m ∧ m < len ∧ E[m]? = some true := by
                rcases hat with h | h
                · exact .inl h
                · refine .inr ⟨at_.toNat, by omega, by omega, ?_⟩
                  have hl : at_.toNat < E.length := by rw [KN.out.hl]; omega
                  cases hq : E[at_.toNat]'hl with
                  | true => rw [List.getElem?_eq_getElem hl, hq]
                  | false => exact absurd ⟨at_.toNat, by omega, by omega, by rw [List.getElem?_eq_getElem hl, hq]⟩ hC
              have DN2 : Hid (∀ j : Nat, j < k + 1 → E[j]? = some true) := Lib.hid (fun j hj => by
                by_cases e : j = k
                · subst e
                  rcases KK.out with h | h
                  · rcases AB with h2 | ⟨m, h2, _, h3⟩
                    · omega
                    · have : m = j := by omega
                      rw [← this]
                      exact h3
                  · exact h
                · exact DN.out j (by omega))
              clear hC hat KK EN DN
              rcases AB with rfl | ⟨m, rfl, hm, hE⟩
              · go_wp2
                go_roundw
                case rel => exact ⟨k + 1, E, by omega, by go_num, KN, DN2⟩
                case measure => simp [intOf]; omega
              · have hTc := KN.out.row.cell m _ hE
                unfold encT at hTc
                clear hE
                go_wp2
                go_roundw
                case rel => exact ⟨k + 1, E, by omega, by go_num, KN, DN2⟩
                case measure => simp [intOf]; omega)
    · have hkk : k = len := by omega
      subst hkk
      have HR : Hid (waysB (coreL L) = true) := Lib.hid (by
        unfold waysB
        rw [List.all_eq_true, HCL.out]
        intro i hi
        exact KN.out.sound i (DN.out i (List.mem_range.1 hi)))
      go_wp2
      go_ret
      exact ⟨ret_bool HR.out.symm, KN.out.below⟩
end Go.Proofs.YtkgbgnmmgmnnlaaGreatDoor
