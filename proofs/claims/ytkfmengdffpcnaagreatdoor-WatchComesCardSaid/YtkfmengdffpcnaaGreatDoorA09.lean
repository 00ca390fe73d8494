/- Texts joined in build order: ForestFit5 ForestOnce. -/
import Derived.Test.YtkfmengdffpcnaaGreatDoorA07
import Derived.Test.YtkfmengdffpcnaaGreatDoorA08
import Derived.Test.YtkfmengdffpcnaaGreatDoorA01
namespace Go.Proofs.YtkfmengdffpcnaaGreatDoor
open Go.RowKit
def fitsB (F : List Core) (i : Int) (x : Core) : Bool := fieldsB x && docB F i x && kidsB F i x && shadowB F i x
structure FKeep (w W : World) (a : Option Addr) (len cap : Nat) (L : List NodeD) (x : NodeD) : Prop where
  row : NodeRow W a len cap L
  ok : NodeOk W x
  below : Below w.heap.size w W
theorem FKeep.keep {w W W2 : World} {a : Option Addr} {len cap : Nat} {L : List NodeD} {x : NodeD} (h : FKeep w W a len cap L x) (hb : Below W.heap.size W W2) : FKeep w W2 a len cap L x := ⟨h.row.below hb, h.ok.below hb, h.below.trans (hb.mono h.below.size)⟩
set_option maxHeartbeats 8000000 in
set_option maxRecDepth 100000 in
theorem fits_any (a : Option Addr) (len cap : Nat) (L : List NodeD) (n : Nat) (x : NodeD) (w : World) (h : NodeRow w a len cap L) (hx : L[n]? = some x) :
    Calls Tryz.prog 42 #[.slice a len cap, .int .i64 n] w fun e w' => e = .returned (.bool (fitsB (coreL L) n x.core)) ∧ Below w.heap.size w w' := by
  have hl := h.len64
  have hnl : n < len := by rw [← h.hlen]; exact (List.getElem?_eq_some_iff.1 hx).1
  obtain ⟨b, off, x', rfl, hb, hx', hc, hok⟩ := h.get hnl
  obtain rfl : x = x' := Option.some.inj (hx.symm.trans hx')
  have RW : Hid (FKeep w w (some ⟨b, off, none⟩) len cap L x) := Lib.hid ⟨h, hok, Below.refl _ _⟩
  obtain ⟨c0, c1, c2, c3, c4, c5, c6, c7, c8, c9⟩ := hc
  have C1 : Hid (∀ W, NodeOk W x → Calls Tryz.prog 68 #[nodVal x] W fun e w' => e = .returned (.bool (fieldsB x.core)) ∧ Below W.heap.size W w') := Lib.hid (fun W h => fieldsFit_any x W h)
  have C2 : Hid (∀ W, NodeRow W (some ⟨b, off, none⟩) len cap L → Calls Tryz.prog 69 #[.slice (some ⟨b, off, none⟩) len cap, .int .i64 n] W fun e w' => e = .returned (.bool (docB (coreL L) n x.core)) ∧ W = w') := Lib.hid (fun W h => docFits_any _ len cap L n x W h hx)
  have C3 : Hid (∀ W, NodeRow W (some ⟨b, off, none⟩) len cap L → Calls Tryz.prog 70 #[.slice (some ⟨b, off, none⟩) len cap, .int .i64 n] W fun e w' => e = .returned (.bool (kidsB (coreL L) n x.core)) ∧ Below W.heap.size W w') := Lib.hid (fun W h => kidsFit_any _ len cap L n x W h hx)
  have C4 : Hid (∀ W, NodeRow W (some ⟨b, off, none⟩) len cap L → Calls Tryz.prog 71 #[.slice (some ⟨b, off, none⟩) len cap, .int .i64 n] W fun e w' => e = .returned (.bool (shadowB (coreL L) n x.core)) ∧ Below W.heap.size W w') := Lib.hid (fun W h => shadowFits_any _ len cap L n x W h hx)
  have HR : Hid (fitsB (coreL L) n x.core = (fieldsB x.core && docB (coreL L) n x.core && kidsB (coreL L) n x.core && shadowB (coreL L) n x.core)) := Lib.hid rfl
  clear h hok hx hx' hb
  generalize fitsB (coreL L) n x.core = R at HR ⊢
  generalize fieldsB x.core = b1 at HR C1
  generalize docB (coreL L) n x.core = b2 at HR C2
  generalize kidsB (coreL L) n x.core = b3 at HR C3
  generalize shadowB (coreL L) n x.core = b4 at HR C4
  cases b1
  · go_enter Tryz.func42, Tryz.ntmps42
    go_wp2_with (first
                    | (go_at_call 68; (refine (C1.out _ RW.out.ok).mono ?_); rintro e w1 ⟨rfl, hb⟩; have RW := Lib.hid (RW.out.keep hb); clear hb)
                    | (go_at_call 69; (refine (C2.out _ RW.out.row).mono ?_); rintro e w1 ⟨rfl, rfl⟩)
                    | (go_at_call 70; (refine (C3.out _ RW.out.row).mono ?_); rintro e w1 ⟨rfl, hb⟩; have RW := Lib.hid (RW.out.keep hb); clear hb)
                    | (go_at_call 71; (refine (C4.out _ RW.out.row).mono ?_); rintro e w1 ⟨rfl, hb⟩; have RW := Lib.hid (RW.out.keep hb); clear hb))
    go_ret
    exact ⟨ret_bool HR.out.symm, RW.out.below⟩
  cases b2
  · go_enter Tryz.func42, Tryz.ntmps42
    go_wp2_with (first
                    | (go_at_call 68; (refine (C1.out _ RW.out.ok).mono ?_); rintro e w1 ⟨rfl, hb⟩; have RW := Lib.hid (RW.out.keep hb); clear hb)
                    | (go_at_call 69; (refine (C2.out _ RW.out.row).mono ?_); rintro e w1 ⟨rfl, rfl⟩)
                    | (go_at_call 70; (refine (C3.out _ RW.out.row).mono ?_); rintro e w1 ⟨rfl, hb⟩; have RW := Lib.hid (RW.out.keep hb); clear hb)
                    | (go_at_call 71; (refine (C4.out _ RW.out.row).mono ?_); rintro e w1 ⟨rfl, hb⟩; have RW := Lib.hid (RW.out.keep hb); clear hb))
    go_ret
    exact ⟨ret_bool HR.out.symm, RW.out.below⟩
  cases b3
  · go_enter Tryz.func42, Tryz.ntmps42
    go_wp2_with (first
                    | (go_at_call 68; (refine (C1.out _ RW.out.ok).mono ?_); rintro e w1 ⟨rfl, hb⟩; have RW := Lib.hid (RW.out.keep hb); clear hb)
                    | (go_at_call 69; (refine (C2.out _ RW.out.row).mono ?_); rintro e w1 ⟨rfl, rfl⟩)
                    | (go_at_call 70; (refine (C3.out _ RW.out.row).mono ?_); rintro e w1 ⟨rfl, hb⟩; have RW := Lib.hid (RW.out.keep hb); clear hb)
                    | (go_at_call 71; (refine (C4.out _ RW.out.row).mono ?_); rintro e w1 ⟨rfl, hb⟩; have RW := Lib.hid (RW.out.keep hb); clear hb))
    go_ret
    exact ⟨ret_bool HR.out.symm, RW.out.below⟩
  cases b4
  · go_enter Tryz.func42, Tryz.ntmps42
    go_wp2_with (first
                    | (go_at_call 68; (refine (C1.out _ RW.out.ok).mono ?_); rintro e w1 ⟨rfl, hb⟩; have RW := Lib.hid (RW.out.keep hb); clear hb)
                    | (go_at_call 69; (refine (C2.out _ RW.out.row).mono ?_); rintro e w1 ⟨rfl, rfl⟩)
                    | (go_at_call 70; (refine (C3.out _ RW.out.row).mono ?_); rintro e w1 ⟨rfl, hb⟩; have RW := Lib.hid (RW.out.keep hb); clear hb)
                    | (go_at_call 71; (refine (C4.out _ RW.out.row).mono ?_); rintro e w1 ⟨rfl, hb⟩; have RW := Lib.hid (RW.out.keep hb); clear hb))
    go_ret
    exact ⟨ret_bool HR.out.symm, RW.out.below⟩
  · go_enter Tryz.func42, Tryz.ntmps42
    go_wp2_with (first
                    | (go_at_call 68; (refine (C1.out _ RW.out.ok).mono ?_); rintro e w1 ⟨rfl, hb⟩; have RW := Lib.hid (RW.out.keep hb); clear hb)
                    | (go_at_call 69; (refine (C2.out _ RW.out.row).mono ?_); rintro e w1 ⟨rfl, rfl⟩)
                    | (go_at_call 70; (refine (C3.out _ RW.out.row).mono ?_); rintro e w1 ⟨rfl, hb⟩; have RW := Lib.hid (RW.out.keep hb); clear hb)
                    | (go_at_call 71; (refine (C4.out _ RW.out.row).mono ?_); rintro e w1 ⟨rfl, hb⟩; have RW := Lib.hid (RW.out.keep hb); clear hb))
    go_ret
    exact ⟨ret_bool HR.out.symm, RW.out.below⟩
end Go.Proofs.YtkfmengdffpcnaaGreatDoor
namespace Go.Proofs.YtkfmengdffpcnaaGreatDoor
open Go.RowKit
def allK (F : List Core) : List Int := F.flatMap (·.kids)
def namedAt (F : List Core) (i : Nat) (x : Core) : Bool := decide (hasZ (allK F) i = 1) == (x.parent != -1)
def namedB (F : List Core) : Bool := F.zipIdx.all (fun p => namedAt F p.2 p.1)
def kidsUp (F : List Core) (k : Nat) (l : List Int) (j : Nat) : List Int := allK (F.take k) ++ l.take j
theorem hasZ_app (A B : List Int) (n : Int) : hasZ (A ++ B) n = hasZ A n + hasZ B n := by unfold hasZ; exact List.countP_append
theorem kidsUp_step {F : List Core} {k j : Nat} {l : List Int} {z : Int} (h : l[j]? = some z) (n : Int) : hasZ (kidsUp F k l (j + 1)) n = hasZ (kidsUp F k l j) n + if z == n then 1 else 0 := by
  unfold kidsUp
  rw [hasZ_app, hasZ_app, hasZ_step h]
  omega
theorem kidsUp_next {F : List Core} {k : Nat} {x : Core} (h : F[k]? = some x) {j : Nat} (hj : x.kids.length ≤ j) (l : List Int) : kidsUp F k x.kids j = kidsUp F (k + 1) l 0 := by
  obtain ⟨hl, hg⟩ := List.getElem?_eq_some_iff.1 h
  unfold kidsUp allK
  rw [List.take_of_length_le hj, List.take_succ_eq_append_getElem hl, hg]
  simp
theorem allK_len {F : List Core} {b : Nat} (h : ∀ x ∈ F, x.kids.length ≤ b) : (allK F).length ≤ F.length * b := by
  unfold allK
  induction F with
  | nil => simp
  | cons x r ih =>
    have h1 := h x (by simp)
    have h2 := ih (fun y hy => h y (by simp [hy]))
    rw [List.flatMap_cons, List.length_append, List.length_cons, Nat.add_mul]
    omega
theorem hasZ_len (L : List Int) (n : Int) : hasZ L n ≤ L.length := List.countP_le_length
abbrev encI (z : Int) : Value := .int .i64 z
structure Counts (w W : World) (g len : Nat) (K : List Int) (T : List Int) : Prop where
  below : Below w.heap.size w W
  row : ORow encI W g T
  hl : T.length = len
  at_ : ∀ i : Nat, i < len → T[i]? = some (hasZ K i : Int)
theorem Counts.keep {w W W2 : World} {g len : Nat} {K T : List Int} (h : Counts w W g len K T) (hb : Below W.heap.size W W2) : Counts w W2 g len K T := ⟨h.below.trans (hb.mono h.below.size), h.row.keep hb, h.hl, h.at_⟩
theorem Counts.more {w W : World} {g len : Nat} {K K2 T : List Int} (h : Counts w W g len K T) (hg : w.heap.size ≤ g) {m : Nat} (hm : m < len) {c : Nat} (hc : hasZ K m = c) (hK : ∀ n : Int, hasZ K2 n = hasZ K n + if (m : Int) == n then 1 else 0) :
    Counts w (W.setCell ⟨g, m, none⟩ (.int .i64 ((c : Int) + 1))) g len K2 (T.set m ((c : Int) + 1)) := by
  refine ⟨h.below.setCell (p := ⟨g, m, none⟩) hg _, h.row.set (by rw [h.hl]; exact hm) _, by rw [List.length_set]; exact h.hl, fun i hi => ?_⟩
  by_cases e : m = i
  · subst e
    rw [List.getElem?_set_self (by rw [h.hl]; exact hm), hK, hc]
    simp
  · rw [List.getElem?_set_ne e, h.at_ i hi, hK]
    have : ((m : Int) == (i : Int)) = false := beq_eq_false_iff_ne.2 (by omega)
    rw [this]
    simp
theorem int_info : (Tryz.prog.info? 3).map (fun i => (i.zero, i.size, i.bytes)) = some (some (.int .i64 0), 1, 8) := by kernel_rfl
theorem kidsUp_all (F : List Core) : kidsUp F F.length [] 0 = allK F := by
  unfold kidsUp
  rw [List.take_length, List.take_nil, List.append_nil]
theorem kidsUp_len {F : List Core} (h1 : F.length ≤ 1000) (h2 : ∀ x ∈ F, x.kids.length ≤ 1000) {l : List Int} (hl : l.length ≤ 1000) (k j : Nat) : (kidsUp F k l j).length ≤ 1001000 := by
  unfold kidsUp
  rw [List.length_append]
  have a := allK_len (F := F.take k) (b := 1000) (fun x hx => h2 x (List.mem_of_mem_take hx))
  have b : (F.take k).length ≤ 1000 := Nat.le_trans (List.length_take_le' _ _) h1
  have c : (l.take j).length ≤ 1000 := Nat.le_trans (List.length_take_le' _ _) hl
  have d : (F.take k).length * 1000 ≤ 1000 * 1000 := Nat.mul_le_mul_right _ b
  omega
theorem smallF_core {L : List NodeD} (h : smallF L) : (coreL L).length ≤ 1000 ∧ ∀ c ∈ coreL L, c.kids.length ≤ 1000 := by
  refine ⟨by rw [coreL_len]; exact h.1, fun c hc => ?_⟩
  obtain ⟨x, hx, rfl⟩ := List.mem_map.1 hc
  exact (h.2 x hx).1
set_option maxHeartbeats 8000000 in
set_option maxRecDepth 100000 in
theorem namedOnce_any (a : Option Addr) (len cap : Nat) (L : List NodeD) (w : World) (h : NodeRow w a len cap L) (hk : ∀ x ∈ L, ∀ z ∈ x.core.kids, 0 ≤ z ∧ z < (len : Int)) (hs : smallF L) :
    Calls Tryz.prog 43 #[.slice a len cap] w fun e w' => e = .returned (.bool (namedB (coreL L))) ∧ Below w.heap.size w w' := by
  have HL := Lib.hid h.hlen
  have hlen : len ≤ 1000 := by rw [← h.hlen]; exact hs.1
  have HS := Lib.hid hs
  have HK := Lib.hid hk
  have HH := Lib.hid h
  clear hs hk h
  have hmk := run_make_row' (P := Tryz.prog) 34 3 (.int .i64 0) 8 Tryz.underlying34 int_info rfl .i64 .i64 len (by omega) (by omega)
  have C0 : Hid (Counts w (w.alloc (.cells (madeCells #[.int .i64 0] len) 3)) w.heap.size len (kidsUp (coreL L) 0 [] 0) (List.replicate len 0)) := Lib.hid (by
    refine ⟨below_box _ _, ORow.made w 3 (0 : Int) len, by rw [List.length_replicate], fun i hi => ?_⟩
    rw [List.getElem?_replicate, if_pos hi]
    rfl)
  go_enter Tryz.func43, Tryz.ntmps43
  go_wp2
  clear hmk
  go_loopw [15] (fun i wr => ∃ (k : Nat) (T : List Int), k ≤ len ∧ i = .int .i64 k ∧ Hid (Counts w wr w.heap.size len (kidsUp (coreL L) k [] 0) T)) (fun i _ => len - (intOf i).toNat)
  case atStart => exact ⟨0, _, Nat.zero_le _, rfl, C0⟩
  case round =>
    clear C0
    obtain ⟨k, T, hk, rfl, CT⟩ := hrel
    by_cases hlt : k < len
    · have RW := Lib.hid (HH.out.below CT.out.below)
      obtain ⟨b, off, x, rfl, hb, hx, hc, hok⟩ := RW.out.get hlt
      obtain ⟨c0, c1, c2, c3, c4, c5, c6, c7, c8, c9⟩ := hc
      have hn3 : x.core.data.size ≤ 9223372036854775807 := by have := hok.data; unfold maxLen at this; omega
      obtain ⟨kA, hkA⟩ : ∃ q, x.kA = q := ⟨_, rfl⟩
      have hks := (HH.out.ok x (List.mem_of_getElem? hx)).kids
      rw [hkA] at c6 hks
      have KR := Lib.hid hks
      have hkl := hks.len64
      have HXC : Hid ((coreL L)[k]? = some x.core) := Lib.hid (coreL_get hx)
      have HXM : Hid (∀ z ∈ x.core.kids, 0 ≤ z ∧ z < (len : Int)) := Lib.hid (HK.out x (List.mem_of_getElem? hx))
      have HXL : Hid (x.core.kids.length ≤ 1000) := Lib.hid (HS.out.2 x (List.mem_of_getElem? hx)).1
      have CT1 : Hid (Counts w (wr.alloc (nodB x)) w.heap.size len (kidsUp (coreL L) k x.core.kids 0) T) := Lib.hid (by
        have : kidsUp (coreL L) k x.core.kids 0 = kidsUp (coreL L) k [] 0 := by unfold kidsUp; simp
        rw [this]
        exact CT.out.keep (below_box _ _))
      unfold nodB at CT1
      rw [hkA] at CT1
      clear hks hok hx CT hb
      go_wp2
      clear c0 c1 c2 c3 c4 c5 c6 c7 c8 c9 hn3
      go_loopw [22] (fun i wr => ∃ (j : Nat) (T : List Int), j ≤ x.kN ∧ i = .int .i64 j ∧ Hid (Counts w wr w.heap.size len (kidsUp (coreL L) k x.core.kids j) T)) (fun i _ => x.kN - (intOf i).toNat)
      case atStart => exact ⟨0, T, Nat.zero_le _, rfl, CT1⟩
      case round =>
        clear CT1 T
        obtain ⟨j, T, hj, rfl, CT⟩ := hrel
        by_cases hjt : j < x.kN
        · obtain ⟨b2, off2, z, rfl, hb2, hz, hcz, hin⟩ := (KR.out.below CT.out.below).get hjt
          obtain ⟨hz0, hz1⟩ := HXM.out z (List.mem_of_getElem? hz)
          obtain ⟨m, rfl⟩ : ∃ m : Nat, z = m := ⟨z.toNat, by omega⟩
          have hm : m < len := by omega
          have HST := Lib.hid (kidsUp_step (F := coreL L) (k := k) hz)
          obtain ⟨c, hc⟩ : ∃ c, hasZ (kidsUp (coreL L) k x.core.kids j) m = c := ⟨_, rfl⟩
          have hcl : c ≤ 1001000 := by
            rw [← hc]
            exact Nat.le_trans (hasZ_len _ _) (kidsUp_len (smallF_core HS.out).1 (smallF_core HS.out).2 HXL.out k j)
          have hTc := CT.out.row.cell m _ (by rw [CT.out.at_ m hm, hc])
          have hTf := CT.out.row.free m
          unfold encI at hTc
          have CT2 := Lib.hid (CT.out.more (Nat.le_refl _) hm hc HST.out)
          clear hc hz hin hz0 hz1
          go_wp2
          go_roundw
          case rel => exact ⟨j + 1, _, by omega, by go_num, CT2⟩
          case measure => simp [intOf]; omega
        · have CT2 : Hid (Counts w wr w.heap.size len (kidsUp (coreL L) (k + 1) [] 0) T) := Lib.hid (by
            rw [← kidsUp_next HXC.out (j := j) (by have := KR.out.hlen; omega) []]
            exact CT.out)
          go_wp2
          go_roundw
          case rel => exact ⟨k + 1, _, by omega, by go_num, CT2⟩
          case measure => simp [intOf]; omega
    · have hkk : k = len := by omega
      subst hkk
      have CT2 : Hid (Counts w wr w.heap.size k (allK (coreL L)) T) := Lib.hid (by
        have h1 := CT.out
        have h2 : k = (coreL L).length := by rw [coreL_len, HL.out]
        rw [h2, kidsUp_all, ← h2] at h1
        exact h1)
      clear CT
      go_wp2
      go_loop [36] (fun i => ∃ j : Nat, j ≤ k ∧ i = .int .i64 j ∧ Hid (∀ (n : Nat) x, n < j → (coreL L)[n]? = some x → namedAt (coreL L) n x = true)) (fun i => k - (intOf i).toNat)
      case atStart => exact ⟨0, Nat.zero_le _, rfl, Lib.hid (fun n x hn _ => absurd hn (by omega))⟩
      case round =>
        obtain ⟨j, hj, rfl, HA⟩ := hrel
        by_cases hjt : j < k
        · obtain ⟨b, off, x, rfl, hb, hx, hc, hok⟩ := (HH.out.below CT2.out.below).get hjt
          have c5 := hc.c5
          obtain ⟨c, hcn⟩ : ∃ c, hasZ (allK (coreL L)) j = c := ⟨_, rfl⟩
          have hTc := CT2.out.row.cell j _ (by rw [CT2.out.at_ j hjt, hcn])
          unfold encI at hTc
          have HXC : Hid ((coreL L)[j]? = some x.core) := Lib.hid (coreL_get hx)
          have HN : Hid (namedAt (coreL L) j x.core = (decide ((c : Int) = 1) == (x.core.parent != -1))) := Lib.hid (by
            unfold namedAt
            rw [hcn]
            congr 1
            exact decide_eq_decide.2 (by omega))
          have STOP : Hid (∀ x, (coreL L)[j]? = some x → namedAt (coreL L) j x = false → namedB (coreL L) = false) := Lib.hid (fun x hx hq => by
            unfold namedB
            rw [List.all_eq_false]
            exact ⟨(x, j), List.mk_mem_zipIdx_iff_getElem?.2 hx, by simp [hq]⟩)
          have MORE : Hid (∀ x, (coreL L)[j]? = some x → namedAt (coreL L) j x = true → (∀ (n : Nat) x, n < j → (coreL L)[n]? = some x → namedAt (coreL L) n x = true) → ∀ (n : Nat) x, n < j + 1 → (coreL L)[n]? = some x → namedAt (coreL L) n x = true) := Lib.hid (fun x hx hq ha n y hn hy => by
            by_cases e : n = j
            · subst e
              rw [hx] at hy
              rw [← Option.some.inj hy]
              exact hq
            · exact ha n y (by omega) hy)
          clear hc hok hx hcn hb
          by_cases p1 : (c : Int) = 1 <;> by_cases p2 : x.core.parent = -1
          · have HQ : Hid (namedB (coreL L) = false) := Lib.hid (STOP.out _ HXC.out (by rw [HN.out, decide_eq_true p1, p2]; rfl))
            rw [p1] at hTc
            rw [p2] at c5
            clear p1 p2 HA
            go_wp2
            go_ret
            exact ⟨ret_bool HQ.out.symm, CT2.out.below⟩
          · have r2 : (x.core.parent != -1) = true := bne_iff_ne.2 p2
            have HQ : Hid (namedAt (coreL L) j x.core = true) := Lib.hid (by rw [HN.out, decide_eq_true p1, r2]; rfl)
            rw [p1] at hTc
            clear p1 p2
            go_wp2
            go_round
            case rel => exact ⟨j + 1, by omega, by go_num, Lib.hid (MORE.out _ HXC.out HQ.out HA.out)⟩
            case measure => simp [intOf]; omega
          · have r1 : ((c : Int) == 1) = false := beq_eq_false_iff_ne.2 p1
            have HQ : Hid (namedAt (coreL L) j x.core = true) := Lib.hid (by rw [HN.out, decide_eq_false p1, p2]; rfl)
            rw [p2] at c5
            clear p1 p2
            go_wp2
            go_round
            case rel => exact ⟨j + 1, by omega, by go_num, Lib.hid (MORE.out _ HXC.out HQ.out HA.out)⟩
            case measure => simp [intOf]; omega
          · have r1 : ((c : Int) == 1) = false := beq_eq_false_iff_ne.2 p1
            have r2 : (x.core.parent != -1) = true := bne_iff_ne.2 p2
            have HQ : Hid (namedB (coreL L) = false) := Lib.hid (STOP.out _ HXC.out (by rw [HN.out, decide_eq_false p1, r2]; rfl))
            clear p1 p2 HA
            go_wp2
            go_ret
            exact ⟨ret_bool HQ.out.symm, CT2.out.below⟩
        · have HR : Hid (namedB (coreL L) = true) := Lib.hid (by
            unfold namedB
            rw [List.all_eq_true]
            intro p hp
            have h1 := List.mk_mem_zipIdx_iff_getElem?.1 hp
            exact HA.out p.2 p.1 (by have := (List.getElem?_eq_some_iff.1 h1).1; rw [coreL_len, HL.out] at this; omega) h1)
          go_wp2
          go_ret
          exact ⟨ret_bool HR.out.symm, CT2.out.below⟩
end Go.Proofs.YtkfmengdffpcnaaGreatDoor
