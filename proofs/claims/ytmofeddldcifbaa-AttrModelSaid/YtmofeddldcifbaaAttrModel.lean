/- The walk of the law AttrModel. -/
import Derived.Test.YtmofeddldcifbaaAttrRaw
import Derived.Test.YtmofeddldcifbaaAttrAwake
import Derived.Test.YtmofeddldcifbaaAttrFnsProof
import Derived.BigRegion
namespace Go.Proofs.Ytmofeddldcifbaa
open Go.RowKit
theorem one_back (b : UInt8) (z : Int) (hz : z = (b.toNat : Int)) (W : World) : (convert 49 9 (.slice (some ⟨W.heap.size, 0, none⟩) 1 1)).run Try.prog (W.alloc (.cells #[.int .u8 z] 5)) = .ok (.string (ofL [b])) (W.alloc (.cells #[.int .u8 z] 5)) := by
  have := run_convert_bytes_back (P := Try.prog) (W.alloc (.cells #[.int .u8 z] 5)) 49 9 5 ⟨W.heap.size, 0, none⟩ 1 [b] Try.underlying49 Try.underlying5 Try.underlying9 (fun j hj => by
    have hj0 : j = 0 := by simpa using hj
    subst hj0
    rw [Go.WideShapes.add_plain, Nat.zero_add, cell_of_row (W.alloc (.cells #[.int .u8 z] 5)) W.heap.size 0 _ 5 (0, 0) (heap_alloc_new W _)]
    rw [hz]
    rfl)
  exact this
theorem one_back_if (b : UInt8) (z : Int) (hz : z = (b.toNat : Int)) (W : World) (g : Nat) (h : W.cell? ⟨g, 0, none⟩ = some (.int .u8 z)) : (convert 49 9 (.slice (some ⟨g, 0, none⟩) 1 1)).run Try.prog W = .ok (.string (ofL [b])) W := by
  have := run_convert_bytes_back (P := Try.prog) W 49 9 5 ⟨g, 0, none⟩ 1 [b] Try.underlying49 Try.underlying5 Try.underlying9 (fun j hj => by
    have hj0 : j = 0 := by simpa using hj
    subst hj0
    rw [Go.WideShapes.add_plain, Nat.zero_add, h, hz]
    rfl)
  exact this
theorem u8_in {n : Int} (h1 : 0 ≤ n) (h2 : n ≤ 255) : IntKind.u8.wrap n = n := by rw [IntKind.wrap_u8]; omega
theorem int_info : (Try.prog.info? 3).map (fun i => (i.zero, i.size, i.bytes)) = some (some (.int .i64 0), 1, 8) := by kernel_rfl
theorem own_shape {w : World} {base : Nat} {e : TypeId} {size n : Nat} {v : Value} {xs : List Value} (h : w.ownsRow base e size v n xs) : ∃ a c, v = .slice a n c := by
  rcases h.2 with ⟨rfl, rfl⟩ | ⟨g, cap, cur, rfl, _⟩
  · exact ⟨_, _, rfl⟩
  · exact ⟨_, _, rfl⟩
theorem blk_free {w : World} {g : Nat} {cs : Array Value} {t : TypeId} (h : w.heap[g]? = some (.cells cs t (0, 0))) (j : Nat) : w.frozen? ⟨g, j, none⟩ = false := by simp [World.frozen?, h]
theorem hs_same {ks : List Nat} {k : Nat} (h : k ∈ ks) : (fun j => if j = k then true else decide (j ∈ ks)) = fun j => decide (j ∈ ks) := by
  funext j
  by_cases e : j = k
  · subst e; rw [if_pos rfl, decide_eq_true h]
  · rw [if_neg e]
theorem hs_add {ks : List Nat} {k : Nat} : (fun j => if j = k then true else decide (j ∈ ks)) = fun j => decide (j ∈ ks ++ [k]) := by
  funext j
  by_cases e : j = k
  · subst e; rw [if_pos rfl, decide_eq_true (by simp)]
  · rw [if_neg e, decide_eq_decide]; simp [e]
theorem hs_rem {ks : List Nat} {k : Nat} : (fun j => if j = k then false else decide (j ∈ ks)) = fun j => decide (j ∈ ks.filter (fun j => !decide (j = k))) := by
  funext j
  by_cases e : j = k
  · subst e; rw [if_pos rfl, decide_eq_false (by simp)]
  · rw [if_neg e, decide_eq_decide]; simp [e]
theorem hs_none {ks : List Nat} {k : Nat} (h : k ∉ ks) : (fun j => if j = k then false else decide (j ∈ ks)) = fun j => decide (j ∈ ks) := by
  funext j
  by_cases e : j = k
  · subst e; rw [if_pos rfl, decide_eq_false h]
  · rw [if_neg e]
/-- What the loop that compares reads, kept while memory is made. -/
theorem cmpKeep {Wc W w1 : World} {b1 o1 b2 o2 b3 o3 b4 o4 : Nat} {v1 v2 v3 v4 : Value} (l1 : b1 < Wc.heap.size) (l2 : b2 < Wc.heap.size) (l3 : b3 < Wc.heap.size) (l4 : b4 < Wc.heap.size)
    (h : W.cell? ⟨b1, o1, none⟩ = some v1 ∧ W.cell? ⟨b2, o2, none⟩ = some v2 ∧ W.cell? ⟨b3, o3, none⟩ = some v3 ∧ W.cell? ⟨b4, o4, none⟩ = some v4 ∧ Below Wc.heap.size Wc W) (hb : Below W.heap.size W w1) :
    w1.cell? ⟨b1, o1, none⟩ = some v1 ∧ w1.cell? ⟨b2, o2, none⟩ = some v2 ∧ w1.cell? ⟨b3, o3, none⟩ = some v3 ∧ w1.cell? ⟨b4, o4, none⟩ = some v4 ∧ Below Wc.heap.size Wc w1 := by
  obtain ⟨h1, h2, h3, h4, h5⟩ := h
  have hs := h5.size
  refine ⟨?_, ?_, ?_, ?_, h5.trans (hb.mono hs)⟩
  · rw [hb.cell (p := ⟨b1, o1, none⟩) (show b1 < _ by omega)]; exact h1
  · rw [hb.cell (p := ⟨b2, o2, none⟩) (show b2 < _ by omega)]; exact h2
  · rw [hb.cell (p := ⟨b3, o3, none⟩) (show b3 < _ by omega)]; exact h3
  · rw [hb.cell (p := ⟨b4, o4, none⟩) (show b4 < _ by omega)]; exact h4
theorem tab_get {ks : List Nat} {vs : Nat → ByteArray} {j kj : Nat} (h : ks[j]? = some kj) : (tabA ks vs)[j]? = some (ofL [letB kj], vs kj) := by
  unfold tabA
  rw [List.getElem?_map, h]
  rfl
theorem own_at {α : Type} {enc : α → List Value} {size : Nat} {w : World} {g : Nat} (hg : w.heap.size = g) (e : TypeId) (x : α) (cs : Array Value) (hx : enc x = cs.toList) (hs : cs.size = size) : SRow enc size (w.alloc (.cells cs e)) (some ⟨g, 0, none⟩) 1 1 [x] := by
  subst hg
  exact own_one w e x cs hx hs
theorem raw_ord {w wr : World} {g n : Nat} {o : Value} {os : List Nat} {hs : Nat → Bool} {vs : Nat → ByteArray} (h : Raw w wr g o os hs vs) (hn : os.length = n) : wr.ownsRow (g + 2) 3 1 o n (os.flatMap encI) := by
  have := h.ord
  rwa [hn] at this
theorem filter_out {ks : List Nat} {k : Nat} (h : k ∉ ks) : ks.filter (fun j => !decide (j = k)) = ks := by
  rw [List.filter_eq_self]
  intro j hj
  have : j ≠ k := fun e => h (e ▸ hj)
  simp [this]
theorem tog_there {ks : List Nat} {vs : Nat → ByteArray} {k : Nat} (h : FineT ks vs) (hk : k < 26) (hm : k ∈ ks) : togA (tabA ks vs) (letN k) 0 = tabA (ks.filter (fun j => !decide (j = k))) vs ∧ togB (tabA ks vs) (letN k) 0 = false ∧ togE (tabA ks vs) (letN k) 0 = 0 := by
  have h1 := tab_right h
  have h2 := letN_right hk
  have h3 : hasA (tabA ks vs) (letN k) = true := by rw [tab_has h hk, decide_eq_true hm]
  refine ⟨?_, ?_, ?_⟩
  · unfold togA; rw [h1, h2, h3, ← tab_rem h hk]; rfl
  · unfold togB; rw [h1, h2, h3]; rfl
  · unfold togE; rw [h1, h2, h3]; rfl
theorem tog_not {ks : List Nat} {vs : Nat → ByteArray} {k : Nat} (h : FineT ks vs) (hk : k < 26) (hm : k ∉ ks) : togA (tabA ks vs) (letN k) 0 = tabA (ks ++ [k]) (upd vs k ⟨#[]⟩) ∧ togB (tabA ks vs) (letN k) 0 = true ∧ togE (tabA ks vs) (letN k) 0 = 0 := by
  have h1 := tab_right h
  have h2 := letN_right hk
  have h3 : hasA (tabA ks vs) (letN k) = false := by rw [tab_has h hk, decide_eq_false hm]
  have hz : (ofL []).size ≤ 200 := by decide
  have h4 := tab_setE (v := ofL []) h hk hz
  have h5 := tab_set (v := ofL []) h hk hz
  rw [if_neg hm] at h5
  refine ⟨?_, ?_, ?_⟩
  · unfold togA; rw [h1, h2, h3]; exact h5
  · unfold togB; rw [h1, h2, h3, h4]; rfl
  · unfold togE; rw [h1, h2, h3]; exact h4
theorem AttrRow.new_alloc {w : World} {a : Option Addr} {len cap : Nat} {L : AL} (h : AttrRow w a len cap L) (B : Obj) : AttrRow (w.alloc B) a len cap L := h.below ((Below.refl _ _).alloc (Nat.le_refl _) B)
set_option maxHeartbeats 64000000 in
set_option maxRecDepth 100000 in
theorem attrModel_walk (F : AttrFns) (a0 : Option Addr) (len0 cap0 : Nat) (L0 : List DoIt) (w : World)
    (h0 : SRow encD 3 w a0 len0 cap0 L0) (hf : ∀ x ∈ L0, fineD x) :
    Calls Try.prog 4 #[.slice a0 len0 cap0] w fun e w' => e = .returned (.bool true) ∧ Below w.heap.size w w' := by
  have HB : Below w.heap.size w w := Below.refl _ _
  have H0 := Lib.hid h0
  have HFD := Lib.hid hf
  have AW := Lib.hid (fun W => awake2_any F W)
  have hl0 := h0.len64
  obtain ⟨i0, hi0, hz0, hz1, hz2⟩ := info_parts int_info
  have CR : Hid (∀ W a len cap (vs : Nat → ByteArray) ks, FineT ks vs → AttrRow W a len cap (tabA ks vs) → Calls Try.prog 18 #[.slice a len cap] W fun e w' => e = .returned (.bool true) ∧ Below W.heap.size W w') := Lib.hid (fun W a len cap vs ks hF hW => by
    have := right_any' a len cap (tabA ks vs) W hW
    rwa [tab_right hF] at this)
  clear h0 hf F
  go_enter Try.func4, Try.ntmps4
  go_wp2_with (first
    | (go_at_call 8; refine (AW.out _).mono ?_; rintro e w1 ⟨rfl, hb⟩; have HB := HB.trans (hb.mono HB.size); clear hb))
  go_loopw [5, 6, 7] (fun o a i wr => ∃ (k : Nat) (ks : List Nat) (vs : Nat → ByteArray) (aa : Option Addr) (la ca : Nat), k ≤ len0 ∧ i = .int .i64 k ∧ a = .slice aa la ca ∧ Hid (FineT ks vs) ∧ Hid (AttrRow wr aa la ca (tabA ks vs)) ∧ Hid (Raw w wr w1.heap.size o ks (fun j => decide (j ∈ ks)) vs)) (fun _ _ i _ => len0 - (intOf i).toNat)
  case atStart =>
    refine ⟨0, [], fun _ => ⟨#[]⟩, none, 0, 0, Nat.zero_le _, rfl, rfl, Lib.hid ⟨by simp, by simp, by simp⟩, Lib.hid ⟨SRow.nil, by simp [tabA], fun _ => rfl⟩, Lib.hid ⟨World.ownsRow_nil _ _ _ _, fun j hj => ?_, fun j hj => ?_, fun j => ?_, fun j => ?_, HB.size, by simp, (HB.alloc HB.size _).alloc (by have := HB.size; simp; omega) _⟩⟩
    · rw [World.cell?_alloc_lt _ _ _ (by simp), cell_of_row (w1.alloc _) w1.heap.size j _ _ (0, 0) (heap_alloc_new w1 _)]
      repeat (rcases j with _ | j; · rfl)
      omega
    · rw [show w1.heap.size + 1 = (w1.alloc (.cells #[.bool false, .bool false, .bool false, .bool false, .bool false, .bool false, .bool false, .bool false, .bool false, .bool false, .bool false, .bool false, .bool false, .bool false, .bool false, .bool false, .bool false, .bool false, .bool false, .bool false, .bool false, .bool false, .bool false, .bool false, .bool false, .bool false] 44)).heap.size by simp, cell_of_row ((w1.alloc _).alloc _) _ j _ _ (0, 0) (heap_alloc_new _ _)]
      repeat (rcases j with _ | j; · rfl)
      omega
    · exact blk_free ((Below.heap_alloc _ _ _ (by simp)).trans (heap_alloc_new w1 _)) j
    · exact blk_free (by have := heap_alloc_new (w1.alloc (.cells #[.bool false, .bool false, .bool false, .bool false, .bool false, .bool false, .bool false, .bool false, .bool false, .bool false, .bool false, .bool false, .bool false, .bool false, .bool false, .bool false, .bool false, .bool false, .bool false, .bool false, .bool false, .bool false, .bool false, .bool false, .bool false, .bool false] 44)); simpa using this _) j
  case round =>
    obtain ⟨i, ks, vs, aa, la, ca, hk, rfl, rfl, HFT, HA, HR⟩ := hrel
    obtain ⟨ao, co, hoe⟩ := own_shape HR.out.ord
    subst hoe
    obtain ⟨n0, hn0⟩ : ∃ n, ks.length = n := ⟨_, rfl⟩
    have HR := Lib.hid (by have := HR.out; rw [hn0] at this; exact this)
    rw [hn0]
    have HLN0 := Lib.hid hn0
    have hn26 : n0 ≤ 26 := by rw [← hn0]; exact len_of_nodup26 HFT.out.nodup HFT.out.lt
    clear hn0
    have hlt2 := HR.out.lt
    by_cases hlt : i < len0
    rotate_left
    · go_wp2
      go_ret
      exact ⟨rfl, HR.out.below⟩
    by_cases h100 : i < 100
    rotate_left
    · have q1 : decide ((i : Int) < 100) = false := decide_eq_false (by omega)
      go_wp2
      go_ret
      exact ⟨rfl, HR.out.below⟩
    have q1 : decide ((i : Int) < 100) = true := decide_eq_true (by omega)
    obtain ⟨b, off, x, rfl, hblt, hx, _, hc⟩ := H0.out.get hlt
    obtain ⟨⟨hkd1, hkd2⟩, ⟨hnm1, hnm2⟩, hvl⟩ := HFD.out x (List.mem_of_getElem? hx)
    have hB := HR.out.below
    have hc0 := (hB.cell (p := ⟨b, off + i * 3 + 0, none⟩) hblt).trans (hc 0 _ rfl)
    have hc1 := (hB.cell (p := ⟨b, off + i * 3 + 1, none⟩) hblt).trans (hc 1 _ rfl)
    have hc2 := (hB.cell (p := ⟨b, off + i * 3 + 2, none⟩) hblt).trans (hc 2 _ rfl)
    rw [Nat.add_zero] at hc0
    obtain ⟨k, hk2⟩ : ∃ k : Nat, x.name % 26 = (k : Int) := ⟨(x.name % 26).toNat, by omega⟩
    have hk26 : k < 26 := by omega
    have HV := Lib.hid hvl
    clear hc hB hvl hx
    have hb1 := one_back (letB k) (97 + k) (letN_nat hk26).symm
    have hhas := HR.out.has k hk26
    have hlt3 : w1.heap.size < wr.heap.size := by omega
    have hbl3 : b < wr.heap.size := Nat.lt_of_lt_of_le hblt HR.out.below.size
    have BL : Hid (∀ B, Below wr.heap.size wr (wr.alloc B)) := Lib.hid (fun B => (Below.refl _ _).alloc (Nat.le_refl _) B)
    have HLT := Lib.hid hlt2
    have HON : Hid (∀ b, Value.ownBlock (.slice ao n0 co) = some b → b < wr.heap.size) := Lib.hid (fun b hb => (HR.out.ord.lt b hb).2)
    have CS : Hid (∀ sv W, sv.size ≤ 200 → AttrRow W aa la ca (tabA ks vs) → Calls Try.prog 12 #[.slice aa la ca, .string (ofL [letB k]), .string sv] W (SetNew W (tabA (if k ∈ ks then ks else ks ++ [k]) (upd vs k sv)) 0)) := Lib.hid (fun sv W hsv hW => by
      have h1 := attrset_any aa la ca (tabA ks vs) (ofL [letB k]) sv W hW (by rw [size_ofL]; show 1 ≤ maxLen; decide) (by unfold maxLen; omega) (by have := ((right_iff _).1 (tab_right HFT.out)).1; omega)
      rw [toList_ofL, show [letB k] = letN k from rfl, tab_set HFT.out hk26 hsv, tab_setE HFT.out hk26 hsv] at h1
      exact h1)
    by_cases t0 : x.kind % 3 = 0
    · have t1 : (x.kind % 3 == 0) = true := beq_iff_eq.2 t0
      obtain ⟨mn, hmn, hmn2⟩ : ∃ mn : Nat, (if (200 : Int) < (x.value.size : Int) then (200 : Int) else (x.value.size : Int)) = (mn : Int) ∧ mn ≤ 200 ∧ mn ≤ x.value.size := by
        by_cases h : (200 : Int) < (x.value.size : Int)
        · exact ⟨200, by rw [if_pos h]; rfl, by omega, by omega⟩
        · exact ⟨x.value.size, by rw [if_neg h], by omega, by omega⟩
      obtain ⟨hmn3, hmn4⟩ := hmn2
      have HSZ : Hid ((x.value.extract 0 mn).size ≤ 200) := Lib.hid (by rw [ByteArray.size_extract]; omega)
      have hmn5 : (0 : Int) ≤ (mn : Int) := by omega
      have hmn6 : (mn : Int) ≤ (x.value.size : Int) := by omega
      clear t0 hmn3 hmn4
      go_wp2_with (fail)
      go_quiet (fail)
      by_cases hm : k ∈ ks
      · as_aux_lemma =>
          have m1 : decide (k ∈ ks) = true := decide_eq_true hm
          have HFT2 : Hid (FineT ks (upd vs k (x.value.extract 0 mn))) := Lib.hid (by have := fine_add HFT.out hk26 HSZ.out; rwa [if_pos hm] at this)
          have HHS := Lib.hid (hs_same hm)
          have HIF : Hid ((if k ∈ ks then ks else ks ++ [k]) = ks) := Lib.hid (if_pos hm)
          obtain ⟨n, hn⟩ : ∃ n, n0 = n := ⟨_, rfl⟩
          subst hn
          have HLN := HLN0
          clear hm
          go_wp2_with (first
            | (go_at_call 12; have BLX := below_drewN (BL.out (.cells #[.int .u8 (97 + (k : Int))] 5)) nq; refine (CS.out _ _ HSZ.out (HA.out.below BLX)).mono ?_; rintro e w3 ⟨a3, la3, ca3, rfl, hrow, hb, hnew⟩
               rw [HIF.out] at hrow
               have HBX := Lib.hid (BLX.trans (hb.mono BLX.size))
               have HR3 := Lib.hid (HR.out.keep HBX.out)
               have HNEW : Hid (∀ b off, a3 = some ⟨b, off, none⟩ → wr.heap.size < b) := Lib.hid (fun b off h => Nat.lt_of_lt_of_le (by simp) (hnew b off h))
               have hh3 := HR3.out.has k hk26
               have hf3 := HR3.out.free1 k
               have hv3 := HR3.out.val k hk26
               have hg3 := HR3.out.free2 k
               have hz3 : w1.heap.size + 1 < w3.heap.size := HR3.out.lt
               have HROW : Hid (AttrRow w3 a3 la3 ca3 (tabA (ks) (upd vs k (x.value.extract 0 mn)))) := Lib.hid hrow
               have hla : n0 = la3 := by have h1 := hrow.hlen; unfold tabA at h1; rw [List.length_map, HLN.out] at h1; exact h1
               subst hla
               clear hrow hb hnew BLX
               have HR5 : Hid (Raw w ((w3.setCell ⟨w1.heap.size, k, none⟩ (.bool true)).setCell ⟨w1.heap.size + 1, k, none⟩ (.string (x.value.extract 0 mn))) w1.heap.size (.slice ao n0 co) ks (fun j => decide (j ∈ ks)) (upd vs k (x.value.extract 0 mn))) := Lib.hid (by
                 have := (HR3.out.setHas hk26 true).setVal hk26 (x.value.extract 0 mn)
                 rwa [HHS.out] at this)
               have HROW4 : Hid (AttrRow ((w3.setCell ⟨w1.heap.size, k, none⟩ (.bool true)).setCell ⟨w1.heap.size + 1, k, none⟩ (.string (x.value.extract 0 mn))) a3 n0 ca3 (tabA ks (upd vs k (x.value.extract 0 mn)))) := Lib.hid ((HROW.out.setCell (fun b off h => by have := HNEW.out b off h; show w1.heap.size ≠ b; omega) _).setCell (fun b off h => by have := HNEW.out b off h; show w1.heap.size + 1 ≠ b; omega) _))
            | (go_at_call 18; refine (CR.out _ _ _ _ _ _ HFT2.out HROW4.out).mono ?_; rintro e w6 ⟨rfl, hb6⟩; have HB6 := Lib.hid hb6; clear hb6))
          have HR6 := Lib.hid (HR5.out.keep HB6.out)
          have HROW6 := Lib.hid (HROW4.out.below HB6.out)
          have HSR : Hid (SRow encI 1 w6 ao n0 co (ks)) := Lib.hid (by
            obtain ⟨a, c, he, hs, _⟩ := SRow.of_own (fun x _ => encI_len x) HLN.out (by have := HR6.out.ord; rwa [HLN.out] at this)
            injection he with e1 e2 e3
            subst e1; subst e3
            exact hs)
          have h664 := HSR.out.len64
          go_loopw [21] (fun jj wr => ∃ j : Nat, j ≤ n0 ∧ jj = .int .i64 j ∧ Below w6.heap.size w6 wr) (fun jj _ => n0 - (intOf jj).toNat)
          case atStart => exact ⟨0, Nat.zero_le _, rfl, Below.refl _ _⟩
          case round =>
            obtain ⟨j, hj, rfl, HBJ⟩ := hrel
            by_cases hjn : j < n0
            · obtain ⟨ba, offa, xn, xv, rfl, hbaj, hxg, hd1, hd2, _, _⟩ := HROW6.out.get hjn
              obtain ⟨bo, offo, kj, rfl, hboj, hkg, _, hdo⟩ := HSR.out.get hjn
              have hd3 := hdo 0 _ rfl
              rw [tab_get hkg] at hxg
              obtain ⟨rfl, rfl⟩ : ofL [letB kj] = xn ∧ (upd vs k (x.value.extract 0 mn)) kj = xv := by injection hxg with hxg; injection hxg with h1 h2; exact ⟨h1, h2⟩
              have hkj26 : kj < 26 := HFT2.out.lt _ (List.mem_of_getElem? hkg)
              have hd4 := HR6.out.val kj hkj26
              have hgl : w1.heap.size + 1 < w6.heap.size := HR6.out.lt
              obtain ⟨vj, hvj⟩ : ∃ vj, (upd vs k (x.value.extract 0 mn)) kj = vj := ⟨_, rfl⟩
              rw [hvj] at hd2 hd4
              have e1 := (HBJ.cell (p := ⟨ba, offa + j * 2, none⟩) hbaj).trans hd1
              have e2 := (HBJ.cell (p := ⟨ba, offa + j * 2 + 1, none⟩) hbaj).trans hd2
              have e3 : wr.cell? ⟨bo, offo + j, none⟩ = some (.int .i64 (kj : Int)) := by
                have := (HBJ.cell (p := ⟨bo, offo + j * 1 + 0, none⟩) hboj).trans hd3
                simpa using this
              have e4 := (HBJ.cell (p := ⟨w1.heap.size + 1, kj, none⟩) hgl).trans hd4
              have E : Hid (wr.cell? ⟨ba, offa + j * 2, none⟩ = some (.string (ofL [letB kj])) ∧ wr.cell? ⟨ba, offa + j * 2 + 1, none⟩ = some (.string vj) ∧ wr.cell? ⟨bo, offo + j, none⟩ = some (.int .i64 (kj : Int)) ∧ wr.cell? ⟨w1.heap.size + 1, kj, none⟩ = some (.string vj) ∧ Below w6.heap.size w6 wr) := Lib.hid ⟨e1, e2, e3, e4, HBJ⟩
              have hb2 := one_back_if (letB kj) (97 + kj) (letN_nat hkj26).symm
              have k0 : (0 : Int) ≤ (kj : Int) := by omega
              have k1 : (kj : Int) < 26 := by omega
              have k2 : ((kj : Int)).toNat = kj := by omega
              have u1 : IntKind.u8.wrap (kj : Int) = (kj : Int) := u8_in (by omega) (by omega)
              have u2 : IntKind.u8.wrap (97 + (kj : Int)) = 97 + (kj : Int) := u8_in (by omega) (by omega)
              clear hd1 hd2 hd3 hd4 hdo hxg hkg hvj e1 e2 e3 e4
              go_wp2_with (fail)
              obtain ⟨e1, e2, e3, e4, _⟩ := E.out
              have k4 : ba < wr.heap.size := Nat.lt_of_lt_of_le hbaj HBJ.size
              have k5 : bo < wr.heap.size := Nat.lt_of_lt_of_le hboj HBJ.size
              have k6 : w1.heap.size + 1 < wr.heap.size := Nat.lt_of_lt_of_le hgl HBJ.size
              go_region
              go_wp2_with (fail)
              go_roundw
              case rel => exact ⟨j + 1, by omega, by go_num, (HBJ.alloc HBJ.size _).drew⟩
              case measure => simp [intOf]; omega
            · have HR7 := Lib.hid (HR6.out.keep HBJ)
              have HROW7 := Lib.hid (HROW6.out.below HBJ)
              go_wp2_with (fail)
              go_roundw
              case rel => exact ⟨i + 1, (ks), (upd vs k (x.value.extract 0 mn)), a3, n0, ca3, by omega, by go_num, rfl, HFT2, HROW7, HR7⟩
              case measure => simp [intOf]; omega
      · as_aux_lemma =>
          have m1 : decide (k ∈ ks) = false := decide_eq_false hm
          have HFT2 : Hid (FineT (ks ++ [k]) (upd vs k (x.value.extract 0 mn))) := Lib.hid (by have := fine_add HFT.out hk26 HSZ.out; rwa [if_neg hm] at this)
          have HHS : Hid ((fun j => if j = k then true else decide (j ∈ ks)) = fun j => decide (j ∈ ks ++ [k])) := Lib.hid hs_add
          have HIF : Hid ((if k ∈ ks then ks else ks ++ [k]) = ks ++ [k]) := Lib.hid (if_neg hm)
          obtain ⟨n, hn⟩ : ∃ n, n0 + 1 = n := ⟨_, rfl⟩
          have HLN : Hid ((ks ++ [k]).length = n) := Lib.hid (by rw [List.length_append, HLN0.out, ← hn]; rfl)
          have HNN := Lib.hid hn
          clear hm hn
          go_wp2_with (first
            | (go_at_call 12; have BLX := below_drewN (BL.out (.cells #[.int .u8 (97 + (k : Int))] 5)) nq; refine (CS.out _ _ HSZ.out (HA.out.below BLX)).mono ?_; rintro e w3 ⟨a3, la3, ca3, rfl, hrow, hb, hnew⟩
               rw [HIF.out] at hrow
               have HBX := Lib.hid (BLX.trans (hb.mono BLX.size))
               have HR3 := Lib.hid (HR.out.keep HBX.out)
               have HNEW : Hid (∀ b off, a3 = some ⟨b, off, none⟩ → wr.heap.size < b) := Lib.hid (fun b off h => Nat.lt_of_lt_of_le (by simp) (hnew b off h))
               have hh3 := HR3.out.has k hk26
               have hf3 := HR3.out.free1 k
               have hv3 := HR3.out.val k hk26
               have hg3 := HR3.out.free2 k
               have hz3 : w1.heap.size + 1 < w3.heap.size := HR3.out.lt
               have HROW : Hid (AttrRow w3 a3 la3 ca3 (tabA (ks ++ [k]) (upd vs k (x.value.extract 0 mn)))) := Lib.hid hrow
               have hla : n = la3 := by have h1 := hrow.hlen; unfold tabA at h1; rw [List.length_map, HLN.out] at h1; exact h1
               subst hla
               clear hrow hb hnew BLX
               have HR4 : Hid (Raw w ((w3.setCell ⟨w1.heap.size, k, none⟩ (.bool true)).setCell ⟨w1.heap.size + 1, k, none⟩ (.string (x.value.extract 0 mn))) w1.heap.size (.slice ao n0 co) ks (fun j => decide (j ∈ ks ++ [k])) (upd vs k (x.value.extract 0 mn))) := Lib.hid (by
                 have := (HR3.out.setHas hk26 true).setVal hk26 (x.value.extract 0 mn)
                 rwa [HHS.out] at this)
               have HROW3 : Hid (AttrRow ((w3.setCell ⟨w1.heap.size, k, none⟩ (.bool true)).setCell ⟨w1.heap.size + 1, k, none⟩ (.string (x.value.extract 0 mn))) a3 n ca3 (tabA (ks ++ [k]) (upd vs k (x.value.extract 0 mn)))) := Lib.hid ((HROW.out.setCell (fun b off h => by have := HNEW.out b off h; show w1.heap.size ≠ b; omega) _).setCell (fun b off h => by have := HNEW.out b off h; show w1.heap.size + 1 ≠ b; omega) _))
            | (at_builtin
               refine wpList_append_rows rfl (.tmp 127) (.tmp 129) 46 rfl 3 i0 _ 1 8 Try.underlying46 hi0 hz0 hz1 hz2 rfl (by decide) (w1.heap.size + 2) (.slice ao n0 co) n0 ks [k] rfl ((raw_ord HR4.out HLN0.out).alloc _) _ 1 1 rfl (own_at (by simp [World.setCell]) _ _ _ rfl rfl) (fun x _ => encI_one x) (by unfold maxLen; omega) (by omega) (by have := HR4.out.lt; simp at this ⊢; omega) (fun h => by cases h) ?_
               intro v5 w5 hown5 hg5 hat5
               have HR5' := Lib.hid (HR4.out.added hg5 (by rw [HLN0.out]; exact hown5))
               obtain ⟨ao2, co2, hv5⟩ := own_shape hown5
               subst hv5
               have HROW4 : Hid (AttrRow w5 a3 n ca3 (tabA (ks ++ [k]) (upd vs k (x.value.extract 0 mn)))) := Lib.hid ((HROW3.out.new_alloc _).grown hg5 (fun b off h e => by have h1 := HNEW.out b off h; have h2 := HON.out b e; omega))
               have HR5 : Hid (Raw w w5 w1.heap.size (.slice ao2 n co2) (ks ++ [k]) (fun j => decide (j ∈ ks ++ [k])) (upd vs k (x.value.extract 0 mn))) := Lib.hid (by have h1 := HR5'.out; rw [HNN.out] at h1; exact h1)
               have hh5 : w5.cell? ⟨w1.heap.size, k, none⟩ = some (.bool true) := by
                 have h1 := HR5.out.has k hk26
                 rwa [show decide (k ∈ ks ++ [k]) = true from decide_eq_true (by simp)] at h1
               rw [HNN.out]
               clear hown5 hg5 hat5 HR5')
            | (go_at_call 18; refine (CR.out _ _ _ _ _ _ HFT2.out HROW4.out).mono ?_; rintro e w6 ⟨rfl, hb6⟩; have HB6 := Lib.hid hb6; clear hb6))
          have HR6 := Lib.hid (HR5.out.keep HB6.out)
          have HROW6 := Lib.hid (HROW4.out.below HB6.out)
          have HSR : Hid (SRow encI 1 w6 ao2 n co2 (ks ++ [k])) := Lib.hid (by
            obtain ⟨a, c, he, hs, _⟩ := SRow.of_own (fun x _ => encI_len x) HLN.out (by have := HR6.out.ord; rwa [HLN.out] at this)
            injection he with e1 e2 e3
            subst e1; subst e3
            exact hs)
          have h664 := HSR.out.len64
          go_loopw [21] (fun jj wr => ∃ j : Nat, j ≤ n ∧ jj = .int .i64 j ∧ Below w6.heap.size w6 wr) (fun jj _ => n - (intOf jj).toNat)
          case atStart => exact ⟨0, Nat.zero_le _, rfl, Below.refl _ _⟩
          case round =>
            obtain ⟨j, hj, rfl, HBJ⟩ := hrel
            by_cases hjn : j < n
            · obtain ⟨ba, offa, xn, xv, rfl, hbaj, hxg, hd1, hd2, _, _⟩ := HROW6.out.get hjn
              obtain ⟨bo, offo, kj, rfl, hboj, hkg, _, hdo⟩ := HSR.out.get hjn
              have hd3 := hdo 0 _ rfl
              rw [tab_get hkg] at hxg
              obtain ⟨rfl, rfl⟩ : ofL [letB kj] = xn ∧ (upd vs k (x.value.extract 0 mn)) kj = xv := by injection hxg with hxg; injection hxg with h1 h2; exact ⟨h1, h2⟩
              have hkj26 : kj < 26 := HFT2.out.lt _ (List.mem_of_getElem? hkg)
              have hd4 := HR6.out.val kj hkj26
              have hgl : w1.heap.size + 1 < w6.heap.size := HR6.out.lt
              obtain ⟨vj, hvj⟩ : ∃ vj, (upd vs k (x.value.extract 0 mn)) kj = vj := ⟨_, rfl⟩
              rw [hvj] at hd2 hd4
              have e1 := (HBJ.cell (p := ⟨ba, offa + j * 2, none⟩) hbaj).trans hd1
              have e2 := (HBJ.cell (p := ⟨ba, offa + j * 2 + 1, none⟩) hbaj).trans hd2
              have e3 : wr.cell? ⟨bo, offo + j, none⟩ = some (.int .i64 (kj : Int)) := by
                have := (HBJ.cell (p := ⟨bo, offo + j * 1 + 0, none⟩) hboj).trans hd3
                simpa using this
              have e4 := (HBJ.cell (p := ⟨w1.heap.size + 1, kj, none⟩) hgl).trans hd4
              have E : Hid (wr.cell? ⟨ba, offa + j * 2, none⟩ = some (.string (ofL [letB kj])) ∧ wr.cell? ⟨ba, offa + j * 2 + 1, none⟩ = some (.string vj) ∧ wr.cell? ⟨bo, offo + j, none⟩ = some (.int .i64 (kj : Int)) ∧ wr.cell? ⟨w1.heap.size + 1, kj, none⟩ = some (.string vj) ∧ Below w6.heap.size w6 wr) := Lib.hid ⟨e1, e2, e3, e4, HBJ⟩
              have hb2 := one_back_if (letB kj) (97 + kj) (letN_nat hkj26).symm
              have k0 : (0 : Int) ≤ (kj : Int) := by omega
              have k1 : (kj : Int) < 26 := by omega
              have k2 : ((kj : Int)).toNat = kj := by omega
              have u1 : IntKind.u8.wrap (kj : Int) = (kj : Int) := u8_in (by omega) (by omega)
              have u2 : IntKind.u8.wrap (97 + (kj : Int)) = 97 + (kj : Int) := u8_in (by omega) (by omega)
              clear hd1 hd2 hd3 hd4 hdo hxg hkg hvj e1 e2 e3 e4
              go_wp2_with (fail)
              obtain ⟨e1, e2, e3, e4, _⟩ := E.out
              have k4 : ba < wr.heap.size := Nat.lt_of_lt_of_le hbaj HBJ.size
              have k5 : bo < wr.heap.size := Nat.lt_of_lt_of_le hboj HBJ.size
              have k6 : w1.heap.size + 1 < wr.heap.size := Nat.lt_of_lt_of_le hgl HBJ.size
              go_region
              go_wp2_with (fail)
              go_roundw
              case rel => exact ⟨j + 1, by omega, by go_num, (HBJ.alloc HBJ.size _).drew⟩
              case measure => simp [intOf]; omega
            · have HR7 := Lib.hid (HR6.out.keep HBJ)
              have HROW7 := Lib.hid (HROW6.out.below HBJ)
              go_wp2_with (fail)
              go_roundw
              case rel => exact ⟨i + 1, (ks ++ [k]), (upd vs k (x.value.extract 0 mn)), a3, n, ca3, by omega, by go_num, rfl, HFT2, HROW7, HR7⟩
              case measure => simp [intOf]; omega
    have t1 : (x.kind % 3 == 0) = false := beq_eq_false_iff_ne.2 t0
    by_cases t2 : x.kind % 3 = 1
    · have t3 : (x.kind % 3 == 1) = true := beq_iff_eq.2 t2
      clear t0 t2
      by_cases hm : k ∈ ks
      · have CM : Hid (∀ W, AttrRow W aa la ca (tabA ks vs) → Calls Try.prog 14 #[.slice aa la ca, .string (ofL [letB k])] W (RemNew W (tabA (ks.filter (fun j => !decide (j = k))) vs) true)) := Lib.hid (fun W hW => by
          have h1 := attrrem_any aa la ca (tabA ks vs) (ofL [letB k]) W hW (by rw [size_ofL]; show 1 ≤ maxLen; decide) (by have := ((right_iff _).1 (tab_right HFT.out)).1; omega)
          rw [toList_ofL, show [letB k] = letN k from rfl, tab_rem HFT.out hk26, tab_has HFT.out hk26, decide_eq_true hm] at h1
          exact h1)
        as_aux_lemma =>
          have m1 : decide (k ∈ ks) = true := decide_eq_true hm
          have HFT2 : Hid (FineT (ks.filter (fun j => !decide (j = k))) vs) := Lib.hid (fine_sub (fun j => !decide (j = k)) HFT.out)
          have HHS : Hid ((fun j => if j = k then false else decide (j ∈ ks)) = fun j => decide (j ∈ ks.filter (fun j => !decide (j = k)))) := Lib.hid hs_rem
          obtain ⟨n, hn⟩ : ∃ n, (ks.filter (fun j => !decide (j = k))).length = n := ⟨_, rfl⟩
          have HLN := Lib.hid hn
          clear hm hn
          go_wp2_with (first
            | (go_at_call 14; have BLX := BL.out (.cells #[.int .u8 (97 + (k : Int))] 5); refine (CM.out _ (HA.out.below BLX)).mono ?_; rintro e w3 ⟨a3, la3, ca3, rfl, hrow, hb, hnew⟩
               have HBX := Lib.hid (BLX.trans (hb.mono BLX.size))
               have HR3 := Lib.hid (HR.out.keep HBX.out)
               have HNEW : Hid (∀ b off, a3 = some ⟨b, off, none⟩ → wr.heap.size < b) := Lib.hid (fun b off h => Nat.lt_of_lt_of_le (by simp) (hnew b off h))
               have hh3 := HR3.out.has k hk26
               have hf3 := HR3.out.free1 k
               have hv3 := HR3.out.val k hk26
               have hg3 := HR3.out.free2 k
               have hz3 : w1.heap.size + 1 < w3.heap.size := HR3.out.lt
               have HROW : Hid (AttrRow w3 a3 la3 ca3 (tabA (ks.filter (fun j => !decide (j = k))) (vs))) := Lib.hid hrow
               have hla : n = la3 := by have h1 := hrow.hlen; unfold tabA at h1; rw [List.length_map, HLN.out] at h1; exact h1
               subst hla
               clear hrow hb hnew BLX))
          have HR4' : Hid (Raw w (w3.setCell ⟨w1.heap.size, k, none⟩ (.bool false)) w1.heap.size (.slice ao n0 co) ks (fun j => decide (j ∈ ks.filter (fun j => !decide (j = k)))) vs) := Lib.hid (by
            have := HR3.out.setHas hk26 false
            rwa [HHS.out] at this)
          have HROW3' : Hid (AttrRow (w3.setCell ⟨w1.heap.size, k, none⟩ (.bool false)) a3 n ca3 (tabA (ks.filter (fun j => !decide (j = k))) vs)) := Lib.hid (HROW.out.setCell (fun b off h => by have := HNEW.out b off h; show w1.heap.size ≠ b; omega) _)
          obtain ⟨Wl, hWl⟩ : ∃ Wl, w3.setCell ⟨w1.heap.size, k, none⟩ (.bool false) = Wl := ⟨_, rfl⟩
          have HR4 := Lib.hid (hWl ▸ HR4'.out)
          have HROW3 := Lib.hid (hWl ▸ HROW3'.out)
          rw [hWl]
          clear hWl HR4' HROW3' HROW HR3 hh3 hf3 hv3 hg3
          have HSO : Hid (SRow encI 1 Wl ao n0 co ks) := Lib.hid (by
            obtain ⟨a, c, he, hs, _⟩ := SRow.of_own (fun x _ => encI_len x) HLN0.out (raw_ord HR4.out HLN0.out)
            injection he with e1 e2 e3
            subst e1; subst e3
            exact hs)
          go_loopw [19, 20] (fun rst jj wr => ∃ j m : Nat, j ≤ n0 ∧ jj = .int .i64 j ∧ Hid (wr.ownsRow Wl.heap.size 3 1 rst m (((ks.take j).filter (fun j => !decide (j = k))).flatMap encI)) ∧ Hid (((ks.take j).filter (fun j => !decide (j = k))).length = m) ∧ m ≤ j ∧ Below Wl.heap.size Wl wr) (fun _ jj _ => n0 - (intOf jj).toNat)
          case atStart => exact ⟨0, 0, Nat.zero_le _, rfl, Lib.hid (World.ownsRow_nil _ _ _ _), Lib.hid rfl, Nat.le_refl _, Below.refl _ _⟩
          case round =>
            obtain ⟨j, m, hj, rfl, HO, HOL, hmj, HBJ⟩ := hrel
            by_cases hjn : j < n0
            · obtain ⟨bo, offo, kj, rfl, hboj, hkg, _, hdo⟩ := HSO.out.get hjn
              have hd3 := hdo 0 _ rfl
              have e3 : wr.cell? ⟨bo, offo + j, none⟩ = some (.int .i64 (kj : Int)) := by
                have := (HBJ.cell (p := ⟨bo, offo + j * 1 + 0, none⟩) hboj).trans hd3
                simpa using this
              have HF := Lib.hid (filter_step (q := (fun j => !decide (j = k))) hkg)
              have hbo : bo < wr.heap.size := Nat.lt_of_lt_of_le hboj HBJ.size
              clear hdo hd3 hkg
              by_cases hkk : kj = k
              · have s1 : ((kj : Int) == (k : Int)) = true := beq_iff_eq.2 (by omega)
                have s2 : ((kj : Int) != (k : Int)) = false := by unfold bne; rw [s1]; rfl
                have HQ : Hid ((!decide (kj = k)) = false) := Lib.hid (by rw [decide_eq_true hkk]; rfl)
                clear hkk
                go_wp2_with (fail)
                go_roundw
                case rel =>
                  refine ⟨j + 1, m, by omega, by go_num, Lib.hid ?_, Lib.hid ?_, by omega, HBJ⟩
                  · rw [HF.out, HQ.out]
                    simpa using HO.out
                  · rw [HF.out, HQ.out]
                    simpa using HOL.out
                case measure => simp [intOf]; omega
              · have s1 : ((kj : Int) == (k : Int)) = false := beq_eq_false_iff_ne.2 (by omega)
                have s2 : ((kj : Int) != (k : Int)) = true := by unfold bne; rw [s1]; rfl
                have HQ : Hid ((!decide (kj = k)) = true) := Lib.hid (by rw [decide_eq_false hkk]; rfl)
                clear hkk
                go_wp2_with (first
                  | (at_builtin
                     refine wpList_append_rows rfl (.tmp 150) (.tmp 155) 46 rfl 3 i0 _ 1 8 Try.underlying46 hi0 hz0 hz1 hz2 rfl (by decide) Wl.heap.size _ m _ [kj] rfl (HO.out.alloc _) _ 1 1 rfl (own_one _ _ _ _ rfl rfl) (fun x _ => encI_one x) (by unfold maxLen; omega) (by omega) (by have := HBJ.size; simp; omega) (fun h => by cases h) ?_
                     intro v5 w5 hown5 hg5 hat5
                     have HB5 := below_own HBJ HO.out hg5
                     have HO5 := Lib.hid hown5
                     clear hown5 hg5 hat5))
                go_roundw
                case rel =>
                  refine ⟨j + 1, m + 1, by omega, by go_num, Lib.hid ?_, Lib.hid ?_, by omega, HB5⟩
                  · rw [HF.out, HQ.out]
                    exact HO5.out
                  · rw [HF.out, HQ.out, List.length_append, HOL.out]
                    rfl
                case measure => simp [intOf]; omega
            · have HE : Hid (ks.take j = ks) := Lib.hid (List.take_of_length_le (by rw [HLN0.out]; omega))
              have hown := HO.out
              rw [HE.out] at hown
              have hlen := HOL.out
              rw [HE.out] at hlen
              obtain rfl : n = m := HLN.out.symm.trans hlen
              obtain ⟨ao2, co2, hv5⟩ := own_shape hown
              subst hv5
              have HR5 : Hid (Raw w wr w1.heap.size (.slice ao2 n co2) (ks.filter (fun j => !decide (j = k))) (fun j => decide (j ∈ ks.filter (fun j => !decide (j = k)))) vs) := Lib.hid (HR4.out.other HBJ (by rw [HLN.out]; exact hown))
              have HROW4 : Hid (AttrRow wr a3 n ca3 (tabA (ks.filter (fun j => !decide (j = k))) vs)) := Lib.hid (HROW3.out.below HBJ)
              clear hown hlen
              go_wp2_with (first
                | (go_at_call 18; refine (CR.out _ _ _ _ _ _ HFT2.out HROW4.out).mono ?_; rintro e w6 ⟨rfl, hb6⟩; have HB6 := Lib.hid hb6; clear hb6))
              have HR6 := Lib.hid (HR5.out.keep HB6.out)
              have HROW6 := Lib.hid (HROW4.out.below HB6.out)
              have HSR : Hid (SRow encI 1 w6 ao2 n co2 (ks.filter (fun j => !decide (j = k)))) := Lib.hid (by
                obtain ⟨a, c, he, hs, _⟩ := SRow.of_own (fun x _ => encI_len x) HLN.out (by have := HR6.out.ord; rwa [HLN.out] at this)
                injection he with e1 e2 e3
                subst e1; subst e3
                exact hs)
              have h664 := HSR.out.len64
              go_loopw [21] (fun jj wr => ∃ j : Nat, j ≤ n ∧ jj = .int .i64 j ∧ Below w6.heap.size w6 wr) (fun jj _ => n - (intOf jj).toNat)
              case atStart => exact ⟨0, Nat.zero_le _, rfl, Below.refl _ _⟩
              case round =>
                obtain ⟨j, hj, rfl, HBJ⟩ := hrel
                by_cases hjn : j < n
                · obtain ⟨ba, offa, xn, xv, rfl, hbaj, hxg, hd1, hd2, _, _⟩ := HROW6.out.get hjn
                  obtain ⟨bo, offo, kj, rfl, hboj, hkg, _, hdo⟩ := HSR.out.get hjn
                  have hd3 := hdo 0 _ rfl
                  rw [tab_get hkg] at hxg
                  obtain ⟨rfl, rfl⟩ : ofL [letB kj] = xn ∧ (vs) kj = xv := by injection hxg with hxg; injection hxg with h1 h2; exact ⟨h1, h2⟩
                  have hkj26 : kj < 26 := HFT2.out.lt _ (List.mem_of_getElem? hkg)
                  have hd4 := HR6.out.val kj hkj26
                  have hgl : w1.heap.size + 1 < w6.heap.size := HR6.out.lt
                  obtain ⟨vj, hvj⟩ : ∃ vj, (vs) kj = vj := ⟨_, rfl⟩
                  rw [hvj] at hd2 hd4
                  have e1 := (HBJ.cell (p := ⟨ba, offa + j * 2, none⟩) hbaj).trans hd1
                  have e2 := (HBJ.cell (p := ⟨ba, offa + j * 2 + 1, none⟩) hbaj).trans hd2
                  have e3 : wr.cell? ⟨bo, offo + j, none⟩ = some (.int .i64 (kj : Int)) := by
                    have := (HBJ.cell (p := ⟨bo, offo + j * 1 + 0, none⟩) hboj).trans hd3
                    simpa using this
                  have e4 := (HBJ.cell (p := ⟨w1.heap.size + 1, kj, none⟩) hgl).trans hd4
                  have E : Hid (wr.cell? ⟨ba, offa + j * 2, none⟩ = some (.string (ofL [letB kj])) ∧ wr.cell? ⟨ba, offa + j * 2 + 1, none⟩ = some (.string vj) ∧ wr.cell? ⟨bo, offo + j, none⟩ = some (.int .i64 (kj : Int)) ∧ wr.cell? ⟨w1.heap.size + 1, kj, none⟩ = some (.string vj) ∧ Below w6.heap.size w6 wr) := Lib.hid ⟨e1, e2, e3, e4, HBJ⟩
                  have hb2 := one_back_if (letB kj) (97 + kj) (letN_nat hkj26).symm
                  have k0 : (0 : Int) ≤ (kj : Int) := by omega
                  have k1 : (kj : Int) < 26 := by omega
                  have k2 : ((kj : Int)).toNat = kj := by omega
                  have u1 : IntKind.u8.wrap (kj : Int) = (kj : Int) := u8_in (by omega) (by omega)
                  have u2 : IntKind.u8.wrap (97 + (kj : Int)) = 97 + (kj : Int) := u8_in (by omega) (by omega)
                  clear hd1 hd2 hd3 hd4 hdo hxg hkg hvj e1 e2 e3 e4
                  go_wp2_with (fail)
                  obtain ⟨e1, e2, e3, e4, _⟩ := E.out
                  have k4 : ba < wr.heap.size := Nat.lt_of_lt_of_le hbaj HBJ.size
                  have k5 : bo < wr.heap.size := Nat.lt_of_lt_of_le hboj HBJ.size
                  have k6 : w1.heap.size + 1 < wr.heap.size := Nat.lt_of_lt_of_le hgl HBJ.size
                  go_region
                  go_wp2_with (fail)
                  go_roundw
                  case rel => exact ⟨j + 1, by omega, by go_num, (HBJ.alloc HBJ.size _).drew⟩
                  case measure => simp [intOf]; omega
                · have HR7 := Lib.hid (HR6.out.keep HBJ)
                  have HROW7 := Lib.hid (HROW6.out.below HBJ)
                  go_wp2_with (fail)
                  go_roundw
                  case rel => exact ⟨i + 1, (ks.filter (fun j => !decide (j = k))), (vs), a3, n, ca3, by omega, by go_num, rfl, HFT2, HROW7, HR7⟩
                  case measure => simp [intOf]; omega
      · have CM : Hid (∀ W, AttrRow W aa la ca (tabA ks vs) → Calls Try.prog 14 #[.slice aa la ca, .string (ofL [letB k])] W (RemNew W (tabA (ks) vs) false)) := Lib.hid (fun W hW => by
          have h1 := attrrem_any aa la ca (tabA ks vs) (ofL [letB k]) W hW (by rw [size_ofL]; show 1 ≤ maxLen; decide) (by have := ((right_iff _).1 (tab_right HFT.out)).1; omega)
          rw [toList_ofL, show [letB k] = letN k from rfl, tab_rem HFT.out hk26, tab_has HFT.out hk26, decide_eq_false hm] at h1
          rw [filter_out hm] at h1; exact h1)
        as_aux_lemma =>
          have m1 : decide (k ∈ ks) = false := decide_eq_false hm
          have HFT2 := HFT
          have HHS := Lib.hid (hs_none hm)
          have HLN := HLN0
          clear hm
          go_wp2_with (first
            | (go_at_call 14; have BLX := BL.out (.cells #[.int .u8 (97 + (k : Int))] 5); refine (CM.out _ (HA.out.below BLX)).mono ?_; rintro e w3 ⟨a3, la3, ca3, rfl, hrow, hb, hnew⟩
               have HBX := Lib.hid (BLX.trans (hb.mono BLX.size))
               have HR3 := Lib.hid (HR.out.keep HBX.out)
               have HNEW : Hid (∀ b off, a3 = some ⟨b, off, none⟩ → wr.heap.size < b) := Lib.hid (fun b off h => Nat.lt_of_lt_of_le (by simp) (hnew b off h))
               have hh3 := HR3.out.has k hk26
               have hf3 := HR3.out.free1 k
               have hv3 := HR3.out.val k hk26
               have hg3 := HR3.out.free2 k
               have hz3 : w1.heap.size + 1 < w3.heap.size := HR3.out.lt
               have HROW : Hid (AttrRow w3 a3 la3 ca3 (tabA (ks) (vs))) := Lib.hid hrow
               have hla : n0 = la3 := by have h1 := hrow.hlen; unfold tabA at h1; rw [List.length_map, HLN.out] at h1; exact h1
               subst hla
               clear hrow hb hnew BLX
               have HR5 : Hid (Raw w (w3.setCell ⟨w1.heap.size, k, none⟩ (.bool false)) w1.heap.size (.slice ao n0 co) ks (fun j => decide (j ∈ ks)) vs) := Lib.hid (by
                 have := HR3.out.setHas hk26 false
                 rwa [HHS.out] at this)
               have HROW4 : Hid (AttrRow (w3.setCell ⟨w1.heap.size, k, none⟩ (.bool false)) a3 n0 ca3 (tabA ks vs)) := Lib.hid (HROW.out.setCell (fun b off h => by have := HNEW.out b off h; show w1.heap.size ≠ b; omega) _))
            | (go_at_call 18; refine (CR.out _ _ _ _ _ _ HFT2.out HROW4.out).mono ?_; rintro e w6 ⟨rfl, hb6⟩; have HB6 := Lib.hid hb6; clear hb6))
          have HR6 := Lib.hid (HR5.out.keep HB6.out)
          have HROW6 := Lib.hid (HROW4.out.below HB6.out)
          have HSR : Hid (SRow encI 1 w6 ao n0 co (ks)) := Lib.hid (by
            obtain ⟨a, c, he, hs, _⟩ := SRow.of_own (fun x _ => encI_len x) HLN.out (by have := HR6.out.ord; rwa [HLN.out] at this)
            injection he with e1 e2 e3
            subst e1; subst e3
            exact hs)
          have h664 := HSR.out.len64
          go_loopw [21] (fun jj wr => ∃ j : Nat, j ≤ n0 ∧ jj = .int .i64 j ∧ Below w6.heap.size w6 wr) (fun jj _ => n0 - (intOf jj).toNat)
          case atStart => exact ⟨0, Nat.zero_le _, rfl, Below.refl _ _⟩
          case round =>
            obtain ⟨j, hj, rfl, HBJ⟩ := hrel
            by_cases hjn : j < n0
            · obtain ⟨ba, offa, xn, xv, rfl, hbaj, hxg, hd1, hd2, _, _⟩ := HROW6.out.get hjn
              obtain ⟨bo, offo, kj, rfl, hboj, hkg, _, hdo⟩ := HSR.out.get hjn
              have hd3 := hdo 0 _ rfl
              rw [tab_get hkg] at hxg
              obtain ⟨rfl, rfl⟩ : ofL [letB kj] = xn ∧ (vs) kj = xv := by injection hxg with hxg; injection hxg with h1 h2; exact ⟨h1, h2⟩
              have hkj26 : kj < 26 := HFT2.out.lt _ (List.mem_of_getElem? hkg)
              have hd4 := HR6.out.val kj hkj26
              have hgl : w1.heap.size + 1 < w6.heap.size := HR6.out.lt
              obtain ⟨vj, hvj⟩ : ∃ vj, (vs) kj = vj := ⟨_, rfl⟩
              rw [hvj] at hd2 hd4
              have e1 := (HBJ.cell (p := ⟨ba, offa + j * 2, none⟩) hbaj).trans hd1
              have e2 := (HBJ.cell (p := ⟨ba, offa + j * 2 + 1, none⟩) hbaj).trans hd2
              have e3 : wr.cell? ⟨bo, offo + j, none⟩ = some (.int .i64 (kj : Int)) := by
                have := (HBJ.cell (p := ⟨bo, offo + j * 1 + 0, none⟩) hboj).trans hd3
                simpa using this
              have e4 := (HBJ.cell (p := ⟨w1.heap.size + 1, kj, none⟩) hgl).trans hd4
              have E : Hid (wr.cell? ⟨ba, offa + j * 2, none⟩ = some (.string (ofL [letB kj])) ∧ wr.cell? ⟨ba, offa + j * 2 + 1, none⟩ = some (.string vj) ∧ wr.cell? ⟨bo, offo + j, none⟩ = some (.int .i64 (kj : Int)) ∧ wr.cell? ⟨w1.heap.size + 1, kj, none⟩ = some (.string vj) ∧ Below w6.heap.size w6 wr) := Lib.hid ⟨e1, e2, e3, e4, HBJ⟩
              have hb2 := one_back_if (letB kj) (97 + kj) (letN_nat hkj26).symm
              have k0 : (0 : Int) ≤ (kj : Int) := by omega
              have k1 : (kj : Int) < 26 := by omega
              have k2 : ((kj : Int)).toNat = kj := by omega
              have u1 : IntKind.u8.wrap (kj : Int) = (kj : Int) := u8_in (by omega) (by omega)
              have u2 : IntKind.u8.wrap (97 + (kj : Int)) = 97 + (kj : Int) := u8_in (by omega) (by omega)
              clear hd1 hd2 hd3 hd4 hdo hxg hkg hvj e1 e2 e3 e4
              go_wp2_with (fail)
              obtain ⟨e1, e2, e3, e4, _⟩ := E.out
              have k4 : ba < wr.heap.size := Nat.lt_of_lt_of_le hbaj HBJ.size
              have k5 : bo < wr.heap.size := Nat.lt_of_lt_of_le hboj HBJ.size
              have k6 : w1.heap.size + 1 < wr.heap.size := Nat.lt_of_lt_of_le hgl HBJ.size
              go_region
              go_wp2_with (fail)
              go_roundw
              case rel => exact ⟨j + 1, by omega, by go_num, (HBJ.alloc HBJ.size _).drew⟩
              case measure => simp [intOf]; omega
            · have HR7 := Lib.hid (HR6.out.keep HBJ)
              have HROW7 := Lib.hid (HROW6.out.below HBJ)
              go_wp2_with (fail)
              go_roundw
              case rel => exact ⟨i + 1, (ks), (vs), a3, n0, ca3, by omega, by go_num, rfl, HFT2, HROW7, HR7⟩
              case measure => simp [intOf]; omega
    have t3 : (x.kind % 3 == 1) = false := beq_eq_false_iff_ne.2 t2
    clear t0 t2
    by_cases hm : k ∈ ks
    · have CT : Hid (∀ W, AttrRow W aa la ca (tabA ks vs) → Calls Try.prog 16 #[.slice aa la ca, .string (ofL [letB k]), .int .i64 0] W (TogNew W (tabA (ks.filter (fun j => !decide (j = k))) (vs)) false 0)) := Lib.hid (fun W hW => by
        have h1 := attrtog_any aa la ca (tabA ks vs) (ofL [letB k]) 0 W hW (by rw [size_ofL]; show 1 ≤ maxLen; decide) (by have := ((right_iff _).1 (tab_right HFT.out)).1; omega)
        rw [toList_ofL, show [letB k] = letN k from rfl] at h1
        obtain ⟨g1, g2, g3⟩ := tog_there HFT.out hk26 hm
        rw [g1, g2, g3] at h1
        exact h1)
      as_aux_lemma =>
        have m1 : decide (k ∈ ks) = true := decide_eq_true hm
        have HFT2 : Hid (FineT (ks.filter (fun j => !decide (j = k))) vs) := Lib.hid (fine_sub (fun j => !decide (j = k)) HFT.out)
        have HHS : Hid ((fun j => if j = k then false else decide (j ∈ ks)) = fun j => decide (j ∈ ks.filter (fun j => !decide (j = k)))) := Lib.hid hs_rem
        obtain ⟨n, hn⟩ : ∃ n, (ks.filter (fun j => !decide (j = k))).length = n := ⟨_, rfl⟩
        have HLN := Lib.hid hn
        clear hm hn
        go_wp2_with (first
          | (go_at_call 16; have BLX := BL.out (.cells #[.int .u8 (97 + (k : Int))] 5); refine (CT.out _ (HA.out.below BLX)).mono ?_; rintro e w3 ⟨a3, la3, ca3, rfl, hrow, hb, hnew⟩
             have HBX := Lib.hid (BLX.trans (hb.mono BLX.size))
             have HR3 := Lib.hid (HR.out.keep HBX.out)
             have HNEW : Hid (∀ b off, a3 = some ⟨b, off, none⟩ → wr.heap.size < b) := Lib.hid (fun b off h => Nat.lt_of_lt_of_le (by simp) (hnew b off h))
             have hh3 := HR3.out.has k hk26
             have hf3 := HR3.out.free1 k
             have hv3 := HR3.out.val k hk26
             have hg3 := HR3.out.free2 k
             have hz3 : w1.heap.size + 1 < w3.heap.size := HR3.out.lt
             have HROW : Hid (AttrRow w3 a3 la3 ca3 (tabA (ks.filter (fun j => !decide (j = k))) (vs))) := Lib.hid hrow
             have hla : n = la3 := by have h1 := hrow.hlen; unfold tabA at h1; rw [List.length_map, HLN.out] at h1; exact h1
             subst hla
             clear hrow hb hnew BLX))
        have HR4' : Hid (Raw w (w3.setCell ⟨w1.heap.size, k, none⟩ (.bool false)) w1.heap.size (.slice ao n0 co) ks (fun j => decide (j ∈ ks.filter (fun j => !decide (j = k)))) vs) := Lib.hid (by
          have := HR3.out.setHas hk26 false
          rwa [HHS.out] at this)
        have HROW3' : Hid (AttrRow (w3.setCell ⟨w1.heap.size, k, none⟩ (.bool false)) a3 n ca3 (tabA (ks.filter (fun j => !decide (j = k))) vs)) := Lib.hid (HROW.out.setCell (fun b off h => by have := HNEW.out b off h; show w1.heap.size ≠ b; omega) _)
        obtain ⟨Wl, hWl⟩ : ∃ Wl, w3.setCell ⟨w1.heap.size, k, none⟩ (.bool false) = Wl := ⟨_, rfl⟩
        have HR4 := Lib.hid (hWl ▸ HR4'.out)
        have HROW3 := Lib.hid (hWl ▸ HROW3'.out)
        rw [hWl]
        clear hWl HR4' HROW3' HROW HR3 hh3 hf3 hv3 hg3
        have HSO : Hid (SRow encI 1 Wl ao n0 co ks) := Lib.hid (by
          obtain ⟨a, c, he, hs, _⟩ := SRow.of_own (fun x _ => encI_len x) HLN0.out (raw_ord HR4.out HLN0.out)
          injection he with e1 e2 e3
          subst e1; subst e3
          exact hs)
        go_loopw [19, 20] (fun rst jj wr => ∃ j m : Nat, j ≤ n0 ∧ jj = .int .i64 j ∧ Hid (wr.ownsRow Wl.heap.size 3 1 rst m (((ks.take j).filter (fun j => !decide (j = k))).flatMap encI)) ∧ Hid (((ks.take j).filter (fun j => !decide (j = k))).length = m) ∧ m ≤ j ∧ Below Wl.heap.size Wl wr) (fun _ jj _ => n0 - (intOf jj).toNat)
        case atStart => exact ⟨0, 0, Nat.zero_le _, rfl, Lib.hid (World.ownsRow_nil _ _ _ _), Lib.hid rfl, Nat.le_refl _, Below.refl _ _⟩
        case round =>
          obtain ⟨j, m, hj, rfl, HO, HOL, hmj, HBJ⟩ := hrel
          by_cases hjn : j < n0
          · obtain ⟨bo, offo, kj, rfl, hboj, hkg, _, hdo⟩ := HSO.out.get hjn
            have hd3 := hdo 0 _ rfl
            have e3 : wr.cell? ⟨bo, offo + j, none⟩ = some (.int .i64 (kj : Int)) := by
              have := (HBJ.cell (p := ⟨bo, offo + j * 1 + 0, none⟩) hboj).trans hd3
              simpa using this
            have HF := Lib.hid (filter_step (q := (fun j => !decide (j = k))) hkg)
            have hbo : bo < wr.heap.size := Nat.lt_of_lt_of_le hboj HBJ.size
            clear hdo hd3 hkg
            by_cases hkk : kj = k
            · have s1 : ((kj : Int) == (k : Int)) = true := beq_iff_eq.2 (by omega)
              have s2 : ((kj : Int) != (k : Int)) = false := by unfold bne; rw [s1]; rfl
              have HQ : Hid ((!decide (kj = k)) = false) := Lib.hid (by rw [decide_eq_true hkk]; rfl)
              clear hkk
              go_wp2_with (fail)
              go_roundw
              case rel =>
                refine ⟨j + 1, m, by omega, by go_num, Lib.hid ?_, Lib.hid ?_, by omega, HBJ⟩
                · rw [HF.out, HQ.out]
                  simpa using HO.out
                · rw [HF.out, HQ.out]
                  simpa using HOL.out
              case measure => simp [intOf]; omega
            · have s1 : ((kj : Int) == (k : Int)) = false := beq_eq_false_iff_ne.2 (by omega)
              have s2 : ((kj : Int) != (k : Int)) = true := by unfold bne; rw [s1]; rfl
              have HQ : Hid ((!decide (kj = k)) = true) := Lib.hid (by rw [decide_eq_false hkk]; rfl)
              clear hkk
              go_wp2_with (first
                | (at_builtin
                   refine wpList_append_rows rfl (.tmp 150) (.tmp 155) 46 rfl 3 i0 _ 1 8 Try.underlying46 hi0 hz0 hz1 hz2 rfl (by decide) Wl.heap.size _ m _ [kj] rfl (HO.out.alloc _) _ 1 1 rfl (own_one _ _ _ _ rfl rfl) (fun x _ => encI_one x) (by unfold maxLen; omega) (by omega) (by have := HBJ.size; simp; omega) (fun h => by cases h) ?_
                   intro v5 w5 hown5 hg5 hat5
                   have HB5 := below_own HBJ HO.out hg5
                   have HO5 := Lib.hid hown5
                   clear hown5 hg5 hat5))
              go_roundw
              case rel =>
                refine ⟨j + 1, m + 1, by omega, by go_num, Lib.hid ?_, Lib.hid ?_, by omega, HB5⟩
                · rw [HF.out, HQ.out]
                  exact HO5.out
                · rw [HF.out, HQ.out, List.length_append, HOL.out]
                  rfl
              case measure => simp [intOf]; omega
          · have HE : Hid (ks.take j = ks) := Lib.hid (List.take_of_length_le (by rw [HLN0.out]; omega))
            have hown := HO.out
            rw [HE.out] at hown
            have hlen := HOL.out
            rw [HE.out] at hlen
            obtain rfl : n = m := HLN.out.symm.trans hlen
            obtain ⟨ao2, co2, hv5⟩ := own_shape hown
            subst hv5
            have HR5 : Hid (Raw w wr w1.heap.size (.slice ao2 n co2) (ks.filter (fun j => !decide (j = k))) (fun j => decide (j ∈ ks.filter (fun j => !decide (j = k)))) vs) := Lib.hid (HR4.out.other HBJ (by rw [HLN.out]; exact hown))
            have HROW4 : Hid (AttrRow wr a3 n ca3 (tabA (ks.filter (fun j => !decide (j = k))) vs)) := Lib.hid (HROW3.out.below HBJ)
            clear hown hlen
            go_wp2_with (first
              | (go_at_call 18; refine (CR.out _ _ _ _ _ _ HFT2.out HROW4.out).mono ?_; rintro e w6 ⟨rfl, hb6⟩; have HB6 := Lib.hid hb6; clear hb6))
            have HR6 := Lib.hid (HR5.out.keep HB6.out)
            have HROW6 := Lib.hid (HROW4.out.below HB6.out)
            have HSR : Hid (SRow encI 1 w6 ao2 n co2 (ks.filter (fun j => !decide (j = k)))) := Lib.hid (by
              obtain ⟨a, c, he, hs, _⟩ := SRow.of_own (fun x _ => encI_len x) HLN.out (by have := HR6.out.ord; rwa [HLN.out] at this)
              injection he with e1 e2 e3
              subst e1; subst e3
              exact hs)
            have h664 := HSR.out.len64
            go_loopw [21] (fun jj wr => ∃ j : Nat, j ≤ n ∧ jj = .int .i64 j ∧ Below w6.heap.size w6 wr) (fun jj _ => n - (intOf jj).toNat)
            case atStart => exact ⟨0, Nat.zero_le _, rfl, Below.refl _ _⟩
            case round =>
              obtain ⟨j, hj, rfl, HBJ⟩ := hrel
              by_cases hjn : j < n
              · obtain ⟨ba, offa, xn, xv, rfl, hbaj, hxg, hd1, hd2, _, _⟩ := HROW6.out.get hjn
                obtain ⟨bo, offo, kj, rfl, hboj, hkg, _, hdo⟩ := HSR.out.get hjn
                have hd3 := hdo 0 _ rfl
                rw [tab_get hkg] at hxg
                obtain ⟨rfl, rfl⟩ : ofL [letB kj] = xn ∧ (vs) kj = xv := by injection hxg with hxg; injection hxg with h1 h2; exact ⟨h1, h2⟩
                have hkj26 : kj < 26 := HFT2.out.lt _ (List.mem_of_getElem? hkg)
                have hd4 := HR6.out.val kj hkj26
                have hgl : w1.heap.size + 1 < w6.heap.size := HR6.out.lt
                obtain ⟨vj, hvj⟩ : ∃ vj, (vs) kj = vj := ⟨_, rfl⟩
                rw [hvj] at hd2 hd4
                have e1 := (HBJ.cell (p := ⟨ba, offa + j * 2, none⟩) hbaj).trans hd1
                have e2 := (HBJ.cell (p := ⟨ba, offa + j * 2 + 1, none⟩) hbaj).trans hd2
                have e3 : wr.cell? ⟨bo, offo + j, none⟩ = some (.int .i64 (kj : Int)) := by
                  have := (HBJ.cell (p := ⟨bo, offo + j * 1 + 0, none⟩) hboj).trans hd3
                  simpa using this
                have e4 := (HBJ.cell (p := ⟨w1.heap.size + 1, kj, none⟩) hgl).trans hd4
                have E : Hid (wr.cell? ⟨ba, offa + j * 2, none⟩ = some (.string (ofL [letB kj])) ∧ wr.cell? ⟨ba, offa + j * 2 + 1, none⟩ = some (.string vj) ∧ wr.cell? ⟨bo, offo + j, none⟩ = some (.int .i64 (kj : Int)) ∧ wr.cell? ⟨w1.heap.size + 1, kj, none⟩ = some (.string vj) ∧ Below w6.heap.size w6 wr) := Lib.hid ⟨e1, e2, e3, e4, HBJ⟩
                have hb2 := one_back_if (letB kj) (97 + kj) (letN_nat hkj26).symm
                have k0 : (0 : Int) ≤ (kj : Int) := by omega
                have k1 : (kj : Int) < 26 := by omega
                have k2 : ((kj : Int)).toNat = kj := by omega
                have u1 : IntKind.u8.wrap (kj : Int) = (kj : Int) := u8_in (by omega) (by omega)
                have u2 : IntKind.u8.wrap (97 + (kj : Int)) = 97 + (kj : Int) := u8_in (by omega) (by omega)
                clear hd1 hd2 hd3 hd4 hdo hxg hkg hvj e1 e2 e3 e4
                go_wp2_with (fail)
                obtain ⟨e1, e2, e3, e4, _⟩ := E.out
                have k4 : ba < wr.heap.size := Nat.lt_of_lt_of_le hbaj HBJ.size
                have k5 : bo < wr.heap.size := Nat.lt_of_lt_of_le hboj HBJ.size
                have k6 : w1.heap.size + 1 < wr.heap.size := Nat.lt_of_lt_of_le hgl HBJ.size
                go_region
                go_wp2_with (fail)
                go_roundw
                case rel => exact ⟨j + 1, by omega, by go_num, (HBJ.alloc HBJ.size _).drew⟩
                case measure => simp [intOf]; omega
              · have HR7 := Lib.hid (HR6.out.keep HBJ)
                have HROW7 := Lib.hid (HROW6.out.below HBJ)
                go_wp2_with (fail)
                go_roundw
                case rel => exact ⟨i + 1, (ks.filter (fun j => !decide (j = k))), (vs), a3, n, ca3, by omega, by go_num, rfl, HFT2, HROW7, HR7⟩
                case measure => simp [intOf]; omega
    · have CT : Hid (∀ W, AttrRow W aa la ca (tabA ks vs) → Calls Try.prog 16 #[.slice aa la ca, .string (ofL [letB k]), .int .i64 0] W (TogNew W (tabA (ks ++ [k]) (upd vs k (⟨#[]⟩ : ByteArray))) true 0)) := Lib.hid (fun W hW => by
        have h1 := attrtog_any aa la ca (tabA ks vs) (ofL [letB k]) 0 W hW (by rw [size_ofL]; show 1 ≤ maxLen; decide) (by have := ((right_iff _).1 (tab_right HFT.out)).1; omega)
        rw [toList_ofL, show [letB k] = letN k from rfl] at h1
        obtain ⟨g1, g2, g3⟩ := tog_not HFT.out hk26 hm
        rw [g1, g2, g3] at h1
        exact h1)
      have HSZ : Hid ((⟨#[]⟩ : ByteArray).size ≤ 200) := Lib.hid (by decide)
      as_aux_lemma =>
        have m1 : decide (k ∈ ks) = false := decide_eq_false hm
        have HFT2 : Hid (FineT (ks ++ [k]) (upd vs k (⟨#[]⟩ : ByteArray))) := Lib.hid (by have := fine_add HFT.out hk26 HSZ.out; rwa [if_neg hm] at this)
        have HHS : Hid ((fun j => if j = k then true else decide (j ∈ ks)) = fun j => decide (j ∈ ks ++ [k])) := Lib.hid hs_add
        have HIF : Hid ((if k ∈ ks then ks else ks ++ [k]) = ks ++ [k]) := Lib.hid (if_neg hm)
        obtain ⟨n, hn⟩ : ∃ n, n0 + 1 = n := ⟨_, rfl⟩
        have HLN : Hid ((ks ++ [k]).length = n) := Lib.hid (by rw [List.length_append, HLN0.out, ← hn]; rfl)
        have HNN := Lib.hid hn
        clear hm hn
        go_wp2_with (first
          | (go_at_call 16; have BLX := BL.out (.cells #[.int .u8 (97 + (k : Int))] 5); refine (CT.out _ (HA.out.below BLX)).mono ?_; rintro e w3 ⟨a3, la3, ca3, rfl, hrow, hb, hnew⟩
             have HBX := Lib.hid (BLX.trans (hb.mono BLX.size))
             have HR3 := Lib.hid (HR.out.keep HBX.out)
             have HNEW : Hid (∀ b off, a3 = some ⟨b, off, none⟩ → wr.heap.size < b) := Lib.hid (fun b off h => Nat.lt_of_lt_of_le (by simp) (hnew b off h))
             have hh3 := HR3.out.has k hk26
             have hf3 := HR3.out.free1 k
             have hv3 := HR3.out.val k hk26
             have hg3 := HR3.out.free2 k
             have hz3 : w1.heap.size + 1 < w3.heap.size := HR3.out.lt
             have HROW : Hid (AttrRow w3 a3 la3 ca3 (tabA (ks ++ [k]) (upd vs k (⟨#[]⟩ : ByteArray)))) := Lib.hid hrow
             have hla : n = la3 := by have h1 := hrow.hlen; unfold tabA at h1; rw [List.length_map, HLN.out] at h1; exact h1
             subst hla
             clear hrow hb hnew BLX
             have HR4 : Hid (Raw w ((w3.setCell ⟨w1.heap.size, k, none⟩ (.bool true)).setCell ⟨w1.heap.size + 1, k, none⟩ (.string (⟨#[]⟩ : ByteArray))) w1.heap.size (.slice ao n0 co) ks (fun j => decide (j ∈ ks ++ [k])) (upd vs k (⟨#[]⟩ : ByteArray))) := Lib.hid (by
               have := (HR3.out.setHas hk26 true).setVal hk26 (⟨#[]⟩ : ByteArray)
               rwa [HHS.out] at this)
             have HROW3 : Hid (AttrRow ((w3.setCell ⟨w1.heap.size, k, none⟩ (.bool true)).setCell ⟨w1.heap.size + 1, k, none⟩ (.string (⟨#[]⟩ : ByteArray))) a3 n ca3 (tabA (ks ++ [k]) (upd vs k (⟨#[]⟩ : ByteArray)))) := Lib.hid ((HROW.out.setCell (fun b off h => by have := HNEW.out b off h; show w1.heap.size ≠ b; omega) _).setCell (fun b off h => by have := HNEW.out b off h; show w1.heap.size + 1 ≠ b; omega) _))
          | (at_builtin
             refine wpList_append_rows rfl (.tmp 127) (.tmp 129) 46 rfl 3 i0 _ 1 8 Try.underlying46 hi0 hz0 hz1 hz2 rfl (by decide) (w1.heap.size + 2) (.slice ao n0 co) n0 ks [k] rfl ((raw_ord HR4.out HLN0.out).alloc _) _ 1 1 rfl (own_at (by simp [World.setCell]) _ _ _ rfl rfl) (fun x _ => encI_one x) (by unfold maxLen; omega) (by omega) (by have := HR4.out.lt; simp at this ⊢; omega) (fun h => by cases h) ?_
             intro v5 w5 hown5 hg5 hat5
             have HR5' := Lib.hid (HR4.out.added hg5 (by rw [HLN0.out]; exact hown5))
             obtain ⟨ao2, co2, hv5⟩ := own_shape hown5
             subst hv5
             have HROW4 : Hid (AttrRow w5 a3 n ca3 (tabA (ks ++ [k]) (upd vs k (⟨#[]⟩ : ByteArray)))) := Lib.hid ((HROW3.out.new_alloc _).grown hg5 (fun b off h e => by have h1 := HNEW.out b off h; have h2 := HON.out b e; omega))
             have HR5 : Hid (Raw w w5 w1.heap.size (.slice ao2 n co2) (ks ++ [k]) (fun j => decide (j ∈ ks ++ [k])) (upd vs k (⟨#[]⟩ : ByteArray))) := Lib.hid (by have h1 := HR5'.out; rw [HNN.out] at h1; exact h1)
             have hh5 : w5.cell? ⟨w1.heap.size, k, none⟩ = some (.bool true) := by
               have h1 := HR5.out.has k hk26
               rwa [show decide (k ∈ ks ++ [k]) = true from decide_eq_true (by simp)] at h1
             rw [HNN.out]
             clear hown5 hg5 hat5 HR5')
          | (go_at_call 18; refine (CR.out _ _ _ _ _ _ HFT2.out HROW4.out).mono ?_; rintro e w6 ⟨rfl, hb6⟩; have HB6 := Lib.hid hb6; clear hb6))
        have HR6 := Lib.hid (HR5.out.keep HB6.out)
        have HROW6 := Lib.hid (HROW4.out.below HB6.out)
        have HSR : Hid (SRow encI 1 w6 ao2 n co2 (ks ++ [k])) := Lib.hid (by
          obtain ⟨a, c, he, hs, _⟩ := SRow.of_own (fun x _ => encI_len x) HLN.out (by have := HR6.out.ord; rwa [HLN.out] at this)
          injection he with e1 e2 e3
          subst e1; subst e3
          exact hs)
        have h664 := HSR.out.len64
        go_loopw [21] (fun jj wr => ∃ j : Nat, j ≤ n ∧ jj = .int .i64 j ∧ Below w6.heap.size w6 wr) (fun jj _ => n - (intOf jj).toNat)
        case atStart => exact ⟨0, Nat.zero_le _, rfl, Below.refl _ _⟩
        case round =>
          obtain ⟨j, hj, rfl, HBJ⟩ := hrel
          by_cases hjn : j < n
          · obtain ⟨ba, offa, xn, xv, rfl, hbaj, hxg, hd1, hd2, _, _⟩ := HROW6.out.get hjn
            obtain ⟨bo, offo, kj, rfl, hboj, hkg, _, hdo⟩ := HSR.out.get hjn
            have hd3 := hdo 0 _ rfl
            rw [tab_get hkg] at hxg
            obtain ⟨rfl, rfl⟩ : ofL [letB kj] = xn ∧ (upd vs k (⟨#[]⟩ : ByteArray)) kj = xv := by injection hxg with hxg; injection hxg with h1 h2; exact ⟨h1, h2⟩
            have hkj26 : kj < 26 := HFT2.out.lt _ (List.mem_of_getElem? hkg)
            have hd4 := HR6.out.val kj hkj26
            have hgl : w1.heap.size + 1 < w6.heap.size := HR6.out.lt
            obtain ⟨vj, hvj⟩ : ∃ vj, (upd vs k (⟨#[]⟩ : ByteArray)) kj = vj := ⟨_, rfl⟩
            rw [hvj] at hd2 hd4
            have e1 := (HBJ.cell (p := ⟨ba, offa + j * 2, none⟩) hbaj).trans hd1
            have e2 := (HBJ.cell (p := ⟨ba, offa + j * 2 + 1, none⟩) hbaj).trans hd2
            have e3 : wr.cell? ⟨bo, offo + j, none⟩ = some (.int .i64 (kj : Int)) := by
              have := (HBJ.cell (p := ⟨bo, offo + j * 1 + 0, none⟩) hboj).trans hd3
              simpa using this
            have e4 := (HBJ.cell (p := ⟨w1.heap.size + 1, kj, none⟩) hgl).trans hd4
            have E : Hid (wr.cell? ⟨ba, offa + j * 2, none⟩ = some (.string (ofL [letB kj])) ∧ wr.cell? ⟨ba, offa + j * 2 + 1, none⟩ = some (.string vj) ∧ wr.cell? ⟨bo, offo + j, none⟩ = some (.int .i64 (kj : Int)) ∧ wr.cell? ⟨w1.heap.size + 1, kj, none⟩ = some (.string vj) ∧ Below w6.heap.size w6 wr) := Lib.hid ⟨e1, e2, e3, e4, HBJ⟩
            have hb2 := one_back_if (letB kj) (97 + kj) (letN_nat hkj26).symm
            have k0 : (0 : Int) ≤ (kj : Int) := by omega
            have k1 : (kj : Int) < 26 := by omega
            have k2 : ((kj : Int)).toNat = kj := by omega
            have u1 : IntKind.u8.wrap (kj : Int) = (kj : Int) := u8_in (by omega) (by omega)
            have u2 : IntKind.u8.wrap (97 + (kj : Int)) = 97 + (kj : Int) := u8_in (by omega) (by omega)
            clear hd1 hd2 hd3 hd4 hdo hxg hkg hvj e1 e2 e3 e4
            go_wp2_with (fail)
            obtain ⟨e1, e2, e3, e4, _⟩ := E.out
            have k4 : ba < wr.heap.size := Nat.lt_of_lt_of_le hbaj HBJ.size
            have k5 : bo < wr.heap.size := Nat.lt_of_lt_of_le hboj HBJ.size
            have k6 : w1.heap.size + 1 < wr.heap.size := Nat.lt_of_lt_of_le hgl HBJ.size
            go_region
            go_wp2_with (fail)
            go_roundw
            case rel => exact ⟨j + 1, by omega, by go_num, (HBJ.alloc HBJ.size _).drew⟩
            case measure => simp [intOf]; omega
          · have HR7 := Lib.hid (HR6.out.keep HBJ)
            have HROW7 := Lib.hid (HROW6.out.below HBJ)
            go_wp2_with (fail)
            go_roundw
            case rel => exact ⟨i + 1, (ks ++ [k]), (upd vs k (⟨#[]⟩ : ByteArray)), a3, n, ca3, by omega, by go_num, rfl, HFT2, HROW7, HR7⟩
            case measure => simp [intOf]; omega
end Go.Proofs.Ytmofeddldcifbaa
