/- Texts joined in build order: FreshOwn. -/
import Derived.Test.YtnjoimedilonnaaGreatC28
namespace Go.Proofs.YtnjoimedilonnaaGreat
open Go.RowKit
attribute [local go_sem ↓] Go.wp_at_zero Go.wp_at_succ
abbrev kidV (x : NodeD) : Value := .slice x.kA x.kN x.kC
structure KidsOwn (B0 : Nat) (W : World) (g k : Nat) (M : List NodeD) : Prop where
  own : ∀ (i : Nat) x, i < k → M[i]? = some x → W.ownsRow 0 3 1 (kidV x) x.kN (x.core.kids.flatMap encZ)
  ne : ∀ (i : Nat) x b, i < k → M[i]? = some x → (kidV x).ownBlock = some b → b ≠ g ∧ B0 ≤ b
  alt : ∀ (i : Nat) x b off, i < k → M[i]? = some x → x.aA = some ⟨b, off, none⟩ → 0 < x.aN → b < W.heap.size
  al : ∀ (i : Nat) x b off, i < k → M[i]? = some x → x.aA = some ⟨b, off, none⟩ → 0 < x.aN → g < b
  kk : ∀ (i j : Nat) x y b c, i < k → j < k → M[i]? = some x → M[j]? = some y → i ≠ j → (kidV x).ownBlock = some b → (kidV y).ownBlock = some c → b ≠ c
  ak : ∀ (i j : Nat) x y b off c, i < k → j < k → M[i]? = some x → M[j]? = some y → x.aA = some ⟨b, off, none⟩ → 0 < x.aN → (kidV y).ownBlock = some c → b ≠ c
theorem KidsOwn.zero (B0 : Nat) (W : World) (g : Nat) (M : List NodeD) : KidsOwn B0 W g 0 M :=
  ⟨fun i x hi => absurd hi (by omega), fun i x b hi => absurd hi (by omega), fun i x b off hi => absurd hi (by omega), fun i x b off hi => absurd hi (by omega), fun i j x y b c hi => absurd hi (by omega), fun i j x y b off c hi => absurd hi (by omega)⟩
theorem KidsOwn.step {B0 : Nat} {wr w3 : World} {g k B n : Nat} {M : List NodeD} {x : NodeD} (h : KidsOwn B0 wr g k M) (hb : Below wr.heap.size wr w3) (hg : g < wr.heap.size) (hk : M[k]? = some x) {a4 a6 : Option Addr} {an c4 c6 : Nat} (ho : w3.ownsRow B 3 1 (.slice a6 n c6) n (x.core.kids.flatMap encZ)) (hB : wr.heap.size ≤ B)
    (ha : ∀ b off, a4 = some ⟨b, off, none⟩ → 0 < an → wr.heap.size ≤ b ∧ b < B) (o1 o2 : Nat) (u1 u2 : Value) (hB3 : B ≤ w3.heap.size) (hB0 : B0 ≤ wr.heap.size) : KidsOwn B0 ((w3.setCell ⟨g, o1, none⟩ u1).setCell ⟨g, o2, none⟩ u2) g (k + 1) (M.set k ⟨x.core, a4, an, c4, a6, n, c6⟩) := by
  have hkl := (List.getElem?_eq_some_iff.1 hk).1
  have hsz : ((w3.setCell ⟨g, o1, none⟩ u1).setCell ⟨g, o2, none⟩ u2).heap.size = w3.heap.size := by simp [World.setCell]
  have same : ∀ b, b ≠ g → ((w3.setCell ⟨g, o1, none⟩ u1).setCell ⟨g, o2, none⟩ u2).heap[b]? = w3.heap[b]? := fun b hb => (Below.heap_setCell _ _ _ b hb).trans (Below.heap_setCell _ _ _ b hb)
  have getM : ∀ {i : Nat} {z : NodeD}, i < k + 1 → (M.set k ⟨x.core, a4, an, c4, a6, n, c6⟩)[i]? = some z → (i = k ∧ z = ⟨x.core, a4, an, c4, a6, n, c6⟩) ∨ (i < k ∧ M[i]? = some z) := fun {i z} hi hz => by
    by_cases e : i = k
    · subst e
      rw [List.getElem?_set_self hkl] at hz
      exact .inl ⟨rfl, (Option.some.inj hz).symm⟩
    · rw [List.getElem?_set_ne (fun e2 => e e2.symm)] at hz
      exact .inr ⟨by omega, hz⟩
  have nb : ∀ b, Value.ownBlock (.slice a6 n c6) = some b → B ≤ b ∧ b < w3.heap.size := fun b hb2 => ho.lt b hb2
  have old : ∀ (i : Nat) z b, i < k → M[i]? = some z → (kidV z).ownBlock = some b → b < wr.heap.size := fun i z b hi hz hb2 => own_block_lt (h.own i z hi hz) hb2
  have hs3 := hb.size
  refine ⟨fun i z hi hz => ?_, fun i z b hi hz hb2 => ?_, fun i z b off hi hz e hp => ?_, fun i z b off hi hz e hp => ?_, fun i j z y b c hi hj hz hy hne hb2 hc2 => ?_, fun i j z y b off c hi hj hz hy e hp hc2 => ?_⟩
  · rcases getM hi hz with ⟨rfl, rfl⟩ | ⟨hi, hz⟩
    · exact own_base (own_same ho (fun b hb2 => same b (by have := (nb b hb2).1; omega))) (Nat.zero_le _)
    · exact own_same (h.own i z hi hz) (fun b hb2 => (same b (h.ne i z b hi hz hb2).1).trans (hb.block b (old i z b hi hz hb2)))
  · rcases getM hi hz with ⟨rfl, rfl⟩ | ⟨hi, hz⟩
    · have := (nb b hb2).1
      exact ⟨by omega, by omega⟩
    · exact h.ne i z b hi hz hb2
  · rw [hsz]
    rcases getM hi hz with ⟨rfl, rfl⟩ | ⟨hi, hz⟩
    · have h1 := (ha b off e hp).2
      omega
    · have := h.alt i z b off hi hz e hp
      omega
  · rcases getM hi hz with ⟨rfl, rfl⟩ | ⟨hi, hz⟩
    · have h1 := (ha b off e hp).1
      omega
    · exact h.al i z b off hi hz e hp
  · rcases getM hi hz with ⟨rfl, rfl⟩ | ⟨hi2, hz2⟩
    · rcases getM hj hy with ⟨rfl, rfl⟩ | ⟨hj2, hy2⟩
      · exact absurd rfl hne
      · have h1 := (nb b hb2).1
        have h2 := old j y c hj2 hy2 hc2
        omega
    · rcases getM hj hy with ⟨rfl, rfl⟩ | ⟨hj2, hy2⟩
      · have h1 := (nb c hc2).1
        have h2 := old i z b hi2 hz2 hb2
        omega
      · exact h.kk i j z y b c hi2 hj2 hz2 hy2 hne hb2 hc2
  · rcases getM hi hz with ⟨rfl, rfl⟩ | ⟨hi2, hz2⟩
    · have h1 := ha b off e hp
      rcases getM hj hy with ⟨rfl, rfl⟩ | ⟨hj2, hy2⟩
      · have h2 := (nb c hc2).1
        omega
      · have h2 := old j y c hj2 hy2 hc2
        omega
    · rcases getM hj hy with ⟨rfl, rfl⟩ | ⟨hj2, hy2⟩
      · have h1 := (nb c hc2).1
        have h2 := h.alt i z b off hi2 hz2 e hp
        omega
      · exact h.ak i j z y b off c hi2 hj2 hz2 hy2 e hp hc2
theorem KidsOwn.far {B0 : Nat} {W : World} {g k b o : Nat} {u : Value} {M : List NodeD} (h : KidsOwn B0 W g k M) (hb : ∀ (i : Nat) x c, i < k → M[i]? = some x → (kidV x).ownBlock = some c → c ≠ b) : KidsOwn B0 (W.setCell ⟨b, o, none⟩ u) g k M :=
  ⟨fun i x hi hx => own_same (h.own i x hi hx) (fun c hc => Below.heap_setCell _ _ _ c (hb i x c hi hx hc)), h.ne, fun i x b' off hi hx e hp => by simpa [World.setCell] using h.alt i x b' off hi hx e hp, h.al, h.kk, h.ak⟩
theorem KidsOwn.keep {B0 : Nat} {W W2 : World} {g k : Nat} {M : List NodeD} (h : KidsOwn B0 W g k M) (hb : Below W.heap.size W W2) : KidsOwn B0 W2 g k M :=
  ⟨fun i x hi hx => own_below (h.own i x hi hx) hb, h.ne, fun i x b' off hi hx e hp => Nat.lt_of_lt_of_le (h.alt i x b' off hi hx e hp) hb.size, h.al, h.kk, h.ak⟩
def CopyOwn (w : World) (n : Nat) (F : List Core) (m : Int) (e : Ending) (w' : World) : Prop := ∃ v M, e = .returned (.agg #[v, .int .i64 m]) ∧ Copy w.heap.size w w' v n M F ∧ (∀ x ∈ M, newLists w.heap.size x) ∧ ∀ g, v.ownBlock = some g → KidsOwn w.heap.size w' g n M
set_option maxHeartbeats 16000000 in
set_option maxRecDepth 100000 in
theorem cloneOwn_any (a : Option Addr) (len cap : Nat) (m : Int) (L : List NodeD) (w : World) (h : NodeRow w a len cap L) (hs : smallF L) :
    Calls Tryz.prog 40 #[forV a len cap m] w (CopyOwn w len (coreL L) m) := by
  have HL := Lib.hid h.hlen
  have hlen : len ≤ 1000 := by rw [← h.hlen]; exact hs.1
  have HSM : Hid (∀ c ∈ coreL L, c.kids.length ≤ 1000 ∧ c.attrs.length ≤ 1000) := Lib.hid (fun c hc => by
    obtain ⟨x, hx, rfl⟩ := List.mem_map.1 hc
    exact ⟨(hs.2 x hx).1, (hs.2 x hx).2.1⟩)
  obtain ⟨w0, hw0, BX, FB⟩ : ∃ w0, (w.alloc (forB a len cap m)).alloc (.cells #[.slice none 0 0, .int .i64 0] 24) = w0 ∧ Box w w0 w.heap.size a len cap m L (coreL L) ∧ ForBox w w0 (w.heap.size + 1) w.heap.size m := by
    refine ⟨_, rfl, (Box.start (m := m) h).keep (below_box _ _), ?_⟩
    have e1 : (w.alloc (forB a len cap m)).heap.size = w.heap.size + 1 := by simp
    have c : ∀ j, ((w.alloc (forB a len cap m)).alloc (.cells #[.slice none 0 0, .int .i64 0] 24)).cell? ⟨w.heap.size + 1, j, none⟩ = (#[.slice none 0 0, .int .i64 0] : Array Value)[j]? := fun j => by
      have := cell_of_row ((w.alloc (forB a len cap m)).alloc (.cells #[.slice none 0 0, .int .i64 0] 24)) (w.alloc (forB a len cap m)).heap.size j _ 24 (0, 0) (heap_alloc_new _ _)
      rwa [e1] at this
    have f : ∀ j, ((w.alloc (forB a len cap m)).alloc (.cells #[.slice none 0 0, .int .i64 0] 24)).frozen? ⟨w.heap.size + 1, j, none⟩ = false := fun j => by
      have := row_free (heap_alloc_new (w.alloc (forB a len cap m)) (.cells #[.slice none 0 0, .int .i64 0] 24)) j
      rwa [e1] at this
    exact ⟨by simp, c 0, c 1, f 0, f 1, ((Box.start (m := m) h).keep (below_box _ _)).c1⟩
  have BX := Lib.hid BX
  have FB := Lib.hid FB
  have HW := Lib.hid hw0
  have HH := Lib.hid h
  have CN : Hid (∀ W, NodeRow W a len cap L → Calls Tryz.prog 54 #[.slice a len cap] W (OwnPostN W L)) := Lib.hid (fun W h => cloneN_any a len cap L W h (by omega))
  have z0 : ((w.alloc (forB a len cap m)).alloc (.cells #[.slice none 0 0, .int .i64 0] 24)).cell? ⟨w.heap.size, 0, none⟩ = some (.slice a len cap) := by rw [hw0]; exact BX.out.c0
  clear h hs hw0
  go_enter Tryz.func40, Tryz.ntmps40
  go_wp2_with (go_at_call 54; rw [HW.out]; refine (CN.out _ BX.out.row).mono ?_; intro e w1 hp; obtain ⟨v, rfl, hown, hb⟩ := hp; have CP := Lib.hid (Copy.start HL.out HH.out.ok BX.out.below hb hown); obtain ⟨a2, cap2, rfl, hr2, hlo2⟩ := CP.out.row; have FB1 := Lib.hid (FB.out.keep BX.out.lt hb); clear hown hb hr2 hlo2 z0)
  go_loopw [11] (fun i wr => ∃ (k : Nat) (M : List NodeD), k ≤ len ∧ i = .int .i64 k ∧ Hid (Copy w.heap.size w0 wr (.slice a2 len cap2) len M (coreL L)) ∧ Hid (∀ (j : Nat) x, j < k → M[j]? = some x → newLists w.heap.size x) ∧ Hid (∀ g, a2 = some ⟨g, 0, none⟩ → KidsOwn w0.heap.size wr g k M)) (fun i _ => len - (intOf i).toNat)
  case atStart => exact ⟨0, L, Nat.zero_le _, rfl, CP, Lib.hid (fun j x hj => absurd hj (by omega)), Lib.hid (fun g _ => KidsOwn.zero _ _ _ _)⟩
  case round =>
    clear CP FB1
    obtain ⟨k, M, hk, rfl, CP, NL, KO⟩ := hrel
    by_cases hlt : k < len
    · obtain ⟨a3, cap3, he3, hr3, hlo3⟩ := CP.out.row
      injection he3 with e1 e2 e3
      subst e1 e3
      obtain ⟨g, off, x, rfl, hg, hx, hat, hok⟩ := hr3.get hlt
      obtain ⟨hlo, rfl⟩ := hlo3 g off rfl
      rw [Nat.zero_add] at hat
      obtain ⟨W1, hW1, CI, hgl⟩ : ∃ W1, wr.alloc (nodB x) = W1 ∧ CopyIn w.heap.size w0 W1 g len cap2 k M (coreL L) wr.heap.size x ∧ g < W1.heap.size := by
        have hbx := (NKeep.start hok).box
        exact ⟨_, rfl, ⟨CP.out.keep (below_box _ _), hlo, hx, by simp, hbx.c4, hbx.c6⟩, by simp; omega⟩
      have CI := Lib.hid CI
      have HW1 := Lib.hid hW1
      have HGL := Lib.hid hgl
      have HGW := Lib.hid hg
      have KOW := Lib.hid (KO.out g rfl)
      clear hW1 hgl
      obtain ⟨c0, c1, c2, c3, c4, c5, c6, c7, c8, c9⟩ := hat
      have hn3 : x.core.data.size ≤ 9223372036854775807 := by have := hok.data; unfold maxLen at this; omega
      have HXC : Hid (x.core ∈ coreL L) := Lib.hid (by rw [← CP.out.core]; exact List.mem_map.2 ⟨x, List.mem_of_getElem? hx, rfl⟩)
      have HAL := Lib.hid hok.attrs.hlen
      have HKL := Lib.hid hok.kids.hlen
      have CA : Hid (∀ W, AttrRow W x.aA x.aN x.aC x.core.attrs → Calls Tryz.prog 49 #[.slice x.aA x.aN x.aC] W (OwnPost W x.core.attrs)) := Lib.hid (fun W h => clone_any _ _ _ _ W h (by have := (HSM.out _ HXC.out).2; rw [HAL.out] at this; omega))
      have CK : Hid (∀ W, IntRow W x.kA x.kN x.kC x.core.kids → Calls Tryz.prog 55 #[.slice x.kA x.kN x.kC] W (OwnPostI W x.core.kids)) := Lib.hid (fun W h => cloneI_any _ _ _ _ W h (by have := (HSM.out _ HXC.out).1; rw [HKL.out] at this; omega))
      have HS1 := Lib.hid hok.attrs.small
      have HS2 := Lib.hid hok.kids.inb
      clear CP hr3 hlo3 hok hx
      go_wp2
      rw [HW1.out]
      clear c0 c1 c2 c3 c4 c5 c6 c7 c8 c9 hn3
      have x4 := CI.out.c4
      have x6 := CI.out.c6
      have hne1 : g ≠ wr.heap.size := Nat.ne_of_lt HGW.out
      have hne2 : wr.heap.size ≠ g := Nat.ne_of_gt HGW.out
      go_region_held3 (fun w' => w'.cell? ⟨wr.heap.size, 4, none⟩ = some (.slice x.aA x.aN x.aC) ∧ w'.cell? ⟨wr.heap.size, 6, none⟩ = some (.slice x.kA x.kN x.kC)) (go_keep)
        (first
          | (go_at_call 49; refine (CA.out _ CI.out.ok.attrs.drew).mono ?_; intro e w2 hp; obtain ⟨a4, c4, rfl, hrw, hlow, hb⟩ := hp.row HS1.out; have RA := Lib.hid hrw; have LA := Lib.hid hlow; have LA2 : Hid (∀ b off, a4 = some ⟨b, off, none⟩ → 0 < x.core.attrs.length → b < w2.heap.size) := (Lib.hid (fun b off e hp => attr_block_lt hrw e hp)); have HBW2 : Hid (Below W1.heap.size W1 w2) := (Lib.hid ((Below.refl W1.heap.size W1).drew.trans hb)); have CI := Lib.hid (CI.out.keep ((Below.refl _ _).drew.trans hb)); have x4 := CI.out.c4; have x6 := CI.out.c6; have HG2 := Lib.hid (Nat.lt_of_lt_of_le HGL.out hb.size); clear hp hrw hlow hb)
          | (go_at_call 55; refine (CK.out _ CI.out.ok.kids).mono ?_; intro e w3 hp; obtain ⟨v6, rfl, hown6, hb⟩ := hp; obtain ⟨a6, c6, rfl, hrw, hlow⟩ := IntRow.of_own_new (M := x.core.kids) (n := x.core.kids.length) rfl hown6 HS2.out; have KO6 := Lib.hid hown6; have HSZ3 := Lib.hid hb.size; have HBW3 : Hid (Below W1.heap.size W1 w3) := (Lib.hid (HBW2.out.trans (hb.mono HBW2.out.size))); have RK := Lib.hid hrw; have LK := Lib.hid hlow; have RA := Lib.hid (RA.out.below hb); have CI := Lib.hid (CI.out.keep hb); have x4 := CI.out.c4; have x6 := CI.out.c6; have d4 := CI.out.at.c4; have d6 := CI.out.at.c6; have f4 := own_free CI.out.copy.own (k * 10 + 4); have f6 := own_free CI.out.copy.own (k * 10 + 6); clear hrw hlow hb hown6))
      have HW0 : Hid (w0.heap.size ≤ W1.heap.size) := Lib.hid (Nat.le_trans (Nat.le_of_lt (Nat.lt_of_le_of_lt CI.out.low HGL.out)) (Nat.le_refl _))
      have CP2 := Lib.hid (CI.out.copy.set CI.out.low CI.out.hx RA.out RK.out (fun g' hg' => ⟨fun b off hb _ => by
        have h1 : W1.drew.heap.size ≤ b := LA.out b off hb
        have h2 : W1.drew.heap.size = W1.heap.size := rfl
        have h3 := HGL.out
        have h4 := HW0.out
        rcases hg' with h | h <;> omega, fun b off hb _ => by
        have h1 := LK.out b off hb
        have h2 := HG2.out
        have h3 := CI.out.low
        rcases hg' with h | h <;> omega⟩))
      have NL2 : Hid (∀ (j : Nat) y, j < k + 1 → (M.set k ⟨x.core, a4, x.core.attrs.length, c4, a6, x.core.kids.length, c6⟩)[j]? = some y → newLists w.heap.size y) := Lib.hid (fun j y hj hy => by
        by_cases e : k = j
        · subst e
          rw [List.getElem?_set_self (List.getElem?_eq_some_iff.1 CI.out.hx).1] at hy
          rw [← Option.some.inj hy]
          have h0 := BX.out.below.size
          have h2 := HG2.out
          have h3 := CI.out.low
          refine ⟨fun b off hb => ?_, fun b off hb => ?_⟩
          · have h1 : W1.drew.heap.size ≤ b := LA.out b off hb
            have h4 : W1.drew.heap.size = W1.heap.size := rfl
            have h5 := HW0.out
            omega
          · have h1 := LK.out b off hb
            omega
        · rw [List.getElem?_set_ne e] at hy
          exact NL.out j y (by omega) hy)
      have KO2 : Hid (∀ g', some ⟨g, 0, none⟩ = some (⟨g', 0, none⟩ : Addr) → KidsOwn w0.heap.size ((w3.setCell ⟨g, k * 10 + 4, none⟩ (.slice a4 x.core.attrs.length c4)).setCell ⟨g, k * 10 + 6, none⟩ (.slice a6 x.core.kids.length c6)) g' (k + 1) (M.set k ⟨x.core, a4, x.core.attrs.length, c4, a6, x.core.kids.length, c6⟩)) := Lib.hid (fun g' e => by
        injection e with e
        injection e with e
        subst e
        have hw1 : Below wr.heap.size wr w3 := by
          have h1 : Below wr.heap.size wr W1 := by rw [← HW1.out]; exact below_box _ _
          exact h1.trans (HBW3.out.mono h1.size)
        have h0 : wr.heap.size ≤ W1.heap.size := by rw [← HW1.out]; simp
        exact KOW.out.step hw1 HGW.out CI.out.hx KO6.out (Nat.le_trans h0 HBW2.out.size) (fun b off hb hp => ⟨Nat.le_trans h0 (LA.out b off hb), LA2.out b off hb hp⟩) _ _ _ _ HSZ3.out (Nat.le_of_lt (Nat.lt_of_le_of_lt CI.out.low HGW.out)))
      go_wp2
      go_roundw
      case rel => exact ⟨k + 1, _, by omega, by go_num, CP2, NL2, KO2⟩
      case measure => simp [intOf]; omega
    · have hkk : k = len := by omega
      subst hkk
      have FB2 := Lib.hid (FB.out.keep BX.out.lt CP.out.below)
      have d0 := FB2.out.c0
      have d1 := FB2.out.c1
      have f0 := FB2.out.f0
      have f1 := FB2.out.f1
      have z1 := FB2.out.d1
      go_wp2
      refine bodyPost_ret (v := .agg #[.slice a2 k cap2, .int .i64 m]) ?_ rfl ⟨_, M, rfl, CP.out.finish BX.out.below (by omega) FB.out.lt 0 1 _ _, fun x hx => ?_, fun g e => ?_⟩
      · simp [results, Tryz.results40, go_sem, d0, d1]
      · obtain ⟨j, hj, he⟩ := List.mem_iff_getElem.1 hx
        exact NL.out j x (by rw [CP.out.hl] at hj; exact hj) (by rw [List.getElem?_eq_getElem hj, he])
      · obtain ⟨g', rfl⟩ : ∃ g', a2 = some ⟨g', 0, none⟩ := by
          rcases CP.out.own.2 with ⟨hv, _⟩ | ⟨g', c', cur, hv, _⟩
          · injection hv with h1
            rw [h1] at e
            cases e
          · injection hv with h1
            exact ⟨g', h1⟩
        have e2 : g' = g := by injection e
        subst e2
        have hw0 := BX.out.below.size
        have hlt := FB.out.lt
        have hfar : ∀ (i : Nat) x c, i < k → M[i]? = some x → (kidV x).ownBlock = some c → c ≠ w.heap.size + 1 := fun i x c hi hx hc => by
          have := ((KO.out g' rfl).ne i x c hi hx hc).2
          omega
        have h1 := ((KO.out g' rfl).far (b := w.heap.size + 1) (o := 0) (u := .slice (some ⟨g', 0, none⟩) k cap2) hfar).far (b := w.heap.size + 1) (o := 1) (u := .int .i64 m) hfar
        exact ⟨h1.own, fun i x b hi hx hb => ⟨(h1.ne i x b hi hx hb).1, Nat.le_trans hw0 (h1.ne i x b hi hx hb).2⟩, h1.alt, h1.al, h1.kk, h1.ak⟩
end Go.Proofs.YtnjoimedilonnaaGreat
