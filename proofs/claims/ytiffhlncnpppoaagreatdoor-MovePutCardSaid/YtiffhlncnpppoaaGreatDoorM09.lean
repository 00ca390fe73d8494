/- Texts joined in build order: FreshOwn ForestPut ShadeAsk ValidFns ValidAsk ValidMay ShadeRefuse ShadeAttach. -/
import Derived.Test.YtiffhlncnpppoaaGreatDoorM08
import Derived.Test.YtiffhlncnpppoaaGreatDoorM04
import Derived.Test.YtiffhlncnpppoaaGreatDoorM05
import Derived.Test.YtiffhlncnpppoaaGreatDoorM06
import Derived.Deep.RegionLaw
namespace Go.Proofs.YtiffhlncnpppoaaGreatDoor
open Go.RowKit
attribute [local go_sem ↓] Go.wp_at_zero Go.wp_at_succ
abbrev kidV (x : NodeD) : Value := .slice x.kA x.kN x.kC
structure KidsOwn (B0 : Nat) (W : World) (g k : Nat) (M : List NodeD) : Prop where
  own : ∀ (i : Nat) x, i < k → M[i]? = some x → W.ownsRow 0 3 1 (kidV x) x.kN (x.core.kids.flatMap encZ)
  ne : ∀ (i : Nat) x b, i < k → M[i]? = some x → (kidV x).ownBlock = some b → b ≠ g ∧ B0 ≤ b
  alt : ∀ (i : Nat) x b off, i < k → M[i]? = some x → x.aA = some ⟨b, off, none⟩ → 0 < x.aN → b < W.heap.size
  al : ∀ (i : Nat) x b off, i < k → M[i]? = some x → x.aA = some ⟨b, off, none⟩ → 0 < x.aN → g < b
  kk : ∀ (i j : Nat) x y b c, i < k → j < k → M[i]? = some x → M[j]? = some y → i ≠ j → (kidV x).ownBlock = some b → (kidV y).ownBlock = some c → b ≠ c
  ak : ∀ (i j : Nat) x y b off c, i < k → j < k → M[i]? = some x → M[j]? = some y → x.aA = some ⟨b, off, none⟩ → 0 < x.aN → (kidV y).ownBlock = some c → b ≠ c
theorem KidsOwn.zero (B0 : Nat) (W : World) (g : Nat) (M : List NodeD) : KidsOwn B0 W g 0 M :=
  ⟨fun i x hi => absurd hi (by omega), fun i x b hi => absurd hi (by omega), fun i x b off hi => absurd hi (by omega), fun i x b off hi => absurd hi (by omega), fun i j x y b c hi => absurd hi (by omega), fun i j x y b off c hi => absurd hi (by omega)⟩
theorem KidsOwn.step {B0 : Nat} {wr w3 : World} {g k B n : Nat} {M : List NodeD} {x : NodeD} (h : KidsOwn B0 wr g k M) (hb : Below wr.heap.size wr w3) (hg : g < wr.heap.size) (hk : M[k]? = some x) {a4 a6 : Option Addr} {an c4 c6 : Nat} (ho : w3.ownsRow B 3 1 (.slice a6 n c6) n (x.core.kids.flatMap encZ)) (hB : wr.heap.size ≤ B)
    (ha : ∀ b off, a4 = some ⟨b, off, none⟩ → 0 < an → wr.heap.size ≤ b ∧ b < B) (o1 o2 : Nat) (u1 u2 : Value) (hB3 : B ≤ w3.heap.size) (hB0 : B0 ≤ wr.heap.size) : KidsOwn B0 ((w3.setCell ⟨g, o1, none⟩ u1).setCell ⟨g, o2, none⟩ u2) g (k + 1) (M.set k ⟨x.core, a4, an, c4, a6, n, c6⟩) := by
  have hkl := (List.getElem?_eq_some_iff.1 hk).1
  have hsz : ((w3.setCell ⟨g, o1, none⟩ u1).setCell ⟨g, o2, none⟩ u2).heap.size = w3.heap.size := by simp [World.setCell]
  have same : ∀ b, b ≠ g → ((w3.setCell ⟨g, o1, none⟩ u1).setCell ⟨g, o2, none⟩ u2).heap[b]? = w3.heap[b]? := fun b hb => (Below.heap_setCell _ _ _ b hb).trans (Below.heap_setCell _ _ _ b hb)
  have getM : ∀ {i : Nat} {z : NodeD}, i < k + 1 → (M.set k ⟨x.core, a4, an, c4, a6, n, c6⟩)[i]? = some z → (i = k ∧ z = ⟨x.core, a4, an, c4, a6, n, c6⟩) ∨ (i < k ∧ M[i]? = some z) := fun {i z} hi hz => by
    by_cases e : i = k
    · subst e
      rw [List.getElem?_set_self hkl] at hz
      exact .inl ⟨rfl, (Option.some.inj hz).symm⟩
    · rw [List.getElem?_set_ne (fun e2 => e e2.symm)] at hz
      exact .inr ⟨by omega, hz⟩
  have nb : ∀ b, Value.ownBlock (.slice a6 n c6) = some b → B ≤ b ∧ b < w3.heap.size := fun b hb2 => ho.lt b hb2
  have old : ∀ (i : Nat) z b, i < k → M[i]? = some z → (kidV z).ownBlock = some b → b < wr.heap.size := fun i z b hi hz hb2 => own_block_lt (h.own i z hi hz) hb2
  have hs3 := hb.size
  refine ⟨fun i z hi hz => ?_, fun i z b hi hz hb2 => ?_, fun i z b off hi hz e hp => ?_, fun i z b off hi hz e hp => ?_, fun i j z y b c hi hj hz hy hne hb2 hc2 => ?_, fun i j z y b off c hi hj hz hy e hp hc2 => ?_⟩
  · rcases getM hi hz with ⟨rfl, rfl⟩ | ⟨hi, hz⟩
    · exact own_base (own_same ho (fun b hb2 => same b (by have := (nb b hb2).1; omega))) (Nat.zero_le _)
    · exact own_same (h.own i z hi hz) (fun b hb2 => (same b (h.ne i z b hi hz hb2).1).trans (hb.block b (old i z b hi hz hb2)))
  · rcases getM hi hz with ⟨rfl, rfl⟩ | ⟨hi, hz⟩
    · have := (nb b hb2).1
      exact ⟨by omega, by omega⟩
    · exact h.ne i z b hi hz hb2
  · rw [hsz]
    rcases getM hi hz with ⟨rfl, rfl⟩ | ⟨hi, hz⟩
    · have h1 := (ha b off e hp).2
      omega
    · have := h.alt i z b off hi hz e hp
      omega
  · rcases getM hi hz with ⟨rfl, rfl⟩ | ⟨hi, hz⟩
    · have h1 := (ha b off e hp).1
      omega
    · exact h.al i z b off hi hz e hp
  · rcases getM hi hz with ⟨rfl, rfl⟩ | ⟨hi2, hz2⟩
    · rcases getM hj hy with ⟨rfl, rfl⟩ | ⟨hj2, hy2⟩
      · exact absurd rfl hne
      · have h1 := (nb b hb2).1
        have h2 := old j y c hj2 hy2 hc2
        omega
    · rcases getM hj hy with ⟨rfl, rfl⟩ | ⟨hj2, hy2⟩
      · have h1 := (nb c hc2).1
        have h2 := old i z b hi2 hz2 hb2
        omega
      · exact h.kk i j z y b c hi2 hj2 hz2 hy2 hne hb2 hc2
  · rcases getM hi hz with ⟨rfl, rfl⟩ | ⟨hi2, hz2⟩
    · have h1 := ha b off e hp
      rcases getM hj hy with ⟨rfl, rfl⟩ | ⟨hj2, hy2⟩
      · have h2 := (nb c hc2).1
        omega
      · have h2 := old j y c hj2 hy2 hc2
        omega
    · rcases getM hj hy with ⟨rfl, rfl⟩ | ⟨hj2, hy2⟩
      · have h1 := (nb c hc2).1
        have h2 := h.alt i z b off hi2 hz2 e hp
        omega
      · exact h.ak i j z y b off c hi2 hj2 hz2 hy2 e hp hc2
theorem KidsOwn.far {B0 : Nat} {W : World} {g k b o : Nat} {u : Value} {M : List NodeD} (h : KidsOwn B0 W g k M) (hb : ∀ (i : Nat) x c, i < k → M[i]? = some x → (kidV x).ownBlock = some c → c ≠ b) : KidsOwn B0 (W.setCell ⟨b, o, none⟩ u) g k M :=
  ⟨fun i x hi hx => own_same (h.own i x hi hx) (fun c hc => Below.heap_setCell _ _ _ c (hb i x c hi hx hc)), h.ne, fun i x b' off hi hx e hp => by simpa [World.setCell] using h.alt i x b' off hi hx e hp, h.al, h.kk, h.ak⟩
theorem KidsOwn.keep {B0 : Nat} {W W2 : World} {g k : Nat} {M : List NodeD} (h : KidsOwn B0 W g k M) (hb : Below W.heap.size W W2) : KidsOwn B0 W2 g k M :=
  ⟨fun i x hi hx => own_below (h.own i x hi hx) hb, h.ne, fun i x b' off hi hx e hp => Nat.lt_of_lt_of_le (h.alt i x b' off hi hx e hp) hb.size, h.al, h.kk, h.ak⟩
def CopyOwn (w : World) (n : Nat) (F : List Core) (m : Int) (e : Ending) (w' : World) : Prop := ∃ v M, e = .returned (.agg #[v, .int .i64 m]) ∧ Copy w.heap.size w w' v n M F ∧ (∀ x ∈ M, newLists w.heap.size x) ∧ ∀ g, v.ownBlock = some g → KidsOwn w.heap.size w' g n M
set_option maxHeartbeats 16000000 in
set_option maxRecDepth 100000 in
theorem cloneOwn_any (a : Option Addr) (len cap : Nat) (m : Int) (L : List NodeD) (w : World) (h : NodeRow w a len cap L) (hs : smallF L) :
    Calls Tryz.prog 115 #[forV a len cap m] w (CopyOwn w len (coreL L) m) := by
  have HL := Lib.hid h.hlen
  have hlen : len ≤ 1000 := by rw [← h.hlen]; exact hs.1
  have HSM : Hid (∀ c ∈ coreL L, c.kids.length ≤ 1000 ∧ c.attrs.length ≤ 1000) := Lib.hid (fun c hc => by
    obtain ⟨x, hx, rfl⟩ := List.mem_map.1 hc
    exact ⟨(hs.2 x hx).1, (hs.2 x hx).2.1⟩)
  obtain ⟨w0, hw0, BX, FB⟩ : ∃ w0, (w.alloc (forB a len cap m)).alloc (.cells #[.slice none 0 0, .int .i64 0] 24) = w0 ∧ Box w w0 w.heap.size a len cap m L (coreL L) ∧ ForBox w w0 (w.heap.size + 1) w.heap.size m := by
    refine ⟨_, rfl, (Box.start (m := m) h).keep (below_box _ _), ?_⟩
    have e1 : (w.alloc (forB a len cap m)).heap.size = w.heap.size + 1 := by simp
    have c : ∀ j, ((w.alloc (forB a len cap m)).alloc (.cells #[.slice none 0 0, .int .i64 0] 24)).cell? ⟨w.heap.size + 1, j, none⟩ = (#[.slice none 0 0, .int .i64 0] : Array Value)[j]? := fun j => by
      have := cell_of_row ((w.alloc (forB a len cap m)).alloc (.cells #[.slice none 0 0, .int .i64 0] 24)) (w.alloc (forB a len cap m)).heap.size j _ 24 (0, 0) (heap_alloc_new _ _)
      rwa [e1] at this
    have f : ∀ j, ((w.alloc (forB a len cap m)).alloc (.cells #[.slice none 0 0, .int .i64 0] 24)).frozen? ⟨w.heap.size + 1, j, none⟩ = false := fun j => by
      have := row_free (heap_alloc_new (w.alloc (forB a len cap m)) (.cells #[.slice none 0 0, .int .i64 0] 24)) j
      rwa [e1] at this
    exact ⟨by simp, c 0, c 1, f 0, f 1, ((Box.start (m := m) h).keep (below_box _ _)).c1⟩
  have BX := Lib.hid BX
  have FB := Lib.hid FB
  have HW := Lib.hid hw0
  have HH := Lib.hid h
  have CN : Hid (∀ W, NodeRow W a len cap L → Calls Tryz.prog 152 #[.slice a len cap] W (OwnPostN W L)) := Lib.hid (fun W h => cloneN_any a len cap L W h (by omega))
  have z0 : ((w.alloc (forB a len cap m)).alloc (.cells #[.slice none 0 0, .int .i64 0] 24)).cell? ⟨w.heap.size, 0, none⟩ = some (.slice a len cap) := by rw [hw0]; exact BX.out.c0
  clear h hs hw0
  go_enter Tryz.func115, Tryz.ntmps115
  go_wp2_with (go_at_call 152; rw [HW.out]; refine (CN.out _ BX.out.row).mono ?_; intro e w1 hp; obtain ⟨v, rfl, hown, hb⟩ := hp; have CP := Lib.hid (Copy.start HL.out HH.out.ok BX.out.below hb hown); obtain ⟨a2, cap2, rfl, hr2, hlo2⟩ := CP.out.row; have FB1 := Lib.hid (FB.out.keep BX.out.lt hb); clear hown hb hr2 hlo2 z0)
  go_loopw [11] (fun i wr => ∃ (k : Nat) (M : List NodeD), k ≤ len ∧ i = .int .i64 k ∧ Hid (Copy w.heap.size w0 wr (.slice a2 len cap2) len M (coreL L)) ∧ Hid (∀ (j : Nat) x, j < k → M[j]? = some x → newLists w.heap.size x) ∧ Hid (∀ g, a2 = some ⟨g, 0, none⟩ → KidsOwn w0.heap.size wr g k M)) (fun i _ => len - (intOf i).toNat)
  case atStart => exact ⟨0, L, Nat.zero_le _, rfl, CP, Lib.hid (fun j x hj => absurd hj (by omega)), Lib.hid (fun g _ => KidsOwn.zero _ _ _ _)⟩
  case round =>
    clear CP FB1
    obtain ⟨k, M, hk, rfl, CP, NL, KO⟩ := hrel
    by_cases hlt : k < len
    · obtain ⟨a3, cap3, he3, hr3, hlo3⟩ := CP.out.row
      injection he3 with e1 e2 e3
      subst e1 e3
      obtain ⟨g, off, x, rfl, hg, hx, hat, hok⟩ := hr3.get hlt
      obtain ⟨hlo, rfl⟩ := hlo3 g off rfl
      rw [Nat.zero_add] at hat
      obtain ⟨W1, hW1, CI, hgl⟩ : ∃ W1, wr.alloc (nodB x) = W1 ∧ CopyIn w.heap.size w0 W1 g len cap2 k M (coreL L) wr.heap.size x ∧ g < W1.heap.size := by
        have hbx := (NKeep.start hok).box
        exact ⟨_, rfl, ⟨CP.out.keep (below_box _ _), hlo, hx, by simp, hbx.c4, hbx.c6⟩, by simp; omega⟩
      have CI := Lib.hid CI
      have HW1 := Lib.hid hW1
      have HGL := Lib.hid hgl
      have HGW := Lib.hid hg
      have KOW := Lib.hid (KO.out g rfl)
      clear hW1 hgl
      obtain ⟨c0, c1, c2, c3, c4, c5, c6, c7, c8, c9⟩ := hat
      have hn3 : x.core.data.size ≤ 9223372036854775807 := by have := hok.data; unfold maxLen at this; omega
      have HXC : Hid (x.core ∈ coreL L) := Lib.hid (by rw [← CP.out.core]; exact List.mem_map.2 ⟨x, List.mem_of_getElem? hx, rfl⟩)
      have HAL := Lib.hid hok.attrs.hlen
      have HKL := Lib.hid hok.kids.hlen
      have CA : Hid (∀ W, AttrRow W x.aA x.aN x.aC x.core.attrs → Calls Tryz.prog 134 #[.slice x.aA x.aN x.aC] W (OwnPost W x.core.attrs)) := Lib.hid (fun W h => clone_any _ _ _ _ W h (by have := (HSM.out _ HXC.out).2; rw [HAL.out] at this; omega))
      have CK : Hid (∀ W, IntRow W x.kA x.kN x.kC x.core.kids → Calls Tryz.prog 92 #[.slice x.kA x.kN x.kC] W (OwnPostI W x.core.kids)) := Lib.hid (fun W h => cloneI_any _ _ _ _ W h (by have := (HSM.out _ HXC.out).1; rw [HKL.out] at this; omega))
      have HS1 := Lib.hid hok.attrs.small
      have HS2 := Lib.hid hok.kids.inb
      clear CP hr3 hlo3 hok hx
      go_wp2
      rw [HW1.out]
      clear c0 c1 c2 c3 c4 c5 c6 c7 c8 c9 hn3
      have x4 := CI.out.c4
      have x6 := CI.out.c6
      have hne1 : g ≠ wr.heap.size := Nat.ne_of_lt HGW.out
      have hne2 : wr.heap.size ≠ g := Nat.ne_of_gt HGW.out
      go_region_held3 (fun w' => w'.cell? ⟨wr.heap.size, 4, none⟩ = some (.slice x.aA x.aN x.aC) ∧ w'.cell? ⟨wr.heap.size, 6, none⟩ = some (.slice x.kA x.kN x.kC)) (go_keep)
        (first
          | (go_at_call 134; refine (CA.out _ CI.out.ok.attrs.drew).mono ?_; intro e w2 hp; obtain ⟨a4, c4, rfl, hrw, hlow, hb⟩ := hp.row HS1.out; have RA := Lib.hid hrw; have LA := Lib.hid hlow; have LA2 : Hid (∀ b off, a4 = some ⟨b, off, none⟩ → 0 < x.core.attrs.length → b < w2.heap.size) := (Lib.hid (fun b off e hp => attr_block_lt hrw e hp)); have HBW2 : Hid (Below W1.heap.size W1 w2) := (Lib.hid ((Below.refl W1.heap.size W1).drew.trans hb)); have CI := Lib.hid (CI.out.keep ((Below.refl _ _).drew.trans hb)); have x4 := CI.out.c4; have x6 := CI.out.c6; have HG2 := Lib.hid (Nat.lt_of_lt_of_le HGL.out hb.size); clear hp hrw hlow hb)
          | (go_at_call 92; refine (CK.out _ CI.out.ok.kids).mono ?_; intro e w3 hp; obtain ⟨v6, rfl, hown6, hb⟩ := hp; obtain ⟨a6, c6, rfl, hrw, hlow⟩ := IntRow.of_own_new (M := x.core.kids) (n := x.core.kids.length) rfl hown6 HS2.out; have KO6 := Lib.hid hown6; have HSZ3 := Lib.hid hb.size; have HBW3 : Hid (Below W1.heap.size W1 w3) := (Lib.hid (HBW2.out.trans (hb.mono HBW2.out.size))); have RK := Lib.hid hrw; have LK := Lib.hid hlow; have RA := Lib.hid (RA.out.below hb); have CI := Lib.hid (CI.out.keep hb); have x4 := CI.out.c4; have x6 := CI.out.c6; have d4 := CI.out.at.c4; have d6 := CI.out.at.c6; have f4 := own_free CI.out.copy.own (k * 10 + 4); have f6 := own_free CI.out.copy.own (k * 10 + 6); clear hrw hlow hb hown6))
      have HW0 : Hid (w0.heap.size ≤ W1.heap.size) := Lib.hid (Nat.le_trans (Nat.le_of_lt (Nat.lt_of_le_of_lt CI.out.low HGL.out)) (Nat.le_refl _))
      have CP2 := Lib.hid (CI.out.copy.set CI.out.low CI.out.hx RA.out RK.out (fun g' hg' => ⟨fun b off hb _ => by
        have h1 : W1.drew.heap.size ≤ b := LA.out b off hb
        have h2 : W1.drew.heap.size = W1.heap.size := rfl
        have h3 := HGL.out
        have h4 := HW0.out
        rcases hg' with h | h <;> omega, fun b off hb _ => by
        have h1 := LK.out b off hb
        have h2 := HG2.out
        have h3 := CI.out.low
        rcases hg' with h | h <;> omega⟩))
      have NL2 : Hid (∀ (j : Nat) y, j < k + 1 → (M.set k ⟨x.core, a4, x.core.attrs.length, c4, a6, x.core.kids.length, c6⟩)[j]? = some y → newLists w.heap.size y) := Lib.hid (fun j y hj hy => by
        by_cases e : k = j
        · subst e
          rw [List.getElem?_set_self (List.getElem?_eq_some_iff.1 CI.out.hx).1] at hy
          rw [← Option.some.inj hy]
          have h0 := BX.out.below.size
          have h2 := HG2.out
          have h3 := CI.out.low
          refine ⟨fun b off hb => ?_, fun b off hb => ?_⟩
          · have h1 : W1.drew.heap.size ≤ b := LA.out b off hb
            have h4 : W1.drew.heap.size = W1.heap.size := rfl
            have h5 := HW0.out
            omega
          · have h1 := LK.out b off hb
            omega
        · rw [List.getElem?_set_ne e] at hy
          exact NL.out j y (by omega) hy)
      have KO2 : Hid (∀ g', some ⟨g, 0, none⟩ = some (⟨g', 0, none⟩ : Addr) → KidsOwn w0.heap.size ((w3.setCell ⟨g, k * 10 + 4, none⟩ (.slice a4 x.core.attrs.length c4)).setCell ⟨g, k * 10 + 6, none⟩ (.slice a6 x.core.kids.length c6)) g' (k + 1) (M.set k ⟨x.core, a4, x.core.attrs.length, c4, a6, x.core.kids.length, c6⟩)) := Lib.hid (fun g' e => by
        injection e with e
        injection e with e
        subst e
        have hw1 : Below wr.heap.size wr w3 := by
          have h1 : Below wr.heap.size wr W1 := by rw [← HW1.out]; exact below_box _ _
          exact h1.trans (HBW3.out.mono h1.size)
        have h0 : wr.heap.size ≤ W1.heap.size := by rw [← HW1.out]; simp
        exact KOW.out.step hw1 HGW.out CI.out.hx KO6.out (Nat.le_trans h0 HBW2.out.size) (fun b off hb hp => ⟨Nat.le_trans h0 (LA.out b off hb), LA2.out b off hb hp⟩) _ _ _ _ HSZ3.out (Nat.le_of_lt (Nat.lt_of_le_of_lt CI.out.low HGW.out)))
      go_wp2
      go_roundw
      case rel => exact ⟨k + 1, _, by omega, by go_num, CP2, NL2, KO2⟩
      case measure => simp [intOf]; omega
    · have hkk : k = len := by omega
      subst hkk
      have FB2 := Lib.hid (FB.out.keep BX.out.lt CP.out.below)
      have d0 := FB2.out.c0
      have d1 := FB2.out.c1
      have f0 := FB2.out.f0
      have f1 := FB2.out.f1
      have z1 := FB2.out.d1
      go_wp2
      refine bodyPost_ret (v := .agg #[.slice a2 k cap2, .int .i64 m]) ?_ rfl ⟨_, M, rfl, CP.out.finish BX.out.below (by omega) FB.out.lt 0 1 _ _, fun x hx => ?_, fun g e => ?_⟩
      · simp [results, Tryz.results115, go_sem, d0, d1]
      · obtain ⟨j, hj, he⟩ := List.mem_iff_getElem.1 hx
        exact NL.out j x (by rw [CP.out.hl] at hj; exact hj) (by rw [List.getElem?_eq_getElem hj, he])
      · obtain ⟨g', rfl⟩ : ∃ g', a2 = some ⟨g', 0, none⟩ := by
          rcases CP.out.own.2 with ⟨hv, _⟩ | ⟨g', c', cur, hv, _⟩
          · injection hv with h1
            rw [h1] at e
            cases e
          · injection hv with h1
            exact ⟨g', h1⟩
        have e2 : g' = g := by injection e
        subst e2
        have hw0 := BX.out.below.size
        have hlt := FB.out.lt
        have hfar : ∀ (i : Nat) x c, i < k → M[i]? = some x → (kidV x).ownBlock = some c → c ≠ w.heap.size + 1 := fun i x c hi hx hc => by
          have := ((KO.out g' rfl).ne i x c hi hx hc).2
          omega
        have h1 := ((KO.out g' rfl).far (b := w.heap.size + 1) (o := 0) (u := .slice (some ⟨g', 0, none⟩) k cap2) hfar).far (b := w.heap.size + 1) (o := 1) (u := .int .i64 m) hfar
        exact ⟨h1.own, fun i x b hi hx hb => ⟨(h1.ne i x b hi hx hb).1, Nat.le_trans hw0 (h1.ne i x b hi hx hb).2⟩, h1.alt, h1.al, h1.kk, h1.ak⟩
end Go.Proofs.YtiffhlncnpppoaaGreatDoor
namespace Go.Proofs.YtiffhlncnpppoaaGreatDoor
open Go.RowKit
structure PutIn (m : Int) (F G : List Core) (l : List Int) (p : Nat) (cp : Core) (A B : List Int) (mv : Nat → Bool) : Prop where
  right : rightF m F = true
  hp : F[p]? = some cp
  kp : cp.kind ≠ 2
  once : l.Nodup
  ls : ∀ z ∈ l, ∃ (q : Nat) (c : Core), z = q ∧ F[q]? = some c ∧ (c.kind = 1 ∨ c.kind = 2)
  over : ∀ q : Nat, (q : Int) ∈ l → ¬ holdsT (parS F) q p
  ab : A ++ B = cp.kids.filter (fun z => !l.contains z)
  root : cp.kind = 0 → (A ++ l ++ B).length ≤ 1 ∧ ∀ k ∈ A ++ l ++ B, kindK F k = 1
  hmv : ∀ j, j < F.length → (mv j = true ↔ ∃ q : Nat, (q : Int) ∈ l ∧ holdsT (parS F) q j)
  ed : Edit F G (fun j c => if l.contains (j : Int) then (p : Int) else c.parent) (fun j c => if j = p then A ++ l ++ B else c.kids.filter (fun z => !l.contains z)) (fun j c => if mv j then cp.doc else c.doc)
section
variable {m : Int} {F G : List Core} {l : List Int} {p : Nat} {cp : Core} {A B : List Int} {mv : Nat → Bool}
theorem parS_parent {c : Core} {j q : Nat} (hc : F[j]? = some c) (h : c.parent = (q : Int)) : parS F j = some q := parS_some (by rw [nextUp_at hc]; show (if c.parent = -1 then c.host else c.parent) = (q : Int); rw [if_neg (by omega), h])
theorem parS_host {c : Core} {j q : Nat} (hc : F[j]? = some c) (hp : c.parent = -1) (h : c.host = (q : Int)) : parS F j = some q := parS_some (by rw [nextUp_at hc]; show (if c.parent = -1 then c.host else c.parent) = (q : Int); rw [if_pos hp, h])
theorem PutIn.lt (h : PutIn m F G l p cp A B mv) : p < F.length := (List.getElem?_eq_some_iff.1 h.hp).1
theorem PutIn.mvp (h : PutIn m F G l p cp A B mv) : mv p = false := by
  cases hq : mv p with
  | false => rfl
  | true =>
    obtain ⟨q, h1, h2⟩ := (h.hmv p h.lt).1 hq
    exact absurd h2 (h.over q h1)
theorem PutIn.mv_up (h : PutIn m F G l p cp A B mv) {j q : Nat} (hj : j < F.length) (hq : parS F j = some q) (hjl : (j : Int) ∉ l) : mv j = mv q := by
  have hql := (parS_next h.right hj hq).2
  rw [Bool.eq_iff_iff, h.hmv j hj, h.hmv q hql]
  constructor
  · rintro ⟨r, h1, h2⟩
    rcases holds_up h2 with e | ⟨s, e1, e2⟩
    · exact absurd (e ▸ h1) hjl
    · rw [hq] at e1
      obtain rfl := Option.some.inj e1
      exact ⟨r, h1, e2⟩
  · rintro ⟨r, h1, h2⟩
    exact ⟨r, h1, holds_trans h2 (holds_par hq)⟩
theorem PutIn.mem_k (h : PutIn m F G l p cp A B mv) {k : Int} : k ∈ A ++ l ++ B ↔ k ∈ l ∨ (k ∈ cp.kids ∧ k ∉ l) := by
  have e : k ∈ A ++ B ↔ k ∈ cp.kids ∧ k ∉ l := by
    rw [h.ab, List.mem_filter]
    simp
  rw [List.mem_append] at e
  rw [List.mem_append, List.mem_append, ← e]
  constructor
  · rintro ((h1 | h1) | h1)
    · exact .inr (.inl h1)
    · exact .inl h1
    · exact .inr (.inr h1)
  · rintro (h1 | h1 | h1)
    · exact .inl (.inr h1)
    · exact .inl (.inl h1)
    · exact .inr h1
theorem PutIn.once_k (h : PutIn m F G l p cp A B mv) : (A ++ l ++ B).Nodup := by
  have hab : (A ++ B).Nodup := by rw [h.ab]; exact (right_node h.right h.hp).once.filter _
  have hp : List.Perm (A ++ l ++ B) (l ++ (A ++ B)) := by
    rw [← List.append_assoc]
    exact List.Perm.append_right B List.perm_append_comm
  refine hp.nodup_iff.2 (List.nodup_append.2 ⟨h.once, hab, fun a ha b hb e => ?_⟩)
  rw [h.ab, List.mem_filter] at hb
  subst e
  simp at hb
  exact hb.2 ha
theorem PutIn.moved (h : PutIn m F G l p cp A B mv) {q : Nat} {c : Core} (hc : F[q]? = some c) (hq : (q : Int) ∈ l) : mv q = true := (h.hmv q (List.getElem?_eq_some_iff.1 hc).1).2 ⟨q, hq, holds_refl q⟩
theorem PutIn.node (h : PutIn m F G l p cp A B mv) {j : Nat} {y : Core} (hy : G[j]? = some y) : NodeP G j y := by
  obtain ⟨c, hc, rfl⟩ := h.ed.back hy
  have hjl := (List.getElem?_eq_some_iff.1 hc).1
  have N := right_node h.right hc
  have gp : ∃ z, getC G (p : Int) = some z ∧ z.kind = cp.kind ∧ z.kids = A ++ l ++ B := ⟨_, h.ed.getC (z := (p : Int)) (by rw [getC_nat]; exact h.hp), rfl, by show (if (p : Int).toNat = p then A ++ l ++ B else _) = _; rw [if_pos (by omega)]⟩
  have nokind : c.kind = 0 ∨ c.kind = 3 ∨ c.kind = 4 → (j : Int) ∉ l := fun hk hm => by
    obtain ⟨q, c2, h1, h2, h3⟩ := h.ls _ hm
    obtain rfl : q = j := by omega
    rw [hc] at h2
    obtain rfl := Option.some.inj h2
    omega
  refine ⟨N.kind, ?_, fun e => ?_, ?_, ?_, fun k hk => ?_, fun e => ?_, fun e => ?_, fun e => ?_, N.free, ?_, N.text⟩
  · show ∃ d, getC G (if mv j then cp.doc else c.doc) = some d ∧ d.kind = 0
    split
    · obtain ⟨d, h1, h2⟩ := (right_node h.right h.hp).doc
      exact ⟨_, h.ed.getC h1, h2⟩
    · obtain ⟨d, h1, h2⟩ := N.doc
      exact ⟨_, h.ed.getC h1, h2⟩
  · show (if mv j then cp.doc else c.doc) = (j : Int)
    have hnm : mv j = false := by
      cases hq : mv j with
      | false => rfl
      | true =>
        obtain ⟨q, h1, h2⟩ := (h.hmv j hjl).1 hq
        rcases holds_up h2 with e1 | ⟨s, e1, _⟩
        · subst e1
          exact absurd h1 (nokind (.inl e))
        · have hn := (parS_next h.right hjl e1).1
          rw [nextUp_at hc] at hn
          have hn2 : (if c.parent = -1 then c.host else c.parent) = (s : Int) := hn
          have hpar : c.parent = -1 := by
            rcases N.par with h3 | ⟨h3, _⟩
            · exact h3
            · have e : c.kind = 0 := e
              omega
          rw [if_pos hpar, N.free (by have e : c.kind = 0 := e; omega)] at hn2
          omega
    rw [hnm]
    exact N.own e
  · by_cases hm : (j : Int) ∈ l
    · obtain ⟨q, c2, h1, h2, h3⟩ := h.ls _ hm
      obtain rfl : q = j := by omega
      rw [hc] at h2
      obtain rfl := Option.some.inj h2
      obtain ⟨z, z1, z2, z3⟩ := gp
      refine .inr ⟨h3, z, ?_, by rw [z2]; exact h.kp, by rw [z3]; exact h.mem_k.2 (.inl hm)⟩
      show getC G (if l.contains (q : Int) then (p : Int) else c.parent) = _
      rw [if_pos (by simpa using hm)]
      exact z1
    · rcases N.par with h1 | ⟨h1, q, h2, h3, h4⟩
      · refine .inl ?_
        show (if l.contains (j : Int) then (p : Int) else c.parent) = -1
        rw [if_neg (by simpa using hm)]
        exact h1
      · have g := h.ed.getC h2
        refine .inr ⟨h1, edC q (if l.contains ((c.parent.toNat : Nat) : Int) then (p : Int) else q.parent) (if c.parent.toNat = p then A ++ l ++ B else q.kids.filter (fun z => !l.contains z)) (if mv c.parent.toNat then cp.doc else q.doc), ?_, h3, ?_⟩
        · show getC G (if l.contains (j : Int) then (p : Int) else c.parent) = _
          rw [if_neg (by simpa using hm)]
          exact g
        · show (j : Int) ∈ (if c.parent.toNat = p then A ++ l ++ B else q.kids.filter (fun z => !l.contains z))
          split
          · next hpp =>
            have hq : q = cp := by
              obtain ⟨_, _, h5⟩ := getC_some h2
              rw [hpp, h.hp] at h5
              exact (Option.some.inj h5).symm
            exact h.mem_k.2 (.inr ⟨hq ▸ h4, hm⟩)
          · rw [List.mem_filter]
            exact ⟨h4, by simpa using hm⟩
  · show (if j = p then A ++ l ++ B else c.kids.filter (fun z => !l.contains z)).Nodup
    split
    · exact h.once_k
    · exact N.once.filter _
  · have hk2 : k ∈ (if j = p then A ++ l ++ B else c.kids.filter (fun z => !l.contains z)) := hk
    show ∃ c', getC G k = some c' ∧ (c'.kind = 1 ∨ c'.kind = 2) ∧ c'.parent = (j : Int) ∧ c'.doc = (if mv j then cp.doc else c.doc)
    have old : k ∈ c.kids → k ∉ l → ∃ c', getC G k = some c' ∧ (c'.kind = 1 ∨ c'.kind = 2) ∧ c'.parent = (j : Int) ∧ c'.doc = (if mv j then cp.doc else c.doc) := fun h1 h2 => by
      obtain ⟨d, h3, h4, h5, h6⟩ := N.kids k h1
      obtain ⟨g0, g1, g2⟩ := getC_some h3
      have hkn : ((k.toNat : Nat) : Int) = k := by omega
      refine ⟨_, h.ed.getC h3, h4, ?_, ?_⟩
      · show (if l.contains ((k.toNat : Nat) : Int) then (p : Int) else d.parent) = (j : Int)
        rw [hkn, if_neg (by simpa using h2)]
        exact h5
      · show (if mv k.toNat then cp.doc else d.doc) = _
        rw [h.mv_up (List.getElem?_eq_some_iff.1 g2).1 (parS_parent g2 h5) (by rw [hkn]; exact h2), h6]
    by_cases e : j = p
    · subst e
      rw [if_pos rfl] at hk2
      have hcc : c = cp := by have := h.hp; rw [hc] at this; exact Option.some.inj this
      subst hcc
      rcases h.mem_k.1 hk2 with h1 | ⟨h1, h2⟩
      · obtain ⟨q, c2, rfl, h2, h3⟩ := h.ls _ h1
        refine ⟨_, h.ed.getC (z := (q : Int)) (by rw [getC_nat]; exact h2), h3, ?_, ?_⟩
        · show (if l.contains (((q : Int).toNat : Nat) : Int) then (j : Int) else c2.parent) = (j : Int)
          rw [show (((q : Int).toNat : Nat) : Int) = q by omega, if_pos (by simpa using h1)]
        · show (if mv (q : Int).toNat then c.doc else c2.doc) = _
          rw [show (q : Int).toNat = q by omega, h.moved h2 h1, h.mvp]
          rfl
      · exact old h1 h2
    · rw [if_neg e, List.mem_filter] at hk2
      exact old hk2.1 (by simpa using hk2.2)
  · show (if j = p then A ++ l ++ B else c.kids.filter (fun z => !l.contains z)) = []
    rw [if_neg (fun e2 => by
      subst e2
      have hcc : c = cp := by have := h.hp; rw [hc] at this; exact Option.some.inj this
      exact h.kp (hcc ▸ e)), N.leaf e]
    rfl
  · show (if j = p then A ++ l ++ B else c.kids.filter (fun z => !l.contains z)).length ≤ 1 ∧ ∀ k ∈ (if j = p then A ++ l ++ B else c.kids.filter (fun z => !l.contains z)), kindK G k = 1
    split
    · next e2 =>
      subst e2
      have hcc : c = cp := by have := h.hp; rw [hc] at this; exact Option.some.inj this
      obtain ⟨h1, h2⟩ := h.root (hcc ▸ e)
      exact ⟨h1, fun k hk => by rw [h.ed.kindK]; exact h2 k hk⟩
    · obtain ⟨h1, h2⟩ := N.root e
      exact ⟨Nat.le_trans (List.length_filter_le _ _) h1, fun k hk => by rw [h.ed.kindK]; exact h2 k (List.mem_filter.1 hk).1⟩
  · obtain ⟨d, h1, h2, h3, h4⟩ := N.host e
    obtain ⟨g0, g1, g2⟩ := getC_some h1
    refine ⟨_, h.ed.getC h1, h2, h3, ?_⟩
    show (if mv c.host.toNat then cp.doc else d.doc) = (if mv j then cp.doc else c.doc)
    have e4 : c.kind = 4 := e
    have hpar : c.parent = -1 := by
      rcases N.par with h5 | ⟨h5, _⟩
      · exact h5
      · omega
    rw [h.mv_up hjl (parS_host hc hpar (show c.host = ((c.host.toNat : Nat) : Int) by omega)) (nokind (.inr (.inr e4))), h4]
  · rcases N.under with h1 | ⟨h1, u, h2, h3, h4⟩
    · exact .inl h1
    · exact .inr ⟨h1, _, h.ed.getC h2, h3, h4⟩
theorem PutIn.next (h : PutIn m F G l p cp A B mv) {j : Nat} (hj : j < F.length) : nextUp G (j : Int) = if (j : Int) ∈ l then (p : Int) else nextUp F j := by
  have hc : F[j]? = some F[j] := List.getElem?_eq_getElem hj
  rw [h.ed.next hc]
  by_cases e : (j : Int) ∈ l
  · have e2 : l.contains (j : Int) = true := by simpa using e
    rw [if_pos e]
    simp only [e2, if_true]
    rw [if_neg (by omega)]
  · have e2 : l.contains (j : Int) = false := by simpa using e
    rw [if_neg e, nextUp_at hc]
    simp only [e2, Bool.false_eq_true, if_false]
    rfl
theorem PutIn.rightG (h : PutIn m F G l p cp A B mv) : rightF m G = true := by
  obtain ⟨⟨h1, h2, h3, h4⟩, _, _⟩ := (rightF_iff m F).1 h.right
  refine right_of h1 h2 (by rw [h.ed.len]; exact h3) (h.ed.head h4) (fun i y hy => h.node hy) (fun j => rankF F j + if mv j then rankF F p + 1 else 0) (fun i hi => ?_)
  rw [h.ed.len] at hi ⊢
  have hc : F[i]? = some F[i] := List.getElem?_eq_getElem hi
  rw [h.next hi]
  by_cases e : (i : Int) ∈ l
  · rw [if_pos e]
    refine .inr ⟨p, rfl, h.lt, ?_⟩
    rw [h.mvp, h.moved hc e]
    show rankF F p + 0 < rankF F i + (rankF F p + 1)
    omega
  · rw [if_neg e]
    rcases rank_next h.right hi with e1 | ⟨q, e1, e2, e3⟩
    · exact .inl e1
    · refine .inr ⟨q, e1, e2, ?_⟩
      rw [h.mv_up hi (parS_some e1) e]
      omega
end
end Go.Proofs.YtiffhlncnpppoaaGreatDoor
namespace Go.Proofs.YtiffhlncnpppoaaGreatDoor
open Go.RowKit
set_option maxHeartbeats 4000000 in
set_option maxRecDepth 100000 in
theorem shknows_any (a : Option Addr) (len cap : Nat) (m : Int) (L : List NodeD) (b : Option Addr) (ln cn : Nat) (l : List Int) (w : World) (h : NodeRow w a len cap L) (hm : In64 m) (hs : smallF L) (hn : IntRow w b ln cn l) :
    Calls Tryz.prog 111 #[forV a len cap m, .slice b ln cn] w fun e w' => e = .returned (.bool (knowsB m (coreL L) l)) ∧ Below w.heap.size w w' := by
  have HL := Lib.hid h.hlen
  have hlen := h.len64
  have HNL := Lib.hid hn.hlen
  have hln := hn.len64
  have BX := Lib.hid (Box.start (m := m) h)
  have NR := Lib.hid (hn.below (below_box w (forB a len cap m)))
  have z0 := BX.out.c0
  have z1 := BX.out.c1
  have CR : Hid (∀ W, NodeRow W a len cap L → Calls Tryz.prog 30 #[forV a len cap m] W fun e w' => e = .returned (.bool (rightF m (coreL L))) ∧ Below W.heap.size W w') := Lib.hid (fun W h => rightF_any a len cap m L W h hm hs)
  clear h hm hs hn
  go_enter Tryz.func111, Tryz.ntmps111
  go_wp2
  go_loop [9] (fun i => ∃ k : Nat, k ≤ ln ∧ i = .int .i64 k ∧ Hid (∀ (j : Nat) z, j < k → l[j]? = some z → inB (coreL L).length z = true)) (fun i => ln - (intOf i).toNat)
  case atStart => exact ⟨0, Nat.zero_le _, rfl, Lib.hid (fun j z hj => absurd hj (by omega))⟩
  case round =>
    obtain ⟨k, hk, rfl, HA⟩ := hrel
    by_cases hlt : k < ln
    · obtain ⟨b2, off2, z, rfl, hb2, hz, hcz, hin⟩ := NR.out.get hlt
      have STOP : Hid (inB (coreL L).length z = false → knowsB m (coreL L) l = false) := Lib.hid (fun hq => by
        unfold knowsB
        have : l.all (inB (coreL L).length) = false := by rw [List.all_eq_false]; exact ⟨z, List.mem_of_getElem? hz, by simp [hq]⟩
        rw [this]
        rfl)
      by_cases q1 : z < 0
      · have HR : Hid (knowsB m (coreL L) l = false) := Lib.hid (STOP.out (by unfold inB; rw [decide_eq_false (by omega)]; rfl))
        clear hz
        go_wp2
        go_ret
        exact ⟨ret_bool HR.out.symm, BX.out.below⟩
      by_cases q2 : (len : Int) ≤ z
      · have HR : Hid (knowsB m (coreL L) l = false) := Lib.hid (STOP.out (by unfold inB; rw [decide_eq_false (show ¬ z < ((coreL L).length : Int) by rw [coreL_len, HL.out]; omega), Bool.and_false]))
        clear hz
        go_wp2
        go_ret
        exact ⟨ret_bool HR.out.symm, BX.out.below⟩
      have HA2 : Hid (∀ (j : Nat) z, j < k + 1 → l[j]? = some z → inB (coreL L).length z = true) := Lib.hid (fun j y hj hy => by
        by_cases e : j = k
        · subst e
          rw [hz] at hy
          rw [← Option.some.inj hy]
          unfold inB
          rw [decide_eq_true (by omega), decide_eq_true (by rw [coreL_len, HL.out]; omega)]
          rfl
        · exact HA.out j y (by omega) hy)
      clear hz
      go_wp2
      go_round
      case rel => exact ⟨k + 1, by omega, by go_num, HA2⟩
      case measure => simp [intOf]; omega
    · have HR : Hid (knowsB m (coreL L) l = rightF m (coreL L)) := Lib.hid (by
        unfold knowsB
        have : l.all (inB (coreL L).length) = true := by
          rw [List.all_eq_true]
          intro z hz
          obtain ⟨j, hj, he⟩ := List.mem_iff_getElem.1 hz
          exact HA.out j z (by rw [HNL.out] at hj; omega) (by rw [List.getElem?_eq_getElem hj, he])
        rw [this]
        rfl)
      clear HA
      go_wp2_with (go_at_call 30; (refine (CR.out _ BX.out.row).mono ?_); rintro e w1 ⟨rfl, hb⟩; have BX := Lib.hid (BX.out.keep hb); clear hb)
      go_ret
      exact ⟨ret_bool HR.out.symm, BX.out.below⟩
theorem up_at {m : Int} {F : List Core} (hr : rightF m F = true) {c : Nat} {x : Core} (hx : F[c]? = some x) : (upC x = -1 ∧ parS F c = none) ∨ ∃ p : Nat, upC x = p ∧ p < F.length ∧ parS F c = some p := by
  have hc := (List.getElem?_eq_some_iff.1 hx).1
  by_cases he : nextUp F (c : Int) = -1
  · exact .inl ⟨by rw [← nextUp_at hx]; exact he, parS_none he⟩
  · rcases right_up hr c (by omega) (by omega) with h | ⟨h1, h2⟩
    · exact absurd h he
    · exact .inr ⟨(nextUp F (c : Int)).toNat, by rw [← nextUp_at hx]; omega, by omega, parS_some (by omega)⟩
set_option maxHeartbeats 8000000 in
set_option maxRecDepth 100000 in
theorem wtop_any (a : Option Addr) (len cap : Nat) (m : Int) (L : List NodeD) (k : Nat) (w : World) (h : NodeRow w a len cap L) (hr : rightF m (coreL L) = true) (hk : k < len) :
    Calls Tryz.prog 143 #[.slice a len cap, .int .i64 k] w fun e w' => e = .returned (.int .i64 (topF (coreL L) k : Nat)) ∧ Below w.heap.size w w' := by
  have HCL : Hid ((coreL L).length = len) := Lib.hid (by rw [coreL_len, h.hlen])
  have hlen := h.len64
  have NR := Lib.hid h
  have TR := Lib.hid (treeS hr)
  have HRT := Lib.hid hr
  clear h hr
  go_enter Tryz.func143, Tryz.ntmps143
  go_wp2
  go_loopw [1] (fun i wr => ∃ c : Nat, c < len ∧ i = .int .i64 c ∧ Hid (topF (coreL L) c = topF (coreL L) k) ∧ Hid (Below w.heap.size w wr)) (fun i _ => rankF (coreL L) (intOf i).toNat)
  case atStart => exact ⟨k, hk, rfl, Lib.hid rfl, Lib.hid (Below.refl _ _)⟩
  case round =>
    obtain ⟨c, hc, rfl, HE, HBW⟩ := hrel
    obtain ⟨b, off, x, hab, hb, hx, hat, hok⟩ := (NR.out.below HBW.out).get hc
    have HAT := Lib.hid hat
    have HBL := Lib.hid hb
    obtain ⟨c0, c1, c2, c3, c4, c5, c6, c7, c8, c9⟩ := hat
    have hxc := coreL_get hx
    subst hab
    have hcl : c < (coreL L).length := by rw [HCL.out]; exact hc
    rcases up_at HRT.out hxc with ⟨hu, hp⟩ | ⟨p, hu, hpl, hp⟩
    · have UP : Hid (∀ W, Calls Tryz.prog 113 #[nodVal x] W fun e w' => e = .returned (.int .i64 (-1)) ∧ Below W.heap.size W w') := Lib.hid (fun W => by
        have := up_any x W
        rwa [hu] at this)
      have HQ : Hid (topF (coreL L) k = c) := Lib.hid (by
        rw [← HE.out]
        exact rootN_none hp)
      clear hxc hx hok hp hu hb
      go_wp2_with (go_at_call 113; (refine (UP.out _).mono ?_); rintro e w2 ⟨rfl, hb⟩; have HBW := Lib.hid (HBW.out.trans (hb.mono HBW.out.size)); have HAT := Lib.hid (HAT.out.below HBL.out hb); have HBL := Lib.hid (Nat.lt_of_lt_of_le HBL.out hb.size); clear c0 c1 c2 c3 c4 c5 c6 c7 c8 c9; obtain ⟨c0, c1, c2, c3, c4, c5, c6, c7, c8, c9⟩ := HAT.out; clear hb)
      go_ret
      exact ⟨ret_int (by rw [HQ.out]), HBW.out⟩
    · have UP : Hid (∀ W, Calls Tryz.prog 113 #[nodVal x] W fun e w' => e = .returned (.int .i64 (p : Int)) ∧ Below W.heap.size W w') := Lib.hid (fun W => by
        have := up_any x W
        rwa [hu] at this)
      have HRK := Lib.hid (TR.out.rank_up _ c hcl hp)
      have HE2 : Hid (topF (coreL L) p = topF (coreL L) k) := Lib.hid (by
        rw [← HE.out]
        exact TR.out.root_held hcl (by omega) (holds_par hp))
      rw [HCL.out] at hpl
      have hne : ((p : Int) != -1) = true := bne_iff_ne.2 (by omega)
      clear hxc hx hok hp hu hb
      go_wp2_with (go_at_call 113; (refine (UP.out _).mono ?_); rintro e w2 ⟨rfl, hb⟩; have HBW := Lib.hid (HBW.out.trans (hb.mono HBW.out.size)); have HAT := Lib.hid (HAT.out.below HBL.out hb); have HBL := Lib.hid (Nat.lt_of_lt_of_le HBL.out hb.size); clear c0 c1 c2 c3 c4 c5 c6 c7 c8 c9; obtain ⟨c0, c1, c2, c3, c4, c5, c6, c7, c8, c9⟩ := HAT.out; clear hb)
      go_roundw
      case rel => exact ⟨p, hpl, rfl, HE2, HBW⟩
      case measure =>
        have := HRK.out
        unfold rankF at this ⊢
        simp [intOf]
        omega
set_option maxHeartbeats 8000000 in
set_option maxRecDepth 100000 in
theorem overFn_any (a : Option Addr) (len cap : Nat) (m : Int) (L : List NodeD) (x y : Int) (w : World) (h : NodeRow w a len cap L) (hm : In64 m) (hx : In64 x) (hy : In64 y) (hs : smallF L) :
    Calls Tryz.prog 56 #[forV a len cap m, .int .i64 x, .int .i64 y] w fun e w' => e = .returned (.bool (overZ m (coreL L) x y)) ∧ Below w.heap.size w w' := by
  have HCL : Hid ((coreL L).length = len) := Lib.hid (by rw [coreL_len, h.hlen])
  have hlen := h.len64
  have BX := Lib.hid ((Box.start (m := m) h).keep (below_box _ (.cells #[.int .i64 x, .int .i64 y] 3)))
  have NB := Lib.hid (lit_two (w.alloc (forB a len cap m)) 3 x y hx hy)
  have CK : Hid (∀ W b, NodeRow W a len cap L → IntRow W b 2 2 [x, y] → Calls Tryz.prog 111 #[forV a len cap m, .slice b 2 2] W fun e w' => e = .returned (.bool (thereF m (coreL L) x && thereF m (coreL L) y)) ∧ Below W.heap.size W w') := Lib.hid (fun W b h1 h2 => by
    rw [← knowsB_two]
    exact shknows_any a len cap m L b 2 2 [x, y] W h1 hm hs h2)
  simp only [World.size_alloc] at NB
  have z0 := BX.out.c0
  have z1 := BX.out.c1
  clear h hm hs hx hy
  cases q : (thereF m (coreL L) x && thereF m (coreL L) y) with
  | false =>
    rw [q] at CK
    have HR : Hid (overZ m (coreL L) x y = false) := Lib.hid (by unfold overZ; rw [q]; rfl)
    clear q
    go_enter Tryz.func56, Tryz.ntmps56
    go_wp2_with (go_at_call 111; ((with_reducible refine (CK.out _ _ BX.out.row NB.out).mono ?_); rintro e w1 ⟨rfl, hb⟩; have BX := Lib.hid (BX.out.keep hb); have z0 := BX.out.c0; have z1 := BX.out.c1; clear hb))
    go_ret
    exact ⟨ret_bool HR.out.symm, BX.out.below⟩
  | true =>
    rw [q] at CK
    rw [Bool.and_eq_true] at q
    obtain ⟨hr, X, rfl, hX⟩ := there_nat q.1
    obtain ⟨-, Y, rfl, hY⟩ := there_nat q.2
    have HI := Lib.hid (overZ_iff hr hX hY)
    have HRT := Lib.hid hr
    rw [HCL.out] at hX hY
    have TR := Lib.hid (treeS hr)
    clear q hr
    go_enter Tryz.func56, Tryz.ntmps56
    go_wp2_with (go_at_call 111; ((with_reducible refine (CK.out _ _ BX.out.row NB.out).mono ?_); rintro e w1 ⟨rfl, hb⟩; have BX := Lib.hid (BX.out.keep hb); have z0 := BX.out.c0; have z1 := BX.out.c1; clear hb))
    go_loopw [2] (fun i wr => ((i = .int .i64 (-1) ∧ Hid (¬ holdsT (parS (coreL L)) X Y)) ∨ ∃ c : Nat, c < len ∧ i = .int .i64 c ∧ Hid (holdsT (parS (coreL L)) X c ↔ holdsT (parS (coreL L)) X Y)) ∧ Hid (Box w wr w.heap.size a len cap m L (coreL L))) (fun i _ => if intOf i = -1 then 0 else rankF (coreL L) (intOf i).toNat + 1)
    case atStart => exact ⟨.inr ⟨Y, hY, rfl, Lib.hid Iff.rfl⟩, BX⟩
    case round =>
      clear BX z0 z1
      obtain ⟨hrel, BX⟩ := hrel
      have z0 := BX.out.c0
      have z1 := BX.out.c1
      rcases hrel with ⟨rfl, HN⟩ | ⟨c, hc, rfl, HE⟩
      · have HR : Hid (overZ m (coreL L) X Y = false) := Lib.hid (by
          cases hq : overZ m (coreL L) X Y with
          | false => rfl
          | true => exact absurd (HI.out.1 hq) HN.out)
        have hne : ((-1 : Int) != (X : Int)) = true := bne_iff_ne.2 (by omega)
        have hne2 : ((-1 : Int) == (X : Int)) = false := beq_eq_false_iff_ne.2 (by omega)
        go_wp2
        go_ret
        exact ⟨ret_bool HR.out.symm, BX.out.below⟩
      · by_cases he : c = X
        · have HR : Hid (overZ m (coreL L) X Y = true) := Lib.hid (HI.out.2 (HE.out.1 (by rw [he]; exact holds_refl X)))
          have e1 : ((c : Int) != (X : Int)) = false := by rw [he]; simp
          have e2 : ((c : Int) == (X : Int)) = true := by rw [he]; simp
          clear he
          go_wp2
          go_ret
          exact ⟨ret_bool HR.out.symm, BX.out.below⟩
        · have hne : ((c : Int) != (X : Int)) = true := bne_iff_ne.2 (by omega)
          have hne2 : ((c : Int) != -1) = true := bne_iff_ne.2 (by omega)
          obtain ⟨b, off, nx, hab, hb, hx, hat, hok⟩ := BX.out.row.get hc
          have HAT := Lib.hid hat
          have HBL := Lib.hid hb
          obtain ⟨c0, c1, c2, c3, c4, c5, c6, c7, c8, c9⟩ := hat
          have hxc := coreL_get hx
          subst hab
          have hcl : c < (coreL L).length := by rw [HCL.out]; exact hc
          rcases up_at HRT.out hxc with ⟨hu, hp⟩ | ⟨p, hu, hpl, hp⟩
          · have UP : Hid (∀ W, Calls Tryz.prog 113 #[nodVal nx] W fun e w' => e = .returned (.int .i64 (-1)) ∧ Below W.heap.size W w') := Lib.hid (fun W => by
              have := up_any nx W
              rwa [hu] at this)
            have HN : Hid (¬ holdsT (parS (coreL L)) X Y) := Lib.hid (fun ht => by
              rcases holds_up (HE.out.2 ht) with h | ⟨p, h1, _⟩
              · exact he h.symm
              · rw [hp] at h1
                cases h1)
            clear hxc hx hok hp hu hb he
            go_wp2_with (go_at_call 113; (refine (UP.out _).mono ?_); rintro e w2 ⟨rfl, hb⟩; have BX := Lib.hid (BX.out.keep hb); have HAT := Lib.hid (HAT.out.below HBL.out hb); have HBL := Lib.hid (Nat.lt_of_lt_of_le HBL.out hb.size); clear z0 z1 c0 c1 c2 c3 c4 c5 c6 c7 c8 c9; have z0 := BX.out.c0; have z1 := BX.out.c1; obtain ⟨c0, c1, c2, c3, c4, c5, c6, c7, c8, c9⟩ := HAT.out; clear hb)
            go_roundw
            case rel => exact ⟨.inl ⟨rfl, HN⟩, BX⟩
            case measure => simp [intOf]
          · have UP : Hid (∀ W, Calls Tryz.prog 113 #[nodVal nx] W fun e w' => e = .returned (.int .i64 (p : Int)) ∧ Below W.heap.size W w') := Lib.hid (fun W => by
              have := up_any nx W
              rwa [hu] at this)
            have HRK := Lib.hid (TR.out.rank_up _ c hcl hp)
            have HE2 : Hid (holdsT (parS (coreL L)) X p ↔ holdsT (parS (coreL L)) X Y) := Lib.hid (by
              rw [← HE.out]
              constructor
              · exact fun h => holds_trans h (holds_par hp)
              · intro h
                rcases holds_up h with h | ⟨q, h1, h2⟩
                · exact absurd h.symm he
                · rw [hp] at h1
                  injection h1 with h1
                  subst h1
                  exact h2)
            rw [HCL.out] at hpl
            clear hxc hx hok hp hu hb he
            go_wp2_with (go_at_call 113; (refine (UP.out _).mono ?_); rintro e w2 ⟨rfl, hb⟩; have BX := Lib.hid (BX.out.keep hb); have HAT := Lib.hid (HAT.out.below HBL.out hb); have HBL := Lib.hid (Nat.lt_of_lt_of_le HBL.out hb.size); clear z0 z1 c0 c1 c2 c3 c4 c5 c6 c7 c8 c9; have z0 := BX.out.c0; have z1 := BX.out.c1; obtain ⟨c0, c1, c2, c3, c4, c5, c6, c7, c8, c9⟩ := HAT.out; clear hb)
            go_roundw
            case rel => exact ⟨.inr ⟨p, hpl, rfl, HE2⟩, BX⟩
            case measure =>
              have := HRK.out
              unfold rankF at this ⊢
              simp [intOf]
              omega
end Go.Proofs.YtiffhlncnpppoaaGreatDoor
namespace Go.Proofs.YtiffhlncnpppoaaGreatDoor
open Go.RowKit
def kidsK (F : List Core) (p : Int) : List Int := match getC F p with | some x => x.kids | none => []
def parentK (F : List Core) (c : Int) : Int := match getC F c with | some x => x.parent | none => -1
def partsZ (F : List Core) (n : Int) : List Int := match getC F n with | some x => if x.kind = 3 then x.kids else [n] | none => []
def countNe (l : List Int) (g : Int) : Nat := l.countP (fun z => z != g)
def docTakesB (F : List Core) (n p gone : Int) : Bool := !(partsZ F n).any (fun k => kindK F k == 2) && decide (countNe (kidsK F p) gone + (partsZ F n).length ≤ 1)
def inF (F : List Core) (n : Int) : Bool := decide (0 ≤ n) && decide (n < (F.length : Int))
def vknowsB (m : Int) (F : List Core) (n p c : Int) : Bool := inF F n && inF F p && (c == -1 || inF F c) && rightF m F
def refuseE (m : Int) (F : List Core) (n p : Int) (placed : Bool) (gone : Int) : Int :=
  if kindK F p = 2 ∨ overZ m F n p = true then 5
  else if placed = false then 6
  else if kindK F n = 0 ∨ kindK F n = 4 then 5
  else if kindK F p = 0 ∧ docTakesB F n p gone = false then 5
  else 0
def mayZ (m : Int) (F : List Core) (n p c : Int) : Int := if vknowsB m F n p c then refuseE m F n p (c == -1 || parentK F c == p) (-1) else 1
def beforeZ (m : Int) (F : List Core) (n p c : Int) : Int :=
  if mayZ m F n p c = 0 then (if c = n then (match (kidsK F p)[(placeZ m F n + 1).toNat]? with | some z => z | none => -1) else c) else -1
end Go.Proofs.YtiffhlncnpppoaaGreatDoor
namespace Go.Proofs.YtiffhlncnpppoaaGreatDoor
open Go.RowKit
theorem inF_nat {F : List Core} {n : Int} (h : inF F n = true) : ∃ k : Nat, n = k ∧ k < F.length := by
  unfold inF at h
  rw [Bool.and_eq_true, decide_eq_true_eq, decide_eq_true_eq] at h
  exact ⟨n.toNat, by omega, by omega⟩
set_option maxHeartbeats 4000000 in
set_option maxRecDepth 100000 in
theorem vhas_any (a : Option Addr) (len cap : Nat) (m : Int) (L : List NodeD) (n : Int) (w : World) (h : NodeRow w a len cap L) (hn : In64 n) :
    Calls Tryz.prog 91 #[forV a len cap m, .int .i64 n] w fun e w' => e = .returned (.bool (inF (coreL L) n)) ∧ Below w.heap.size w w' := by
  have HCL : Hid ((coreL L).length = len) := Lib.hid (by rw [coreL_len, h.hlen])
  have hlen := h.len64
  have BX := Lib.hid (Box.start (m := m) h)
  have z0 := BX.out.c0
  have z1 := BX.out.c1
  obtain ⟨hn1, hn2⟩ := hn
  clear h
  by_cases h0 : 0 ≤ n
  · by_cases h1 : n < (len : Int)
    · have HR : Hid (inF (coreL L) n = true) := Lib.hid (by unfold inF; rw [HCL.out, decide_eq_true h0, decide_eq_true h1]; rfl)
      go_enter Tryz.func91, Tryz.ntmps91
      go_wp2
      go_ret
      exact ⟨ret_bool HR.out.symm, BX.out.below⟩
    · have HR : Hid (inF (coreL L) n = false) := Lib.hid (by unfold inF; rw [HCL.out, decide_eq_false h1, Bool.and_false])
      go_enter Tryz.func91, Tryz.ntmps91
      go_wp2
      go_ret
      exact ⟨ret_bool HR.out.symm, BX.out.below⟩
  · have HR : Hid (inF (coreL L) n = false) := Lib.hid (by unfold inF; rw [decide_eq_false h0, Bool.false_and])
    go_enter Tryz.func91, Tryz.ntmps91
    go_wp2
    go_ret
    exact ⟨ret_bool HR.out.symm, BX.out.below⟩
set_option maxHeartbeats 4000000 in
set_option maxRecDepth 100000 in
theorem vknows_any (a : Option Addr) (len cap : Nat) (m : Int) (L : List NodeD) (n p c : Int) (w : World) (h : NodeRow w a len cap L) (hm : In64 m) (hn : In64 n) (hp : In64 p) (hc : In64 c) (hs : smallF L) :
    Calls Tryz.prog 94 #[forV a len cap m, .int .i64 n, .int .i64 p, .int .i64 c] w fun e w' => e = .returned (.bool (vknowsB m (coreL L) n p c)) ∧ Below w.heap.size w w' := by
  have BX := Lib.hid (Box.start (m := m) h)
  have z0 := BX.out.c0
  have z1 := BX.out.c1
  have HF : Hid (∀ W k b, NodeRow W a len cap L → In64 k → inF (coreL L) k = b → Calls Tryz.prog 91 #[forV a len cap m, .int .i64 k] W fun e w' => e = .returned (.bool b) ∧ Below W.heap.size W w') := Lib.hid (fun W k b h1 h2 h3 => by
    rw [← h3]
    exact vhas_any a len cap m L k W h1 h2)
  have CR : Hid (∀ W b, NodeRow W a len cap L → rightF m (coreL L) = b → Calls Tryz.prog 30 #[forV a len cap m] W fun e w' => e = .returned (.bool b) ∧ Below W.heap.size W w') := Lib.hid (fun W b h h1 => by
    rw [← h1]
    exact rightF_any a len cap m L W h hm hs)
  have HN := Lib.hid hn
  have HP := Lib.hid hp
  have HC := Lib.hid hc
  clear h hm hs hn hp hc
  obtain ⟨R, hR⟩ : ∃ R, rightF m (coreL L) = R := ⟨_, rfl⟩
  have HRR := Lib.hid hR
  obtain ⟨V, hV⟩ : ∃ V, vknowsB m (coreL L) n p c = V := ⟨_, rfl⟩
  have HV := Lib.hid hV
  have hV2 := hV
  unfold vknowsB at hV2
  rw [hR] at hV2
  rw [hV]
  clear hR hV
  cases q1 : inF (coreL L) n
  all_goals cases q2 : inF (coreL L) p
  all_goals by_cases q3 : c = -1
  all_goals first | (have q4 : (c == -1) = true := beq_iff_eq.2 q3) | (have q4 : (c == -1) = false := beq_eq_false_iff_ne.2 q3; cases q5 : inF (coreL L) c)
  all_goals cases R
  all_goals
    rw [q1, q2, q4] at hV2
    try rw [q5] at hV2
    obtain rfl := hV2
    clear q3
    have HQ1 := Lib.hid q1
    have HQ2 := Lib.hid q2
    first | (have HQ5 := Lib.hid q5; clear q5) | skip
    clear q1 q2
    go_enter Tryz.func94, Tryz.ntmps94
    go_wp2_with (first
      | (go_at_call 91; ((with_reducible refine (HF.out _ _ _ BX.out.row HN.out HQ1.out).mono ?_)); rintro e w1 ⟨rfl, hb⟩; have BX := Lib.hid (BX.out.keep hb); have z0 := BX.out.c0; have z1 := BX.out.c1; clear hb)
      | (go_at_call 91; ((with_reducible refine (HF.out _ _ _ BX.out.row HP.out HQ2.out).mono ?_)); rintro e w1 ⟨rfl, hb⟩; have BX := Lib.hid (BX.out.keep hb); have z0 := BX.out.c0; have z1 := BX.out.c1; clear hb)
      | (go_at_call 91; ((with_reducible refine (HF.out _ _ _ BX.out.row HC.out HQ5.out).mono ?_)); rintro e w1 ⟨rfl, hb⟩; have BX := Lib.hid (BX.out.keep hb); have z0 := BX.out.c0; have z1 := BX.out.c1; clear hb)
      | (go_at_call 30; ((with_reducible refine (CR.out _ _ BX.out.row HRR.out).mono ?_)); rintro e w1 ⟨rfl, hb⟩; have BX := Lib.hid (BX.out.keep hb); clear hb))
    go_ret
    exact ⟨rfl, BX.out.below⟩
set_option maxHeartbeats 4000000 in
set_option maxRecDepth 100000 in
theorem vparts_any (a : Option Addr) (len cap : Nat) (m : Int) (L : List NodeD) (n : Int) (w : World) (h : NodeRow w a len cap L) (hn : In64 n) (hs : smallF L) :
    Calls Tryz.prog 34 #[forV a len cap m, .int .i64 n] w (OrdPost w (partsZ (coreL L) n)) := by
  have HCL : Hid ((coreL L).length = len) := Lib.hid (by rw [coreL_len, h.hlen])
  have hlen := h.len64
  have BX := Lib.hid (Box.start (m := m) h)
  have HF : Hid (∀ W b, NodeRow W a len cap L → inF (coreL L) n = b → Calls Tryz.prog 91 #[forV a len cap m, .int .i64 n] W fun e w' => e = .returned (.bool b) ∧ Below W.heap.size W w') := Lib.hid (fun W b h1 h3 => by
    rw [← h3]
    exact vhas_any a len cap m L n W h1 hn)
  have HS := Lib.hid hs
  have HN := Lib.hid hn
  have HH := Lib.hid h
  clear h hs hn
  cases q : inF (coreL L) n with
  | false =>
    have HQ := Lib.hid q
    have HP : Hid (partsZ (coreL L) n = []) := Lib.hid (by
      unfold partsZ getC
      unfold inF at q
      by_cases h0 : 0 ≤ n
      · rw [decide_eq_true h0, Bool.true_and, decide_eq_false_iff_not] at q
        rw [if_pos h0, List.getElem?_eq_none (by omega)]
      · rw [if_neg h0])
    clear q
    have z0 := BX.out.c0
    have z1 := BX.out.c1
    go_enter Tryz.func34, Tryz.ntmps34
    go_wp2_with (go_at_call 91; (refine (HF.out _ _ BX.out.row HQ.out).mono ?_); rintro e w1 ⟨rfl, hb⟩; have BX := Lib.hid (BX.out.keep hb); have z0 := BX.out.c0; have z1 := BX.out.c1; clear hb)
    go_ret
    exact ⟨none, 0, 0, rfl, by rw [HP.out]; exact ⟨SRow.nil, by simp, fun _ => rfl⟩, BX.out.below⟩
  | true =>
    have HQ := Lib.hid q
    obtain ⟨k, rfl, hk⟩ := inF_nat q
    rw [HCL.out] at hk
    clear q
    obtain ⟨b, off, x, rfl, hb, hx, hat, hok⟩ := HH.out.get hk
    have hxc := coreL_get hx
    have C0 := Lib.hid (stays hat.c0 hb)
    have C6 := Lib.hid (stays hat.c6 hb)
    have NK := Lib.hid hok
    by_cases h3 : x.core.kind = 3
    · have HP : Hid (partsZ (coreL L) k = x.core.kids) := Lib.hid (by unfold partsZ; rw [getC_nat, hxc]; dsimp only; rw [if_pos h3])
      have hk3 : (x.core.kind == 3) = true := beq_iff_eq.2 h3
      have HKL : Hid (x.core.kids.length ≤ 1000) := Lib.hid (HS.out.2 x (List.mem_of_getElem? hx)).1
      have IN : Hid (∀ z ∈ x.core.kids, In64 z) := Lib.hid NK.out.kids.inb
      have CC : Hid (∀ W, Below w.heap.size w W → Calls Tryz.prog 92 #[.slice x.kA x.kN x.kC] W (OwnPostI W x.core.kids)) := Lib.hid (fun W hb => cloneI_any x.kA x.kN x.kC x.core.kids W (NK.out.kids.below hb) (by have h1 := HKL.out; have h2 := NK.out.kids.hlen; omega))
      clear hat hok hx hxc hb h3
      have z0 := BX.out.c0
      have z1 := BX.out.c1
      go_enter Tryz.func34, Tryz.ntmps34
      go_wp2_with (first
        | (go_at_call 91; ((with_reducible refine (HF.out _ _ BX.out.row HQ.out).mono ?_); rintro e w1 ⟨rfl, hb⟩; have BX := Lib.hid (BX.out.keep hb); have z0 := BX.out.c0; have z1 := BX.out.c1; clear hb; have c0 := C0.out _ BX.out.below; have c6 := C6.out _ BX.out.below))
        | (go_at_call 92; ((with_reducible refine (CC.out _ BX.out.below).mono ?_)); intro e w2 hp; obtain ⟨a2, cap2, rfl, hr2, -, hb2⟩ := OwnPostI.row hp IN.out; have BX := Lib.hid (BX.out.keep hb2); have HR2 := Lib.hid hr2; clear hp hr2 hb2))
      go_ret
      exact ⟨a2, _, cap2, rfl, by rw [HP.out]; exact HR2.out, BX.out.below⟩
    · have HP : Hid (partsZ (coreL L) k = [(k : Int)]) := Lib.hid (by unfold partsZ; rw [getC_nat, hxc]; dsimp only; rw [if_neg h3])
      have hk3 : (x.core.kind == 3) = false := beq_eq_false_iff_ne.2 h3
      clear hat hok hx hxc hb h3
      have z0 := BX.out.c0
      have z1 := BX.out.c1
      go_enter Tryz.func34, Tryz.ntmps34
      go_wp2_with (go_at_call 91; ((with_reducible refine (HF.out _ _ BX.out.row HQ.out).mono ?_); rintro e w1 ⟨rfl, hb⟩; have BX := Lib.hid (BX.out.keep hb); have z0 := BX.out.c0; have z1 := BX.out.c1; clear hb; have c0 := C0.out _ BX.out.below; have c6 := C6.out _ BX.out.below))
      go_ret
      exact ⟨_, 1, 1, rfl, by rw [HP.out]; exact lit_one _ _ _ HN.out, BX.out.below.trans ((below_box _ _).mono BX.out.below.size)⟩
end Go.Proofs.YtiffhlncnpppoaaGreatDoor
namespace Go.Proofs.YtiffhlncnpppoaaGreatDoor
open Go.RowKit
theorem parts_in {m : Int} {F : List Core} (h : rightF m F = true) {n : Nat} (hn : n < F.length) {z : Int} (hz : z ∈ partsZ F n) : ∃ k : Nat, z = k ∧ k < F.length := by
  have hx : F[n]? = some F[n] := List.getElem?_eq_getElem hn
  unfold partsZ at hz
  rw [getC_nat, hx] at hz
  dsimp only at hz
  split at hz
  · have h1 := (nodeOk_iff.1 (((rightF_iff m F).1 h).2.1 n _ hx)).2.2.1 z hz
    unfold kidOk at h1
    rw [Bool.and_eq_true] at h1
    cases hg : getC F z with
    | none => rw [hg] at h1; simp at h1
    | some c =>
      obtain ⟨e1, e2, _⟩ := getC_some hg
      exact ⟨z.toNat, by omega, e2⟩
  · rw [List.mem_singleton] at hz
    exact ⟨n, hz, hn⟩
theorem countNe_step {l : List Int} {g z : Int} {k : Nat} (h : l[k]? = some z) : countNe (l.take (k + 1)) g = countNe (l.take k) g + if z != g then 1 else 0 := by
  obtain ⟨hl, hg⟩ := List.getElem?_eq_some_iff.1 h
  unfold countNe
  rw [List.take_succ_eq_append_getElem hl, hg, List.countP_append]
  simp [List.countP_cons]
theorem countNe_le (l : List Int) (g : Int) : countNe l g ≤ l.length := List.countP_le_length
set_option maxHeartbeats 4000000 in
set_option maxRecDepth 100000 in
theorem vdoc_any (a : Option Addr) (len cap : Nat) (m : Int) (L : List NodeD) (n p : Nat) (gone : Int) (w : World) (h : NodeRow w a len cap L) (hg : In64 gone) (hs : smallF L) (hr : rightF m (coreL L) = true) (hn : n < len) (hp : p < len) :
    Calls Tryz.prog 144 #[forV a len cap m, .int .i64 n, .int .i64 p, .int .i64 gone] w fun e w' => e = .returned (.bool (docTakesB (coreL L) n p gone)) ∧ Below w.heap.size w w' := by
  have HCL : Hid ((coreL L).length = len) := Lib.hid (by rw [coreL_len, h.hlen])
  have hlen := h.len64
  have BX := Lib.hid (Box.start (m := m) h)
  have hnn : n < (coreL L).length := by rw [HCL.out]; exact hn
  have PI := Lib.hid (fun z hz => parts_in hr hnn (z := z) hz)
  obtain ⟨P, hP⟩ : ∃ P, partsZ (coreL L) n = P := ⟨_, rfl⟩
  rw [hP] at PI
  have CP : Hid (∀ W, NodeRow W a len cap L → Calls Tryz.prog 34 #[forV a len cap m, .int .i64 n] W (OrdPost W P)) := Lib.hid (fun W h => by
    rw [← hP]
    exact vparts_any a len cap m L n W h ⟨by omega, by omega⟩ hs)
  have HP := Lib.hid hP
  have HPL : Hid (P.length ≤ 1000) := Lib.hid (by
    obtain ⟨b, off, x, -, -, hx, -⟩ := h.get hn
    rw [← hP]
    unfold partsZ
    rw [getC_nat, coreL_get hx]
    dsimp only
    split
    · exact (hs.2 x (List.mem_of_getElem? hx)).1
    · simp)
  obtain ⟨b, off, x, rfl, hb, hx, hat, hok⟩ := h.get hp
  have hxc := coreL_get hx
  have HK : Hid (kidsK (coreL L) p = x.core.kids) := Lib.hid (by unfold kidsK; rw [getC_nat, hxc])
  have HKL : Hid (x.core.kids.length ≤ 1000) := Lib.hid (hs.2 x (List.mem_of_getElem? hx)).1
  have KR := Lib.hid (hok.kids.below (below_box w (forB (some ⟨b, off, none⟩) len cap m)))
  have c6 := (below_box w (forB (some ⟨b, off, none⟩) len cap m)).cell (p := ⟨b, off + p * 10 + 6, none⟩) hb
  rw [hat.c6] at c6
  have hk64 := KR.out.len64
  obtain ⟨hg1, hg2⟩ := hg
  have z0 := BX.out.c0
  have z1 := BX.out.c1
  clear h hs hr hnn hx hat hok hxc hP
  go_enter Tryz.func144, Tryz.ntmps144
  go_wp2
  go_loop [9, 21] (fun e i => ∃ k : Nat, k ≤ x.kN ∧ i = .int .i64 k ∧ e = .int .i64 (countNe (x.core.kids.take k) gone : Nat)) (fun _ i => x.kN - (intOf i).toNat)
  case atStart => exact ⟨0, Nat.zero_le _, rfl, rfl⟩
  case round =>
    obtain ⟨k, hk, rfl, rfl⟩ := hrel
    have hle : countNe (x.core.kids.take k) gone ≤ 1000 := Nat.le_trans (countNe_le _ _) (Nat.le_trans (List.length_take_le' _ _) HKL.out)
    obtain ⟨q, hq⟩ : ∃ q, countNe (x.core.kids.take k) gone = q := ⟨_, rfl⟩
    rw [hq] at hle ⊢
    by_cases hlt : k < x.kN
    · obtain ⟨bk, ok, z, hka, hbk, hz, hcz, hin⟩ := KR.out.get hlt
      have HST := Lib.hid (countNe_step (g := gone) hz)
      have HQ := Lib.hid hq
      rw [hka] at c6 ⊢
      obtain ⟨hz1, hz2⟩ := hin
      clear hz hq
      by_cases he : z = gone
      · have e1 : (z != gone) = false := by rw [he]; simp
        have HE : Hid (countNe (x.core.kids.take (k + 1)) gone = q) := Lib.hid (by rw [HST.out, HQ.out, e1]; rfl)
        clear he
        go_wp2
        go_round
        case rel => exact ⟨k + 1, by omega, by go_num, by rw [HE.out]⟩
        case measure => simp [intOf]; omega
      · have e1 : (z != gone) = true := bne_iff_ne.2 he
        have HE : Hid (countNe (x.core.kids.take (k + 1)) gone = q + 1) := Lib.hid (by rw [HST.out, HQ.out, e1]; rfl)
        clear he
        go_wp2
        go_round
        case rel => exact ⟨k + 1, by omega, by go_num, by rw [HE.out]; go_num⟩
        case measure => simp [intOf]; omega
    · have HC : Hid (countNe (kidsK (coreL L) p) gone = q) := Lib.hid (by rw [HK.out, ← hq, List.take_of_length_le (by have := KR.out.hlen; omega)])
      clear hq
      go_wp2_with (go_at_call 34; ((with_reducible refine (CP.out _ BX.out.row).mono ?_); rintro e w1 ⟨ao, lo, co, rfl, hro, hb⟩; have BX := Lib.hid (BX.out.keep hb); have IR := Lib.hid hro; have z0 := BX.out.c0; have z1 := BX.out.c1; clear hb hro))
      have hl64 := IR.out.len64
      have hl1k : lo ≤ 1000 := by rw [← IR.out.hlen]; exact HPL.out
      go_loopw [9, 35] (fun e i wr => ∃ k : Nat, k ≤ lo ∧ i = .int .i64 k ∧ e = .int .i64 ((q : Int) + k) ∧ Hid (∀ (j : Nat) z, j < k → P[j]? = some z → kindK (coreL L) z ≠ 2) ∧ wr = w1) (fun _ i _ => lo - (intOf i).toNat)
      case atStart => exact ⟨0, Nat.zero_le _, rfl, by simp, Lib.hid (fun j z hj => absurd hj (by omega)), rfl⟩
      case round =>
        obtain ⟨k2, hk2, rfl, rfl, HA, rfl⟩ := hrel
        by_cases hlt : k2 < lo
        · obtain ⟨bk, ok, z, rfl, hbk, hz, hcz, hin⟩ := IR.out.get hlt
          obtain ⟨r, rfl, hrl⟩ := PI.out z (List.mem_of_getElem? hz)
          rw [HCL.out] at hrl
          obtain ⟨br, offr, xr, hab, hbr, hxr, hatr, -⟩ := BX.out.row.get hrl
          obtain ⟨rfl, rfl⟩ : b = br ∧ off = offr := by injection hab with h1; injection h1 with h2 h3; exact ⟨h2, h3⟩
          have HKD : Hid (kindK (coreL L) (r : Int) = xr.core.kind) := Lib.hid (by unfold kindK; rw [getC_nat, coreL_get hxr])
          have c0 := hatr.c0
          have HZ := Lib.hid hz
          clear hz hxr hatr hab
          by_cases hk2 : xr.core.kind = 2
          · have e1 : (xr.core.kind == 2) = true := beq_iff_eq.2 hk2
            have HR : Hid (docTakesB (coreL L) n p gone = false) := Lib.hid (by
              unfold docTakesB
              rw [HP.out, show P.any (fun k => kindK (coreL L) k == 2) = true from List.any_eq_true.2 ⟨_, List.mem_of_getElem? HZ.out, by rw [HKD.out, hk2]; rfl⟩]
              rfl)
            clear hk2
            go_wp2
            go_ret
            exact ⟨ret_bool HR.out.symm, BX.out.below⟩
          · have e1 : (xr.core.kind == 2) = false := beq_eq_false_iff_ne.2 hk2
            have HA2 : Hid (∀ (j : Nat) z, j < k2 + 1 → P[j]? = some z → kindK (coreL L) z ≠ 2) := Lib.hid (fun j z hj hz => by
              by_cases e : j = k2
              · rw [e, HZ.out] at hz
                rw [← Option.some.inj hz, HKD.out]
                exact hk2
              · exact HA.out j z (by omega) hz)
            clear hk2
            go_wp2
            go_roundw
            case rel => exact ⟨k2 + 1, by omega, by go_num, by go_num, HA2, by first | trivial | rfl⟩
            case measure => simp [intOf]; omega
        · have hkk : k2 = lo := by omega
          subst hkk
          have HR : Hid (docTakesB (coreL L) n p gone = decide ((q : Int) + (k2 : Int) ≤ 1)) := Lib.hid (by
            unfold docTakesB
            rw [HP.out, HC.out, IR.out.hlen]
            have : P.any (fun k => kindK (coreL L) k == 2) = false := by
              rw [List.any_eq_false]
              intro z hz
              obtain ⟨j, hj, he⟩ := List.mem_iff_getElem.1 hz
              have := HA.out j z (by rw [IR.out.hlen] at hj; exact hj) (by rw [List.getElem?_eq_getElem hj, he])
              simpa using this
            rw [this, Bool.not_false, Bool.true_and]
            exact decide_eq_decide.2 (by omega))
          go_wp2
          go_ret
          exact ⟨ret_bool HR.out.symm, BX.out.below⟩
theorem kindK_get {L : List NodeD} {k : Nat} {x : NodeD} (hx : L[k]? = some x) : kindK (coreL L) (k : Int) = x.core.kind := by unfold kindK; rw [getC_nat, coreL_get hx]
theorem parentK_get {L : List NodeD} {k : Nat} {x : NodeD} (hx : L[k]? = some x) : parentK (coreL L) (k : Int) = x.core.parent := by unfold parentK; rw [getC_nat, coreL_get hx]
theorem in_nat64 {k len : Nat} (h : k < len) (hl : len ≤ 9223372036854775807) : In64 (k : Int) := ⟨by omega, by omega⟩
set_option maxHeartbeats 4000000 in
set_option maxRecDepth 100000 in
theorem vrefuse_any (a : Option Addr) (len cap : Nat) (m : Int) (L : List NodeD) (n p : Nat) (placed : Bool) (gone : Int) (w : World) (h : NodeRow w a len cap L) (hm : In64 m) (hg : In64 gone) (hs : smallF L) (hr : rightF m (coreL L) = true) (hn : n < len) (hp : p < len) :
    Calls Tryz.prog 95 #[forV a len cap m, .int .i64 n, .int .i64 p, .bool placed, .int .i64 gone] w fun e w' => e = .returned (.int .i64 (refuseE m (coreL L) n p placed gone)) ∧ Below w.heap.size w w' := by
  have hlen := h.len64
  have BX := Lib.hid (Box.start (m := m) h)
  have GO : Hid (∀ W b, NodeRow W a len cap L → overZ m (coreL L) n p = b → Calls Tryz.prog 56 #[forV a len cap m, .int .i64 n, .int .i64 p] W fun e w' => e = .returned (.bool b) ∧ Below W.heap.size W w') := Lib.hid (fun W b h1 h2 => by
    rw [← h2]
    exact overFn_any a len cap m L n p W h1 hm (in_nat64 hn hlen) (in_nat64 hp hlen) hs)
  have GD : Hid (∀ W b, NodeRow W a len cap L → docTakesB (coreL L) n p gone = b → Calls Tryz.prog 144 #[forV a len cap m, .int .i64 n, .int .i64 p, .int .i64 gone] W fun e w' => e = .returned (.bool b) ∧ Below W.heap.size W w') := Lib.hid (fun W b h1 h2 => by
    rw [← h2]
    exact vdoc_any a len cap m L n p gone W h1 hg hs hr hn hp)
  obtain ⟨b, off, x, rfl, hb, hx, hat, hok⟩ := h.get hn
  obtain ⟨b2, off2, y, hab, hb2, hy, hat2, hok2⟩ := h.get hp
  obtain ⟨rfl, rfl⟩ : b = b2 ∧ off = off2 := by injection hab with h1; injection h1 with h2 h3; exact ⟨h2, h3⟩
  have C0 := Lib.hid (stays hat.c0 hb)
  have D0 := Lib.hid (stays hat2.c0 hb)
  have c0 := C0.out _ BX.out.below
  have d0 := D0.out _ BX.out.below
  have z0 := BX.out.c0
  have z1 := BX.out.c1
  obtain ⟨E, hE⟩ : ∃ E, refuseE m (coreL L) n p placed gone = E := ⟨_, rfl⟩
  have hE2 := hE
  rw [hE]
  unfold refuseE at hE2
  rw [kindK_get hx, kindK_get hy] at hE2
  clear h hm hs hr hx hy hat hat2 hok hok2 hab hE hg
  generalize hkx : x.core.kind = kx at *
  generalize hky : y.core.kind = ky at *
  clear hkx hky
  by_cases k2 : ky = 2
  · have e1 : (ky == 2) = true := beq_iff_eq.2 k2
    rw [if_pos (.inl k2)] at hE2
    subst hE2
    clear k2
    (go_enter Tryz.func95, Tryz.ntmps95; go_wp2; have E0 := Ext.cell z0 BX.out.lt; have E1 := Ext.cell z1 BX.out.lt; have E2 := Ext.cell c0 (by simp; omega); have E3 := Ext.cell d0 (by simp; omega); refine wp_region_ext (by kernel_rfl) (by kernel_rfl) ?_; (repeat (go_big_quiet_step (fail))); refine wpQuiet_nil ?_; intro w' hw'; obtain ⟨⟨w2, hb2⟩, hw''⟩ := hw'; dsimp only at hw''; subst hw''; clear E0 E1 E2 E3; have BX := Lib.hid (BX.out.keep hb2); clear hb2 z0 z1 c0 d0; have z0 := BX.out.c0; have z1 := BX.out.c1; go_wp2_with (first | (go_at_call 56; ((with_reducible refine (GO.out _ _ BX.out.row QO.out).mono ?_); rintro e w1 ⟨rfl, hb⟩; have BX := Lib.hid (BX.out.keep hb); have z0 := BX.out.c0; have z1 := BX.out.c1; clear hb)) | (go_at_call 144; ((with_reducible refine (GD.out _ _ BX.out.row QD.out).mono ?_); rintro e w1 ⟨rfl, hb⟩; have BX := Lib.hid (BX.out.keep hb); have z0 := BX.out.c0; have z1 := BX.out.c1; clear hb))); go_ret; exact ⟨rfl, BX.out.below⟩)
  have e1 : (ky == 2) = false := beq_eq_false_iff_ne.2 k2
  cases qo : overZ m (coreL L) n p with
  | true =>
    rw [if_pos (.inr qo)] at hE2
    subst hE2
    have QO := Lib.hid qo
    clear k2 qo
    (go_enter Tryz.func95, Tryz.ntmps95; go_wp2; have E0 := Ext.cell z0 BX.out.lt; have E1 := Ext.cell z1 BX.out.lt; have E2 := Ext.cell c0 (by simp; omega); have E3 := Ext.cell d0 (by simp; omega); refine wp_region_ext (by kernel_rfl) (by kernel_rfl) ?_; (repeat (go_big_quiet_step (fail))); refine wpQuiet_nil ?_; intro w' hw'; obtain ⟨⟨w2, hb2⟩, hw''⟩ := hw'; dsimp only at hw''; subst hw''; clear E0 E1 E2 E3; have BX := Lib.hid (BX.out.keep hb2); clear hb2 z0 z1 c0 d0; have z0 := BX.out.c0; have z1 := BX.out.c1; go_wp2_with (first | (go_at_call 56; ((with_reducible refine (GO.out _ _ BX.out.row QO.out).mono ?_); rintro e w1 ⟨rfl, hb⟩; have BX := Lib.hid (BX.out.keep hb); have z0 := BX.out.c0; have z1 := BX.out.c1; clear hb)) | (go_at_call 144; ((with_reducible refine (GD.out _ _ BX.out.row QD.out).mono ?_); rintro e w1 ⟨rfl, hb⟩; have BX := Lib.hid (BX.out.keep hb); have z0 := BX.out.c0; have z1 := BX.out.c1; clear hb))); go_ret; exact ⟨rfl, BX.out.below⟩)
  | false =>
    rw [if_neg (by rw [qo]; simp [k2])] at hE2
    have QO := Lib.hid qo
    clear k2 qo
    cases placed with
    | false =>
      rw [if_pos rfl] at hE2
      subst hE2
      (go_enter Tryz.func95, Tryz.ntmps95; go_wp2; have E0 := Ext.cell z0 BX.out.lt; have E1 := Ext.cell z1 BX.out.lt; have E2 := Ext.cell c0 (by simp; omega); have E3 := Ext.cell d0 (by simp; omega); refine wp_region_ext (by kernel_rfl) (by kernel_rfl) ?_; (repeat (go_big_quiet_step (fail))); refine wpQuiet_nil ?_; intro w' hw'; obtain ⟨⟨w2, hb2⟩, hw''⟩ := hw'; dsimp only at hw''; subst hw''; clear E0 E1 E2 E3; have BX := Lib.hid (BX.out.keep hb2); clear hb2 z0 z1 c0 d0; have z0 := BX.out.c0; have z1 := BX.out.c1; go_wp2_with (first | (go_at_call 56; ((with_reducible refine (GO.out _ _ BX.out.row QO.out).mono ?_); rintro e w1 ⟨rfl, hb⟩; have BX := Lib.hid (BX.out.keep hb); have z0 := BX.out.c0; have z1 := BX.out.c1; clear hb)) | (go_at_call 144; ((with_reducible refine (GD.out _ _ BX.out.row QD.out).mono ?_); rintro e w1 ⟨rfl, hb⟩; have BX := Lib.hid (BX.out.keep hb); have z0 := BX.out.c0; have z1 := BX.out.c1; clear hb))); go_ret; exact ⟨rfl, BX.out.below⟩)
    | true =>
      rw [if_neg (by decide)] at hE2
      by_cases k0 : kx = 0
      · have e2 : (kx == 0) = true := beq_iff_eq.2 k0
        rw [if_pos (.inl k0)] at hE2
        subst hE2
        clear k0
        (go_enter Tryz.func95, Tryz.ntmps95; go_wp2; have E0 := Ext.cell z0 BX.out.lt; have E1 := Ext.cell z1 BX.out.lt; have E2 := Ext.cell c0 (by simp; omega); have E3 := Ext.cell d0 (by simp; omega); refine wp_region_ext (by kernel_rfl) (by kernel_rfl) ?_; (repeat (go_big_quiet_step (fail))); refine wpQuiet_nil ?_; intro w' hw'; obtain ⟨⟨w2, hb2⟩, hw''⟩ := hw'; dsimp only at hw''; subst hw''; clear E0 E1 E2 E3; have BX := Lib.hid (BX.out.keep hb2); clear hb2 z0 z1 c0 d0; have z0 := BX.out.c0; have z1 := BX.out.c1; go_wp2_with (first | (go_at_call 56; ((with_reducible refine (GO.out _ _ BX.out.row QO.out).mono ?_); rintro e w1 ⟨rfl, hb⟩; have BX := Lib.hid (BX.out.keep hb); have z0 := BX.out.c0; have z1 := BX.out.c1; clear hb)) | (go_at_call 144; ((with_reducible refine (GD.out _ _ BX.out.row QD.out).mono ?_); rintro e w1 ⟨rfl, hb⟩; have BX := Lib.hid (BX.out.keep hb); have z0 := BX.out.c0; have z1 := BX.out.c1; clear hb))); go_ret; exact ⟨rfl, BX.out.below⟩)
      have e2 : (kx == 0) = false := beq_eq_false_iff_ne.2 k0
      by_cases k4 : kx = 4
      · have e3 : (kx == 4) = true := beq_iff_eq.2 k4
        rw [if_pos (.inr k4)] at hE2
        subst hE2
        clear k0 k4
        (go_enter Tryz.func95, Tryz.ntmps95; go_wp2; have E0 := Ext.cell z0 BX.out.lt; have E1 := Ext.cell z1 BX.out.lt; have E2 := Ext.cell c0 (by simp; omega); have E3 := Ext.cell d0 (by simp; omega); refine wp_region_ext (by kernel_rfl) (by kernel_rfl) ?_; (repeat (go_big_quiet_step (fail))); refine wpQuiet_nil ?_; intro w' hw'; obtain ⟨⟨w2, hb2⟩, hw''⟩ := hw'; dsimp only at hw''; subst hw''; clear E0 E1 E2 E3; have BX := Lib.hid (BX.out.keep hb2); clear hb2 z0 z1 c0 d0; have z0 := BX.out.c0; have z1 := BX.out.c1; go_wp2_with (first | (go_at_call 56; ((with_reducible refine (GO.out _ _ BX.out.row QO.out).mono ?_); rintro e w1 ⟨rfl, hb⟩; have BX := Lib.hid (BX.out.keep hb); have z0 := BX.out.c0; have z1 := BX.out.c1; clear hb)) | (go_at_call 144; ((with_reducible refine (GD.out _ _ BX.out.row QD.out).mono ?_); rintro e w1 ⟨rfl, hb⟩; have BX := Lib.hid (BX.out.keep hb); have z0 := BX.out.c0; have z1 := BX.out.c1; clear hb))); go_ret; exact ⟨rfl, BX.out.below⟩)
      have e3 : (kx == 4) = false := beq_eq_false_iff_ne.2 k4
      rw [if_neg (by simp [k0, k4])] at hE2
      clear k0 k4
      by_cases k0 : ky = 0
      · have e4 : (ky == 0) = true := beq_iff_eq.2 k0
        cases qd : docTakesB (coreL L) n p gone with
        | false =>
          rw [if_pos ⟨k0, qd⟩] at hE2
          subst hE2
          have QD := Lib.hid qd
          clear k0 qd
          (go_enter Tryz.func95, Tryz.ntmps95; go_wp2; have E0 := Ext.cell z0 BX.out.lt; have E1 := Ext.cell z1 BX.out.lt; have E2 := Ext.cell c0 (by simp; omega); have E3 := Ext.cell d0 (by simp; omega); refine wp_region_ext (by kernel_rfl) (by kernel_rfl) ?_; (repeat (go_big_quiet_step (fail))); refine wpQuiet_nil ?_; intro w' hw'; obtain ⟨⟨w2, hb2⟩, hw''⟩ := hw'; dsimp only at hw''; subst hw''; clear E0 E1 E2 E3; have BX := Lib.hid (BX.out.keep hb2); clear hb2 z0 z1 c0 d0; have z0 := BX.out.c0; have z1 := BX.out.c1; go_wp2_with (first | (go_at_call 56; ((with_reducible refine (GO.out _ _ BX.out.row QO.out).mono ?_); rintro e w1 ⟨rfl, hb⟩; have BX := Lib.hid (BX.out.keep hb); have z0 := BX.out.c0; have z1 := BX.out.c1; clear hb)) | (go_at_call 144; ((with_reducible refine (GD.out _ _ BX.out.row QD.out).mono ?_); rintro e w1 ⟨rfl, hb⟩; have BX := Lib.hid (BX.out.keep hb); have z0 := BX.out.c0; have z1 := BX.out.c1; clear hb))); go_ret; exact ⟨rfl, BX.out.below⟩)
        | true =>
          rw [if_neg (by rw [qd]; simp)] at hE2
          subst hE2
          have QD := Lib.hid qd
          clear k0 qd
          (go_enter Tryz.func95, Tryz.ntmps95; go_wp2; have E0 := Ext.cell z0 BX.out.lt; have E1 := Ext.cell z1 BX.out.lt; have E2 := Ext.cell c0 (by simp; omega); have E3 := Ext.cell d0 (by simp; omega); refine wp_region_ext (by kernel_rfl) (by kernel_rfl) ?_; (repeat (go_big_quiet_step (fail))); refine wpQuiet_nil ?_; intro w' hw'; obtain ⟨⟨w2, hb2⟩, hw''⟩ := hw'; dsimp only at hw''; subst hw''; clear E0 E1 E2 E3; have BX := Lib.hid (BX.out.keep hb2); clear hb2 z0 z1 c0 d0; have z0 := BX.out.c0; have z1 := BX.out.c1; go_wp2_with (first | (go_at_call 56; ((with_reducible refine (GO.out _ _ BX.out.row QO.out).mono ?_); rintro e w1 ⟨rfl, hb⟩; have BX := Lib.hid (BX.out.keep hb); have z0 := BX.out.c0; have z1 := BX.out.c1; clear hb)) | (go_at_call 144; ((with_reducible refine (GD.out _ _ BX.out.row QD.out).mono ?_); rintro e w1 ⟨rfl, hb⟩; have BX := Lib.hid (BX.out.keep hb); have z0 := BX.out.c0; have z1 := BX.out.c1; clear hb))); go_ret; exact ⟨rfl, BX.out.below⟩)
      · have e4 : (ky == 0) = false := beq_eq_false_iff_ne.2 k0
        rw [if_neg (by simp [k0])] at hE2
        subst hE2
        clear k0
        (go_enter Tryz.func95, Tryz.ntmps95; go_wp2; have E0 := Ext.cell z0 BX.out.lt; have E1 := Ext.cell z1 BX.out.lt; have E2 := Ext.cell c0 (by simp; omega); have E3 := Ext.cell d0 (by simp; omega); refine wp_region_ext (by kernel_rfl) (by kernel_rfl) ?_; (repeat (go_big_quiet_step (fail))); refine wpQuiet_nil ?_; intro w' hw'; obtain ⟨⟨w2, hb2⟩, hw''⟩ := hw'; dsimp only at hw''; subst hw''; clear E0 E1 E2 E3; have BX := Lib.hid (BX.out.keep hb2); clear hb2 z0 z1 c0 d0; have z0 := BX.out.c0; have z1 := BX.out.c1; go_wp2_with (first | (go_at_call 56; ((with_reducible refine (GO.out _ _ BX.out.row QO.out).mono ?_); rintro e w1 ⟨rfl, hb⟩; have BX := Lib.hid (BX.out.keep hb); have z0 := BX.out.c0; have z1 := BX.out.c1; clear hb)) | (go_at_call 144; ((with_reducible refine (GD.out _ _ BX.out.row QD.out).mono ?_); rintro e w1 ⟨rfl, hb⟩; have BX := Lib.hid (BX.out.keep hb); have z0 := BX.out.c0; have z1 := BX.out.c1; clear hb))); go_ret; exact ⟨rfl, BX.out.below⟩)
end Go.Proofs.YtiffhlncnpppoaaGreatDoor
namespace Go.Proofs.YtiffhlncnpppoaaGreatDoor
open Go.RowKit
end Go.Proofs.YtiffhlncnpppoaaGreatDoor
namespace Go.Proofs.YtiffhlncnpppoaaGreatDoor
open Go.RowKit
attribute [local go_sem ↓] Go.wp_at_zero Go.wp_at_succ
structure AttSt (w W : World) (a : Option Addr) (len cap : Nat) (m : Int) (L : List NodeD) : Prop where
  box : Box w W w.heap.size a len cap m L (coreL L)
  res : Box2 W (w.heap.size + 1) (.slice none 0 0) (.int .i64 0)
theorem AttSt.keep {w W W2 : World} {a : Option Addr} {len cap : Nat} {m : Int} {L : List NodeD} (h : AttSt w W a len cap m L) (hb : Below W.heap.size W W2) : AttSt w W2 a len cap m L := ⟨h.box.keep hb, h.res.keep hb⟩
theorem AttSt.start {w : World} {a : Option Addr} {len cap : Nat} {m : Int} {L : List NodeD} (h : NodeRow w a len cap L) : AttSt w ((w.alloc (forB a len cap m)).alloc zeroFB) a len cap m L := by
  refine ⟨(Box.start h).keep (below_box _ _), ?_⟩
  have := Box2.new (w.alloc (forB a len cap m)) (.slice none 0 0) (.int .i64 0) 24
  rwa [show (w.alloc (forB a len cap m)).heap.size = w.heap.size + 1 by simp] at this
structure AttCp (r : Nat) (w0 W : World) (len : Nat) (m : Int) (F : List Core) (q : Nat) (v : Value) (M : List NodeD) : Prop where
  copy : Copy w0.heap.size w0 W v len M F
  g : Box2 W q v (.int .i64 m)
  low : w0.heap.size ≤ q
  ne : v.ownBlock ≠ some q
  aq : ∀ y ∈ M, NodeAway q y
  ar : ∀ y ∈ M, NodeAway r y
theorem AttCp.keep {r : Nat} {w0 W W2 : World} {len : Nat} {m : Int} {F : List Core} {q : Nat} {v : Value} {M : List NodeD} (h : AttCp r w0 W len m F q v M) (hb : Below W.heap.size W W2) : AttCp r w0 W2 len m F q v M :=
  ⟨h.copy.keep hb, h.g.keep hb, h.low, h.ne, h.aq, h.ar⟩
theorem AttCp.wayA {r : Nat} {w0 w1 : World} {len : Nat} {m : Int} {F : List Core} {v : Value} {M : List NodeD} (hsz : r < w0.heap.size)
    (CP : Copy (w0.alloc zeroFB).heap.size (w0.alloc zeroFB) w1 v len M F) (NL : ∀ x ∈ M, newLists (w0.alloc zeroFB).drew.heap.size x) (GB : Box2 w1 w0.heap.size (.slice none 0 0) (.int .i64 0)) :
    AttCp r w0 ((w1.setCell ⟨w0.heap.size, 0, none⟩ v).setCell ⟨w0.heap.size, 1, none⟩ (.int .i64 m)) len m F w0.heap.size v M := by
  have hs : (w0.alloc zeroFB).drew.heap.size = w0.heap.size + 1 := by simp
  have hs2 : (w0.alloc zeroFB).heap.size = w0.heap.size + 1 := by simp
  have hne : v.ownBlock ≠ some w0.heap.size := own_not CP.own (by rw [hs2]; omega)
  have haq : ∀ y ∈ M, NodeAway w0.heap.size y := fun y hy => (NL y hy).away (by rw [hs]; omega)
  have hb : Below w0.heap.size w0 w1 := (below_box w0 _).trans (CP.below.mono (by rw [hs2]; omega))
  refine ⟨⟨own_base (own_boxCell (own_boxCell CP.own hne _) hne _) (by rw [hs2]; omega), CP.hl, CP.core, fun x hx => ((CP.ok x hx).setCell (haq x hx) _).setCell (haq x hx) _, fun g hg => ?_, (hb.setCell (p := ⟨w0.heap.size, 0, none⟩) (Nat.le_refl _) _).setCell (p := ⟨w0.heap.size, 1, none⟩) (Nat.le_refl _) _⟩, GB.set _ _, Nat.le_refl _, hne, haq, fun y hy => (NL y hy).away (by rw [hs]; omega)⟩
  rcases hg with hg | hg
  · omega
  · exact CP.away g (.inr hg)
theorem AttCp.wayB {r : Nat} {w0 w1 : World} {len : Nat} {m : Int} {F : List Core} {v : Value} {M : List NodeD} (hsz : r < w0.heap.size)
    (CP : Copy w0.heap.size w0 w1 v len M F) (NL : ∀ x ∈ M, newLists w0.drew.heap.size x) :
    AttCp r w0 (w1.alloc (.cells #[v, .int .i64 m] 24)) len m F w1.heap.size v M := by
  have hs : w0.drew.heap.size = w0.heap.size := rfl
  exact ⟨CP.keep (below_box _ _), Box2.new _ _ _ _, CP.below.size, own_notNew CP.own, fun y hy => (CP.ok y hy).away (Nat.le_refl _), fun y hy => (NL y hy).away (by rw [hs]; omega)⟩
theorem AttCp.finish {r : Nat} {w w0 W : World} {len : Nat} {m : Int} {F : List Core} {q : Nat} {v : Value} {M : List NodeD} (h : AttCp r w0 W len m F q v M) (hsz : r < w0.heap.size) (hlo : w.heap.size ≤ r) (hb : Below w.heap.size w w0) (u1 u2 : Value) :
    ∃ a cap, v = .slice a len cap ∧ NodeRow ((W.setCell ⟨r, 0, none⟩ u1).setCell ⟨r, 1, none⟩ u2) a len cap M ∧ coreL M = F ∧ Below w.heap.size w ((W.setCell ⟨r, 0, none⟩ u1).setCell ⟨r, 1, none⟩ u2) := by
  have hne : v.ownBlock ≠ some r := own_not h.copy.own hsz
  have c2 : Copy w.heap.size w ((W.setCell ⟨r, 0, none⟩ u1).setCell ⟨r, 1, none⟩ u2) v len M F :=
    ⟨own_base (own_boxCell (own_boxCell h.copy.own hne _) hne _) hb.size, h.copy.hl, h.copy.core, fun x hx => ((h.copy.ok x hx).setCell (h.ar x hx) _).setCell (h.ar x hx) _, fun g hg => by
      rcases hg with hg | hg
      · omega
      · exact h.copy.away g (.inr hg), ((hb.trans (h.copy.below.mono hb.size)).setCell (p := ⟨r, 0, none⟩) hlo _).setCell (p := ⟨r, 1, none⟩) hlo _⟩
  obtain ⟨a, cap, hv, hr, _⟩ := c2.row
  exact ⟨a, cap, hv, hr, h.copy.core, c2.below⟩
def withUD (x : NodeD) (u : Int) : NodeD := ⟨withU x.core u, x.aA, x.aN, x.aC, x.kA, x.kN, x.kC⟩
theorem Copy.at {lo : Nat} {w W : World} {g n cap k : Nat} {M : List NodeD} {F : List Core} {x : NodeD} (h : Copy lo w W (.slice (some ⟨g, 0, none⟩) n cap) n M F) (hx : M[k]? = some x) : NodeAt W g (k * 10) x := by
  obtain ⟨a, cap', he, hr, _⟩ := h.row
  injection he with e1 e2 e3
  subst e1
  have hk : k < n := by
    have := (List.getElem?_eq_some_iff.1 hx).1
    rw [h.hl] at this
    exact this
  obtain ⟨b', off, y, hab, _, hy, hat, _⟩ := hr.get hk
  injection hab with hab
  injection hab with e1 e2
  subst e1 e2
  obtain rfl : x = y := Option.some.inj (hx.symm.trans hy)
  rwa [Nat.zero_add] at hat
theorem AttCp.under {r : Nat} {w0 W : World} {len cap : Nat} {m : Int} {F : List Core} {q g : Nat} {M : List NodeD} {k : Nat} {x : NodeD} {u : Int} (h : AttCp r w0 W len m F q (.slice (some ⟨g, 0, none⟩) len cap) M) (hk : M[k]? = some x) (hu : In64 u) :
    AttCp r w0 (W.setCell ⟨g, k * 10 + 8, none⟩ (.int .i64 u)) len m (F.set k (withU x.core u)) q (.slice (some ⟨g, 0, none⟩) len cap) (M.set k (withUD x u)) := by
  obtain ⟨hl, he⟩ := List.getElem?_eq_some_iff.1 hk
  have hkn : k < len := by have := h.copy.hl; omega
  have hgl : w0.heap.size ≤ g := (h.copy.own.lt g rfl).1
  have hgq : g ≠ q := fun e => h.ne (by rw [← e]; rfl)
  have o1 := own_setCell h.copy.own (j := k * 10 + 8) (by omega) (.int .i64 u)
  rw [flat_set (L := M) (fun z _ => encN_len z) (i := k) (j := 8) (y := withUD x u) (u := .int .i64 u) (x := x) hk rfl (by omega)] at o1
  have mem : ∀ y ∈ M.set k (withUD x u), y ∈ M ∨ y = withUD x u := fun y hy => List.mem_or_eq_of_mem_set hy
  have hxm := List.mem_of_getElem? hk
  have hox := h.copy.ok x hxm
  have haw := h.copy.away g (.inr rfl)
  have away : ∀ g', (∀ y ∈ M, NodeAway g' y) → ∀ y ∈ M.set k (withUD x u), NodeAway g' y := fun g' hg' y hy => by
    rcases mem y hy with hy | rfl
    · exact hg' y hy
    · exact hg' x hxm
  refine ⟨⟨o1, by rw [List.length_set]; exact h.copy.hl, ?_, fun y hy => ?_, fun g' hg' => away g' (h.copy.away g' hg'), h.copy.below.setCell (p := ⟨g, k * 10 + 8, none⟩) hgl _⟩, ?_, h.low, h.ne, away q h.aq, away r h.ar⟩
  · rw [← h.copy.core]
    unfold coreL
    rw [List.map_set]
    rfl
  · rcases mem y hy with hy | rfl
    · exact (h.copy.ok y hy).setCell (haw y hy) _
    · have hq : NodeOk W (withUD x u) := ⟨hox.attrs, hox.kids, hox.name, hox.is, hox.data, hox.kind, hox.parent, hox.host, hu, hox.doc⟩
      exact hq.setCell (haw x hxm) _
  · have hb : ∀ o, (⟨g, k * 10 + 8, none⟩ : Addr) ≠ ⟨q, o, none⟩ := fun o e => hgq (by injection e)
    exact ⟨by simpa [World.setCell] using h.g.lt, (World.cell?_setCell_other _ _ _ _ (hb 0)).trans h.g.c0, (World.cell?_setCell_other _ _ _ _ (hb 1)).trans h.g.c1, by rw [World.frozen?_setCell]; exact h.g.f0, by rw [World.frozen?_setCell]; exact h.g.f1⟩
theorem AttCp.grown {r : Nat} {w0 W W2 : World} {len : Nat} {m : Int} {F : List Core} {q : Nat} {v : Value} {M : List NodeD} (h : AttCp r w0 W len m F q v M) (hg : W.grownBy W2 v.ownBlock) (ho : W2.ownsRow w0.heap.size 53 10 v len (M.flatMap encN)) : AttCp r w0 W2 len m F q v M :=
  ⟨⟨ho, h.copy.hl, h.copy.core, fun x hx => (h.copy.ok x hx).grown hg (fun g e => h.copy.away g (.inr e) x hx), h.copy.away, h.copy.below.grown hg h.copy.below.size (fun k e => (h.copy.own.lt k e).1)⟩, h.g.grown hg (fun e => h.ne e.symm), h.low, h.ne, h.aq, h.ar⟩
structure AttRow (r : Nat) (w0 W : World) (len : Nat) (q g cap : Nat) (M : List NodeD) (y : NodeD) : Prop where
  own : W.ownsRow w0.heap.size 53 10 (.slice (some ⟨g, 0, none⟩) (len + 1) cap) (len + 1) ((M ++ [y]).flatMap encN)
  hl : M.length = len
  ok : ∀ z ∈ M ++ [y], NodeOk W z
  nq : g ≠ q
  aq : ∀ z ∈ M ++ [y], NodeAway q z
  ar : ∀ z ∈ M ++ [y], NodeAway r z
theorem AttRow.row {r : Nat} {w0 W : World} {len q g cap : Nat} {M : List NodeD} {y : NodeD} (h : AttRow r w0 W len q g cap M y) : NodeRow W (some ⟨g, 0, none⟩) (len + 1) cap (M ++ [y]) := by
  obtain ⟨a, cap', he, hr, _⟩ := SRow.of_own (L := M ++ [y]) (fun x _ => encN_len x) (by rw [List.length_append, h.hl]; rfl) h.own
  injection he with h1 h2 h3
  subst h1; subst h3
  exact ⟨hr, h.ok, fun h => by cases h⟩
theorem AttRow.new {r : Nat} {w0 W W2 : World} {len : Nat} {m : Int} {F : List Core} {q g cap : Nat} {v : Value} {M : List NodeD} {y : NodeD} (h : AttCp r w0 W len m F q v M) (hy : NodeOk W y) (hya : y.aA = none) (hyk : y.kA = none)
    (ho : W2.ownsRow w0.heap.size 53 10 (.slice (some ⟨g, 0, none⟩) (len + 1) cap) (len + 1) (M.flatMap encN ++ encN y)) (hg : W.grownBy W2 v.ownBlock) (hat : v.ownBlock = some g ∨ g = W.heap.size) : AttRow r w0 W2 len q g cap M y := by
  have away : ∀ k, NodeAway k y := fun k => ⟨(fun b off hb => by rw [hya] at hb; cases hb), (fun b off hb => by rw [hyk] at hb; cases hb)⟩
  have hlow := h.low
  refine ⟨by simpa using ho, h.copy.hl, fun z hz => ?_, ?_, fun z hz => ?_, fun z hz => ?_⟩
  · rcases List.mem_append.1 hz with hz | hz
    · exact (h.copy.ok z hz).grown hg (fun k e => h.copy.away k (.inr e) z hz)
    · obtain rfl : z = y := by simpa using hz
      exact hy.grown hg (fun k _ => away k)
  · rcases hat with hat | hat
    · intro e
      exact h.ne (by rw [hat, e])
    · have := h.g.lt
      omega
  · rcases List.mem_append.1 hz with hz | hz
    · exact h.aq z hz
    · obtain rfl : z = y := by simpa using hz
      exact away q
  · rcases List.mem_append.1 hz with hz | hz
    · exact h.ar z hz
    · obtain rfl : z = y := by simpa using hz
      exact away _
theorem AttRow.finish {r : Nat} {w w0 W : World} {len q g cap : Nat} {M : List NodeD} {y : NodeD} (h : AttRow r w0 W len q g cap M y) (hsz : r < w0.heap.size) (hlo : w.heap.size ≤ r) (hq : w0.heap.size ≤ q) (hb : Below w.heap.size w w0) (hb2 : Below w0.heap.size w0 W) (u0 u1 u2 : Value) :
    NodeRow (((W.setCell ⟨q, 0, none⟩ u0).setCell ⟨r, 0, none⟩ u1).setCell ⟨r, 1, none⟩ u2) (some ⟨g, 0, none⟩) (len + 1) cap (M ++ [y]) ∧ Below w.heap.size w (((W.setCell ⟨q, 0, none⟩ u0).setCell ⟨r, 0, none⟩ u1).setCell ⟨r, 1, none⟩ u2) := by
  have n1 : (Value.slice (some ⟨g, 0, none⟩) (len + 1) cap).ownBlock ≠ some q := fun e => h.nq (by injection e)
  have n2 : (Value.slice (some ⟨g, 0, none⟩) (len + 1) cap).ownBlock ≠ some r := own_not h.own hsz
  have c2 : AttRow r w0 (((W.setCell ⟨q, 0, none⟩ u0).setCell ⟨r, 0, none⟩ u1).setCell ⟨r, 1, none⟩ u2) len q g cap M y :=
    ⟨own_boxCell (own_boxCell (own_boxCell h.own n1 _) n2 _) n2 _, h.hl, fun z hz => (((h.ok z hz).setCell (h.aq z hz) _).setCell (h.ar z hz) _).setCell (h.ar z hz) _, h.nq, h.aq, h.ar⟩
  have hsz2 := hb.size
  exact ⟨c2.row, (((hb.trans (hb2.mono hb.size)).setCell (p := ⟨q, 0, none⟩) (by show w.heap.size ≤ q; omega) _).setCell (p := ⟨r, 0, none⟩) hlo _).setCell (p := ⟨r, 1, none⟩) hlo _⟩
end Go.Proofs.YtiffhlncnpppoaaGreatDoor
