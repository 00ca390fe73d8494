/- Texts joined in build order: FreshOwn WorkBegin. -/
import Derived.Test.YtkfmengdffpcnaaGreatDoorA21
import Derived.Test.YtkfmengdffpcnaaGreatDoorA23
namespace Go.Proofs.YtkfmengdffpcnaaGreatDoor
open Go.RowKit
attribute [local go_sem ↓] Go.wp_at_zero Go.wp_at_succ
abbrev kidV (x : NodeD) : Value := .slice x.kA x.kN x.kC
structure KidsOwn (B0 : Nat) (W : World) (g k : Nat) (M : List NodeD) : Prop where
  own : ∀ (i : Nat) x, i < k → M[i]? = some x → W.ownsRow 0 3 1 (kidV x) x.kN (x.core.kids.flatMap encZ)
  ne : ∀ (i : Nat) x b, i < k → M[i]? = some x → (kidV x).ownBlock = some b → b ≠ g ∧ B0 ≤ b
  alt : ∀ (i : Nat) x b off, i < k → M[i]? = some x → x.aA = some ⟨b, off, none⟩ → 0 < x.aN → b < W.heap.size
  al : ∀ (i : Nat) x b off, i < k → M[i]? = some x → x.aA = some ⟨b, off, none⟩ → 0 < x.aN → g < b
  kk : ∀ (i j : Nat) x y b c, i < k → j < k → M[i]? = some x → M[j]? = some y → i ≠ j → (kidV x).ownBlock = some b → (kidV y).ownBlock = some c → b ≠ c
  ak : ∀ (i j : Nat) x y b off c, i < k → j < k → M[i]? = some x → M[j]? = some y → x.aA = some ⟨b, off, none⟩ → 0 < x.aN → (kidV y).ownBlock = some c → b ≠ c
theorem KidsOwn.zero (B0 : Nat) (W : World) (g : Nat) (M : List NodeD) : KidsOwn B0 W g 0 M :=
  ⟨fun i x hi => absurd hi (by omega), fun i x b hi => absurd hi (by omega), fun i x b off hi => absurd hi (by omega), fun i x b off hi => absurd hi (by omega), fun i j x y b c hi => absurd hi (by omega), fun i j x y b off c hi => absurd hi (by omega)⟩
theorem KidsOwn.step {B0 : Nat} {wr w3 : World} {g k B n : Nat} {M : List NodeD} {x : NodeD} (h : KidsOwn B0 wr g k M) (hb : Below wr.heap.size wr w3) (hg : g < wr.heap.size) (hk : M[k]? = some x) {a4 a6 : Option Addr} {an c4 c6 : Nat} (ho : w3.ownsRow B 3 1 (.slice a6 n c6) n (x.core.kids.flatMap encZ)) (hB : wr.heap.size ≤ B)
    (ha : ∀ b off, a4 = some ⟨b, off, none⟩ → 0 < an → wr.heap.size ≤ b ∧ b < B) (o1 o2 : Nat) (u1 u2 : Value) (hB3 : B ≤ w3.heap.size) (hB0 : B0 ≤ wr.heap.size) : KidsOwn B0 ((w3.setCell ⟨g, o1, none⟩ u1).setCell ⟨g, o2, none⟩ u2) g (k + 1) (M.set k ⟨x.core, a4, an, c4, a6, n, c6⟩) := by
  have hkl := (List.getElem?_eq_some_iff.1 hk).1
  have hsz : ((w3.setCell ⟨g, o1, none⟩ u1).setCell ⟨g, o2, none⟩ u2).heap.size = w3.heap.size := by simp [World.setCell]
  have same : ∀ b, b ≠ g → ((w3.setCell ⟨g, o1, none⟩ u1).setCell ⟨g, o2, none⟩ u2).heap[b]? = w3.heap[b]? := fun b hb => (Below.heap_setCell _ _ _ b hb).trans (Below.heap_setCell _ _ _ b hb)
  have getM : ∀ {i : Nat} {z : NodeD}, i < k + 1 → (M.set k ⟨x.core, a4, an, c4, a6, n, c6⟩)[i]? = some z → (i = k ∧ z = ⟨x.core, a4, an, c4, a6, n, c6⟩) ∨ (i < k ∧ M[i]? = some z) := fun {i z} hi hz => by
    by_cases e : i = k
    · subst e
      rw [List.getElem?_set_self hkl] at hz
      exact .inl ⟨rfl, (Option.some.inj hz).symm⟩
    · rw [List.getElem?_set_ne (fun e2 => e e2.symm)] at hz
      exact .inr ⟨by omega, hz⟩
  have nb : ∀ b, Value.ownBlock (.slice a6 n c6) = some b → B ≤ b ∧ b < w3.heap.size := fun b hb2 => ho.lt b hb2
  have old : ∀ (i : Nat) z b, i < k → M[i]? = some z → (kidV z).ownBlock = some b → b < wr.heap.size := fun i z b hi hz hb2 => own_block_lt (h.own i z hi hz) hb2
  have hs3 := hb.size
  refine ⟨fun i z hi hz => ?_, fun i z b hi hz hb2 => ?_, fun i z b off hi hz e hp => ?_, fun i z b off hi hz e hp => ?_, fun i j z y b c hi hj hz hy hne hb2 hc2 => ?_, fun i j z y b off c hi hj hz hy e hp hc2 => ?_⟩
  · rcases getM hi hz with ⟨rfl, rfl⟩ | ⟨hi, hz⟩
    · exact own_base (own_same ho (fun b hb2 => same b (by have := (nb b hb2).1; omega))) (Nat.zero_le _)
    · exact own_same (h.own i z hi hz) (fun b hb2 => (same b (h.ne i z b hi hz hb2).1).trans (hb.block b (old i z b hi hz hb2)))
  · rcases getM hi hz with ⟨rfl, rfl⟩ | ⟨hi, hz⟩
    · have := (nb b hb2).1
      exact ⟨by omega, by omega⟩
    · exact h.ne i z b hi hz hb2
  · rw [hsz]
    rcases getM hi hz with ⟨rfl, rfl⟩ | ⟨hi, hz⟩
    · have h1 := (ha b off e hp).2
      omega
    · have := h.alt i z b off hi hz e hp
      omega
  · rcases getM hi hz with ⟨rfl, rfl⟩ | ⟨hi, hz⟩
    · have h1 := (ha b off e hp).1
      omega
    · exact h.al i z b off hi hz e hp
  · rcases getM hi hz with ⟨rfl, rfl⟩ | ⟨hi2, hz2⟩
    · rcases getM hj hy with ⟨rfl, rfl⟩ | ⟨hj2, hy2⟩
      · exact absurd rfl hne
      · have h1 := (nb b hb2).1
        have h2 := old j y c hj2 hy2 hc2
        omega
    · rcases getM hj hy with ⟨rfl, rfl⟩ | ⟨hj2, hy2⟩
      · have h1 := (nb c hc2).1
        have h2 := old i z b hi2 hz2 hb2
        omega
      · exact h.kk i j z y b c hi2 hj2 hz2 hy2 hne hb2 hc2
  · rcases getM hi hz with ⟨rfl, rfl⟩ | ⟨hi2, hz2⟩
    · have h1 := ha b off e hp
      rcases getM hj hy with ⟨rfl, rfl⟩ | ⟨hj2, hy2⟩
      · have h2 := (nb c hc2).1
        omega
      · have h2 := old j y c hj2 hy2 hc2
        omega
    · rcases getM hj hy with ⟨rfl, rfl⟩ | ⟨hj2, hy2⟩
      · have h1 := (nb c hc2).1
        have h2 := h.alt i z b off hi2 hz2 e hp
        omega
      · exact h.ak i j z y b off c hi2 hj2 hz2 hy2 e hp hc2
theorem KidsOwn.far {B0 : Nat} {W : World} {g k b o : Nat} {u : Value} {M : List NodeD} (h : KidsOwn B0 W g k M) (hb : ∀ (i : Nat) x c, i < k → M[i]? = some x → (kidV x).ownBlock = some c → c ≠ b) : KidsOwn B0 (W.setCell ⟨b, o, none⟩ u) g k M :=
  ⟨fun i x hi hx => own_same (h.own i x hi hx) (fun c hc => Below.heap_setCell _ _ _ c (hb i x c hi hx hc)), h.ne, fun i x b' off hi hx e hp => by simpa [World.setCell] using h.alt i x b' off hi hx e hp, h.al, h.kk, h.ak⟩
theorem KidsOwn.keep {B0 : Nat} {W W2 : World} {g k : Nat} {M : List NodeD} (h : KidsOwn B0 W g k M) (hb : Below W.heap.size W W2) : KidsOwn B0 W2 g k M :=
  ⟨fun i x hi hx => own_below (h.own i x hi hx) hb, h.ne, fun i x b' off hi hx e hp => Nat.lt_of_lt_of_le (h.alt i x b' off hi hx e hp) hb.size, h.al, h.kk, h.ak⟩
def CopyOwn (w : World) (n : Nat) (F : List Core) (m : Int) (e : Ending) (w' : World) : Prop := ∃ v M, e = .returned (.agg #[v, .int .i64 m]) ∧ Copy w.heap.size w w' v n M F ∧ (∀ x ∈ M, newLists w.heap.size x) ∧ ∀ g, v.ownBlock = some g → KidsOwn w.heap.size w' g n M
set_option maxHeartbeats 16000000 in
set_option maxRecDepth 100000 in
theorem cloneOwn_any (a : Option Addr) (len cap : Nat) (m : Int) (L : List NodeD) (w : World) (h : NodeRow w a len cap L) (hs : smallF L) :
    Calls Tryz.prog 66 #[forV a len cap m] w (CopyOwn w len (coreL L) m) := by
  have HL := Lib.hid h.hlen
  have hlen : len ≤ 1000 := by rw [← h.hlen]; exact hs.1
  have HSM : Hid (∀ c ∈ coreL L, c.kids.length ≤ 1000 ∧ c.attrs.length ≤ 1000) := Lib.hid (fun c hc => by
    obtain ⟨x, hx, rfl⟩ := List.mem_map.1 hc
    exact ⟨(hs.2 x hx).1, (hs.2 x hx).2.1⟩)
  obtain ⟨w0, hw0, BX, FB⟩ : ∃ w0, (w.alloc (forB a len cap m)).alloc (.cells #[.slice none 0 0, .int .i64 0] 24) = w0 ∧ Box w w0 w.heap.size a len cap m L (coreL L) ∧ ForBox w w0 (w.heap.size + 1) w.heap.size m := by
    refine ⟨_, rfl, (Box.start (m := m) h).keep (below_box _ _), ?_⟩
    have e1 : (w.alloc (forB a len cap m)).heap.size = w.heap.size + 1 := by simp
    have c : ∀ j, ((w.alloc (forB a len cap m)).alloc (.cells #[.slice none 0 0, .int .i64 0] 24)).cell? ⟨w.heap.size + 1, j, none⟩ = (#[.slice none 0 0, .int .i64 0] : Array Value)[j]? := fun j => by
      have := cell_of_row ((w.alloc (forB a len cap m)).alloc (.cells #[.slice none 0 0, .int .i64 0] 24)) (w.alloc (forB a len cap m)).heap.size j _ 24 (0, 0) (heap_alloc_new _ _)
      rwa [e1] at this
    have f : ∀ j, ((w.alloc (forB a len cap m)).alloc (.cells #[.slice none 0 0, .int .i64 0] 24)).frozen? ⟨w.heap.size + 1, j, none⟩ = false := fun j => by
      have := row_free (heap_alloc_new (w.alloc (forB a len cap m)) (.cells #[.slice none 0 0, .int .i64 0] 24)) j
      rwa [e1] at this
    exact ⟨by simp, c 0, c 1, f 0, f 1, ((Box.start (m := m) h).keep (below_box _ _)).c1⟩
  have BX := Lib.hid BX
  have FB := Lib.hid FB
  have HW := Lib.hid hw0
  have HH := Lib.hid h
  have CN : Hid (∀ W, NodeRow W a len cap L → Calls Tryz.prog 100 #[.slice a len cap] W (OwnPostN W L)) := Lib.hid (fun W h => cloneN_any a len cap L W h (by omega))
  have z0 : ((w.alloc (forB a len cap m)).alloc (.cells #[.slice none 0 0, .int .i64 0] 24)).cell? ⟨w.heap.size, 0, none⟩ = some (.slice a len cap) := by rw [hw0]; exact BX.out.c0
  clear h hs hw0
  go_enter Tryz.func66, Tryz.ntmps66
  go_wp2_with (go_at_call 100; rw [HW.out]; refine (CN.out _ BX.out.row).mono ?_; intro e w1 hp; obtain ⟨v, rfl, hown, hb⟩ := hp; have CP := Lib.hid (Copy.start HL.out HH.out.ok BX.out.below hb hown); obtain ⟨a2, cap2, rfl, hr2, hlo2⟩ := CP.out.row; have FB1 := Lib.hid (FB.out.keep BX.out.lt hb); clear hown hb hr2 hlo2 z0)
  go_loopw [11] (fun i wr => ∃ (k : Nat) (M : List NodeD), k ≤ len ∧ i = .int .i64 k ∧ Hid (Copy w.heap.size w0 wr (.slice a2 len cap2) len M (coreL L)) ∧ Hid (∀ (j : Nat) x, j < k → M[j]? = some x → newLists w.heap.size x) ∧ Hid (∀ g, a2 = some ⟨g, 0, none⟩ → KidsOwn w0.heap.size wr g k M)) (fun i _ => len - (intOf i).toNat)
  case atStart => exact ⟨0, L, Nat.zero_le _, rfl, CP, Lib.hid (fun j x hj => absurd hj (by omega)), Lib.hid (fun g _ => KidsOwn.zero _ _ _ _)⟩
  case round =>
    clear CP FB1
    obtain ⟨k, M, hk, rfl, CP, NL, KO⟩ := hrel
    by_cases hlt : k < len
    · obtain ⟨a3, cap3, he3, hr3, hlo3⟩ := CP.out.row
      injection he3 with e1 e2 e3
      subst e1 e3
      obtain ⟨g, off, x, rfl, hg, hx, hat, hok⟩ := hr3.get hlt
      obtain ⟨hlo, rfl⟩ := hlo3 g off rfl
      rw [Nat.zero_add] at hat
      obtain ⟨W1, hW1, CI, hgl⟩ : ∃ W1, wr.alloc (nodB x) = W1 ∧ CopyIn w.heap.size w0 W1 g len cap2 k M (coreL L) wr.heap.size x ∧ g < W1.heap.size := by
        have hbx := (NKeep.start hok).box
        exact ⟨_, rfl, ⟨CP.out.keep (below_box _ _), hlo, hx, by simp, hbx.c4, hbx.c6⟩, by simp; omega⟩
      have CI := Lib.hid CI
      have HW1 := Lib.hid hW1
      have HGL := Lib.hid hgl
      have HGW := Lib.hid hg
      have KOW := Lib.hid (KO.out g rfl)
      clear hW1 hgl
      obtain ⟨c0, c1, c2, c3, c4, c5, c6, c7, c8, c9⟩ := hat
      have hn3 : x.core.data.size ≤ 9223372036854775807 := by have := hok.data; unfold maxLen at this; omega
      have HXC : Hid (x.core ∈ coreL L) := Lib.hid (by rw [← CP.out.core]; exact List.mem_map.2 ⟨x, List.mem_of_getElem? hx, rfl⟩)
      have HAL := Lib.hid hok.attrs.hlen
      have HKL := Lib.hid hok.kids.hlen
      have CA : Hid (∀ W, AttrRow W x.aA x.aN x.aC x.core.attrs → Calls Tryz.prog 96 #[.slice x.aA x.aN x.aC] W (OwnPost W x.core.attrs)) := Lib.hid (fun W h => clone_any _ _ _ _ W h (by have := (HSM.out _ HXC.out).2; rw [HAL.out] at this; omega))
      have CK : Hid (∀ W, IntRow W x.kA x.kN x.kC x.core.kids → Calls Tryz.prog 83 #[.slice x.kA x.kN x.kC] W (OwnPostI W x.core.kids)) := Lib.hid (fun W h => cloneI_any _ _ _ _ W h (by have := (HSM.out _ HXC.out).1; rw [HKL.out] at this; omega))
      have HS1 := Lib.hid hok.attrs.small
      have HS2 := Lib.hid hok.kids.inb
      clear CP hr3 hlo3 hok hx
      go_wp2
      rw [HW1.out]
      clear c0 c1 c2 c3 c4 c5 c6 c7 c8 c9 hn3
      have x4 := CI.out.c4
      have x6 := CI.out.c6
      have hne1 : g ≠ wr.heap.size := Nat.ne_of_lt HGW.out
      have hne2 : wr.heap.size ≠ g := Nat.ne_of_gt HGW.out
      go_region_held3 (fun w' => w'.cell? ⟨wr.heap.size, 4, none⟩ = some (.slice x.aA x.aN x.aC) ∧ w'.cell? ⟨wr.heap.size, 6, none⟩ = some (.slice x.kA x.kN x.kC)) (go_keep)
        (first
          | (go_at_call 96; refine (CA.out _ CI.out.ok.attrs.drew).mono ?_; intro e w2 hp; obtain ⟨a4, c4, rfl, hrw, hlow, hb⟩ := hp.row HS1.out; have RA := Lib.hid hrw; have LA := Lib.hid hlow; have LA2 : Hid (∀ b off, a4 = some ⟨b, off, none⟩ → 0 < x.core.attrs.length → b < w2.heap.size) := (Lib.hid (fun b off e hp => attr_block_lt hrw e hp)); have HBW2 : Hid (Below W1.heap.size W1 w2) := (Lib.hid ((Below.refl W1.heap.size W1).drew.trans hb)); have CI := Lib.hid (CI.out.keep ((Below.refl _ _).drew.trans hb)); have x4 := CI.out.c4; have x6 := CI.out.c6; have HG2 := Lib.hid (Nat.lt_of_lt_of_le HGL.out hb.size); clear hp hrw hlow hb)
          | (go_at_call 83; refine (CK.out _ CI.out.ok.kids).mono ?_; intro e w3 hp; obtain ⟨v6, rfl, hown6, hb⟩ := hp; obtain ⟨a6, c6, rfl, hrw, hlow⟩ := IntRow.of_own_new (M := x.core.kids) (n := x.core.kids.length) rfl hown6 HS2.out; have KO6 := Lib.hid hown6; have HSZ3 := Lib.hid hb.size; have HBW3 : Hid (Below W1.heap.size W1 w3) := (Lib.hid (HBW2.out.trans (hb.mono HBW2.out.size))); have RK := Lib.hid hrw; have LK := Lib.hid hlow; have RA := Lib.hid (RA.out.below hb); have CI := Lib.hid (CI.out.keep hb); have x4 := CI.out.c4; have x6 := CI.out.c6; have d4 := CI.out.at.c4; have d6 := CI.out.at.c6; have f4 := own_free CI.out.copy.own (k * 10 + 4); have f6 := own_free CI.out.copy.own (k * 10 + 6); clear hrw hlow hb hown6))
      have HW0 : Hid (w0.heap.size ≤ W1.heap.size) := Lib.hid (Nat.le_trans (Nat.le_of_lt (Nat.lt_of_le_of_lt CI.out.low HGL.out)) (Nat.le_refl _))
      have CP2 := Lib.hid (CI.out.copy.set CI.out.low CI.out.hx RA.out RK.out (fun g' hg' => ⟨fun b off hb _ => by
        have h1 : W1.drew.heap.size ≤ b := LA.out b off hb
        have h2 : W1.drew.heap.size = W1.heap.size := rfl
        have h3 := HGL.out
        have h4 := HW0.out
        rcases hg' with h | h <;> omega, fun b off hb _ => by
        have h1 := LK.out b off hb
        have h2 := HG2.out
        have h3 := CI.out.low
        rcases hg' with h | h <;> omega⟩))
      have NL2 : Hid (∀ (j : Nat) y, j < k + 1 → (M.set k ⟨x.core, a4, x.core.attrs.length, c4, a6, x.core.kids.length, c6⟩)[j]? = some y → newLists w.heap.size y) := Lib.hid (fun j y hj hy => by
        by_cases e : k = j
        · subst e
          rw [List.getElem?_set_self (List.getElem?_eq_some_iff.1 CI.out.hx).1] at hy
          rw [← Option.some.inj hy]
          have h0 := BX.out.below.size
          have h2 := HG2.out
          have h3 := CI.out.low
          refine ⟨fun b off hb => ?_, fun b off hb => ?_⟩
          · have h1 : W1.drew.heap.size ≤ b := LA.out b off hb
            have h4 : W1.drew.heap.size = W1.heap.size := rfl
            have h5 := HW0.out
            omega
          · have h1 := LK.out b off hb
            omega
        · rw [List.getElem?_set_ne e] at hy
          exact NL.out j y (by omega) hy)
      have KO2 : Hid (∀ g', some ⟨g, 0, none⟩ = some (⟨g', 0, none⟩ : Addr) → KidsOwn w0.heap.size ((w3.setCell ⟨g, k * 10 + 4, none⟩ (.slice a4 x.core.attrs.length c4)).setCell ⟨g, k * 10 + 6, none⟩ (.slice a6 x.core.kids.length c6)) g' (k + 1) (M.set k ⟨x.core, a4, x.core.attrs.length, c4, a6, x.core.kids.length, c6⟩)) := Lib.hid (fun g' e => by
        injection e with e
        injection e with e
        subst e
        have hw1 : Below wr.heap.size wr w3 := by
          have h1 : Below wr.heap.size wr W1 := by rw [← HW1.out]; exact below_box _ _
          exact h1.trans (HBW3.out.mono h1.size)
        have h0 : wr.heap.size ≤ W1.heap.size := by rw [← HW1.out]; simp
        exact KOW.out.step hw1 HGW.out CI.out.hx KO6.out (Nat.le_trans h0 HBW2.out.size) (fun b off hb hp => ⟨Nat.le_trans h0 (LA.out b off hb), LA2.out b off hb hp⟩) _ _ _ _ HSZ3.out (Nat.le_of_lt (Nat.lt_of_le_of_lt CI.out.low HGW.out)))
      go_wp2
      go_roundw
      case rel => exact ⟨k + 1, _, by omega, by go_num, CP2, NL2, KO2⟩
      case measure => simp [intOf]; omega
    · have hkk : k = len := by omega
      subst hkk
      have FB2 := Lib.hid (FB.out.keep BX.out.lt CP.out.below)
      have d0 := FB2.out.c0
      have d1 := FB2.out.c1
      have f0 := FB2.out.f0
      have f1 := FB2.out.f1
      have z1 := FB2.out.d1
      go_wp2
      refine bodyPost_ret (v := .agg #[.slice a2 k cap2, .int .i64 m]) ?_ rfl ⟨_, M, rfl, CP.out.finish BX.out.below (by omega) FB.out.lt 0 1 _ _, fun x hx => ?_, fun g e => ?_⟩
      · simp [results, Tryz.results66, go_sem, d0, d1]
      · obtain ⟨j, hj, he⟩ := List.mem_iff_getElem.1 hx
        exact NL.out j x (by rw [CP.out.hl] at hj; exact hj) (by rw [List.getElem?_eq_getElem hj, he])
      · obtain ⟨g', rfl⟩ : ∃ g', a2 = some ⟨g', 0, none⟩ := by
          rcases CP.out.own.2 with ⟨hv, _⟩ | ⟨g', c', cur, hv, _⟩
          · injection hv with h1
            rw [h1] at e
            cases e
          · injection hv with h1
            exact ⟨g', h1⟩
        have e2 : g' = g := by injection e
        subst e2
        have hw0 := BX.out.below.size
        have hlt := FB.out.lt
        have hfar : ∀ (i : Nat) x c, i < k → M[i]? = some x → (kidV x).ownBlock = some c → c ≠ w.heap.size + 1 := fun i x c hi hx hc => by
          have := ((KO.out g' rfl).ne i x c hi hx hc).2
          omega
        have h1 := ((KO.out g' rfl).far (b := w.heap.size + 1) (o := 0) (u := .slice (some ⟨g', 0, none⟩) k cap2) hfar).far (b := w.heap.size + 1) (o := 1) (u := .int .i64 m) hfar
        exact ⟨h1.own, fun i x b hi hx hb => ⟨(h1.ne i x b hi hx hb).1, Nat.le_trans hw0 (h1.ne i x b hi hx hb).2⟩, h1.alt, h1.al, h1.kk, h1.ak⟩
end Go.Proofs.YtkfmengdffpcnaaGreatDoor
namespace Go.Proofs.YtkfmengdffpcnaaGreatDoor
open Go.RowKit
theorem own_zero {w : World} {base : Nat} {e : TypeId} {size n : Nat} {v : Value} {xs : List Value} (h : w.ownsRow base e size v n xs) : w.ownsRow 0 e size v n xs := ⟨h.1, h.2.imp id (fun ⟨g, cap, cur, h1, _, h3⟩ => ⟨g, cap, cur, h1, Nat.zero_le _, h3⟩)⟩
structure Begun (w w' : World) (pw : Nat) (a2 : Option Addr) (len cap2 : Nat) (m : Int) (M : List NodeD) (F : List Core) : Prop where
  row : NodeRow w' a2 len cap2 M
  core : coreL M = F
  c0 : w'.cell? ⟨pw, 0, none⟩ = some (.slice a2 len cap2)
  c1 : w'.cell? ⟨pw, 1, none⟩ = some (.int .i64 m)
  c2 : w'.cell? ⟨pw, 2, none⟩ = some (.slice none 0 0)
  lt : pw < w'.heap.size
  plo : w.heap.size ≤ pw
  below : Below w.heap.size w w'
  new : ∀ x ∈ M, newLists w.heap.size x
  rlo : ∀ b off, a2 = some ⟨b, off, none⟩ → w.heap.size ≤ b
  wk : 0 < len → ∃ g ρ, a2 = some ⟨g, 0, none⟩ ∧ Wk ρ w' pw g cap2 len m M (.slice none 0 0) [] ∧ ∀ k, k < w.heap.size → ρ k = 0
theorem begun_of {w w1 : World} {n : Nat} {v : Value} {M : List NodeD} {F : List Core} {m : Int} (hC : Copy w.heap.size w w1 v n M F) (hN : ∀ x ∈ M, newLists w.heap.size x) (hK : ∀ g, v.ownBlock = some g → KidsOwn w.heap.size w1 g n M) :
    ∃ a2 cap2, v = .slice a2 n cap2 ∧ Begun w (w1.alloc (.cells #[.slice a2 n cap2, .int .i64 m, .slice none 0 0] 114)) w1.heap.size a2 n cap2 m M F := by
  obtain ⟨a2, cap2, hv, hr, hlo⟩ := hC.row
  have hb : Below w1.heap.size w1 (w1.alloc (.cells #[.slice a2 n cap2, .int .i64 m, .slice none 0 0] 114)) := below_box _ _
  have cell : ∀ j, (w1.alloc (.cells #[.slice a2 n cap2, .int .i64 m, .slice none 0 0] 114)).cell? ⟨w1.heap.size, j, none⟩ = (#[.slice a2 n cap2, .int .i64 m, .slice none 0 0] : Array Value)[j]? := fun j => cell_of_row _ w1.heap.size j _ 114 (0, 0) (heap_alloc_new w1 _)
  have hs := hC.below.size
  refine ⟨a2, cap2, hv, hr.below hb, hC.core, cell 0, cell 1, cell 2, by simp, hC.below.size, hC.below.trans (hb.mono hs), hN, fun b off e => (hlo b off e).1, fun h0 => ?_⟩
  obtain ⟨g, cap3, hg⟩ := own_some hC.own h0
  rw [hv] at hg
  injection hg with h1 h2 h3
  subst h1; subst h3
  have hKO := hK g (by rw [hv]; rfl)
  have hgl : w.heap.size ≤ g ∧ g < w1.heap.size := by
    have := hC.own.lt g (by rw [hv]; rfl)
    exact this
  have kl : ∀ (i : Nat) x b, M[i]? = some x → (kidV x).ownBlock = some b → w.heap.size ≤ b ∧ b < w1.heap.size ∧ b ≠ g := fun i x b hx hb2 => by
    have hi : i < n := by have := (List.getElem?_eq_some_iff.1 hx).1; rwa [hC.hl] at this
    exact ⟨(hKO.ne i x b hi hx hb2).2, own_block_lt (hKO.own i x hi hx) hb2, (hKO.ne i x b hi hx hb2).1⟩
  have il : ∀ (i : Nat) x, M[i]? = some x → i < n := fun i x hx => by have := (List.getElem?_eq_some_iff.1 hx).1; rwa [hC.hl] at this
  classical
  obtain ⟨κ, hκ1, hκ2⟩ : ∃ κ : Nat → Nat, (∀ (i : Nat) x b, M[i]? = some x → (kidV x).ownBlock = some b → κ b = i + 6) ∧ ∀ b, κ b ≠ 0 → ∃ (i : Nat) (x : NodeD), M[i]? = some x ∧ (kidV x).ownBlock = some b := by
    refine ⟨fun b => if h : ∃ i : Nat, ∃ x, M[i]? = some x ∧ (kidV x).ownBlock = some b then h.choose + 6 else 0, fun i x b hx hb2 => ?_, fun b hne => ?_⟩
    · have hex : ∃ i : Nat, ∃ x, M[i]? = some x ∧ (kidV x).ownBlock = some b := ⟨i, x, hx, hb2⟩
      simp only [dif_pos hex]
      obtain ⟨y, hy, hby⟩ := hex.choose_spec
      by_cases e : hex.choose = i
      · rw [e]
      · exact absurd rfl (hKO.kk _ _ y x b b (il _ _ hy) (il _ _ hx) hy hx e hby hb2)
    · by_cases hex : ∃ i : Nat, ∃ x, M[i]? = some x ∧ (kidV x).ownBlock = some b
      · exact hex
      · exact absurd (dif_neg hex) hne
  refine ⟨g, fun b => if b = w1.heap.size then 1 else if b = g then 2 else κ b, rfl, ?_, fun k hk => ?_⟩
  · have hH := hr.below hb
    have hsz : (w1.alloc (.cells #[.slice (some ⟨g, 0, none⟩) n cap2, .int .i64 m, .slice none 0 0] 114)).heap.size = w1.heap.size + 1 := by simp
    refine ⟨hC.hl, hr.row.hcap, hr.row.hmax, fun i x j u hx hu => ?_, fun o => ?_, by rw [hsz]; omega, fun i x hx => ?_, fun i x b hx hb2 => ?_, fun x hx => (hH.ok x hx).attrs, fun x hx b off e hp => ?_, fun x hx => ?_, cell 0, cell 1, cell 2, fun o => row_free (heap_alloc_new w1 _) o, by simp, World.ownsRow_nil _ _ _ _, (fun b e => by cases e), (fun x hx => by cases hx), if_pos rfl, ?_, fun b hb2 => ?_, ?_⟩
    · rcases hH.row.cells with h0' | ⟨b, off, ha, _, hc⟩
      · omega
      · injection ha with ha
        injection ha with e1 e2
        subst e1 e2
        have := hc i x j u hx hu
        rwa [Nat.zero_add] at this
    · rw [hv] at hC
      exact (hb.frozen (p := ⟨g, o, none⟩) hgl.2).trans (own_free hC.own o)
    · exact own_below (hKO.own i x (il i x hx) hx) hb
    · obtain ⟨h1, h2, h3⟩ := kl i x b hx hb2
      rw [if_neg (by omega), if_neg h3]
      exact hκ1 i x b hx hb2
    · obtain ⟨i, hi⟩ := List.getElem?_of_mem hx
      have h1 := hKO.alt i x b off (il i x hi) hi e hp
      have h2 := (hN x hx).1 b off e
      have h3 : b ≠ g := fun e2 => (hC.away g (.inr (by rw [hv]; rfl)) x hx).1 b off e hp e2
      refine ⟨?_, g, by show (if g = w1.heap.size then 1 else if g = g then 2 else κ g) ≠ 0; rw [if_neg (by omega), if_pos rfl]; decide, hKO.al i x b off (il i x hi) hi e hp⟩
      rw [if_neg (by omega), if_neg h3]
      by_cases h4 : κ b = 0
      · exact h4
      · obtain ⟨j, y, hy, hby⟩ := hκ2 b h4
        exact absurd rfl (hKO.ak i j x y b off b (il i x hi) (il j y hy) hi hy e hp hby)
    · have o := hH.ok x hx
      exact ⟨o.name, o.is, o.data, o.kind, o.parent, o.host, o.under, o.doc, o.kids.inb⟩
    · rw [if_neg (by omega), if_pos rfl]
    · rw [hsz] at hb2
      rw [if_neg (by omega), if_neg (by omega)]
      by_cases h4 : κ b = 0
      · exact h4
      · obtain ⟨j, y, hy, hby⟩ := hκ2 b h4
        have := (kl j y b hy hby).2.1
        omega
    · rw [hv] at hC
      exact own_zero (own_below hC.own hb)
  · show (if k = w1.heap.size then 1 else if k = g then 2 else κ k) = 0
    rw [if_neg (by omega), if_neg (by omega)]
    by_cases h4 : κ k = 0
    · exact h4
    · obtain ⟨j, y, hy, hby⟩ := hκ2 k h4
      have := (kl j y k hy hby).1
      omega
theorem Begun.upto {w w0 w' : World} {pw : Nat} {a2 : Option Addr} {len cap2 : Nat} {m : Int} {M : List NodeD} {F : List Core} (h : Begun w0 w' pw a2 len cap2 m M F) (hb : Below w.heap.size w w0) : Begun w w' pw a2 len cap2 m M F :=
  ⟨h.row, h.core, h.c0, h.c1, h.c2, h.lt, Nat.le_trans hb.size h.plo, hb.trans (h.below.mono hb.size), fun x hx => ⟨fun b off e => Nat.le_trans hb.size ((h.new x hx).1 b off e), fun b off e => Nat.le_trans hb.size ((h.new x hx).2 b off e)⟩, fun b off e => Nat.le_trans hb.size (h.rlo b off e), fun h0 => by
    obtain ⟨g, ρ, h1, h2, h3⟩ := h.wk h0
    exact ⟨g, ρ, h1, h2, fun k hk => h3 k (Nat.lt_of_lt_of_le hk hb.size)⟩⟩
theorem NodeRow.far {W : World} {a : Option Addr} {len cap q : Nat} {M : List NodeD} (h : NodeRow W a len cap M) (ha : ∀ b off, a = some ⟨b, off, none⟩ → b ≠ q) (hM : ∀ x ∈ M, NodeAway q x) (o : Nat) (u : Value) : NodeRow (W.setCell ⟨q, o, none⟩ u) a len cap M :=
  ⟨h.row.keep (by simp [World.setCell]) (fun b off he hp o' => World.cell?_setCell_other _ _ _ _ (fun e => by injection e with e _; exact ha b off he e.symm)), fun x hx => (h.ok x hx).setCell (hM x hx) u, h.hnil⟩
theorem Wk.stored1 {ρ : Nat → Nat} {W : World} {pw g cap len : Nat} {m : Int} {M : List NodeD} {v : Value} {N : List NoteD} (h : Wk ρ W pw g cap len m M v N) {b B : Nat} (hb : b < B) (hB : B ≤ W.heap.size) (h0 : ∀ k, k < B → ρ k = 0) (o : Nat) (u : Value) :
    Wk (upd ρ (some b) 4) (W.setCell ⟨b, o, none⟩ u) pw g cap len m M v N := by
  have hbg : b < g := by
    rcases Nat.lt_or_ge g B with h1 | h1
    · have := h0 g h1
      rw [h.grole] at this
      cases this
    · omega
  have hm := h.mark (b := b) (by omega) (h0 b hb) (fun x hx b' off he hp e => by
    obtain ⟨g0, h1, h2⟩ := (h.arole x hx b' off he hp).2
    have : ¬ g0 < B := fun h4 => h1 (h0 g0 h4)
    omega)
  have h4 : upd ρ (some b) 4 b = 4 := by unfold upd; rw [if_pos rfl]
  exact hm.other h4 o u
theorem Begun.stored {w w0 w' : World} {pw b : Nat} {a2 : Option Addr} {len cap2 : Nat} {m : Int} {M : List NodeD} {F : List Core} (h : Begun w0 w' pw a2 len cap2 m M F) (hb : Below w.heap.size w w0) (h1 : w.heap.size ≤ b) (h2 : b < w0.heap.size) (o : Nat) (u : Value) : Begun w (w'.setCell ⟨b, o, none⟩ u) pw a2 len cap2 m M F := by
  have hp := h.plo
  have hs := h.below.size
  have cp : ∀ j, (w'.setCell ⟨b, o, none⟩ u).cell? ⟨pw, j, none⟩ = w'.cell? ⟨pw, j, none⟩ := fun j => World.cell?_setCell_other _ _ _ _ (fun e => by injection e with e _; omega)
  refine ⟨h.row.far (fun b' off e => by have := h.rlo b' off e; omega) (fun x hx => (h.new x hx).away h2) o u, h.core, (cp 0).trans h.c0, (cp 1).trans h.c1, (cp 2).trans h.c2, by simpa [World.setCell] using h.lt, Nat.le_trans hb.size hp, (hb.trans (h.below.mono hb.size)).setCell (p := ⟨b, o, none⟩) h1 u, fun x hx => ⟨fun b off e => Nat.le_trans hb.size ((h.new x hx).1 b off e), fun b off e => Nat.le_trans hb.size ((h.new x hx).2 b off e)⟩, fun b off e => Nat.le_trans hb.size (h.rlo b off e), fun h0 => ?_⟩
  obtain ⟨g, ρ, h3, h4, h5⟩ := h.wk h0
  refine ⟨g, _, h3, h4.stored1 h2 (by omega) h5 o u, fun k hk => ?_⟩
  unfold upd
  rw [if_neg (fun e => by injection e with e; omega)]
  exact h5 k (Nat.lt_of_lt_of_le hk hb.size)
set_option maxHeartbeats 4000000 in
set_option maxRecDepth 100000 in
theorem cbegin_any (a : Option Addr) (len cap : Nat) (m : Int) (L : List NodeD) (w : World) (h : NodeRow w a len cap L) (hs : smallF L) :
    Calls Tryz.prog 49 #[forV a len cap m] w fun e w' => ∃ pw a2 cap2 M, e = .returned (ptrV pw) ∧ Begun w w' pw a2 len cap2 m M (coreL L) := by
  have BX := Lib.hid (Box.start (m := m) h)
  have CF : Hid (∀ W, NodeRow W a len cap L → Calls Tryz.prog 66 #[forV a len cap m] W (CopyOwn W len (coreL L) m)) := Lib.hid (fun W h1 => cloneOwn_any a len cap m L W h1 hs)
  have z0 := BX.out.c0
  have z1 := BX.out.c1
  clear h hs
  go_enter Tryz.func49, Tryz.ntmps49
  go_wp2_with (go_at_call 66; (with_reducible refine (CF.out _ BX.out.row).mono ?_); rintro e w1 ⟨v, M, rfl, hC, hN, hK⟩; obtain ⟨a2, cap2, rfl, hB⟩ := begun_of (m := m) hC hN hK; have HB := Lib.hid hB; clear hC hN hK hB)
  go_ret
  exact ⟨_, a2, cap2, M, rfl, HB.out.upto BX.out.below⟩
end Go.Proofs.YtkfmengdffpcnaaGreatDoor
