/- Texts joined in build order: Ref6Do Ref6Do2 Ref6Notes Law6Same Ref3Ask RefOne RefName RefCustom SmallFrame. -/
import Derived.Test.YtiffhlncnpppoaaGreatDoorM07
import Derived.Test.YtiffhlncnpppoaaGreatDoorM13
import Derived.Test.YtiffhlncnpppoaaGreatDoorM05
import Derived.Test.YtiffhlncnpppoaaGreatDoorM04
import Derived.Test.YtiffhlncnpppoaaGreatDoorM12
import Derived.Test.YtiffhlncnpppoaaGreatDoorM02
import Derived.Test.YtiffhlncnpppoaaGreatDoorChecked
import Derived.Test.YtiffhlncnpppoaaGreatDoorM01
import Derived.WalkLawsBesides
import Derived.Lib.Hide
import Derived.Lib.IndexBytes
import Derived.BigQuiet
import Derived.Deep.QuietTactic
import Derived.Below
import Derived.WalkSmall
namespace Go.Proofs.YtiffhlncnpppoaaGreatDoor
open Go.RowKit
set_option linter.unusedVariables false
def NT (W : World) (k : Nat) : Prop := ∀ j s, W.cell? ⟨k, j, none⟩ ≠ some (.string s)
theorem NT.keep {W W2 : World} {k : Nat} (h : NT W k) (hk : k < W.heap.size) (hb : Below W.heap.size W W2) : NT W2 k := fun j s => by
  rw [hb.cell (p := ⟨k, j, none⟩) hk]
  exact h j s
theorem NT.new (W : World) (cs : Array Value) (t : TypeId) (h : ∀ u ∈ cs, ∀ s, u ≠ .string s) : NT (W.alloc (.cells cs t)) W.heap.size := fun j s => by
  rw [cell_of_row (W.alloc (.cells cs t)) W.heap.size j cs t (0, 0) (heap_alloc_new W _)]
  intro e
  exact h _ (Array.mem_of_getElem? e) s rfl
theorem attr_nt {W : World} {al : Option Addr} {ln lc : Nat} {l : AL} (h : AttrRow W al ln lc l) {k : Nat} (hk : NT W k) : ∀ b off, al = some ⟨b, off, none⟩ → 0 < ln → b ≠ k := fun b off e hp e2 => by
  rcases h.row.cells with h0 | ⟨b', off', e', _, hc⟩
  · omega
  · rw [e] at e'
    injection e' with e'
    injection e' with e3 e4
    obtain ⟨y, hy⟩ : ∃ y, l[0]? = some y := ⟨_, List.getElem?_eq_getElem (by rw [h.row.hlen]; exact hp)⟩
    have := hc 0 y 0 (.string y.1) hy rfl
    rw [← e3, e2] at this
    exact hk _ _ this
def StTup (w : World) (m : Int) (P : Nat → Prop) (R : List Core × List NoteD × Int) (e : Ending) (w' : World) : Prop :=
  ∃ a len cap M va vl vc, e = .returned (.tuple #[stV a len cap m va vl vc, .int .i64 R.2.2]) ∧ NodeRow w' a len cap M ∧ coreL M = R.1 ∧ NoteRow w' va vl vc R.2.1 ∧ Below w.heap.size w w' ∧ ∀ k, k < w.heap.size → P k → AwayF k a M ∧ ∀ b off, va = some ⟨b, off, none⟩ → b ≠ k
structure SetSt (w W : World) (a : Option Addr) (len cap : Nat) (m : Int) (L : List NodeD) : Prop where
  bx : Box w W w.heap.size a len cap m L (coreL L)
  rb : Box3 W (w.heap.size + 1) (.slice none 0 0) (.int .i64 0) (.slice none 0 0)
  nt : NT W (w.heap.size + 1)
theorem SetSt.start {w : World} {a : Option Addr} {len cap : Nat} {m : Int} {L : List NodeD} (h : NodeRow w a len cap L) : SetSt w ((w.alloc (forB a len cap m)).alloc stZ) a len cap m L := by
  have hs : (w.alloc (forB a len cap m)).heap.size = w.heap.size + 1 := by simp
  refine ⟨(Box.start h).keep (below_box _ _), ?_, ?_⟩
  · have := Box3.new (w.alloc (forB a len cap m)) (.slice none 0 0) (.int .i64 0) (.slice none 0 0) 34
    rwa [hs] at this
  · have := NT.new (w.alloc (forB a len cap m)) #[.slice none 0 0, .int .i64 0, .slice none 0 0] 34 (fun u hu s e => by subst e; simp at hu)
    rwa [hs] at this
theorem SetSt.keep {w W W2 : World} {a : Option Addr} {len cap : Nat} {m : Int} {L : List NodeD} (h : SetSt w W a len cap m L) (hb : Below W.heap.size W W2) : SetSt w W2 a len cap m L :=
  ⟨h.bx.keep hb, h.rb.keep hb, h.nt.keep h.rb.lt hb⟩
theorem NodeRow.awayF {w : World} {a : Option Addr} {len cap : Nat} {L : List NodeD} (h : NodeRow w a len cap L) (h0 : 0 < len) {k : Nat} (hk : w.heap.size ≤ k) : AwayF k a L := by
  refine ⟨fun b off e e2 => ?_, fun z hz => (h.ok z hz).away hk⟩
  rcases h.row.cells with h1 | ⟨b', off', e', hlt, _⟩
  · omega
  · rw [e] at e'
    injection e' with e'
    injection e' with e3
    omega
theorem st_same {w W : World} {a : Option Addr} {len cap : Nat} {m : Int} {L : List NodeD} (ST : SetSt w W a len cap m L) (AW : AwayF (w.heap.size + 1) a L) :
    StEnd w m (fun k => AwayF k a L ∧ NT w k) (coreL L) [] (((W.setCell ⟨w.heap.size + 1, 0, none⟩ (.slice a len cap)).setCell ⟨w.heap.size + 1, 1, none⟩ (.int .i64 m)).setCell ⟨w.heap.size + 1, 2, none⟩ (.slice none 0 0)) :=
  st_end ST.rb ST.bx.row (NoteRow.nil _) ST.bx.below rfl AW (fun b off e => by cases e) (fun k _ hp => ⟨hp.1, fun b off e => by cases e⟩)
theorem st_more {w W W2 : World} {a al a2 va : Option Addr} {len cap ln lc len2 cap2 vl vc : Nat} {m : Int} {L M2 : List NodeD} {l : AL} {F : List Core} {N : List NoteD} (ST : SetSt w W a len cap m L) (AW : AwayF (w.heap.size + 1) a L) (hal : AttrRow W al ln lc l) (hb : Below W.heap.size W W2)
    (hr : NodeRow W2 a2 len2 cap2 M2) (hc : coreL M2 = F) (hn : NoteRow W2 va vl vc N) (hp : ∀ k, k < W.heap.size → (AwayF k a L ∧ ∀ b off, al = some ⟨b, off, none⟩ → 0 < ln → b ≠ k) → AwayF k a2 M2 ∧ ∀ b off, va = some ⟨b, off, none⟩ → b ≠ k) :
    StEnd w m (fun k => AwayF k a L ∧ NT w k) F N (((W2.setCell ⟨w.heap.size + 1, 0, none⟩ (.slice a2 len2 cap2)).setCell ⟨w.heap.size + 1, 1, none⟩ (.int .i64 m)).setCell ⟨w.heap.size + 1, 2, none⟩ (.slice va vl vc)) := by
  obtain ⟨h1, h2⟩ := hp _ ST.rb.lt ⟨AW, attr_nt hal ST.nt⟩
  refine st_end (ST.rb.keep hb) hr hn (ST.bx.below.trans (hb.mono ST.bx.below.size)) hc h1 h2 (fun k hk hq => hp k (Nat.lt_of_lt_of_le hk ST.bx.below.size) ⟨hq.1, attr_nt hal (hq.2.keep hk ST.bx.below)⟩)
set_option maxHeartbeats 8000000 in
set_option maxRecDepth 100000 in
theorem refset6_any (a : Option Addr) (len cap : Nat) (m : Int) (L : List NodeD) (n : Nat) (x : NodeD) (s v : ByteArray) (w : World) (h : NodeRow w a len cap L) (hr : rightF m (coreL L) = true) (hl : len ≤ 1000) (hx : L[n]? = some x) (hs : s.size ≤ 1000) (hv : v.size ≤ maxLen) :
    Calls Tryz.prog 27 #[forV a len cap m, .int .i64 n, .string s, .string v] w (StTup w m (fun k => AwayF k a L ∧ NT w k) (setZ m (coreL L) n s.toList v)) := by
  have hn : n < len := by rw [← h.hlen]; exact (List.getElem?_eq_some_iff.1 hx).1
  have hs' : s.size ≤ maxLen := by unfold maxLen; omega
  obtain ⟨b, off, x', hab, hb, hx', hat, hok⟩ := h.get hn
  obtain rfl : x = x' := Option.some.inj (hx.symm.trans hx')
  subst hab
  have HE : Hid (elemE m (coreL L) n = if x.core.kind = 1 then 0 else 5) := Lib.hid (by
    unfold elemE
    rw [thereF_of hr (by rw [coreL_len, h.hlen]; exact hn), if_pos rfl, kindK_at (coreL_get hx)])
  have HAK : Hid (attrsK (coreL L) n = x.core.attrs) := Lib.hid (attrsK_at (coreL_get hx))
  obtain ⟨w0, hw0, ST⟩ : ∃ w0, (w.alloc (forB (some ⟨b, off, none⟩) len cap m)).alloc stZ = w0 ∧ Hid (SetSt w w0 (some ⟨b, off, none⟩) len cap m L) := ⟨_, rfl, Lib.hid (SetSt.start h)⟩
  have HW0 := Lib.hid hw0
  have AW := Lib.hid (h.awayF (k := w.heap.size + 1) (by omega) (by omega))
  have C0 := Lib.hid (stays hat.c0 hb)
  have C4 := Lib.hid (stays hat.c4 hb)
  obtain ⟨lA, hlA⟩ : ∃ lA, setA x.core.attrs s.toList v = lA := ⟨_, rfl⟩
  obtain ⟨E, hE⟩ : ∃ E, setE x.core.attrs s.toList v = E := ⟨_, rfl⟩
  have CA : Hid (∀ W, Below w.heap.size w W → Calls Tryz.prog 79 #[.slice x.aA x.aN x.aC, .string s, .string v] W (SetPost W lA E)) := Lib.hid (fun W hb => by
    rw [← hlA, ← hE]
    exact refset_any _ _ _ _ s v W (hok.attrs.below hb) hs' hv)
  have CT : Hid (∀ W al ln lc l, Below w.heap.size w W → AttrRow W al ln lc l → Calls Tryz.prog 80 #[forV (some ⟨b, off, none⟩) len cap m, .int .i64 n, .string s, .slice al ln lc] W (StPost W m (fun k => AwayF k (some ⟨b, off, none⟩) L ∧ ∀ b off, al = some ⟨b, off, none⟩ → 0 < ln → b ≠ k) (chgF (coreL L) n l) [chgN n s.toList x.core.attrs l])) := Lib.hid (fun W al ln lc l hb hal => refattrs_any _ len cap m L n x s al ln lc l W (h.below hb) hl hx hs hal)
  have hl64 : (len : Int) ≤ 9223372036854775807 := by omega
  have HLA := Lib.hid hlA
  have HEE := Lib.hid hE
  (have z0 := ST.out.bx.c0; have z1 := ST.out.bx.c1; have r0 := ST.out.rb.c0; have r1 := ST.out.rb.c1; have r2 := ST.out.rb.c2; have rf := ST.out.rb.f; have c0 := C0.out _ ST.out.bx.below; have c4 := C4.out _ ST.out.bx.below)
  clear h hr hx hs hs' hv hx' hat hok hw0 hlA hE
  by_cases k1 : x.core.kind = 1
  · have e1 : (x.core.kind != 1) = false := by rw [k1]; rfl
    have HK : Hid (elemE m (coreL L) n = 0) := Lib.hid (by rw [HE.out, if_pos k1])
    clear k1
    by_cases h0 : E = 0
    · have e2 : (E != 0) = false := by rw [h0]; rfl
      have HQ : Hid (setZ m (coreL L) n s.toList v = (chgF (coreL L) n lA, [chgN n s.toList x.core.attrs lA], 0)) := Lib.hid (by
        unfold setZ chgZ
        rw [if_pos HK.out, HAK.out, HEE.out, if_pos h0, HLA.out, Int.toNat_natCast])
      clear h0
      go_enter Tryz.func27, Tryz.ntmps27
      go_upto_region 1 with fail
      rw [HW0.out]
      go_wp2_with (first
        | (go_at_call 79; (with_reducible refine (CA.out _ ST.out.bx.below).mono ?_); rintro e w1 ⟨al, ln, lc, rfl, hal, hb⟩; have AL := Lib.hid hal; clear hal; (have ST := Lib.hid (ST.out.keep hb); clear z0 z1 r0 r1 r2 rf c0 c4 hb; (have z0 := ST.out.bx.c0; have z1 := ST.out.bx.c1; have r0 := ST.out.rb.c0; have r1 := ST.out.rb.c1; have r2 := ST.out.rb.c2; have rf := ST.out.rb.f; have c0 := C0.out _ ST.out.bx.below; have c4 := C4.out _ ST.out.bx.below)))
        | (go_at_call 80; (refine (CT.out _ _ _ _ _ ST.out.bx.below AL.out).mono ?_); rintro e w2 ⟨a2, len2, cap2, M2, va, vl, vc, rfl, hr2, hc2, hn2, hb2, hp2⟩; have SE := Lib.hid (st_more ST.out AW.out AL.out hb2 hr2 hc2 hn2 hp2); have ST := Lib.hid (ST.out.keep hb2); clear z0 z1 r0 r1 r2 rf c0 c4 hr2 hc2 hn2 hb2 hp2; (have z0 := ST.out.bx.c0; have z1 := ST.out.bx.c1; have r0 := ST.out.rb.c0; have r1 := ST.out.rb.c1; have r2 := ST.out.rb.c2; have rf := ST.out.rb.f; have c0 := C0.out _ ST.out.bx.below; have c4 := C4.out _ ST.out.bx.below)))
      obtain ⟨a9, len9, cap9, M9, va9, vl9, vc9, ⟨k0, k1, k2⟩, R9, C9, N9, B9, P9⟩ := SE.out
      refine bodyPost_ret (v := .tuple #[stV a9 len9 cap9 m va9 vl9 vc9, .int .i64 0]) ?_ rfl ⟨a9, len9, cap9, M9, va9, vl9, vc9, by rw [HQ.out], R9, by rw [HQ.out]; exact C9, by rw [HQ.out]; exact N9, B9, P9⟩
      simp [results, Tryz.results27, go_sem, k0, k1, k2]
    · have e2 : (E != 0) = true := bne_iff_ne.2 h0
      have HQ : Hid (setZ m (coreL L) n s.toList v = (coreL L, [], E)) := Lib.hid (by
        unfold setZ
        rw [if_pos HK.out, HAK.out, HEE.out, if_neg h0])
      clear h0
      go_enter Tryz.func27, Tryz.ntmps27
      go_upto_region 1 with fail
      rw [HW0.out]
      go_wp2_with (go_at_call 79; (with_reducible refine (CA.out _ ST.out.bx.below).mono ?_); rintro e w1 ⟨al, ln, lc, rfl, -, hb⟩; (have ST := Lib.hid (ST.out.keep hb); clear z0 z1 r0 r1 r2 rf c0 c4 hb; (have z0 := ST.out.bx.c0; have z1 := ST.out.bx.c1; have r0 := ST.out.rb.c0; have r1 := ST.out.rb.c1; have r2 := ST.out.rb.c2; have rf := ST.out.rb.f; have c0 := C0.out _ ST.out.bx.below; have c4 := C4.out _ ST.out.bx.below)))
      obtain ⟨a9, len9, cap9, M9, va9, vl9, vc9, ⟨k0, k1, k2⟩, R9, C9, N9, B9, P9⟩ := st_same ST.out AW.out
      refine bodyPost_ret (v := .tuple #[stV a9 len9 cap9 m va9 vl9 vc9, .int .i64 E]) ?_ rfl ⟨a9, len9, cap9, M9, va9, vl9, vc9, by rw [HQ.out], R9, by rw [HQ.out]; exact C9, by rw [HQ.out]; exact N9, B9, P9⟩
      simp [results, Tryz.results27, go_sem, k0, k1, k2]
  · have e1 : (x.core.kind != 1) = true := bne_iff_ne.2 k1
    have HQ : Hid (setZ m (coreL L) n s.toList v = (coreL L, [], 5)) := Lib.hid (by
      unfold setZ
      rw [HE.out, if_neg k1, if_neg (by decide)])
    clear k1
    go_enter Tryz.func27, Tryz.ntmps27
    go_upto_region 1 with fail
    rw [HW0.out]
    go_wp2
    obtain ⟨a9, len9, cap9, M9, va9, vl9, vc9, ⟨k0, k1, k2⟩, R9, C9, N9, B9, P9⟩ := st_same ST.out AW.out
    refine bodyPost_ret (v := .tuple #[stV a9 len9 cap9 m va9 vl9 vc9, .int .i64 5]) ?_ rfl ⟨a9, len9, cap9, M9, va9, vl9, vc9, by rw [HQ.out], R9, by rw [HQ.out]; exact C9, by rw [HQ.out]; exact N9, B9, P9⟩
    simp [results, Tryz.results27, go_sem, k0, k1, k2]
end Go.Proofs.YtiffhlncnpppoaaGreatDoor
namespace Go.Proofs.YtiffhlncnpppoaaGreatDoor
open Go.RowKit
set_option linter.unusedVariables false
set_option maxHeartbeats 8000000 in
set_option maxRecDepth 100000 in
theorem refuns6_any (a : Option Addr) (len cap : Nat) (m : Int) (L : List NodeD) (n : Nat) (x : NodeD) (s : ByteArray) (w : World) (h : NodeRow w a len cap L) (hr : rightF m (coreL L) = true) (hl : len ≤ 1000) (hx : L[n]? = some x) (hs : s.size ≤ 1000) :
    Calls Tryz.prog 28 #[forV a len cap m, .int .i64 n, .string s] w (StTup w m (fun k => AwayF k a L ∧ NT w k) (unsZ m (coreL L) n s.toList)) := by
  have hn : n < len := by rw [← h.hlen]; exact (List.getElem?_eq_some_iff.1 hx).1
  have hs' : s.size ≤ maxLen := by unfold maxLen; omega
  obtain ⟨b, off, x', hab, hb, hx', hat, hok⟩ := h.get hn
  obtain rfl : x = x' := Option.some.inj (hx.symm.trans hx')
  subst hab
  have HE : Hid (elemE m (coreL L) n = if x.core.kind = 1 then 0 else 5) := Lib.hid (by
    unfold elemE
    rw [thereF_of hr (by rw [coreL_len, h.hlen]; exact hn), if_pos rfl, kindK_at (coreL_get hx)])
  have HAK : Hid (attrsK (coreL L) n = x.core.attrs) := Lib.hid (attrsK_at (coreL_get hx))
  obtain ⟨w0, hw0, ST⟩ : ∃ w0, (w.alloc (forB (some ⟨b, off, none⟩) len cap m)).alloc stZ = w0 ∧ Hid (SetSt w w0 (some ⟨b, off, none⟩) len cap m L) := ⟨_, rfl, Lib.hid (SetSt.start h)⟩
  have HW0 := Lib.hid hw0
  have AW := Lib.hid (h.awayF (k := w.heap.size + 1) (by omega) (by omega))
  have C0 := Lib.hid (stays hat.c0 hb)
  have C4 := Lib.hid (stays hat.c4 hb)
  obtain ⟨lA, hlA⟩ : ∃ lA, remA x.core.attrs s.toList = lA := ⟨_, rfl⟩
  obtain ⟨q, hq⟩ : ∃ q, hasA x.core.attrs s.toList = q := ⟨_, rfl⟩
  have CA : Hid (∀ W, Below w.heap.size w W → Calls Tryz.prog 82 #[.slice x.aA x.aN x.aC, .string s] W (RemPost W lA q)) := Lib.hid (fun W hb => by
    rw [← hlA, ← hq]
    exact refrem_any _ _ _ _ s W (hok.attrs.below hb) hs')
  obtain ⟨r, hrl⟩ : ∃ r, rightL s.toList = r := ⟨_, rfl⟩
  have CR : Hid (∀ W, Calls Tryz.prog 81 #[.string s] W fun e w' => e = .returned (.bool r) ∧ W = w') := Lib.hid (fun W => by
    rw [← hrl]
    exact refright_any s W hs')
  have CT : Hid (∀ W al ln lc l, Below w.heap.size w W → AttrRow W al ln lc l → Calls Tryz.prog 80 #[forV (some ⟨b, off, none⟩) len cap m, .int .i64 n, .string s, .slice al ln lc] W (StPost W m (fun k => AwayF k (some ⟨b, off, none⟩) L ∧ ∀ b off, al = some ⟨b, off, none⟩ → 0 < ln → b ≠ k) (chgF (coreL L) n l) [chgN n s.toList x.core.attrs l])) := Lib.hid (fun W al ln lc l hb hal => refattrs_any _ len cap m L n x s al ln lc l W (h.below hb) hl hx hs hal)
  have hl64 : (len : Int) ≤ 9223372036854775807 := by omega
  have HLA := Lib.hid hlA
  have HQQ := Lib.hid hq
  have HRL := Lib.hid hrl
  (have z0 := ST.out.bx.c0; have z1 := ST.out.bx.c1; have r0 := ST.out.rb.c0; have r1 := ST.out.rb.c1; have r2 := ST.out.rb.c2; have rf := ST.out.rb.f; have c0 := C0.out _ ST.out.bx.below; have c4 := C4.out _ ST.out.bx.below)
  clear h hr hx hs hs' hx' hat hok hw0 hlA hq hrl
  by_cases k1 : x.core.kind = 1
  · have e1 : (x.core.kind != 1) = false := by rw [k1]; rfl
    have HK : Hid (elemE m (coreL L) n = 0) := Lib.hid (by rw [HE.out, if_pos k1])
    clear k1
    cases r with
    | false =>
      have HQ : Hid (unsZ m (coreL L) n s.toList = (coreL L, [], 4)) := Lib.hid (by
        unfold unsZ fitE
        rw [if_pos HK.out, HRL.out]
        rfl)
      go_enter Tryz.func28, Tryz.ntmps28
      go_upto_region 1 with fail
      rw [HW0.out]
      go_wp2_with (go_at_call 81; (with_reducible refine (CR.out _).mono ?_); rintro e w1 ⟨rfl, rfl⟩)
      obtain ⟨a9, len9, cap9, M9, va9, vl9, vc9, ⟨k0, k1, k2⟩, R9, C9, N9, B9, P9⟩ := st_same ST.out AW.out
      refine bodyPost_ret (v := .tuple #[stV a9 len9 cap9 m va9 vl9 vc9, .int .i64 4]) ?_ rfl ⟨a9, len9, cap9, M9, va9, vl9, vc9, by rw [HQ.out], R9, by rw [HQ.out]; exact C9, by rw [HQ.out]; exact N9, B9, P9⟩
      simp [results, Tryz.results28, go_sem, k0, k1, k2]
    | true =>
      cases q with
      | false =>
        have HQ : Hid (unsZ m (coreL L) n s.toList = (coreL L, [], 0)) := Lib.hid (by
          unfold unsZ fitE
          rw [if_pos HK.out, HRL.out, HAK.out, HQQ.out]
          rfl)
        go_enter Tryz.func28, Tryz.ntmps28
        go_upto_region 1 with fail
        rw [HW0.out]
        go_wp2_with (first
          | (go_at_call 81; (with_reducible refine (CR.out _).mono ?_); rintro e w1 ⟨rfl, rfl⟩)
          | (go_at_call 82; (with_reducible refine (CA.out _ ST.out.bx.below).mono ?_); rintro e w1 ⟨al, ln, lc, rfl, -, hb⟩; (have ST := Lib.hid (ST.out.keep hb); clear z0 z1 r0 r1 r2 rf c0 c4 hb; (have z0 := ST.out.bx.c0; have z1 := ST.out.bx.c1; have r0 := ST.out.rb.c0; have r1 := ST.out.rb.c1; have r2 := ST.out.rb.c2; have rf := ST.out.rb.f; have c0 := C0.out _ ST.out.bx.below; have c4 := C4.out _ ST.out.bx.below))))
        obtain ⟨a9, len9, cap9, M9, va9, vl9, vc9, ⟨k0, k1, k2⟩, R9, C9, N9, B9, P9⟩ := st_same ST.out AW.out
        refine bodyPost_ret (v := .tuple #[stV a9 len9 cap9 m va9 vl9 vc9, .int .i64 0]) ?_ rfl ⟨a9, len9, cap9, M9, va9, vl9, vc9, by rw [HQ.out], R9, by rw [HQ.out]; exact C9, by rw [HQ.out]; exact N9, B9, P9⟩
        simp [results, Tryz.results28, go_sem, k0, k1, k2]
      | true =>
        have HQ : Hid (unsZ m (coreL L) n s.toList = (chgF (coreL L) n lA, [chgN n s.toList x.core.attrs lA], 0)) := Lib.hid (by
          unfold unsZ fitE chgZ
          rw [if_pos HK.out, HRL.out, HAK.out, HQQ.out, HLA.out, Int.toNat_natCast]
          rfl)
        go_enter Tryz.func28, Tryz.ntmps28
        go_upto_region 1 with fail
        rw [HW0.out]
        go_wp2_with (first
          | (go_at_call 81; (with_reducible refine (CR.out _).mono ?_); rintro e w1 ⟨rfl, rfl⟩)
          | (go_at_call 82; (with_reducible refine (CA.out _ ST.out.bx.below).mono ?_); rintro e w1 ⟨al, ln, lc, rfl, hal, hb⟩; have AL := Lib.hid hal; clear hal; (have ST := Lib.hid (ST.out.keep hb); clear z0 z1 r0 r1 r2 rf c0 c4 hb; (have z0 := ST.out.bx.c0; have z1 := ST.out.bx.c1; have r0 := ST.out.rb.c0; have r1 := ST.out.rb.c1; have r2 := ST.out.rb.c2; have rf := ST.out.rb.f; have c0 := C0.out _ ST.out.bx.below; have c4 := C4.out _ ST.out.bx.below)))
          | (go_at_call 80; (refine (CT.out _ _ _ _ _ ST.out.bx.below AL.out).mono ?_); rintro e w2 ⟨a2, len2, cap2, M2, va, vl, vc, rfl, hr2, hc2, hn2, hb2, hp2⟩; have SE := Lib.hid (st_more ST.out AW.out AL.out hb2 hr2 hc2 hn2 hp2); have ST := Lib.hid (ST.out.keep hb2); clear z0 z1 r0 r1 r2 rf c0 c4 hr2 hc2 hn2 hb2 hp2; (have z0 := ST.out.bx.c0; have z1 := ST.out.bx.c1; have r0 := ST.out.rb.c0; have r1 := ST.out.rb.c1; have r2 := ST.out.rb.c2; have rf := ST.out.rb.f; have c0 := C0.out _ ST.out.bx.below; have c4 := C4.out _ ST.out.bx.below)))
        obtain ⟨a9, len9, cap9, M9, va9, vl9, vc9, ⟨k0, k1, k2⟩, R9, C9, N9, B9, P9⟩ := SE.out
        refine bodyPost_ret (v := .tuple #[stV a9 len9 cap9 m va9 vl9 vc9, .int .i64 0]) ?_ rfl ⟨a9, len9, cap9, M9, va9, vl9, vc9, by rw [HQ.out], R9, by rw [HQ.out]; exact C9, by rw [HQ.out]; exact N9, B9, P9⟩
        simp [results, Tryz.results28, go_sem, k0, k1, k2]
  · have e1 : (x.core.kind != 1) = true := bne_iff_ne.2 k1
    have HQ : Hid (unsZ m (coreL L) n s.toList = (coreL L, [], 5)) := Lib.hid (by
      unfold unsZ
      rw [HE.out, if_neg k1, if_neg (by decide)])
    clear k1
    go_enter Tryz.func28, Tryz.ntmps28
    go_upto_region 1 with fail
    rw [HW0.out]
    go_wp2
    obtain ⟨a9, len9, cap9, M9, va9, vl9, vc9, ⟨k0, k1, k2⟩, R9, C9, N9, B9, P9⟩ := st_same ST.out AW.out
    refine bodyPost_ret (v := .tuple #[stV a9 len9 cap9 m va9 vl9 vc9, .int .i64 5]) ?_ rfl ⟨a9, len9, cap9, M9, va9, vl9, vc9, by rw [HQ.out], R9, by rw [HQ.out]; exact C9, by rw [HQ.out]; exact N9, B9, P9⟩
    simp [results, Tryz.results28, go_sem, k0, k1, k2]
set_option maxHeartbeats 8000000 in
set_option maxRecDepth 100000 in
theorem reftog6_any (a : Option Addr) (len cap : Nat) (m : Int) (L : List NodeD) (n : Nat) (x : NodeD) (s : ByteArray) (f : Int) (w : World) (h : NodeRow w a len cap L) (hr : rightF m (coreL L) = true) (hl : len ≤ 1000) (hx : L[n]? = some x) (hs : s.size ≤ 1000) :
    Calls Tryz.prog 29 #[forV a len cap m, .int .i64 n, .string s, .int .i64 f] w (StTup w m (fun k => AwayF k a L ∧ NT w k) (togZ m (coreL L) n s.toList f)) := by
  have hn : n < len := by rw [← h.hlen]; exact (List.getElem?_eq_some_iff.1 hx).1
  have hs' : s.size ≤ maxLen := by unfold maxLen; omega
  obtain ⟨b, off, x', hab, hb, hx', hat, hok⟩ := h.get hn
  obtain rfl : x = x' := Option.some.inj (hx.symm.trans hx')
  subst hab
  have HE : Hid (elemE m (coreL L) n = if x.core.kind = 1 then 0 else 5) := Lib.hid (by
    unfold elemE
    rw [thereF_of hr (by rw [coreL_len, h.hlen]; exact hn), if_pos rfl, kindK_at (coreL_get hx)])
  have HAK : Hid (attrsK (coreL L) n = x.core.attrs) := Lib.hid (attrsK_at (coreL_get hx))
  obtain ⟨w0, hw0, ST⟩ : ∃ w0, (w.alloc (forB (some ⟨b, off, none⟩) len cap m)).alloc stZ = w0 ∧ Hid (SetSt w w0 (some ⟨b, off, none⟩) len cap m L) := ⟨_, rfl, Lib.hid (SetSt.start h)⟩
  have HW0 := Lib.hid hw0
  have AW := Lib.hid (h.awayF (k := w.heap.size + 1) (by omega) (by omega))
  have C0 := Lib.hid (stays hat.c0 hb)
  have C4 := Lib.hid (stays hat.c4 hb)
  obtain ⟨lA, hlA⟩ : ∃ lA, togA x.core.attrs s.toList f = lA := ⟨_, rfl⟩
  obtain ⟨q, hq⟩ : ∃ q, togB x.core.attrs s.toList f = q := ⟨_, rfl⟩
  obtain ⟨E, hE⟩ : ∃ E, togE x.core.attrs s.toList f = E := ⟨_, rfl⟩
  obtain ⟨p, hp⟩ : ∃ p, hasA x.core.attrs s.toList = p := ⟨_, rfl⟩
  have CA : Hid (∀ W, Below w.heap.size w W → Calls Tryz.prog 84 #[.slice x.aA x.aN x.aC, .string s, .int .i64 f] W (TogPost W lA q E)) := Lib.hid (fun W hb => by
    rw [← hlA, ← hq, ← hE]
    exact reftog_any _ _ _ _ s f W (hok.attrs.below hb) hs')
  have CG : Hid (∀ W, Below w.heap.size w W → Calls Tryz.prog 83 #[.slice x.aA x.aN x.aC, .string s] W fun e w' => e = .returned (.tuple #[.string (valA x.core.attrs s.toList), .bool p]) ∧ Below W.heap.size W w') := Lib.hid (fun W hb => by
    rw [← hp]
    exact refget_any _ _ _ _ s W (hok.attrs.below hb) hs')
  have CT : Hid (∀ W al ln lc l, Below w.heap.size w W → AttrRow W al ln lc l → Calls Tryz.prog 80 #[forV (some ⟨b, off, none⟩) len cap m, .int .i64 n, .string s, .slice al ln lc] W (StPost W m (fun k => AwayF k (some ⟨b, off, none⟩) L ∧ ∀ b off, al = some ⟨b, off, none⟩ → 0 < ln → b ≠ k) (chgF (coreL L) n l) [chgN n s.toList x.core.attrs l])) := Lib.hid (fun W al ln lc l hb hal => refattrs_any _ len cap m L n x s al ln lc l W (h.below hb) hl hx hs hal)
  have hl64 : (len : Int) ≤ 9223372036854775807 := by omega
  have HLA := Lib.hid hlA
  have HQQ := Lib.hid hq
  have HEE := Lib.hid hE
  have HPP := Lib.hid hp
  (have z0 := ST.out.bx.c0; have z1 := ST.out.bx.c1; have r0 := ST.out.rb.c0; have r1 := ST.out.rb.c1; have r2 := ST.out.rb.c2; have rf := ST.out.rb.f; have c0 := C0.out _ ST.out.bx.below; have c4 := C4.out _ ST.out.bx.below)
  clear h hr hx hs hs' hx' hat hok hw0 hlA hq hE hp
  by_cases k1 : x.core.kind = 1
  · have e1 : (x.core.kind != 1) = false := by rw [k1]; rfl
    have HK : Hid (elemE m (coreL L) n = 0) := Lib.hid (by rw [HE.out, if_pos k1])
    clear k1
    by_cases h0 : E = 0
    · have e2 : (E != 0) = false := by rw [h0]; rfl
      by_cases hpq : p = q
      · have e3 : (p == q) = true := beq_iff_eq.2 hpq
        have HQ : Hid (togZ m (coreL L) n s.toList f = (coreL L, [], 0)) := Lib.hid (by
          unfold togZ
          rw [if_pos HK.out, HAK.out, HEE.out, if_pos h0, HPP.out, HQQ.out, hpq, if_neg (by simp)])
        obtain rfl := hpq
        clear h0
        go_enter Tryz.func29, Tryz.ntmps29
        go_upto_region 1 with fail
        rw [HW0.out]
        go_wp2_with (first
          | (go_at_call 83; (with_reducible refine (CG.out _ ST.out.bx.below).mono ?_); rintro e w1 ⟨rfl, hb⟩; (have ST := Lib.hid (ST.out.keep hb); clear z0 z1 r0 r1 r2 rf c0 c4 hb; (have z0 := ST.out.bx.c0; have z1 := ST.out.bx.c1; have r0 := ST.out.rb.c0; have r1 := ST.out.rb.c1; have r2 := ST.out.rb.c2; have rf := ST.out.rb.f; have c0 := C0.out _ ST.out.bx.below; have c4 := C4.out _ ST.out.bx.below)))
          | (go_at_call 84; (with_reducible refine (CA.out _ ST.out.bx.below).mono ?_); rintro e w1 ⟨al, ln, lc, rfl, -, hb⟩; (have ST := Lib.hid (ST.out.keep hb); clear z0 z1 r0 r1 r2 rf c0 c4 hb; (have z0 := ST.out.bx.c0; have z1 := ST.out.bx.c1; have r0 := ST.out.rb.c0; have r1 := ST.out.rb.c1; have r2 := ST.out.rb.c2; have rf := ST.out.rb.f; have c0 := C0.out _ ST.out.bx.below; have c4 := C4.out _ ST.out.bx.below))))
        obtain ⟨a9, len9, cap9, M9, va9, vl9, vc9, ⟨k0, k1, k2⟩, R9, C9, N9, B9, P9⟩ := st_same ST.out AW.out
        refine bodyPost_ret (v := .tuple #[stV a9 len9 cap9 m va9 vl9 vc9, .int .i64 0]) ?_ rfl ⟨a9, len9, cap9, M9, va9, vl9, vc9, by rw [HQ.out], R9, by rw [HQ.out]; exact C9, by rw [HQ.out]; exact N9, B9, P9⟩
        simp [results, Tryz.results29, go_sem, k0, k1, k2]
      · have e3 : (p == q) = false := beq_eq_false_iff_ne.2 hpq
        have HQ : Hid (togZ m (coreL L) n s.toList f = (chgF (coreL L) n lA, [chgN n s.toList x.core.attrs lA], 0)) := Lib.hid (by
          unfold togZ chgZ
          rw [if_pos HK.out, HAK.out, HEE.out, if_pos h0, HPP.out, HQQ.out, if_pos (bne_iff_ne.2 hpq), HLA.out, Int.toNat_natCast])
        clear h0 hpq
        go_enter Tryz.func29, Tryz.ntmps29
        go_upto_region 1 with fail
        rw [HW0.out]
        go_wp2_with (first
          | (go_at_call 83; (with_reducible refine (CG.out _ ST.out.bx.below).mono ?_); rintro e w1 ⟨rfl, hb⟩; (have ST := Lib.hid (ST.out.keep hb); clear z0 z1 r0 r1 r2 rf c0 c4 hb; (have z0 := ST.out.bx.c0; have z1 := ST.out.bx.c1; have r0 := ST.out.rb.c0; have r1 := ST.out.rb.c1; have r2 := ST.out.rb.c2; have rf := ST.out.rb.f; have c0 := C0.out _ ST.out.bx.below; have c4 := C4.out _ ST.out.bx.below)))
          | (go_at_call 84; (with_reducible refine (CA.out _ ST.out.bx.below).mono ?_); rintro e w1 ⟨al, ln, lc, rfl, hal, hb⟩; have AL := Lib.hid hal; clear hal; (have ST := Lib.hid (ST.out.keep hb); clear z0 z1 r0 r1 r2 rf c0 c4 hb; (have z0 := ST.out.bx.c0; have z1 := ST.out.bx.c1; have r0 := ST.out.rb.c0; have r1 := ST.out.rb.c1; have r2 := ST.out.rb.c2; have rf := ST.out.rb.f; have c0 := C0.out _ ST.out.bx.below; have c4 := C4.out _ ST.out.bx.below)))
          | (go_at_call 80; (refine (CT.out _ _ _ _ _ ST.out.bx.below AL.out).mono ?_); rintro e w2 ⟨a2, len2, cap2, M2, va, vl, vc, rfl, hr2, hc2, hn2, hb2, hp2⟩; have SE := Lib.hid (st_more ST.out AW.out AL.out hb2 hr2 hc2 hn2 hp2); have ST := Lib.hid (ST.out.keep hb2); clear z0 z1 r0 r1 r2 rf c0 c4 hr2 hc2 hn2 hb2 hp2; (have z0 := ST.out.bx.c0; have z1 := ST.out.bx.c1; have r0 := ST.out.rb.c0; have r1 := ST.out.rb.c1; have r2 := ST.out.rb.c2; have rf := ST.out.rb.f; have c0 := C0.out _ ST.out.bx.below; have c4 := C4.out _ ST.out.bx.below)))
        obtain ⟨a9, len9, cap9, M9, va9, vl9, vc9, ⟨k0, k1, k2⟩, R9, C9, N9, B9, P9⟩ := SE.out
        refine bodyPost_ret (v := .tuple #[stV a9 len9 cap9 m va9 vl9 vc9, .int .i64 0]) ?_ rfl ⟨a9, len9, cap9, M9, va9, vl9, vc9, by rw [HQ.out], R9, by rw [HQ.out]; exact C9, by rw [HQ.out]; exact N9, B9, P9⟩
        simp [results, Tryz.results29, go_sem, k0, k1, k2]
    · have e2 : (E != 0) = true := bne_iff_ne.2 h0
      have HQ : Hid (togZ m (coreL L) n s.toList f = (coreL L, [], E)) := Lib.hid (by
        unfold togZ
        rw [if_pos HK.out, HAK.out, HEE.out, if_neg h0])
      clear h0
      go_enter Tryz.func29, Tryz.ntmps29
      go_upto_region 1 with fail
      rw [HW0.out]
      go_wp2_with (first
        | (go_at_call 83; (with_reducible refine (CG.out _ ST.out.bx.below).mono ?_); rintro e w1 ⟨rfl, hb⟩; (have ST := Lib.hid (ST.out.keep hb); clear z0 z1 r0 r1 r2 rf c0 c4 hb; (have z0 := ST.out.bx.c0; have z1 := ST.out.bx.c1; have r0 := ST.out.rb.c0; have r1 := ST.out.rb.c1; have r2 := ST.out.rb.c2; have rf := ST.out.rb.f; have c0 := C0.out _ ST.out.bx.below; have c4 := C4.out _ ST.out.bx.below)))
        | (go_at_call 84; (with_reducible refine (CA.out _ ST.out.bx.below).mono ?_); rintro e w1 ⟨al, ln, lc, rfl, -, hb⟩; (have ST := Lib.hid (ST.out.keep hb); clear z0 z1 r0 r1 r2 rf c0 c4 hb; (have z0 := ST.out.bx.c0; have z1 := ST.out.bx.c1; have r0 := ST.out.rb.c0; have r1 := ST.out.rb.c1; have r2 := ST.out.rb.c2; have rf := ST.out.rb.f; have c0 := C0.out _ ST.out.bx.below; have c4 := C4.out _ ST.out.bx.below))))
      obtain ⟨a9, len9, cap9, M9, va9, vl9, vc9, ⟨k0, k1, k2⟩, R9, C9, N9, B9, P9⟩ := st_same ST.out AW.out
      refine bodyPost_ret (v := .tuple #[stV a9 len9 cap9 m va9 vl9 vc9, .int .i64 E]) ?_ rfl ⟨a9, len9, cap9, M9, va9, vl9, vc9, by rw [HQ.out], R9, by rw [HQ.out]; exact C9, by rw [HQ.out]; exact N9, B9, P9⟩
      simp [results, Tryz.results29, go_sem, k0, k1, k2]
  · have e1 : (x.core.kind != 1) = true := bne_iff_ne.2 k1
    have HQ : Hid (togZ m (coreL L) n s.toList f = (coreL L, [], 5)) := Lib.hid (by
      unfold togZ
      rw [HE.out, if_neg k1, if_neg (by decide)])
    clear k1
    go_enter Tryz.func29, Tryz.ntmps29
    go_upto_region 1 with fail
    rw [HW0.out]
    go_wp2
    obtain ⟨a9, len9, cap9, M9, va9, vl9, vc9, ⟨k0, k1, k2⟩, R9, C9, N9, B9, P9⟩ := st_same ST.out AW.out
    refine bodyPost_ret (v := .tuple #[stV a9 len9 cap9 m va9 vl9 vc9, .int .i64 5]) ?_ rfl ⟨a9, len9, cap9, M9, va9, vl9, vc9, by rw [HQ.out], R9, by rw [HQ.out]; exact C9, by rw [HQ.out]; exact N9, B9, P9⟩
    simp [results, Tryz.results29, go_sem, k0, k1, k2]
end Go.Proofs.YtiffhlncnpppoaaGreatDoor
namespace Go.Proofs.YtiffhlncnpppoaaGreatDoor
open Go.RowKit
theorem NoteRow.len64 {w : World} {a : Option Addr} {len cap : Nat} {N : List NoteD} (h : NoteRow w a len cap N) : (len : Int) ≤ 9223372036854775807 := by
  have h1 := h.row.hcap
  have h2 := h.row.hmax
  unfold maxLen at h2
  omega
set_option maxHeartbeats 8000000 in
set_option maxRecDepth 100000 in
theorem refnotes_any (a a' : Option Addr) (len cap len' cap' : Nat) (N : List NoteD) (w : World) (h : NoteRow w a len cap N) (h' : NoteRow w a' len' cap' N) :
    Calls Tryz.prog 55 #[.slice a len cap, .slice a' len' cap'] w fun e w' => e = .returned (.bool true) ∧ ∃ n, w' = w.drewN n := by
  obtain rfl : len = len' := h.row.hlen.symm.trans h'.row.hlen
  have hl := h.len64
  have H := Lib.hid h
  have H' := Lib.hid h'
  clear h h'
  have e0 : ((len : Int) != (len : Int)) = false := by simp
  go_enter Tryz.func55, Tryz.ntmps55
  go_wp2
  go_loopw [5] (fun i wr => ∃ j n : Nat, j ≤ len ∧ i = .int .i64 j ∧ wr = w.drewN n) (fun i _ => len - (intOf i).toNat)
  case atStart => exact ⟨0, 0, Nat.zero_le _, rfl, rfl⟩
  case round =>
    obtain ⟨j, n, hj, rfl, rfl⟩ := hrel
    by_cases hlt : j < len
    · obtain ⟨bl, ol, xl, rfl, hbl, hxl, -, hcl⟩ := H.out.row.get hlt
      obtain ⟨bm, om, xm, rfl, hbm, hxm, -, hcm⟩ := H'.out.row.get hlt
      obtain rfl : xl = xm := Option.some.inj (hxl.symm.trans hxm)
      obtain ⟨k0, k1, k2, k3, k4, k5, k6, k7, k8⟩ := xl
      have p0 : w.cell? ⟨bl, ol + j * 9 + 0, none⟩ = some (.int .i64 k0) := hcl 0 _ rfl
      have p1 : w.cell? ⟨bl, ol + j * 9 + 1, none⟩ = some (.int .i64 k1) := hcl 1 _ rfl
      have p2 : w.cell? ⟨bl, ol + j * 9 + 2, none⟩ = some (.int .i64 k2) := hcl 2 _ rfl
      have p3 : w.cell? ⟨bl, ol + j * 9 + 3, none⟩ = some (.int .i64 k3) := hcl 3 _ rfl
      have p4 : w.cell? ⟨bl, ol + j * 9 + 4, none⟩ = some (.string k4) := hcl 4 _ rfl
      have p5 : w.cell? ⟨bl, ol + j * 9 + 5, none⟩ = some (.bool k5) := hcl 5 _ rfl
      have p6 : w.cell? ⟨bl, ol + j * 9 + 6, none⟩ = some (.bool k6) := hcl 6 _ rfl
      have p7 : w.cell? ⟨bl, ol + j * 9 + 7, none⟩ = some (.string k7) := hcl 7 _ rfl
      have p8 : w.cell? ⟨bl, ol + j * 9 + 8, none⟩ = some (.string k8) := hcl 8 _ rfl
      have q0 : w.cell? ⟨bm, om + j * 9 + 0, none⟩ = some (.int .i64 k0) := hcm 0 _ rfl
      have q1 : w.cell? ⟨bm, om + j * 9 + 1, none⟩ = some (.int .i64 k1) := hcm 1 _ rfl
      have q2 : w.cell? ⟨bm, om + j * 9 + 2, none⟩ = some (.int .i64 k2) := hcm 2 _ rfl
      have q3 : w.cell? ⟨bm, om + j * 9 + 3, none⟩ = some (.int .i64 k3) := hcm 3 _ rfl
      have q4 : w.cell? ⟨bm, om + j * 9 + 4, none⟩ = some (.string k4) := hcm 4 _ rfl
      have q5 : w.cell? ⟨bm, om + j * 9 + 5, none⟩ = some (.bool k5) := hcm 5 _ rfl
      have q6 : w.cell? ⟨bm, om + j * 9 + 6, none⟩ = some (.bool k6) := hcm 6 _ rfl
      have q7 : w.cell? ⟨bm, om + j * 9 + 7, none⟩ = some (.string k7) := hcm 7 _ rfl
      have q8 : w.cell? ⟨bm, om + j * 9 + 8, none⟩ = some (.string k8) := hcm 8 _ rfl
      rw [Nat.add_zero] at p0 q0
      clear hcl hcm hxl hxm
      go_wp2
      go_quiet (fail)
      go_wp2
      go_roundw
      case rel => exact ⟨j + 1, _, by omega, by go_num, by first | rfl | exact World.drewN_drewN _ _ _⟩
      case measure => simp [intOf]; omega
    · go_wp2
      go_ret
      exact ⟨rfl, n, rfl⟩
theorem same_core (W : World) (m : Int) (a1 : Option Addr) (l1 c1 : Nat) (M1 : List NodeD) (a2 : Option Addr) (l2 c2 : Nat) (M2 : List NodeD) (h1 : NodeRow W a1 l1 c1 M1) (h2 : NodeRow W a2 l2 c2 M2) (he : coreL M1 = coreL M2) :
    Calls Tryz.prog 31 #[forV a1 l1 c1 m, forV a2 l2 c2 m] W fun e w' => e = .returned (.bool true) ∧ Below W.heap.size W w' := by
  have := refsameF_any a1 a2 l1 c1 l2 c2 m m M1 M2 W h1 h2
  rw [decide_eq_true he, decide_eq_true (rfl : m = m), Bool.and_self] at this
  exact this
end Go.Proofs.YtiffhlncnpppoaaGreatDoor
namespace Go.Proofs.YtiffhlncnpppoaaGreatDoor
open Go.RowKit
set_option maxHeartbeats 8000000 in
set_option maxRecDepth 100000 in
theorem same6_any (w : World) (m E : Int) (a1 : Option Addr) (l1 c1 : Nat) (M1 : List NodeD) (a2 : Option Addr) (l2 c2 : Nat) (M2 : List NodeD) (va : Option Addr) (vl vc : Nat) (vb : Option Addr) (ul uc : Nat) (N : List NoteD) (h1 : NodeRow w a1 l1 c1 M1) (h2 : NodeRow w a2 l2 c2 M2) (he : coreL M1 = coreL M2) (n1 : NoteRow w va vl vc N) (n2 : NoteRow w vb ul uc N) :
    Calls Tryz.prog 21 #[forV a1 l1 c1 m, .slice va vl vc, .int .i64 E, stV a2 l2 c2 m vb ul uc, .int .i64 E] w fun e w' => e = .returned (.bool true) ∧ Below w.heap.size w w' := by
  obtain ⟨w0, hw0, BX, RB, HB0⟩ : ∃ w0, (w.alloc (forB a1 l1 c1 m)).alloc (.cells #[.slice a2 l2 c2, .int .i64 m, .slice vb ul uc] 34) = w0 ∧ Hid (Box w w0 w.heap.size a1 l1 c1 m M1 (coreL M1)) ∧ Hid (Box3 w0 (w.heap.size + 1) (.slice a2 l2 c2) (.int .i64 m) (.slice vb ul uc)) ∧ Hid (Below w.heap.size w w0) := by
    refine ⟨_, rfl, Lib.hid ((Box.start h1).keep (below_box _ _)), Lib.hid ?_, Lib.hid ((below_box _ _).trans ((below_box _ _).mono (by simp)))⟩
    have := Box3.new (w.alloc (forB a1 l1 c1 m)) (.slice a2 l2 c2) (.int .i64 m) (.slice vb ul uc) 34
    rwa [show (w.alloc (forB a1 l1 c1 m)).heap.size = w.heap.size + 1 by simp] at this
  have HW0 := Lib.hid hw0
  have CS : Hid (∀ W, Below w.heap.size w W → Calls Tryz.prog 31 #[forV a1 l1 c1 m, forV a2 l2 c2 m] W fun e w' => e = .returned (.bool true) ∧ Below W.heap.size W w') := Lib.hid (fun W hb => same_core W m _ _ _ _ _ _ _ _ (h1.below hb) (h2.below hb) he)
  have CN : Hid (∀ W, Below w.heap.size w W → Calls Tryz.prog 55 #[.slice va vl vc, .slice vb ul uc] W fun e w' => e = .returned (.bool true) ∧ ∃ n, w' = W.drewN n) := Lib.hid (fun W hb => refnotes_any _ _ _ _ _ _ N W (n1.below hb) (n2.below hb))
  have z0 := BX.out.c0
  have z1 := BX.out.c1
  have r0 := RB.out.c0
  have r1 := RB.out.c1
  have r2 := RB.out.c2
  have e0 : (E == E) = true := beq_iff_eq.2 rfl
  clear h1 h2 he n1 n2 hw0
  go_enter Tryz.func21, Tryz.ntmps21
  go_upto_region 1 with fail
  rw [HW0.out]
  go_wp2_with (first
    | (go_at_call 31; (with_reducible refine (CS.out _ HB0.out).mono ?_); rintro e w1 ⟨rfl, hb⟩; have HB0 := Lib.hid (HB0.out.trans (hb.mono HB0.out.size)); have RB := Lib.hid (RB.out.keep hb); clear z0 z1 r0 r1 r2; have r2 := RB.out.c2; clear hb)
    | (go_at_call 55; (with_reducible refine (CN.out _ HB0.out).mono ?_); rintro e w2 ⟨rfl, k, rfl⟩; have HB0 := Lib.hid (below_drewN HB0.out k)))
  go_ret
  exact ⟨rfl, HB0.out⟩
set_option maxHeartbeats 8000000 in
set_option maxRecDepth 100000 in
theorem refused6_any (w : World) (m : Int) (a1 : Option Addr) (l1 c1 : Nat) (M1 : List NodeD) (a2 : Option Addr) (l2 c2 : Nat) (M2 : List NodeD) (va : Option Addr) (vc : Nat) (h1 : NodeRow w a1 l1 c1 M1) (h2 : NodeRow w a2 l2 c2 M2) (he : coreL M1 = coreL M2) :
    Calls Tryz.prog 19 #[forV a1 l1 c1 m, forV a2 l2 c2 m, .slice va 0 vc, .int .i64 1] w fun e w' => e = .returned (.bool true) ∧ Below w.heap.size w w' := by
  obtain ⟨w0, hw0, BX, BY, HB0⟩ : ∃ w0, (w.alloc (forB a1 l1 c1 m)).alloc (forB a2 l2 c2 m) = w0 ∧ Hid (Box w w0 w.heap.size a1 l1 c1 m M1 (coreL M1)) ∧ Hid (w0.cell? ⟨w.heap.size + 1, 0, none⟩ = some (.slice a2 l2 c2) ∧ w0.cell? ⟨w.heap.size + 1, 1, none⟩ = some (.int .i64 m)) ∧ Hid (Below w.heap.size w w0) := by
    refine ⟨_, rfl, Lib.hid ((Box.start h1).keep (below_box _ _)), Lib.hid ?_, Lib.hid ((below_box _ _).trans ((below_box _ _).mono (by simp)))⟩
    have := Box2.new (w.alloc (forB a1 l1 c1 m)) (.slice a2 l2 c2) (.int .i64 m) 24
    rw [show (w.alloc (forB a1 l1 c1 m)).heap.size = w.heap.size + 1 by simp] at this
    exact ⟨this.c0, this.c1⟩
  have HW0 := Lib.hid hw0
  have CS : Hid (∀ W, Below w.heap.size w W → Calls Tryz.prog 31 #[forV a1 l1 c1 m, forV a2 l2 c2 m] W fun e w' => e = .returned (.bool true) ∧ Below W.heap.size W w') := Lib.hid (fun W hb => same_core W m _ _ _ _ _ _ _ _ (h1.below hb) (h2.below hb) he)
  have z0 := BX.out.c0
  have z1 := BX.out.c1
  have r0 := BY.out.1
  have r1 := BY.out.2
  clear h1 h2 he hw0
  go_enter Tryz.func19, Tryz.ntmps19
  go_upto_region 1 with fail
  rw [HW0.out]
  go_wp2_with (go_at_call 31; (with_reducible refine (CS.out _ HB0.out).mono ?_); rintro e w1 ⟨rfl, hb⟩; have HB0 := Lib.hid (HB0.out.trans (hb.mono HB0.out.size)); clear z0 z1 r0 r1 hb)
  go_ret
  exact ⟨rfl, HB0.out⟩
end Go.Proofs.YtiffhlncnpppoaaGreatDoor
namespace Go.Proofs.YtiffhlncnpppoaaGreatDoor
open Go.RowKit
end Go.Proofs.YtiffhlncnpppoaaGreatDoor
namespace Go.Proofs.YtiffhlncnpppoaaGreatDoor
open Go.RowKit
def splitL : List UInt8 → List UInt8 → List (List UInt8)
  | cur, [] => [cur]
  | cur, c :: r => if c == 32 then cur :: splitL [] r else splitL (cur ++ [c]) r
def oneGo (s : List UInt8) : List UInt8 → List UInt8 → Bool
  | cur, [] => cur == s
  | cur, c :: r => if c == 32 then (cur == s) || oneGo s [] r else oneGo s (cur ++ [c]) r
def oneL (s v : List UInt8) : Bool := oneGo s [] v
theorem oneGo_split (s : List UInt8) : ∀ (v cur : List UInt8), oneGo s cur v = (splitL cur v).contains s
  | [], cur => by
    unfold oneGo splitL
    rw [BEq.comm (a := cur), List.contains_cons]
    simp only [List.contains_nil, Bool.or_false]
  | c :: r, cur => by
    unfold oneGo splitL
    by_cases h : (c == 32) = true
    · rw [if_pos h, if_pos h, List.contains_cons, oneGo_split s r []]
      rw [BEq.comm (a := cur)]
    · rw [if_neg h, if_neg h]
      exact oneGo_split s r _
theorem one_split (s v : List UInt8) : oneL s v = (splitL [] v).contains s := oneGo_split s v []
def OneAt (s v : List UInt8) (a i : Nat) : Prop := (a ≤ i ∧ i ≤ v.length ∧ oneGo s ((v.take i).drop a) (v.drop i) = oneL s v) ∨ (i = v.length + 1 ∧ oneL s v = false)
theorem OneAt.start (s v : List UInt8) : OneAt s v 0 0 := .inl ⟨Nat.le_refl _, Nat.zero_le _, by simp [oneL]⟩
theorem OneAt.hit {s v : List UInt8} {a i : Nat} (h : OneAt s v a i) (hi : i ≤ v.length) (hc : i = v.length ∨ v[i]? = some 32) (he : (v.take i).drop a = s) : oneL s v = true := by
  rcases h with ⟨h1, h2, h3⟩ | ⟨h1, _⟩
  · rw [← h3]
    rcases hc with hc | hc
    · have : v.drop i = [] := by rw [hc]; simp
      rw [this]
      unfold oneGo
      rw [he]; simp
    · obtain ⟨hl, hg⟩ := List.getElem?_eq_some_iff.1 hc
      rw [List.drop_eq_getElem_cons hl, hg]
      unfold oneGo
      rw [he]; simp
  · omega
theorem OneAt.last {s v : List UInt8} {a i : Nat} (h : OneAt s v a i) (hi : i = v.length) (he : ¬ (v.take i).drop a = s) (b : Nat) : OneAt s v b (i + 1) := by
  rcases h with ⟨h1, h2, h3⟩ | ⟨h1, _⟩
  · refine .inr ⟨by omega, ?_⟩
    rw [← h3]
    have : v.drop i = [] := by rw [hi]; simp
    rw [this]
    unfold oneGo
    simpa using he
  · omega
theorem OneAt.blank {s v : List UInt8} {a i : Nat} (h : OneAt s v a i) (hc : v[i]? = some 32) (he : ¬ (v.take i).drop a = s) : OneAt s v (i + 1) (i + 1) := by
  obtain ⟨hl, hg⟩ := List.getElem?_eq_some_iff.1 hc
  rcases h with ⟨h1, h2, h3⟩ | ⟨h1, _⟩
  · refine .inl ⟨Nat.le_refl _, by omega, ?_⟩
    rw [← h3, List.drop_eq_getElem_cons hl, hg]
    have : (v.take (i + 1)).drop (i + 1) = [] := by simp
    rw [this]
    conv => rhs; unfold oneGo
    simp [he]
  · omega
theorem OneAt.sign {s v : List UInt8} {a i : Nat} (h : OneAt s v a i) {c : UInt8} (hc : v[i]? = some c) (h32 : ¬ c = 32) : OneAt s v a (i + 1) := by
  obtain ⟨hl, hg⟩ := List.getElem?_eq_some_iff.1 hc
  rcases h with ⟨h1, h2, h3⟩ | ⟨h1, _⟩
  · refine .inl ⟨by omega, by omega, ?_⟩
    rw [← h3, List.drop_eq_getElem_cons hl, hg]
    have : (v.take (i + 1)).drop a = (v.take i).drop a ++ [c] := by
      rw [List.take_succ_eq_append_getElem hl, hg, List.drop_append_of_le_length (by rw [List.length_take]; omega)]
    rw [this]
    conv => rhs; unfold oneGo
    simp [h32]
  · omega
theorem OneAt.none {s v : List UInt8} {a i : Nat} (h : OneAt s v a i) (hi : ¬ i ≤ v.length) : oneL s v = false := by
  rcases h with ⟨h1, h2, h3⟩ | ⟨_, h⟩
  · omega
  · exact h
theorem OneAt.le {s v : List UInt8} {a i : Nat} (h : OneAt s v a i) (hi : i ≤ v.length) : a ≤ i := by
  rcases h with ⟨h1, _, _⟩ | ⟨h1, _⟩
  · exact h1
  · omega
theorem OneAt.bound {s v : List UInt8} {a i : Nat} (h : OneAt s v a i) : i ≤ v.length + 1 := by
  rcases h with ⟨h1, _, _⟩ | ⟨h1, _⟩ <;> omega
theorem cut_list (v : ByteArray) (a i : Nat) : (v.extract a i).toList = (v.toList.take i).drop a := by
  rw [tl, tl, Lib.extract_data]
  first
    | rfl
    | (rw [List.take_drop]; congr 1; omega)
    | simp [List.drop_take]
set_option maxHeartbeats 4000000 in
set_option maxRecDepth 100000 in
theorem one_any (s v : ByteArray) (w : World) (hv : v.size ≤ 1000000) :
    Calls Tryz.prog 155 #[.string s, .string v] w fun e w' => e = .returned (.bool (oneL s.toList v.toList)) ∧ w = w' := by
  have HV := Lib.hid (tl_len v)
  go_enter Tryz.func155, Tryz.ntmps155
  go_wp2
  go_loop [5, 6] (fun a i => ∃ ka ki : Nat, a = .int .i64 ka ∧ i = .int .i64 ki ∧ Hid (OneAt s.toList v.toList ka ki) ∧ ki ≤ v.size + 1) (fun _ i => v.size + 1 - (intOf i).toNat)
  case atStart => exact ⟨0, 0, rfl, rfl, Lib.hid (OneAt.start _ _), by omega⟩
  case round =>
    obtain ⟨ka, ki, rfl, rfl, HA, hki⟩ := hrel
    by_cases hle : ki ≤ v.size
    · have hak : ka ≤ ki := HA.out.le (by rw [HV.out]; exact hle)
      have hcut := cut_list v ka ki
      by_cases hend : ki = v.size
      · have hend1 : ((ki : Int) == (v.size : Int)) = true := beq_iff_eq.2 (by omega)
        have HE := Lib.hid hend
        clear hend
        by_cases heq : (v.toList.take ki).drop ka = s.toList
        · have hb : ((v.toList.take ki).drop ka == s.toList) = true := beq_iff_eq.2 heq
          have HR := Lib.hid (HA.out.hit (by rw [HV.out]; exact hle) (.inl (by rw [HV.out]; exact HE.out)) heq)
          clear heq
          go_wp2
          go_ret
          exact ⟨ret_bool HR.out.symm, rfl⟩
        · have hb : ((v.toList.take ki).drop ka == s.toList) = false := beq_eq_false_iff_ne.2 heq
          have HR := Lib.hid (HA.out.last (by rw [HV.out]; exact HE.out) heq (ki + 1))
          clear heq
          go_wp2
          go_round
          case rel => exact ⟨ki + 1, ki + 1, by go_num, by go_num, HR, by omega⟩
          case measure => simp [intOf]; omega
      · have hlt : ki < v.size := by omega
        have hend1 : ((ki : Int) == (v.size : Int)) = false := beq_eq_false_iff_ne.2 (by omega)
        have hg := tl_get v ki hlt
        by_cases h32 : v[ki] = 32
        · have hc1 : ((v[ki].toNat : Int) == 32) = true := by rw [h32]; rfl
          rw [h32] at hg
          have HG := Lib.hid hg
          clear hg h32 hend
          by_cases heq : (v.toList.take ki).drop ka = s.toList
          · have hb : ((v.toList.take ki).drop ka == s.toList) = true := beq_iff_eq.2 heq
            have HR := Lib.hid (HA.out.hit (by rw [HV.out]; exact hle) (.inr HG.out) heq)
            clear heq
            go_wp2
            go_ret
            exact ⟨ret_bool HR.out.symm, rfl⟩
          · have hb : ((v.toList.take ki).drop ka == s.toList) = false := beq_eq_false_iff_ne.2 heq
            have HR := Lib.hid (HA.out.blank HG.out heq)
            clear heq
            go_wp2
            go_round
            case rel => exact ⟨ki + 1, ki + 1, by go_num, by go_num, HR, by omega⟩
            case measure => simp [intOf]; omega
        · have hc1 : ((v[ki].toNat : Int) == 32) = false := beq_eq_false_iff_ne.2 (fun e => h32 (by
            apply UInt8.toNat_inj.1
            have : (32 : UInt8).toNat = 32 := rfl
            omega))
          have HR := Lib.hid (HA.out.sign hg h32)
          clear hg h32 hend
          go_wp2
          go_round
          case rel => exact ⟨ka, ki + 1, by go_num, by go_num, HR, by omega⟩
          case measure => simp [intOf]; omega
    · have HR := Lib.hid (HA.out.none (by rw [HV.out]; exact hle))
      go_wp2
      go_ret
      exact ⟨ret_bool HR.out.symm, rfl⟩
end Go.Proofs.YtiffhlncnpppoaaGreatDoor
namespace Go.Proofs.YtiffhlncnpppoaaGreatDoor
open Go.RowKit
def RESERVED_WORDS : List UInt8 := [97, 110, 110, 111, 116, 97, 116, 105, 111, 110, 45, 120, 109, 108, 32, 99, 111, 108, 111, 114, 45, 112, 114, 111, 102, 105, 108, 101, 32, 102, 111, 110, 116, 45, 102, 97, 99, 101, 32, 102, 111, 110, 116, 45, 102, 97, 99, 101, 45, 115, 114, 99, 32, 102, 111, 110, 116, 45, 102, 97, 99, 101, 45, 117, 114, 105, 32, 102, 111, 110, 116, 45, 102, 97, 99, 101, 45, 102, 111, 114, 109, 97, 116, 32, 102, 111, 110, 116, 45, 102, 97, 99, 101, 45, 110, 97, 109, 101, 32, 109, 105, 115, 115, 105, 110, 103, 45, 103, 108, 121, 112, 104]
theorem one_reserved (l : List UInt8) : oneL l RESERVED_WORDS = reservedL l := by
  rw [one_split]
  have : splitL [] RESERVED_WORDS = [[97, 110, 110, 111, 116, 97, 116, 105, 111, 110, 45, 120, 109, 108], [99, 111, 108, 111, 114, 45, 112, 114, 111, 102, 105, 108, 101], [102, 111, 110, 116, 45, 102, 97, 99, 101], [102, 111, 110, 116, 45, 102, 97, 99, 101, 45, 115, 114, 99], [102, 111, 110, 116, 45, 102, 97, 99, 101, 45, 117, 114, 105], [102, 111, 110, 116, 45, 102, 97, 99, 101, 45, 102, 111, 114, 109, 97, 116], [102, 111, 110, 116, 45, 102, 97, 99, 101, 45, 110, 97, 109, 101], [109, 105, 115, 115, 105, 110, 103, 45, 103, 108, 121, 112, 104]] := by decide +kernel
  rw [this]
  rfl
end Go.Proofs.YtiffhlncnpppoaaGreatDoor
namespace Go.Proofs.YtiffhlncnpppoaaGreatDoor
open Go.RowKit
theorem low_of_right (s : ByteArray) (hr : rightL s.toList = true) (hp : 0 < s.size) (hsm : smallL s.toList = s.toList) : lowI (s[0].toNat : Int) = !((s[0].toNat : Int) == 95) := by
  have hh : headB s[0] = true := by
    by_cases h : headB s[0] = true
    · exact h
    · have := rightL_head _ _ (tl_get s 0 hp) (by simpa using h)
      rw [this] at hr; cases hr
  have hcap : capI (s[0].toNat : Int) = false := by
    have h1 : (smallL s.toList)[0]? = some (smallB s[0]) := by
      unfold smallL
      rw [List.getElem?_map, tl_get s 0 hp]
      rfl
    rw [hsm, tl_get s 0 hp] at h1
    have h2 := cap_small s[0]
    rw [← Option.some.inj h1] at h2
    exact h2
  unfold headB headI alphI at hh
  rw [hcap] at hh
  rw [Bool.eq_iff_iff]
  unfold lowI at *
  simp at hh ⊢
  omega
theorem dash_step (l : List UInt8) (k : Nat) (c : UInt8) (h : l[k]? = some c) (hd : dashL (l.take k) = false) : dashL (l.take (k + 1)) = ((c.toNat : Int) == 45) := by
  obtain ⟨hl, he⟩ := List.getElem?_eq_some_iff.1 h
  unfold dashL at *
  rw [List.take_succ_eq_append_getElem hl, he, Bool.eq_iff_iff]
  have e : (45 : UInt8) = c ↔ (c.toNat : Int) = 45 := by
    constructor
    · rintro rfl; rfl
    · intro h; apply UInt8.toNat_inj.1; have : (45 : UInt8).toNat = 45 := rfl; omega
  simp at hd
  simp [e, hd]
theorem dash_hit (l : List UInt8) (k : Nat) (c : UInt8) (h : l[k]? = some c) (hc : (c.toNat : Int) = 45) : dashL l = true := by
  have : c = 45 := by apply UInt8.toNat_inj.1; have : (45 : UInt8).toNat = 45 := rfl; omega
  subst this
  unfold dashL
  simp
  exact List.mem_of_getElem? h
set_option maxHeartbeats 16000000 in
set_option maxRecDepth 100000 in
theorem refcustom_any (s : ByteArray) (w : World) (hs : s.size ≤ 1000000) :
    Calls Tryz.prog 123 #[.string s] w fun e w' => e = .returned (.bool (customL s.toList)) ∧ Below w.heap.size w w' := by
  have HB : Below w.heap.size w w := Below.refl _ _
  by_cases hr : rightL s.toList = true
  rotate_left
  · have hr' : rightL s.toList = false := by simpa using hr
    have HC := Lib.hid (customL_no _ hr')
    clear hr
    go_enter Tryz.func123, Tryz.ntmps123
    go_wp2_with (go_at_call 81; refine (refright_any _ _ (le_max hs)).mono ?_; rintro e w' ⟨rfl, rfl⟩)
    go_ret
    exact ⟨ret_bool HC.out.symm, HB⟩
  have hp := rightL_pos s hr
  have HC := Lib.hid (customL_eq s hr hp)
  have HL := Lib.hid (tl_len s)
  by_cases hsm : smallL s.toList = s.toList
  rotate_left
  · have b1 : (s.toList == smallL s.toList) = false := beq_eq_false_iff_ne.2 (fun e => hsm e.symm)
    have b2 : (s.toList != smallL s.toList) = true := by unfold bne; rw [b1]; rfl
    have HR : Hid (customL s.toList = false) := Lib.hid (by rw [HC.out, beq_eq_false_iff_ne.2 hsm]; rfl)
    clear hsm
    go_enter Tryz.func123, Tryz.ntmps123
    go_wp2_with (first
      | (go_at_call 81; refine (refright_any _ _ (le_max hs)).mono ?_; rintro e w' ⟨rfl, rfl⟩)
      | (go_at_call 122; refine (refsmall_any _ _ hs).mono ?_; rintro e w' ⟨rfl, hb⟩; have HB := HB.trans (hb.mono HB.size); clear hb))
    go_ret
    exact ⟨ret_bool HR.out.symm, by assumption⟩
  have HW := Lib.hid (low_of_right s hr hp hsm)
  have HV : Hid (customL s.toList = (!((s[0].toNat : Int) == 95) && dashL s.toList && !reservedL s.toList)) := Lib.hid (by rw [HC.out, HW.out, hsm]; simp)
  by_cases h95 : (s[0].toNat : Int) = 95
  · have e95 : ((s[0].toNat : Int) == 95) = true := beq_iff_eq.2 h95
    have HR : Hid (customL s.toList = false) := Lib.hid (by rw [HV.out, e95]; rfl)
    clear h95
    go_enter Tryz.func123, Tryz.ntmps123
    go_wp2_with (first
      | (go_at_call 81; refine (refright_any _ _ (le_max hs)).mono ?_; rintro e w' ⟨rfl, rfl⟩)
      | (go_at_call 122; refine (refsmall_any _ _ hs).mono ?_; rintro e w' ⟨rfl, hb⟩; have HB := HB.trans (hb.mono HB.size); clear hb))
    go_ret
    exact ⟨ret_bool HR.out.symm, by assumption⟩
  have e95 : ((s[0].toNat : Int) == 95) = false := beq_eq_false_iff_ne.2 h95
  have hone := one_reserved s.toList
  by_cases hres : reservedL s.toList = true
  · rw [hres] at hone
    have HR : Hid (customL s.toList = false) := Lib.hid (by rw [HV.out, hres]; simp)
    clear h95 hres
    go_enter Tryz.func123, Tryz.ntmps123
    go_wp2_with (first
      | (go_at_call 81; refine (refright_any _ _ (le_max hs)).mono ?_; rintro e w' ⟨rfl, rfl⟩)
      | (go_at_call 122; refine (refsmall_any _ _ hs).mono ?_; rintro e w' ⟨rfl, hb⟩; have HB := HB.trans (hb.mono HB.size); clear hb)
      | (go_at_call 155; refine (one_any _ ⟨RESERVED_WORDS.toArray⟩ _ (by decide)).mono ?_; rintro e w' ⟨rfl, rfl⟩))
    go_ret
    exact ⟨ret_bool HR.out.symm, by assumption⟩
  have hres' : reservedL s.toList = false := by simpa using hres
  rw [hres'] at hone
  have HR : Hid (customL s.toList = dashL s.toList) := Lib.hid (by rw [HV.out, hres', e95]; simp)
  clear h95 hres hres'
  go_enter Tryz.func123, Tryz.ntmps123
  go_wp2_with (first
    | (go_at_call 81; refine (refright_any _ _ (le_max hs)).mono ?_; rintro e w' ⟨rfl, rfl⟩)
    | (go_at_call 122; refine (refsmall_any _ _ hs).mono ?_; rintro e w' ⟨rfl, hb⟩; have HB := HB.trans (hb.mono HB.size); clear hb)
    | (go_at_call 155; refine (one_any _ ⟨RESERVED_WORDS.toArray⟩ _ (by decide)).mono ?_; rintro e w' ⟨rfl, rfl⟩))
  clear hone hsm
  go_loop [3] (fun i => ∃ k : Nat, k ≤ s.size ∧ i = .int .i64 k ∧ Hid (dashL (s.toList.take k) = false)) (fun i => s.size - (intOf i).toNat)
  case atStart => exact ⟨0, by omega, rfl, Lib.hid rfl⟩
  case round =>
    obtain ⟨k, hk, rfl, HA⟩ := hrel
    by_cases hlt : k < s.size
    · have HG := Lib.hid (tl_get s k hlt)
      obtain ⟨n, hn⟩ : ∃ n : Nat, (s[k]'hlt).toNat = n := ⟨_, rfl⟩
      have HN := Lib.hid hn
      by_cases h45 : (n : Int) = 45
      · have e45 : ((n : Int) == 45) = true := beq_iff_eq.2 h45
        have HR2 : Hid (customL s.toList = true) := Lib.hid (by rw [HR.out]; exact dash_hit _ _ _ HG.out (by rw [HN.out]; exact h45))
        clear h45
        go_wp2
        go_ret
        exact ⟨ret_bool HR2.out.symm, by assumption⟩
      · have e45 : ((n : Int) == 45) = false := beq_eq_false_iff_ne.2 h45
        have HS : Hid (dashL (s.toList.take (k + 1)) = false) := Lib.hid ((dash_step _ _ _ HG.out HA.out).trans (by rw [HN.out]; exact e45))
        clear h45
        go_wp2
        go_round
        case rel => exact ⟨k + 1, by omega, by go_num, HS⟩
        case measure => simp [intOf]; omega
    · have HR2 : Hid (customL s.toList = false) := Lib.hid (by
        rw [HR.out]
        have h := HA.out
        rwa [List.take_of_length_le (by rw [HL.out]; omega)] at h)
      go_wp2
      go_ret
      exact ⟨ret_bool HR2.out.symm, by assumption⟩
end Go.Proofs.YtiffhlncnpppoaaGreatDoor
namespace Go.Proofs.YtiffhlncnpppoaaGreatDoor
open Go.RowKit
def shT (lo k t : Nat) : Nat := if t < lo then t else t - k
def shX (lo k : Nat) : Operand → Operand
  | .tmp t => .tmp (shT lo k t)
  | .const v => .const v
  | .global g => .global g
  | .func f => .func f
def shE (lo k : Nat) : Callee → Callee
  | .value f => .value (shX lo k f)
  | .invoke r m => .invoke (shX lo k r) m
  | .builtin b => .builtin b
def shO (lo k : Nat) : Op → Op
  | .move x => .move (shX lo k x)
  | .assign x => .assign (shX lo k x)
  | .pick c a b => .pick (shX lo k c) (shX lo k a) (shX lo k b)
  | .load t x => .load t (shX lo k x)
  | .binOp op t x y t' => .binOp op t (shX lo k x) (shX lo k y) t'
  | .unOp op t x => .unOp op t (shX lo k x)
  | .fieldAddr t x f => .fieldAddr t (shX lo k x) f
  | .indexAddr t x y => .indexAddr t (shX lo k x) (shX lo k y)
  | .call c => .call { callee := shE lo k c.callee, args := c.args.map (shX lo k), argTypes := c.argTypes }
  | o => o
def sh (lo k : Nat) (o : Oper) : Oper := { o with dst := o.dst.map (shT lo k), op := shO lo k o.op }
def inT (lo k n t : Nat) : Bool := (Nat.blt t lo && Nat.blt t n) || (Nat.ble (lo + k) t && Nat.blt t (n + k))
def inX (lo k n : Nat) : Operand → Bool
  | .tmp t => inT lo k n t
  | _ => true
def inO (lo k n : Nat) : Op → Bool
  | .move x => inX lo k n x
  | .assign x => inX lo k n x
  | .pick c a b => inX lo k n c && inX lo k n a && inX lo k n b
  | .load _ x => inX lo k n x
  | .binOp _ _ x y _ => inX lo k n x && inX lo k n y
  | .unOp _ _ x => inX lo k n x
  | .fieldAddr _ x _ => inX lo k n x
  | .indexAddr _ x y => inX lo k n x && inX lo k n y
  | .call c => (match c.callee with | .value f => inX lo k n f | .invoke _ _ => false | .builtin _ => true) && c.args.all (inX lo k n)
  | _ => false
def inD (lo k n : Nat) : Option Nat → Bool
  | some d => inT lo k n d
  | none => true
def smallOK (lo k n : Nat) (l : List Oper) : Bool := l.all (fun o => inD lo k n o.dst && inO lo k n o.op)
def mergeL (lo k n : Nat) (s : Array Value) : Nat → List Value → List Value
  | _, [] => []
  | t, v :: r => (bif inT lo k n t then s.getD (shT lo k t) undef else v) :: mergeL lo k n s (t + 1) r
def merge (lo k n : Nat) (a s : Act) : Act := ⟨(mergeL lo k n s.tmps 0 a.tmps.toList).toArray, a.defers⟩
section
variable {lo k n : Nat}
theorem mergeL_len (s : Array Value) : ∀ (t : Nat) (l : List Value), (mergeL lo k n s t l).length = l.length
  | _, [] => rfl
  | t, v :: r => by unfold mergeL; rw [List.length_cons, List.length_cons, mergeL_len s (t + 1) r]
theorem mergeL_get (s : Array Value) : ∀ (t : Nat) (l : List Value) (i : Nat), (mergeL lo k n s t l)[i]? = (l[i]?).map (fun v => bif inT lo k n (t + i) then s.getD (shT lo k (t + i)) undef else v)
  | _, [], _ => by simp [mergeL]
  | t, v :: r, 0 => by simp [mergeL]
  | t, v :: r, i + 1 => by
    unfold mergeL
    rw [List.getElem?_cons_succ, List.getElem?_cons_succ, mergeL_get s (t + 1) r i, show t + 1 + i = t + (i + 1) by omega]
theorem merge_get (a s : Act) (i : Nat) : (merge lo k n a s).tmps[i]? = (a.tmps[i]?).map (fun v => bif inT lo k n i then s.tmps.getD (shT lo k i) undef else v) := by
  unfold merge
  rw [List.getElem?_toArray, mergeL_get, Nat.zero_add, Array.getElem?_toList]
theorem merge_getD (a s : Act) {i : Nat} (hi : i < a.tmps.size) (ht : inT lo k n i = true) : (merge lo k n a s).tmps.getD i undef = s.tmps.getD (shT lo k i) undef := by
  rw [Array.getD_eq_getD_getElem?, merge_get, Array.getElem?_eq_getElem hi, ht]
  rfl
theorem merge_size (a s : Act) : (merge lo k n a s).tmps.size = a.tmps.size := by
  unfold merge
  rw [List.size_toArray, mergeL_len, Array.length_toList]
theorem shT_lt {t : Nat} (h : inT lo k n t = true) : shT lo k t < n := by
  unfold inT at h
  unfold shT
  simp only [Bool.or_eq_true, Bool.and_eq_true, Nat.blt_eq, Nat.ble_eq] at h
  split <;> omega
theorem shT_inj {t u : Nat} (ht : inT lo k n t = true) (hu : inT lo k n u = true) (h : shT lo k t = shT lo k u) : t = u := by
  unfold inT at ht hu
  unfold shT at h
  simp only [Bool.or_eq_true, Bool.and_eq_true, Nat.blt_eq, Nat.ble_eq] at ht hu
  split at h <;> split at h <;> omega
theorem merge_put (a s : Act) {d : Nat} (hs : s.tmps.size = n) (ht : inT lo k n d = true) (v : Value) (hda : d < a.tmps.size) : (merge lo k n a s).put (some d) v = merge lo k n a (s.put (some (shT lo k d)) v) := by
  have e : ((merge lo k n a s).put (some d) v).tmps = (merge lo k n a (s.put (some (shT lo k d)) v)).tmps := by
    apply Array.ext_getElem?
    intro i
    rw [merge_get]
    show ((merge lo k n a s).tmps.setIfInBounds d v)[i]? = _
    rw [Array.getElem?_setIfInBounds, merge_get, merge_size]
    show _ = (a.tmps[i]?).map (fun w => bif inT lo k n i then (s.tmps.setIfInBounds (shT lo k d) v).getD (shT lo k i) undef else w)
    by_cases hdi : d = i
    · subst hdi
      rw [if_pos rfl, if_pos hda, Array.getElem?_eq_getElem hda, ht]
      have : shT lo k d < s.tmps.size := by rw [hs]; exact shT_lt ht
      simp [Array.getD_eq_getD_getElem?, this]
    · rw [if_neg hdi]
      cases hq : inT lo k n i with
      | false => rfl
      | true =>
        have hne : shT lo k d ≠ shT lo k i := fun h => hdi (shT_inj ht hq h)
        simp [Array.getD_eq_getD_getElem?, hne]
  show Act.mk _ _ = Act.mk _ _
  congr 1
theorem put_size (a : Act) (d : Option Nat) (v : Value) : (a.put d v).tmps.size = a.tmps.size := by
  cases d with
  | none => rfl
  | some d => simp [Act.put]
theorem sh_eval (a s : Act) (hs : ∀ t, inT lo k n t = true → t < a.tmps.size) {x : Operand} (hx : inX lo k n x = true) : s.eval (shX lo k x) = (merge lo k n a s).eval x := by
  cases x with
  | tmp t => exact (merge_getD a s (hs t hx) hx).symm
  | const v => rfl
  | global g => rfl
  | func f => rfl
theorem sh_exec {e e' : Operand → Value} {o : Oper} (ho : inO lo k n o.op = true) (h : ∀ x, inX lo k n x = true → e' (shX lo k x) = e x) : execOp e' (sh lo k o) = execOp e o := by
  obtain ⟨dst, op, type, pos, after, guard⟩ := o
  cases op <;> simp only [inO, Bool.and_eq_true, Bool.false_eq_true] at ho
  case move x => simp only [sh, shO, execOp, h x ho]
  case assign x => simp only [sh, shO, execOp, h x ho]
  case pick c a b => simp only [sh, shO, execOp, h c ho.1.1, h a ho.1.2, h b ho.2]
  case load t x => simp only [sh, shO, execOp, h x ho]
  case binOp op t x y t' =>
    simp only [sh, shO, execOp, h x ho.1, h y ho.2, eqGuard]
    cases x <;> cases y <;> rfl
  case unOp op t x => simp only [sh, shO, execOp, h x ho]
  case fieldAddr t x f => simp only [sh, shO, execOp, h x ho]
  case indexAddr t x y => simp only [sh, shO, execOp, h x ho.1, h y ho.2]
  case call c =>
    obtain ⟨callee, args, ats⟩ := c
    have ha : (args.map (shX lo k)).map e' = args.map e := by
      rw [Array.map_map]
      apply Array.map_congr_left
      intro x hx
      exact h x (Array.all_eq_true_iff_forall_mem.1 ho.2 x hx)
    have hk : ∀ f : Operand → Bool, (∀ x, f (shX lo k x) = f x) → (args.map (shX lo k)).map f = args.map f := fun f hf => by
      rw [Array.map_map]
      apply Array.map_congr_left
      intro x _
      exact hf x
    cases callee with
    | value f => simp only [sh, shO, shE, execOp, resolve, ha, h f ho.1]
    | invoke r m => exact absurd ho.1 (by simp)
    | builtin b =>
      simp only [sh, shO, shE, execOp, resolve, ha]
      rw [hk _ (fun x => by cases x <;> rfl)]
theorem sh_wanted (a s : Act) (hs : ∀ t, inT lo k n t = true → t < a.tmps.size) (hn : s.tmps.size = n) {l : List Oper} (hl : smallOK lo k n l = true) (o : Oper) :
    Region.wanted (sh lo k o) (yielded (l.map (sh lo k)).toArray s.tmps) = Region.wanted o (yielded l.toArray (merge lo k n a s).tmps) := by
  have key : ∀ j, yielded (l.map (sh lo k)).toArray s.tmps j = yielded l.toArray (merge lo k n a s).tmps j := fun j => by
    unfold yielded
    rw [List.getElem?_toArray, List.getElem?_toArray, List.getElem?_map]
    cases ho : l[j]? with
    | none => rfl
    | some oj =>
      have h1 := List.all_eq_true.1 hl oj (List.mem_of_getElem? ho)
      rw [Bool.and_eq_true] at h1
      have h2 := h1.1
      show (match ((oj.dst.map (shT lo k)).bind (s.tmps[·]?)) with | some (.bool b) => some b | _ => none) = (match (oj.dst.bind ((merge lo k n a s).tmps[·]?)) with | some (.bool b) => some b | _ => none)
      cases hd : oj.dst with
      | none => rfl
      | some d =>
        rw [hd] at h2
        have h3 : inT lo k n d = true := h2
        have h4 := hs d h3
        show (match s.tmps[shT lo k d]? with | some (.bool b) => some b | _ => none) = (match (merge lo k n a s).tmps[d]? with | some (.bool b) => some b | _ => none)
        rw [merge_get, Array.getElem?_eq_getElem h4, h3, Array.getElem?_eq_getElem (by rw [hn]; exact shT_lt h3)]
        show _ = (match some (s.tmps.getD (shT lo k d) undef) with | some (.bool b) => some b | _ => none)
        rw [Array.getD_eq_getD_getElem?, Array.getElem?_eq_getElem (by rw [hn]; exact shT_lt h3)]
        rfl
  show (match o.guard with | none => true | some (j, want) => yielded (l.map (sh lo k)).toArray s.tmps j == some want) = (match o.guard with | none => true | some (j, want) => yielded l.toArray (merge lo k n a s).tmps j == some want)
  cases o.guard with
  | none => rfl
  | some g =>
    show (yielded (l.map (sh lo k)).toArray s.tmps g.1 == some g.2) = _
    rw [key]
theorem sh_put (a s : Act) (hs : ∀ t, inT lo k n t = true → t < a.tmps.size) (hn : s.tmps.size = n) {d : Option Nat} (hd : inD lo k n d = true) (v : Value) : (merge lo k n a s).put d v = merge lo k n a (s.put (d.map (shT lo k)) v) := by
  cases d with
  | none => rfl
  | some d => exact merge_put a s hn hd v (hs d hd)
theorem quiet_small {P : Program} {C : World → Prop} {a : Act} (hs : ∀ t, inT lo k n t = true → t < a.tmps.size) {l : List Oper} (hl : smallOK lo k n l = true) {R Q : Act → Prop} (hR : ∀ s, s.tmps.size = n → R s → Q (merge lo k n a s)) :
    ∀ (r : List Oper), smallOK lo k n r = true → ∀ s : Act, s.tmps.size = n → wpQuiet P (l.map (sh lo k)).toArray C R (r.map (sh lo k)) s → wpQuiet P l.toArray C Q r (merge lo k n a s)
  | [], _, s, hn, h => hR s hn h
  | o :: r, hr, s, hn, h => by
    have hr' := hr
    unfold smallOK at hr'
    rw [List.all_cons, Bool.and_eq_true, Bool.and_eq_true] at hr'
    obtain ⟨⟨hd, ho⟩, hrr⟩ := hr'
    rw [List.map_cons] at h
    unfold wpQuiet at h ⊢
    rw [sh_wanted a s hs hn hl o] at h
    split at h
    · rename_i hw
      rw [if_pos hw]
      obtain ⟨v, h1, h2⟩ := h
      refine ⟨v, fun w hC => ?_, ?_⟩
      · have := h1 w hC
        unfold Oper.quietAt at this ⊢
        rwa [sh_exec ho (fun x hx => sh_eval a s hs hx)] at this
      · rw [sh_put a s hs hn hd]
        exact quiet_small hs hl hR r hrr _ (by rw [put_size]; exact hn) h2
    · rename_i hw
      rw [if_neg hw, sh_put a s hs hn hd]
      exact quiet_small hs hl hR r hrr _ (by rw [put_size]; exact hn) h
theorem wpList_of_quiet {P : Program} {ops : Array Oper} {C : World → Prop} {Q : Exit → Act → World → Prop} : ∀ (l : List Oper) (a : Act) (w : World), C w → wpQuiet P ops C (fun a' => ∀ w', C w' → Q .normal a' w') l a → wpList P ops Q l a w
  | [], _, w, hC, h => h w hC
  | o :: r, a, w, hC, h => by
    unfold wpQuiet at h
    unfold wpList
    split at h
    · rename_i hw
      rw [if_pos hw]
      exact .inl (Oper.wp_of_quiet hC (fun a' w' hC' h' => wpList_of_quiet r a' w' hC' h') h)
    · rename_i hw
      rw [if_neg hw]
      exact wpList_of_quiet r _ w hC h
end
theorem wp_region_small {P : Program} {id : Nat} {draw : Bool} {Q : Exit → Act → World → Prop} {a : Act} {w : World} {l : List Oper} (lo k n : Nat) (s : Act) (R : Act → Prop)
    (hd : draw = false ∨ (P.follows .mixedOrders = true ∧ Region.lexB .any l.toArray = true)) (hl : smallOK lo k n l = true) (hs : ∀ t, inT lo k n t = true → t < a.tmps.size) (hn : s.tmps.size = n) (ha : a = merge lo k n a s)
    (hR : ∀ s', s'.tmps.size = n → R s' → ∀ w', (∃ x : Ext w, w' = x.v) → Q .normal (merge lo k n a s') w')
    (h : wpQuiet P (l.map (sh lo k)).toArray (fun w' => ∃ x : Ext w, w' = x.v) R (l.map (sh lo k)) s) : (Code.region id l.toArray draw).wp P Q a w := by
  have h1 : wpQuiet P l.toArray (fun w' => ∃ x : Ext w, w' = x.v) (fun a' => ∀ w', (∃ x : Ext w, w' = x.v) → Q .normal a' w') l a := by
    have := quiet_small (P := P) (C := fun w' => ∃ x : Ext w, w' = x.v) hs hl (Q := fun a' => ∀ w', (∃ x : Ext w, w' = x.v) → Q .normal a' w') hR l hl s hn h
    rwa [← ha] at this
  rcases hd with rfl | ⟨h2, h3⟩
  · exact wp_region_lit (wpList_of_quiet l a w ⟨⟨w, Below.refl _ _⟩, rfl⟩ h1)
  · cases draw with
    | false => exact wp_region_lit (wpList_of_quiet l a w ⟨⟨w, Below.refl _ _⟩, rfl⟩ h1)
    | true => exact wp_region_ext h2 h3 h1
def smallOf (lo k n : Nat) (a : Act) : Act := ⟨(a.tmps.toList.take lo ++ (a.tmps.toList.drop (lo + k)).take (n - lo)).toArray, []⟩
def joined (lo k n : Nat) (a s : Act) : Act := ⟨(s.tmps.toList.take lo ++ ((a.tmps.toList.drop lo).take k ++ (s.tmps.toList.drop lo ++ a.tmps.toList.drop (n + k)))).toArray, a.defers⟩
theorem inT_iff {lo k n t : Nat} (hlo : lo ≤ n) : inT lo k n t = true ↔ (t < lo ∨ (lo + k ≤ t ∧ t < n + k)) := by
  unfold inT
  simp only [Bool.or_eq_true, Bool.and_eq_true, Nat.blt_eq, Nat.ble_eq]
  omega
theorem joined_eq {lo k n : Nat} {a s : Act} (hlo : lo ≤ n) (hs : s.tmps.size = n) (ha : n + k ≤ a.tmps.size) : merge lo k n a s = joined lo k n a s := by
  have hsl : s.tmps.toList.length = n := by simpa using hs
  have hal : n + k ≤ a.tmps.toList.length := by simpa using ha
  have e : (merge lo k n a s).tmps = (joined lo k n a s).tmps := by
    apply Array.ext_getElem?
    intro i
    rw [merge_get]
    have hta : (s.tmps.toList.take lo).length = lo := by rw [List.length_take]; omega
    have htb : ((a.tmps.toList.drop lo).take k).length = k := by rw [List.length_take, List.length_drop]; omega
    have htc : (s.tmps.toList.drop lo).length = n - lo := by rw [List.length_drop]; omega
    have ga : a.tmps[i]? = a.tmps.toList[i]? := by simp
    have gj : (joined lo k n a s).tmps[i]? = (s.tmps.toList.take lo ++ ((a.tmps.toList.drop lo).take k ++ (s.tmps.toList.drop lo ++ a.tmps.toList.drop (n + k))))[i]? := by
      unfold joined
      rw [List.getElem?_toArray]
    have gs : ∀ j, s.tmps.getD j undef = (s.tmps.toList[j]?).getD undef := fun j => by simp [Array.getD_eq_getD_getElem?]
    show (a.tmps[i]?).map _ = _
    rw [ga]
    rw [gj]
    by_cases h1 : i < lo
    · rw [List.getElem?_append_left (by rw [hta]; exact h1), List.getElem?_take, if_pos h1, (inT_iff hlo).2 (.inl h1), List.getElem?_eq_getElem (show i < a.tmps.toList.length by omega), List.getElem?_eq_getElem (show i < s.tmps.toList.length by omega)]
      show some (s.tmps.getD (shT lo k i) undef) = _
      rw [gs]
      unfold shT
      rw [if_pos h1, List.getElem?_eq_getElem (show i < s.tmps.toList.length by omega)]
      rfl
    · rw [List.getElem?_append_right (by rw [hta]; omega), hta]
      by_cases h2 : i < lo + k
      · rw [List.getElem?_append_left (by rw [htb]; omega), List.getElem?_take, if_pos (by omega), List.getElem?_drop, show lo + (i - lo) = i by omega]
        have hq : inT lo k n i = false := by
          cases hq : inT lo k n i with
          | false => rfl
          | true => have := (inT_iff hlo).1 hq; omega
        rw [hq]
        simp
      · rw [List.getElem?_append_right (by rw [htb]; omega), htb]
        by_cases h3 : i < n + k
        · rw [List.getElem?_append_left (by rw [htc]; omega), List.getElem?_drop, (inT_iff hlo).2 (.inr ⟨by omega, h3⟩), List.getElem?_eq_getElem (show i < a.tmps.toList.length by omega), show lo + (i - lo - k) = i - k by omega]
          show some (s.tmps.getD (shT lo k i) undef) = _
          rw [gs]
          unfold shT
          rw [if_neg h1, List.getElem?_eq_getElem (show i - k < s.tmps.toList.length by omega)]
          rfl
        · rw [List.getElem?_append_right (by rw [htc]; omega), htc, List.getElem?_drop, show n + k + (i - lo - k - (n - lo)) = i by omega]
          have hq : inT lo k n i = false := by
            cases hq : inT lo k n i with
            | false => rfl
            | true => have := (inT_iff hlo).1 hq; omega
          rw [hq]
          simp
  show Act.mk _ _ = Act.mk _ _
  congr 1
theorem smallOf_size {lo k n : Nat} {a : Act} (hlo : lo ≤ n) (ha : n + k ≤ a.tmps.size) : (smallOf lo k n a).tmps.size = n := by
  have hal : n + k ≤ a.tmps.toList.length := by simpa using ha
  unfold smallOf
  rw [List.size_toArray, List.length_append, List.length_take, List.length_take, List.length_drop]
  omega
theorem joined_small {lo k n : Nat} {a : Act} (hlo : lo ≤ n) (ha : n + k ≤ a.tmps.size) : a = joined lo k n a (smallOf lo k n a) := by
  have hal : n + k ≤ a.tmps.toList.length := by simpa using ha
  have e : a.tmps.toList = (smallOf lo k n a).tmps.toList.take lo ++ ((a.tmps.toList.drop lo).take k ++ ((smallOf lo k n a).tmps.toList.drop lo ++ a.tmps.toList.drop (n + k))) := by
    have h1 : (a.tmps.toList.take lo).length = lo := by rw [List.length_take]; omega
    have h2 : (smallOf lo k n a).tmps.toList = a.tmps.toList.take lo ++ (a.tmps.toList.drop (lo + k)).take (n - lo) := rfl
    have h5 : (a.tmps.toList.take lo ++ (a.tmps.toList.drop (lo + k)).take (n - lo)).take lo = a.tmps.toList.take lo := by
      rw [List.take_append_of_le_length (by rw [h1]; exact Nat.le_refl _), List.take_of_length_le (by rw [h1]; exact Nat.le_refl _)]
    have h6 : (a.tmps.toList.take lo ++ (a.tmps.toList.drop (lo + k)).take (n - lo)).drop lo = (a.tmps.toList.drop (lo + k)).take (n - lo) := by
      rw [List.drop_append_of_le_length (by rw [h1]; exact Nat.le_refl _), List.drop_of_length_le (by rw [h1]; exact Nat.le_refl _), List.nil_append]
    rw [h2, h5, h6]
    have h3 : (a.tmps.toList.drop (lo + k)).take (n - lo) ++ a.tmps.toList.drop (n + k) = a.tmps.toList.drop (lo + k) := by
      have : a.tmps.toList.drop (n + k) = (a.tmps.toList.drop (lo + k)).drop (n - lo) := by rw [List.drop_drop]; congr 1; omega
      rw [this, List.take_append_drop]
    have h4 : (a.tmps.toList.drop lo).take k ++ a.tmps.toList.drop (lo + k) = a.tmps.toList.drop lo := by
      rw [← List.drop_drop, List.take_append_drop]
    rw [h3, h4, List.take_append_drop]
  obtain ⟨⟨l⟩, d⟩ := a
  show Act.mk _ _ = Act.mk _ _
  congr 1
  exact congrArg List.toArray e
theorem wp_region_in {P : Program} {id : Nat} {draw : Bool} {Q : Exit → Act → World → Prop} {a : Act} {w : World} {l : List Oper} (lo k n : Nat) (R : Act → Prop)
    (hd : draw = false ∨ (P.follows .mixedOrders = true ∧ Region.lexB .any l.toArray = true)) (hl : smallOK lo k n l = true) (hlo : lo ≤ n) (ha : n + k ≤ a.tmps.size)
    (h : wpQuiet P (l.map (sh lo k)).toArray (fun w' => ∃ x : Ext w, w' = x.v) R (l.map (sh lo k)) (smallOf lo k n a))
    (hR : ∀ s', s'.tmps.size = n → R s' → ∀ w', (∃ x : Ext w, w' = x.v) → Q .normal (joined lo k n a s') w') : (Code.region id l.toArray draw).wp P Q a w := by
  refine wp_region_small lo k n (smallOf lo k n a) R hd hl (fun t ht => by have := (inT_iff hlo).1 ht; omega) (smallOf_size hlo ha) ?_ (fun s' hs' hr w' hw' => ?_) h
  · rw [joined_eq hlo (smallOf_size hlo ha) ha]
    exact joined_small hlo ha
  · rw [joined_eq hlo hs' ha]
    exact hR s' hs' hr w' hw'
end Go.Proofs.YtiffhlncnpppoaaGreatDoor
