/- Texts joined in build order: MoveStand ChangeAdd. -/
import Derived.Test.YtkfmengdffpcnaaGreatDoorA23
import Derived.Deep.RegionWith
import Derived.Test.YtkfmengdffpcnaaGreatDoorA12
import Derived.Test.YtkfmengdffpcnaaGreatDoorA08
namespace Go.Proofs.YtkfmengdffpcnaaGreatDoor
open Go.RowKit
section
variable {ρ : Nat → Nat} {pw g cap len : Nat} {m : Int} {M : List NodeD} {v : Value} {N : List NoteD}
def insAt (l : List Int) (b : Int) : Nat := if b = -1 then l.length else findN l b
theorem insAt_le (l : List Int) (b : Int) (hb : b = -1 ∨ b ∈ l) : insAt l b ≤ l.length := by
  unfold insAt
  by_cases e : b = -1
  · rw [if_pos e]; exact Nat.le_refl _
  · rw [if_neg e]; exact Nat.le_of_lt (findN_mem (hb.resolve_left e))
theorem insB_eq (l : List Int) (b n : Int) : l.take (insAt l b) ++ n :: l.drop (insAt l b) = insB l b n := by
  unfold insAt insB
  by_cases e : b = -1
  · rw [if_pos e, if_pos e, List.take_of_length_le (Nat.le_refl _), List.drop_eq_nil_of_le (Nat.le_refl _)]
  · rw [if_neg e, if_neg e]
set_option maxHeartbeats 8000000 in
set_option maxRecDepth 100000 in
theorem mstandP_any (w : World) (h : Wk ρ w pw g cap len m M v N) (hs : smallF M) (n p : Nat) (x y : NodeD) (hx : M[n]? = some x) (hy : M[p]? = some y) (hnp : n ≠ p) (b : Int) (hb : b = -1 ∨ b ∈ y.core.kids) :
    Calls Tryz.prog 89 #[ptrV pw, .int .i64 n, .int .i64 p, .int .i64 b] w (WkPost ρ w pw g cap len m fun M' N' => (∃ a c, M' = (M.set p (withK y a (y.kN + 1) c (insB y.core.kids b n))).set n (withP x p)) ∧ N' = N) := by
  have hl1k : len ≤ 1000 := by rw [← h.hlen]; exact hs.1
  have hn : n < len := by rw [← h.hlen]; exact (List.getElem?_eq_some_iff.1 hx).1
  have hpl : p < len := by rw [← h.hlen]; exact (List.getElem?_eq_some_iff.1 hy).1
  have hkl : y.core.kids.length = y.kN := (h.kidsRow hy).hlen
  have hk1k : y.kN ≤ 1000 := by rw [← hkl]; exact (hs.2 y (List.mem_of_getElem? hy)).1
  obtain ⟨i, hi⟩ : ∃ i, insAt y.core.kids b = i := ⟨_, rfl⟩
  have hil : i ≤ y.kN := by rw [← hkl, ← hi]; exact insAt_le _ _ hb
  have hnn : In64 (n : Int) := in64_nat (by omega)
  have hpp : In64 (p : Int) := in64_nat (by omega)
  have CX : Hid (b ≠ -1 → Calls Tryz.prog 85 #[.slice y.kA y.kN y.kC, .int .i64 b] w fun e w' => e = .returned (.int .i64 i) ∧ w = w') := Lib.hid (fun hne => by
    have h1 := findZ_mem (hb.resolve_left hne)
    have h2 : insAt y.core.kids b = findN y.core.kids b := by unfold insAt; rw [if_neg hne]
    have h3 : findZ y.core.kids b = (i : Int) := by rw [h1, ← h2, hi]
    rw [← h3]
    exact index_any _ _ _ _ _ w (h.kidsRow hy))
  have hIL : b = -1 → i = y.kN := fun e => by rw [← hi, ← hkl]; unfold insAt; rw [if_pos e]
  obtain ⟨WI, hWI, WK2, HBI, HCELL⟩ : ∃ WI, (w.alloc (.cells #[.int .i64 (n : Int)] 3)).drew = WI ∧ Hid (Wk ρ WI pw g cap len m M v N) ∧ Hid (Below w.heap.size w WI) ∧ Hid (WI.heap[w.heap.size]? = some (.cells #[.int .i64 (n : Int)] 3 (0, 0))) := by
    have hb2 : Below w.heap.size w (w.alloc (.cells #[.int .i64 (n : Int)] 3)).drew := ((Below.refl _ _).alloc (Nat.le_refl _) _).drew
    exact ⟨_, rfl, Lib.hid (h.keep hb2), Lib.hid hb2, Lib.hid (heap_alloc_new w _)⟩
  have CI : Hid (Calls Tryz.prog 115 #[.slice y.kA y.kN y.kC, .int .i64 i, .slice (some ⟨w.heap.size, 0, none⟩) 1 1] WI (InsPost 0 (.slice y.kA y.kN y.kC) y.kN (insB y.core.kids b n) WI)) := Lib.hid (by
    rw [← insB_eq, hi]
    exact insertI_any WI 0 y.kN i _ y.core.kids n w.heap.size (Nat.zero_le _) (WK2.out.kown p y hy) hil (by omega) HCELL.out (fun e => by
      have := own_block_lt (h.kown p y hy) e
      omega))
  have HKR : Hid (∀ b', Value.ownBlock (.slice y.kA y.kN y.kC) = some b' → ρ b' = p + 6) := Lib.hid (fun b' e => h.krole p y b' hy e)
  have HINK : Hid (∀ z ∈ insB y.core.kids b n, In64 z) := Lib.hid (fun z hz => by
    have hk := (h.fld y (List.mem_of_getElem? hy)).kids
    rw [← insB_eq] at hz
    rcases List.mem_append.1 hz with hz | hz
    · exact hk z (List.mem_of_mem_take hz)
    · rcases List.mem_cons.1 hz with rfl | hz
      · exact hnn
      · exact hk z (List.mem_of_mem_drop hz))
  have HW := Lib.hid h
  have HX := Lib.hid hx
  have HY := Lib.hid hy
  have HP64 := Lib.hid hpp
  have HWI := Lib.hid hWI
  have p0 := h.c0
  have y6 := (h.at_ hy).c6
  have p0a := fun o => (h.keep (below_box w o)).c0
  have y6a := fun o => ((h.keep (below_box w o)).at_ hy).c6
  have hl64 : (len : Int) ≤ 9223372036854775807 := by omega
  have hkn64 : (y.kN : Int) ≤ 9223372036854775807 := by omega
  clear h hs hx hy hkl hi hb hnn hpp hWI
  go_enter Tryz.func89, Tryz.ntmps89
  go_upto_if 23 with fail
  go_cut [9] (fun c wx => wx = w ∧ c = .int .i64 i)
  case first =>
    by_cases he : b = -1
    · have e1 : (b != -1) = false := by rw [he]; rfl
      have e2 := hIL he
      clear he
      go_wp2
      go_meet
      exact ⟨rfl, by rw [e2]⟩
    · have e1 : (b != -1) = true := bne_iff_ne.2 he
      have CX := CX.out he
      clear he
      go_wp2_with (go_at_call 85; (with_reducible refine CX.mono ?_); rintro e w3 ⟨rfl, rfl⟩)
      go_meet
      exact ⟨rfl, rfl⟩
  case rest =>
    obtain ⟨rfl, rfl⟩ := hcut
    go_upto_region 4 with fail
    go_region_with (go_at_call 115; rw [HWI.out]; (refine CI.out.mono ?_); rintro e w6 ⟨v6, rfl, ho6, hg6, hb6⟩; obtain ⟨g6, cap6, rfl⟩ := own_some ho6 (Nat.succ_pos _); have MID := WK2.out.mid hg6 (fun b' e => by rw [HKR.out b' e]; omega); have p0 := MID.c0; have f6 := MID.gfree (p * 10 + 6); have f5 := MID.gfree (n * 10 + 5); have c6 := MID.cells p y 6 _ HY.out rfl; have c5 := MID.cells n x 5 _ HX.out rfl; have hne : n * 10 + 5 ≠ p * 10 + 6 := (by omega); have HO6 := Lib.hid ho6; have HG6 := Lib.hid hg6; have HB6 := Lib.hid hb6; clear ho6 hg6 hb6 MID)
    all_goals go_wp2
    all_goals
      have W7 := WK2.out.setK HY.out HG6.out HO6.out HB6.out HINK.out
      have hxn : (M.set p (withK y (some ⟨g6, 0, none⟩) (y.kN + 1) cap6 (insB y.core.kids b n)))[n]? = some x := by rw [List.getElem?_set_ne (fun e => hnp e.symm)]; exact HX.out
      have W8 := W7.setP hxn HP64.out
      have hsz := HBI.out.size
      have T8 := (((Turn.of_below (ρ := ρ) HBI.out).grown HG6.out (fun k e => .inr (by rw [HKR.out k e]; omega))).setCell (b := g) (.inr (by rw [WK2.out.grole]; decide)) (p * 10 + 6) (.slice (some ⟨g6, 0, none⟩) (y.kN + 1) cap6)).setCell (b := g) (.inr (by rw [WK2.out.grole]; decide)) (n * 10 + 5) (.int .i64 (p : Int))
      exact bodyPost_ret (v := .tuple #[]) (by simp [results, Tryz.results89]) rfl ⟨rfl, _, _, v, N, W8, T8, upd_old (fun k e => (HB6.out k e).imp (HKR.out k) (fun h => Nat.le_trans hsz h)), ⟨_, _, rfl⟩, rfl⟩
theorem stand_core {n p : Nat} {x y : NodeD} (hx : M[n]? = some x) (hy : M[p]? = some y) (hnp : n ≠ p) {b : Int} {a : Option Addr} {l c : Nat} : coreL ((M.set p (withK y a l c (insB y.core.kids b n))).set n (withP x p)) = mvIn (coreL M) n p b := by
  refine ((core_set2 hx hy hnp).cong (fun j c hc => ⟨rfl, ?_, rfl⟩)).eq
  by_cases e : j = p
  · subst e
    rw [coreL_get hy] at hc
    rw [if_pos rfl, if_pos rfl, ← Option.some.inj hc]
  · rw [if_neg e, if_neg e]
theorem mstand_any (w : World) (h : Wk ρ w pw g cap len m M v N) (hs : smallF M) (n p : Nat) (hn : n < len) (hpl : p < len) (hnp : n ≠ p) (b : Int) (hb : b = -1 ∨ b ∈ kidsK (coreL M) p) :
    Calls Tryz.prog 89 #[ptrV pw, .int .i64 n, .int .i64 p, .int .i64 b] w (WkPost ρ w pw g cap len m fun M' N' => coreL M' = mvIn (coreL M) n p b ∧ N' = N) := by
  obtain ⟨x, hx⟩ : ∃ x, M[n]? = some x := ⟨_, List.getElem?_eq_getElem (by rw [h.hlen]; exact hn)⟩
  obtain ⟨y, hy⟩ : ∃ y, M[p]? = some y := ⟨_, List.getElem?_eq_getElem (by rw [h.hlen]; exact hpl)⟩
  have hkk : kidsK (coreL M) p = y.core.kids := by unfold kidsK; rw [getC_nat, coreL_get hy]
  rw [hkk] at hb
  refine (mstandP_any w h hs n p x y hx hy hnp b hb).mono ?_
  rintro e w' ⟨he, ρ', M', v', N', h1, h2, h3, ⟨a, c, rfl⟩, h5⟩
  exact ⟨he, ρ', _, v', N', h1, h2, h3, stand_core hx hy hnp, h5⟩
end
end Go.Proofs.YtkfmengdffpcnaaGreatDoor
namespace Go.Proofs.YtkfmengdffpcnaaGreatDoor
open Go.RowKit
def addR (ρ : Nat → Nat) (g g2 : Nat) : Nat → Nat := fun b => if b = g2 then 2 else if b = g then 5 else ρ b
section
variable {ρ : Nat → Nat} {W W1 : World} {pw g cap len : Nat} {m : Int} {M : List NodeD} {v : Value} {N : List NoteD}
theorem addR_other {g2 b : Nat} (h1 : b ≠ g2) (h2 : b ≠ g) : addR ρ g g2 b = ρ b := by unfold addR; rw [if_neg h1, if_neg h2]
theorem addR_on {g2 b : Nat} (h : ρ b ≠ 0) : addR ρ g g2 b ≠ 0 := by
  unfold addR
  split
  · decide
  · split
    · decide
    · exact h
theorem Wk.add (h : Wk ρ W pw g cap len m M v N) {x : NodeD} {g2 cap2 : Nat} (hx : NodeOk W x) (hka : x.kA = none) (hks : x.core.kids = []) (har : ∀ b off, x.aA = some ⟨b, off, none⟩ → 0 < x.aN → ρ b = 0 ∧ Aft ρ b)
    (hg : W.grownBy W1 (some g)) (ho : W1.ownsRow 0 36 10 (.slice (some ⟨g2, 0, none⟩) (len + 1) cap2) (len + 1) ((M ++ [x]).flatMap encN)) (hat : g2 = g ∨ g2 = W.heap.size) :
    Wk (addR ρ g g2) (W1.setCell ⟨pw, 0, none⟩ (.slice (some ⟨g2, 0, none⟩) (len + 1) cap2)) pw g2 cap2 (len + 1) m (M ++ [x]) v N := by
  have hkn : x.kN = 0 := by have := hx.kids.hlen; rw [hks] at this; exact this.symm
  have hkc : x.kC = 0 := hx.kids.hnil hka
  have two : ∀ b, b < W.heap.size → ρ b ≠ 2 → b ≠ g2 ∧ b ≠ g := fun b hb h2 => by
    have hne : b ≠ g := fun e => h2 (by rw [e]; exact h.grole)
    exact ⟨by rcases hat with e | e <;> omega, hne⟩
  have rol : ∀ b, b < W.heap.size → ρ b ≠ 2 → addR ρ g g2 b = ρ b := fun b hb h2 => addR_other (two b hb h2).1 (two b hb h2).2
  have g2lt : g2 < W1.heap.size := own_block_lt ho rfl
  have pne : pw ≠ g2 ∧ pw ≠ g := two pw h.plt (by rw [h.prole]; decide)
  have same : ∀ b, b < W.heap.size → ρ b ≠ 2 → ρ b ≠ 1 → (W1.setCell ⟨pw, 0, none⟩ (.slice (some ⟨g2, 0, none⟩) (len + 1) cap2)).heap[b]? = W.heap[b]? := fun b hb h2 h1 =>
    (Below.heap_setCell _ _ _ b (fun e => h1 (by have e : b = pw := e; rw [e]; exact h.prole))).trans (hg.block b hb (fun e => (two b hb h2).2 (by injection e)))
  have cel : ∀ b o, b < W.heap.size → ρ b ≠ 2 → ρ b ≠ 1 → (W1.setCell ⟨pw, 0, none⟩ (.slice (some ⟨g2, 0, none⟩) (len + 1) cap2)).cell? ⟨b, o, none⟩ = W.cell? ⟨b, o, none⟩ := fun b o hb h2 h1 => World.cell?_of_block (w := W) (a := ⟨b, o, none⟩) (same b hb h2 h1)
  have sp := hg.block pw h.plt (fun e => pne.2 (by injection e))
  have pc : ∀ o, W1.cell? ⟨pw, o, none⟩ = W.cell? ⟨pw, o, none⟩ := fun o => World.cell?_of_block (w := W) (a := ⟨pw, o, none⟩) sp
  have hsz : W.heap.size ≤ (W1.setCell ⟨pw, 0, none⟩ (.slice (some ⟨g2, 0, none⟩) (len + 1) cap2)).heap.size := by simpa [World.setCell] using hg.size
  have ho2 := own_boxCell (o := 0) ho (g := pw) (fun e => by
    have e : some g2 = some pw := e
    injection e with e
    exact pne.1 e.symm) (.slice (some ⟨g2, 0, none⟩) (len + 1) cap2)
  have hl2 : (M ++ [x]).length = len + 1 := by rw [List.length_append, h.hlen]; rfl
  obtain ⟨a3, c3, e3, hr, _⟩ := SRow.of_own (fun z _ => encN_len z) hl2 ho2
  injection e3 with e4 _ e5
  subst e4 e5
  have arow : ∀ {a : Option Addr} {n c : Nat} {l : AL}, AttrRow W a n c l → (∀ b off, a = some ⟨b, off, none⟩ → 0 < n → ρ b = 0) → AttrRow (W1.setCell ⟨pw, 0, none⟩ (.slice (some ⟨g2, 0, none⟩) (len + 1) cap2)) a n c l := fun hr h0 =>
    ⟨hr.row.keep hsz (fun b off he hp o => cel b o (attr_block_lt hr he hp) (by rw [h0 b off he hp]; decide) (by rw [h0 b off he hp]; decide)), hr.small, hr.hnil⟩
  have getM : ∀ {i : Nat} {z : NodeD}, (M ++ [x])[i]? = some z → (M[i]? = some z) ∨ (i = len ∧ z = x) := fun {i z} hz => by
    by_cases hi : i < len
    · rw [List.getElem?_append_left (by rw [h.hlen]; exact hi)] at hz
      exact .inl hz
    · rw [List.getElem?_append_right (by rw [h.hlen]; omega), h.hlen] at hz
      have := (List.getElem?_eq_some_iff.1 hz).1
      simp at this
      have hi : i = len := by omega
      subst hi
      rw [Nat.sub_self] at hz
      exact .inr ⟨rfl, (Option.some.inj hz).symm⟩
  refine ⟨hl2, hr.hcap, hr.hmax, fun i z j u hz hu => ?_, fun o => own_free ho2 o, by simpa [World.setCell] using g2lt, fun i z hz => ?_, fun i z b hz hb => ?_, fun z hz => ?_, fun z hz b off he hp => ?_, fun z hz => ?_,
    World.cell?_setCell_same _ _ _ ((pc 0).trans h.c0), (World.cell?_setCell_other _ _ _ _ (fun e => by injection e with _ e; omega)).trans ((pc 1).trans h.c1), (World.cell?_setCell_other _ _ _ _ (fun e => by injection e with _ e; omega)).trans ((pc 2).trans h.c2),
    fun o => by rw [World.frozen?_setCell]; exact (World.frozen?_of_block (w := W) (a := ⟨pw, o, none⟩) sp).trans (h.pfree o), Nat.lt_of_lt_of_le h.plt hsz,
    own_same h.nown (fun b hb => same b (own_block_lt h.nown hb) (by rw [h.nrole b hb]; decide) (by rw [h.nrole b hb]; decide)), fun b hb => by rw [rol b (own_block_lt h.nown hb) (by rw [h.nrole b hb]; decide)]; exact h.nrole b hb, h.nok,
    by rw [addR_other pne.1 pne.2]; exact h.prole, by unfold addR; rw [if_pos rfl], fun b hb => ?_, ho2⟩
  · rcases hr.cells with h0 | ⟨b, off, ha, _, hc⟩
    · omega
    · injection ha with ha
      injection ha with e1 e2
      subst e1 e2
      have := hc i z j u hz hu
      rwa [Nat.zero_add] at this
  · rcases getM hz with hz | ⟨rfl, rfl⟩
    · exact own_same (h.kown i z hz) (fun b hb => same b (own_block_lt (h.kown i z hz) hb) (by rw [h.krole i z b hz hb]; omega) (by rw [h.krole i z b hz hb]; omega))
    · rw [hka, hkn, hkc, hks]
      exact World.ownsRow_nil _ _ _ _
  · rcases getM hz with hz | ⟨rfl, rfl⟩
    · have hlt := own_block_lt (h.kown i z hz) hb
      rw [rol b hlt (by rw [h.krole i z b hz hb]; omega)]
      exact h.krole i z b hz hb
    · rw [hka] at hb
      cases hb
  · rcases List.mem_append.1 hz with hz | hz
    · exact arow (h.aok z hz) (fun b off he hp => (h.arole z hz b off he hp).1)
    · rw [List.mem_singleton.1 hz]
      exact arow hx.attrs (fun b off he hp => (har b off he hp).1)
  · have key : ∀ {y : NodeD}, AttrRow W y.aA y.aN y.aC y.core.attrs → y.aA = some ⟨b, off, none⟩ → 0 < y.aN → (ρ b = 0 ∧ Aft ρ b) → addR ρ g g2 b = 0 ∧ Aft (addR ρ g g2) b := fun hr he hp h1 => by
      have hlt := attr_block_lt hr he hp
      exact ⟨(rol b hlt (by rw [h1.1]; decide)).trans h1.1, h1.2.turn hlt (fun k _ h2 => addR_on h2)⟩
    rcases List.mem_append.1 hz with hz | hz
    · exact key (h.aok z hz) he hp (h.arole z hz b off he hp)
    · rw [List.mem_singleton.1 hz] at he hp
      exact key hx.attrs he hp (har b off he hp)
  · rcases List.mem_append.1 hz with hz | hz
    · exact h.fld z hz
    · rw [List.mem_singleton.1 hz]
      exact ⟨hx.name, hx.is, hx.data, hx.kind, hx.parent, hx.host, hx.under, hx.doc, hx.kids.inb⟩
  · have hb3 : W1.heap.size ≤ b := by simpa [World.setCell] using hb
    have h1 := hg.size
    have h2 := h.glt
    rw [addR_other (by omega) (by omega)]
    exact h.fresh b (by omega)
def AddPost (ρ : Nat → Nat) (w : World) (pw g len : Nat) (m : Int) (M : List NodeD) (v : Value) (N : List NoteD) (c : Core) (e : Ending) (w' : World) : Prop :=
  e = .returned (.int .i64 (len : Int)) ∧ ∃ (g2 cap2 : Nat) (y : NodeD), y.core = c ∧ Wk (addR ρ g g2) w' pw g2 cap2 (len + 1) m (M ++ [y]) v N ∧ Turn ρ w w' ∧ (g2 = g ∨ w.heap.size ≤ g2) ∧ ∀ (i : Nat) x j u, M[i]? = some x → (encN x)[j]? = some u → w'.cell? ⟨g, i * 10 + j, none⟩ = some u
theorem NBox.one {w : World} {x : NodeD} (h : NodeOk w x) : NBox w (w.alloc (nodB x)) w.heap.size x := by
  have c : ∀ (j : Nat), (w.alloc (nodB x)).cell? ⟨w.heap.size, j, none⟩ = (#[.int .i64 x.core.kind, .string x.core.name, .string x.core.is, .string x.core.data, .slice x.aA x.aN x.aC, .int .i64 x.core.parent, .slice x.kA x.kN x.kC, .int .i64 x.core.host, .int .i64 x.core.under, .int .i64 x.core.doc] : Array Value)[j]? := fun j => cell_of_row _ w.heap.size j _ 36 (0, 0) (heap_alloc_new _ _)
  exact ⟨by simp, c 0, c 1, c 2, c 3, c 4, c 5, c 6, c 7, c 8, c 9, h.below (below_box w _)⟩
theorem Wk.addDone {w V : World} (h : Wk ρ w pw g cap len m M v N) (hb : Below w.heap.size w V) {c : Core} {y : NodeD} (hy : NodeOk V y) (hyc : y.core = aloneC c len) (hyk : y.kA = none) (hya : ∀ b off, y.aA = some ⟨b, off, none⟩ → w.heap.size ≤ b) {g2 cap2 : Nat}
    (ho : W1.ownsRow 0 36 10 (.slice (some ⟨g2, 0, none⟩) (len + 1) cap2) (len + 1) (M.flatMap encN ++ encN y)) (hold : W1.ownsRow 0 36 10 (.slice (some ⟨g, 0, none⟩) len cap) len (M.flatMap encN))
    (hg : V.grownBy W1 (Value.ownBlock (.slice (some ⟨g, 0, none⟩) len cap))) (hat : Value.ownBlock (.slice (some ⟨g, 0, none⟩) len cap) = some g2 ∨ g2 = V.heap.size) :
    AddPost ρ w pw g len m M v N (aloneC c len) (.returned (.int .i64 (len : Int))) (W1.setCell ⟨pw, 0, none⟩ (.slice (some ⟨g2, 0, none⟩) (len + 1) cap2)) := by
  have hg : V.grownBy W1 (some g) := hg
  have hat : g2 = g ∨ g2 = V.heap.size := hat.imp (fun e => by have e : some g = some g2 := e; injection e with e; exact e.symm) id
  have hV := h.keep hb
  have hw := hb.size
  have ho : W1.ownsRow 0 36 10 (.slice (some ⟨g2, 0, none⟩) (len + 1) cap2) (len + 1) ((M ++ [y]).flatMap encN) := by
    rw [List.flatMap_append, List.flatMap_cons, List.flatMap_nil, List.append_nil]
    exact ho
  refine ⟨rfl, g2, cap2, y, hyc, hV.add hy hyk (by rw [hyc]; rfl) (fun b off e _ => ?_) hg ho hat, ?_, hat.imp id (fun e => by omega), fun i x j u hx hu => ?_⟩
  · have h1 := hya b off e
    have h2 := h.plt
    exact ⟨h.fresh b h1, pw, by rw [h.prole]; decide, by omega⟩
  · exact ((Turn.of_below hb).grown hg (fun k e => .inr (by injection e with e; rw [← e, h.grole]; decide))).setCell (.inr (by rw [h.prole]; decide)) _ _
  · obtain ⟨a3, c3, e3, hr, _⟩ := SRow.of_own (fun z _ => encN_len z) h.hlen hold
    injection e3 with e4 _ _
    subst e4
    have hi : i < len := by rw [← h.hlen]; exact (List.getElem?_eq_some_iff.1 hx).1
    rcases hr.cells with h0 | ⟨b, off, ha, _, hc⟩
    · omega
    · injection ha with ha
      injection ha with e1 e2
      subst e1 e2
      have := hc i x j u hx hu
      rw [Nat.zero_add] at this
      refine (World.cell?_setCell_other _ _ _ _ (fun e => ?_)).trans this
      injection e with e _
      have h1 := h.prole
      have h2 := h.grole
      rw [e] at h1
      omega
set_option maxHeartbeats 8000000 in
set_option maxRecDepth 100000 in
theorem madd_any (w : World) (h : Wk ρ w pw g cap len m M v N) (hl1k : len ≤ 1000) (x : NodeD) (hx : NodeOk w x) (hsx : smallX x) :
    Calls Tryz.prog 138 #[ptrV pw, nodVal x] w (AddPost ρ w pw g len m M v N (aloneC x.core len)) := by
  have CA : Hid (∀ W, NodeOk W x → Calls Tryz.prog 64 #[nodVal x, .int .i64 len] W (AlonePost W x.core len)) := Lib.hid (fun W h => alone_any x len W h ⟨by omega, by omega⟩ hsx.1)
  have hxd : x.core.data.size ≤ 9223372036854775807 := hx.data
  have HW := Lib.hid h
  obtain ⟨w0, hw0, WK, NB, HB0⟩ : ∃ w0, w.alloc (nodB x) = w0 ∧ Hid (Wk ρ w0 pw g cap len m M v N) ∧ Hid (NBox w w0 w.heap.size x) ∧ Hid (Below w.heap.size w w0) := ⟨_, rfl, Lib.hid (h.keep (below_box _ _)), Lib.hid (NBox.one hx), Lib.hid (below_box _ _)⟩
  have HW0 := Lib.hid hw0
  have d0 := WK.out.c0
  have hl64 : (len : Int) + 1 ≤ 9223372036854775807 := by omega
  obtain ⟨i0, hi0, hz0, hz1, hz2⟩ := info_parts node_info
  clear h hx hsx hw0
  go_enter Tryz.func138, Tryz.ntmps138
  go_upto_region 1 with fail
  rw [HW0.out]
  go_upto_region 2 with fail
  obtain ⟨-, x0, x1, x2, x3, x4, x5, x6, x7, x8, x9, -⟩ := NB.out
  go_region_law (first
    | (refine step_wpS rfl ?_; (go_simp; go_at_call 64; (refine (CA.out _ (NB.out.ok.below (Below.refl _ _).drew)).mono ?_); intro e w3 hp; obtain ⟨y, rfl, hyc, hyo, hb, hya, hyk⟩ := hp; have hb := (Below.refl _ _).drew.trans hb; have HY := Lib.hid hyo; have HYC := Lib.hid hyc; have HYA := Lib.hid hya; have HYK := Lib.hid hyk; have WK := Lib.hid (WK.out.keep hb); have d0 := WK.out.c0; have d0a := fun o => (WK.out.keep (below_box w3 o)).c0; have WK1 := Lib.hid (WK.out.keep (below_box w3 (nodB y))); have HY1 := Lib.hid (HY.out.below (below_box w3 (nodB y))); have HBV := Lib.hid (HB0.out.trans ((hb.trans ((below_box w3 (nodB y)).mono hb.size)).mono HB0.out.size)); have NW := Lib.hid (World.news_of_block (heap_alloc_new w3 (nodB y))); clear hb hyo hyc hya hyk))
    | (refine step_append_keep rfl (.tmp 17) (.tmp 21) 22 rfl 0 36 i0 _ 10 136 Tryz.underlying22 hi0 hz0 hz1 hz2 rfl (by decide) _ len (M.flatMap encN) rfl WK1.out.gown ⟨w3.heap.size, 0, none⟩ 1 1 (encN y) rfl rfl NW.out (encN_one y) (by decide) (by unfold maxLen; omega) (by omega) (Nat.zero_le _) ?_; intro g2 cap2 w4 hown1 hold hgrow hat hlt; have AD := Lib.hid (HW.out.addDone HBV.out HY1.out HYC.out HYK.out (fun b off e => Nat.le_trans HB0.out.size (HYA.out b off e)) hown1 hold hgrow hat); have sp := hgrow.block pw WK1.out.plt (fun e => (by have e : some pw = some g := e; injection e with e; have h1 := WK1.out.prole; have h2 := WK1.out.grole; rw [e] at h1; omega)); have d0 := (World.cell?_of_block (a := ⟨pw, 0, none⟩) sp).trans WK1.out.c0; have df := (World.frozen?_of_block (a := ⟨pw, 0, none⟩) sp).trans (WK1.out.pfree 0); clear hown1 hold hgrow hat hlt sp))
  all_goals go_wp2
  all_goals
    go_ret
    exact AD.out
end
end Go.Proofs.YtkfmengdffpcnaaGreatDoor
