/- Texts joined in build order: PrintReadOk. -/
import Derived.Test.YtnjoimedilonnaaGreatC44
namespace Go.Proofs.YtnjoimedilonnaaGreat
open Go.RowKit
theorem Rd.start {ρ : Nat → Nat} {W : World} {pw g cap len : Nat} {m : Int} {M : List NodeD} {v : Value} {N : List NoteD} (h : Wk ρ W pw g cap len m M v N) (hs : smallF M) {l : BL} {doc : Int} (hd : In64 doc) :
    Rd (upd ρ (some W.heap.size) 5) (W.alloc (.cells #[ptrV pw, .string (strB l), .int .i64 doc] 74)) W.heap.size pw g cap len m M v N l doc := by
  have hb := below_box W (.cells #[ptrV pw, .string (strB l), .int .i64 doc] 74)
  have hk := h.keep hb
  have hz : (W.alloc (.cells #[ptrV pw, .string (strB l), .int .i64 doc] 74)).heap.size = W.heap.size + 1 := by simp
  have hm := hk.markR (b := W.heap.size) 5 (by omega) (h.fresh _ (Nat.le_refl _)) (fun x hx b off he hp => by have := attr_block_lt (h.aok x hx) he hp; omega)
  have c : ∀ (j : Nat), (W.alloc (.cells #[ptrV pw, .string (strB l), .int .i64 doc] 74)).cell? ⟨W.heap.size, j, none⟩ = (#[ptrV pw, .string (strB l), .int .i64 doc] : Array Value)[j]? := fun j => cell_of_row _ W.heap.size j _ 74 (0, 0) (heap_alloc_new W _)
  exact ⟨hm, c 0, c 1, c 2, fun o => row_free (heap_alloc_new W _) o, by omega, by unfold upd; rw [if_pos rfl], hs, hd⟩
theorem small_coreP {L M : List NodeD} (h : smallF L) (hc : coreL M = coreL L) : smallF M := by
  have hl : M.length = L.length := by have := congrArg List.length hc; unfold coreL at this; simpa using this
  refine ⟨by rw [hl]; exact h.1, fun x hx => ?_⟩
  have hx2 : x.core ∈ coreL L := by rw [← hc]; unfold coreL; exact List.mem_map.2 ⟨x, hx, rfl⟩
  unfold coreL at hx2
  obtain ⟨y, hy, hyx⟩ := List.mem_map.1 hx2
  have := h.2 y hy
  unfold smallN at this ⊢
  rw [← hyx]
  exact this
set_option maxHeartbeats 4000000 in
set_option maxRecDepth 100000 in
theorem pread_ok (a : Option Addr) (len cap : Nat) (m : Int) (L : List NodeD) (dn : Nat) (s : BL) (F1 : List Core) (c : Core) (w : World) (h : NodeRow w a len cap L) (hm : In64 m) (hs : smallF L) (hk : rootZ m (coreL L) dn ≠ -1) (hc : (coreL L)[dn]? = some c) (hck : c.kind = 0) (hl : s.length ≤ 16384)
    {fu : Nat} (hr : readM dn fu .node s (coreL L) = some ([], F1)) (hri : rightF 400 F1 = true) (hF : (F1.length : Int) ≤ m) :
    Calls Tryz.prog 39 #[forV a len cap m, .int .i64 (dn : Int), .string (strB s)] w (WkFor w m F1 [.int .i64 0]) := by
  have hdn : dn < len := by
    have := (List.getElem?_eq_some_iff.1 hc).1
    rwa [coreL_len, h.hlen] at this
  have hdn64 : In64 (dn : Int) := in64_th (by have := hs.1; have := h.hlen; omega)
  have hl1k : len ≤ 1000 := by rw [← h.hlen]; exact hs.1
  have CK : Hid (∀ W, NodeRow W a len cap L → Calls Tryz.prog 50 #[forV a len cap m, .int .i64 (dn : Int)] W fun e w' => e = .returned (.bool true) ∧ Below W.heap.size W w') := Lib.hid (fun W h1 => by
    have := pknows_any a len cap m L dn W h1 hm hdn64 hs
    rwa [bne_iff_ne.2 hk] at this)
  have CB : Hid (∀ W, NodeRow W a len cap L → Calls Tryz.prog 51 #[forV a len cap m] W fun e w' => ∃ pw a2 cap2 M, e = .returned (ptrV pw) ∧ Begun W w' pw a2 len cap2 m M (coreL L)) := Lib.hid (fun W h1 => cbegin_any a len cap m L W h1 hs)
  have CN : Hid (∀ (ρ : Nat → Nat) (W : World) (pr pw g cap len : Nat) (M : List NodeD) (v : Value), Rd ρ W pr pw g cap len m M v [] s dn → coreL M = coreL L → Calls Tryz.prog 52 #[ptrV pr] W (ReadPost ρ W pr pw m [] dn [] F1)) := Lib.hid (fun ρ W pr pw g cap len M v h1 h2 => (reads_all pr pw m [] dn fu).1 ρ W g cap len M v s [] F1 h1 (by rw [h2]; exact hr))
  have CM : Hid (∀ (W : World) (a : Option Addr) (len cap : Nat) (M : List NodeD), NodeRow W a len cap M → smallF M → coreL M = F1 → Calls Tryz.prog 53 #[forV a len cap m] W fun e w' => e = .returned (.bool true) ∧ Below W.heap.size W w') := Lib.hid (fun W a len cap M h1 h2 h3 => by
    have := mightBe_any a len cap m M W h1 h2
    rwa [h3, hri] at this)
  have HSM := Lib.hid hs
  have hsz : (strB s).size = s.length := strB_size s
  have hslen : (s.length : Int) ≤ 16384 := by omega
  obtain ⟨w0, hw0, BX, RB, HB0⟩ : ∃ w0, (w.alloc (forB a len cap m)).alloc (.cells #[.slice none 0 0, .int .i64 0] 24) = w0 ∧ Hid (Box w w0 w.heap.size a len cap m L (coreL L)) ∧ Hid (Box2 w0 (w.heap.size + 1) (.slice none 0 0) (.int .i64 0)) ∧ Hid (w0.heap.size = w.heap.size + 2) := by
    refine ⟨_, rfl, Lib.hid ((Box.start h).keep (below_box _ _)), Lib.hid (Box2.newAt (by simp)), Lib.hid (by simp)⟩
  obtain ⟨bl, ol, x, ha, hbl, hx, hxa, -⟩ := BX.out.row.get hdn
  subst ha
  have hxc : x.core.kind = 0 := by
    have h1 := coreL_get hx
    rw [hc] at h1
    rw [← Option.some.inj h1]
    exact hck
  have HN0 : Hid (∀ W, Below w0.heap.size w0 W → W.cell? ⟨bl, ol + dn * 10, none⟩ = some (.int .i64 0)) := Lib.hid (fun W hb => by
    have := (hb.cell (p := ⟨bl, ol + dn * 10, none⟩) hbl).trans hxa.c0
    rwa [hxc] at this)
  have HF := Lib.hid hF
  have HW0 := Lib.hid hw0
  have HD64 := Lib.hid hdn64
  have z0 := BX.out.c0
  have z1 := BX.out.c1
  have hd64 : (len : Int) ≤ 9223372036854775807 := by omega
  obtain ⟨S, hS⟩ : ∃ S, strB s = S := ⟨_, rfl⟩
  rw [hS] at hsz ⊢
  have HS := Lib.hid hS
  clear h hm hs hk hc hck hl hr hri hF hw0 hbl hx hxa hxc hS
  go_enter Tryz.func39, Tryz.ntmps39
  go_upto_region 1 with fail
  rw [HW0.out]
  go_upto_region 5 with (go_at_call 50; (with_reducible refine (CK.out _ BX.out.row).mono ?_); rintro e w1 ⟨rfl, hb⟩; have BX1 := Lib.hid (BX.out.keep hb); have RB1 := Lib.hid (RB.out.keep hb); have HSZ := Lib.hid hb.size; have n0 := HN0.out _ hb; clear z0 z1 hb; have z0 := BX1.out.c0; have z1 := BX1.out.c1)
  have hlp : 0 < len := by omega
  go_upto_region 6 with (go_at_call 51; (with_reducible refine (CB.out _ BX1.out.row).mono ?_); rintro e w2 ⟨pw, a2, cap2, M, rfl, hB⟩; have HB := Lib.hid hB; clear hB z0 z1 n0)
  obtain ⟨g, ρ, rfl, hWk, hρ⟩ := HB.out.wk hlp
  have hs2 := HB.out.below.size
  obtain ⟨w3, pr, ρ0, hw3, hpr, HR3, HL3, HG3⟩ : ∃ (w3 : World) (pr : Nat) (ρ0 : Nat → Nat), w2.alloc (.cells #[ptrV pw, .string (strB s), .int .i64 (dn : Int)] 74) = w3 ∧ w2.heap.size = pr ∧ Hid (Rd ρ0 w3 pr pw g cap2 len m M (.slice none 0 0) [] s dn) ∧ Hid (∀ k, k < w1.heap.size → ρ0 k = 0) ∧ Hid (Below w1.heap.size w1 w3) :=
    ⟨_, _, _, rfl, rfl, Lib.hid (Rd.start hWk (small_coreP HSM.out HB.out.core) HD64.out), Lib.hid (upd_low hρ hs2), Lib.hid (HB.out.below.trans ((below_box w2 _).mono hs2))⟩
  rw [HS.out] at hw3
  rw [hw3, hpr]
  have HPR : Hid (w1.heap.size ≤ pr) := Lib.hid (by omega)
  have HCM := Lib.hid HB.out.core
  have BX3 := Lib.hid (BX1.out.keep HG3.out)
  have RB3 := Lib.hid (RB1.out.keep HG3.out)
  have hw1 := HSZ.out
  have hw0 := HB0.out
  have hs3 := HG3.out.size
  clear hw3 hpr hWk hρ HB
  have HOLD : Hid (∀ (ρ4 : Nat → Nat) (W : World), Gone pr ρ0 ρ4 w3 W → Below w1.heap.size w1 W ∧ ∀ k, k < w1.heap.size → ρ4 k = 0) := Lib.hid (fun ρ4 W hg => ⟨⟨hg.os.trans HG3.out.os, hg.tape.trans HG3.out.tape, hg.output.trans HG3.out.output, by have := hg.size; omega, fun k hk => (hg.quiet k (by omega) (by have := HPR.out; omega) (.inl (HL3.out k hk))).trans (HG3.out.block k hk)⟩, fun k hk => (hg.old k (by omega) (.inl (HL3.out k hk))).trans (HL3.out k hk)⟩)
  have CN3 := Lib.hid (CN.out _ _ _ _ _ _ _ _ _ HR3.out HCM.out)
  clear CN CB CK
  go_upto_region 8 with (first
    | (go_at_call 52; (with_reducible refine CN3.out.mono ?_); rintro e w4 ⟨rfl, ρ4, g4, cap4, len4, M4, v4, hR, hc4, hG⟩; have HR4 := Lib.hid hR; have HC4 := Lib.hid hc4; have HO := Lib.hid (HOLD.out _ _ hG); have r0 := hR.r0; have r1 : w4.cell? ⟨pr, 1, none⟩ = some (.string ⟨#[]⟩) := hR.r1; have p0 := hR.wk.c0; have p1 := hR.wk.c1; clear hR hc4 hG)
    | (go_at_call 53; (with_reducible refine (CM.out _ _ _ _ _ HR4.out.wk.row HR4.out.small HC4.out).mono ?_); rintro e w5 ⟨rfl, hb⟩; have HR5 := Lib.hid (HR4.out.keep hb); have HB5 := Lib.hid (HO.out.1.trans (hb.mono HO.out.1.size)); clear r0 r1 p0 p1 hb; have r0 := HR5.out.r0; have p0 := HR5.out.wk.c0; have p1 := HR5.out.wk.c1))
  have hF4 : len4 = F1.length := by rw [← HC4.out, coreL_len, HR4.out.wk.hlen]
  have hle : ¬ (m < (len4 : Int)) := by have := HF.out; omega
  have hdec : decide (m < (len4 : Int)) = false := decide_eq_false hle
  clear hF4 hle
  have HBX5 : Hid (w5.cell? ⟨w.heap.size, 1, none⟩ = some (.int .i64 m) ∧ w5.cell? ⟨w.heap.size, 0, none⟩ = some (.slice (some ⟨bl, ol, none⟩) len cap)) := Lib.hid ⟨(HB5.out.cell (p := ⟨w.heap.size, 1, none⟩) BX1.out.lt).trans BX1.out.c1, (HB5.out.cell (p := ⟨w.heap.size, 0, none⟩) BX1.out.lt).trans BX1.out.c0⟩
  have HRB5 : Hid (Box2 w5 (w.heap.size + 1) (.slice none 0 0) (.int .i64 0)) := Lib.hid ⟨Nat.lt_of_lt_of_le RB1.out.lt HB5.out.size, (HB5.out.cell (p := ⟨w.heap.size + 1, 0, none⟩) RB1.out.lt).trans RB1.out.c0, (HB5.out.cell (p := ⟨w.heap.size + 1, 1, none⟩) RB1.out.lt).trans RB1.out.c1, (HB5.out.frozen (p := ⟨w.heap.size + 1, 0, none⟩) RB1.out.lt).trans RB1.out.f0, (HB5.out.frozen (p := ⟨w.heap.size + 1, 1, none⟩) RB1.out.lt).trans RB1.out.f1⟩
  have z1 := HBX5.out.1
  have z0 := HBX5.out.2
  have d0 := HRB5.out.c0
  have d1 := HRB5.out.c1
  have f0 := HRB5.out.f0
  have f1 := HRB5.out.f1
  have hlen4 : (len4 : Int) ≤ 9223372036854775807 := by
    have h1 := HR5.out.small.1
    have h2 := HR5.out.wk.hlen
    omega
  go_region_held3 (fun w' => w'.cell? ⟨pr, 0, none⟩ = some (ptrV pw) ∧ w'.cell? ⟨pw, 0, none⟩ = some (.slice (some ⟨g4, 0, none⟩) len4 cap4) ∧ w'.cell? ⟨w.heap.size, 1, none⟩ = some (.int .i64 m)) (go_keep) (fail)
  all_goals go_wp2
  all_goals
    have q0 : ((w5.setCell ⟨w.heap.size + 1, 0, none⟩ (.slice (some ⟨g4, 0, none⟩) len4 cap4)).setCell ⟨w.heap.size + 1, 1, none⟩ (.int .i64 m)).cell? ⟨w.heap.size + 1, 0, none⟩ = some (.slice (some ⟨g4, 0, none⟩) len4 cap4) := (World.cell?_setCell_other _ _ _ _ (fun e => by injection e with _ e; omega)).trans (World.cell?_setCell_same _ _ _ d0)
    have q1 : ((w5.setCell ⟨w.heap.size + 1, 0, none⟩ (.slice (some ⟨g4, 0, none⟩) len4 cap4)).setCell ⟨w.heap.size + 1, 1, none⟩ (.int .i64 m)).cell? ⟨w.heap.size + 1, 1, none⟩ = some (.int .i64 m) := World.cell?_setCell_same _ _ _ ((World.cell?_setCell_other _ _ _ _ (fun e => by injection e with _ e; omega)).trans d1)
    have hbw : w.heap.size + 1 < w1.heap.size := by omega
    have hWK := HR5.out.wk.stored2 hbw HB5.out.size HO.out.2 (.slice (some ⟨g4, 0, none⟩) len4 cap4) (.int .i64 m)
    have hBE : Below w.heap.size w (((w5.setCell ⟨w.heap.size + 1, 0, none⟩ (.slice (some ⟨g4, 0, none⟩) len4 cap4)).setCell ⟨w.heap.size + 1, 1, none⟩ (.int .i64 m)).drew) :=
      ((((BX1.out.below).trans (HB5.out.mono BX1.out.below.size)).setCell (p := ⟨w.heap.size + 1, 0, none⟩) (by show w.heap.size ≤ w.heap.size + 1; omega) _).setCell (p := ⟨w.heap.size + 1, 1, none⟩) (by show w.heap.size ≤ w.heap.size + 1; omega) _).drew
    refine bodyPost_ret (v := .tuple #[forV (some ⟨g4, 0, none⟩) len4 cap4 m, .int .i64 0]) ?_ rfl ⟨_, pw, g4, cap4, len4, M4, v4, rfl, hWK.keep ((Below.refl _ _).drew), HR5.out.small, HC4.out, hBE, fun k hk => ?_⟩
    · simp [results, Tryz.results39, go_sem, q0, q1]
    · unfold upd
      rw [if_neg (fun e => by injection e with e; omega)]
      exact HO.out.2 k (by omega)
end Go.Proofs.YtnjoimedilonnaaGreat
