/- Texts joined in build order: MoveBox OwnerRightMath Tied MoveUnset MoveToggle MoveAttrMath OwnerBackMath OwnerMovesMath. -/
import Derived.Test.YtkgbgnmmgmnnlaaGreatDoorA35
import Derived.Test.YtkgbgnmmgmnnlaaGreatDoorA04
import Derived.Test.YtkgbgnmmgmnnlaaGreatDoorA21
import Derived.Test.YtkgbgnmmgmnnlaaGreatDoorA22
import Derived.Test.YtkgbgnmmgmnnlaaGreatDoorA31
import Derived.Test.YtkgbgnmmgmnnlaaGreatDoorRows
import Derived.WalkKit
import Derived.ProofKit
import Derived.OpenShut
import Derived.ShutString
import Derived.ChangeOld
import Derived.ChangeSame
import Derived.ChangeVars
import Derived.JoinedOf
import Derived.RowKit
import Derived.RowKitTokens
import Derived.LaidLaws
import Derived.LaidHandle
import Derived.Stop.Joined
import Derived.Test.YtkgbgnmmgmnnlaaGreatDoorA38
import Derived.Test.YtkgbgnmmgmnnlaaGreatDoorA10
import Derived.Test.YtkgbgnmmgmnnlaaGreatDoorA15
namespace Go.Proofs.YtkgbgnmmgmnnlaaGreatDoor
open Go.RowKit
structure MBox (w W : World) (g : Nat) (a : Option Addr) (len cap : Nat) (m : Int) (L : List NodeD) (F : List Core) : Prop where
  box : Box w W g a len cap m L F
  free : ∀ o, W.frozen? ⟨g, o, none⟩ = false
  nt : ∀ j s, W.cell? ⟨g, j, none⟩ ≠ some (.string s)
theorem MBox.new {w W : World} {a : Option Addr} {len cap : Nat} {m : Int} {L : List NodeD} {F : List Core} (hb : Below w.heap.size w W) (h : NodeRow W a len cap L) (hc : coreL L = F) : MBox w (W.alloc (forB a len cap m)) W.heap.size a len cap m L F := by
  refine ⟨⟨h.below (below_box _ _), hc, hb.size, by simp, cell_of_row (W.alloc (forB a len cap m)) W.heap.size 0 _ 24 (0, 0) (heap_alloc_new W _), cell_of_row (W.alloc (forB a len cap m)) W.heap.size 1 _ 24 (0, 0) (heap_alloc_new W _), hb.alloc hb.size _⟩, fun o => row_free (heap_alloc_new W _) o, fun j s => ?_⟩
  exact box_notext (Below.refl _ _)
theorem MBox.keep {w W W2 : World} {g : Nat} {a : Option Addr} {len cap : Nat} {m : Int} {L : List NodeD} {F : List Core} (h : MBox w W g a len cap m L F) (hb : Below W.heap.size W W2) : MBox w W2 g a len cap m L F :=
  ⟨h.box.keep hb, fun o => (hb.frozen (p := ⟨g, o, none⟩) h.box.lt).trans (h.free o), fun j s => by rw [hb.cell (p := ⟨g, j, none⟩) h.box.lt]; exact h.nt j s⟩
theorem MBox.put {w W : World} {g : Nat} {a a2 : Option Addr} {len cap len2 cap2 : Nat} {m m2 : Int} {L L2 : List NodeD} {F F2 : List Core} (h : MBox w W g a len cap m L F) (hr : NodeRow ((W.setCell ⟨g, 0, none⟩ (.slice a2 len2 cap2)).setCell ⟨g, 1, none⟩ (.int .i64 m2)) a2 len2 cap2 L2) (hc : coreL L2 = F2) :
    MBox w ((W.setCell ⟨g, 0, none⟩ (.slice a2 len2 cap2)).setCell ⟨g, 1, none⟩ (.int .i64 m2)) g a2 len2 cap2 m2 L2 F2 := by
  have n1 := notext_set (o := 0) (u := .slice a2 len2 cap2) h.nt h.box.c0 (fun s e => by cases e)
  have c1 : (W.setCell ⟨g, 0, none⟩ (.slice a2 len2 cap2)).cell? ⟨g, 1, none⟩ = some (.int .i64 m) := (World.cell?_setCell_other _ _ _ _ (fun e => by injection e with _ e; omega)).trans h.box.c1
  refine ⟨⟨hr, hc, h.box.low, by simpa [World.setCell] using h.box.lt, ?_, World.cell?_setCell_same _ _ _ c1, (h.box.below.setCell (p := ⟨g, 0, none⟩) h.box.low _).setCell (p := ⟨g, 1, none⟩) h.box.low _⟩, fun o => by rw [World.frozen?_setCell, World.frozen?_setCell]; exact h.free o, notext_set n1 c1 (fun s e => by cases e)⟩
  exact (World.cell?_setCell_other _ _ _ _ (fun e => by injection e with _ e; omega)).trans (World.cell?_setCell_same _ _ _ h.box.c0)
theorem MBox.set {w W : World} {g : Nat} {a a2 : Option Addr} {len cap len2 cap2 : Nat} {m m2 : Int} {L L2 : List NodeD} {F F2 : List Core} (h : MBox w W g a len cap m L F) (h2 : NodeRow W a2 len2 cap2 L2) (hc : coreL L2 = F2) (hk : ∀ x ∈ L2, x.core.kids = [] ∧ x.core.attrs = []) :
    MBox w ((W.setCell ⟨g, 0, none⟩ (.slice a2 len2 cap2)).setCell ⟨g, 1, none⟩ (.int .i64 m2)) g a2 len2 cap2 m2 L2 F2 :=
  h.put ((h2.setBox h.nt hk _).setBox (notext_set (o := 0) (u := .slice a2 len2 cap2) h.nt h.box.c0 (fun s e => by cases e)) hk _) hc
theorem MBox.mv {w W W2 : World} {g : Nat} {a a2 va : Option Addr} {len cap len2 cap2 : Nat} {m m2 : Int} {L L2 : List NodeD} {F F2 : List Core} (h : MBox w W g a len cap m L F) (hb : Below W.heap.size W W2) (h2 : NodeRow W2 a2 len2 cap2 L2) (hc : coreL L2 = F2) (hn : MvNew W.heap.size a2 va L2) :
    MBox w ((W2.setCell ⟨g, 0, none⟩ (.slice a2 len2 cap2)).setCell ⟨g, 1, none⟩ (.int .i64 m2)) g a2 len2 cap2 m2 L2 F2 :=
  (h.keep hb).put ((h2.far (hn g h.box.lt).1 (hn g h.box.lt).2.1 0 _).far (hn g h.box.lt).1 (hn g h.box.lt).2.1 1 _) hc
theorem NoteRow.far {W : World} {a : Option Addr} {len cap q : Nat} {N : List NoteD} (h : NoteRow W a len cap N) (ha : ∀ b off, a = some ⟨b, off, none⟩ → b ≠ q) (o : Nat) (u : Value) : NoteRow (W.setCell ⟨q, o, none⟩ u) a len cap N :=
  ⟨h.row.keep (by simp [World.setCell]) (fun b off he _ o' => World.cell?_setCell_other _ _ _ _ (fun e => by injection e with e _; exact ha b off he e.symm)), h.ok, h.hnil⟩
theorem NoteRow.one {W : World} {a : Option Addr} {len cap : Nat} {x : NoteD} (h : NoteRow W a len cap [x]) : len = 1 ∧ ∃ b off, a = some ⟨b, off, none⟩ ∧ b < W.heap.size ∧ ∀ j v, (encO x)[j]? = some v → W.cell? ⟨b, off + j, none⟩ = some v := by
  have hl : 1 = len := h.row.hlen
  subst hl
  obtain ⟨b, off, y, h1, h2, h3, _, h5⟩ := h.row.get (k := 0) (by decide)
  obtain rfl : x = y := Option.some.inj h3
  exact ⟨rfl, b, off, h1, h2, fun j v hv => by have := h5 j v hv; rwa [Nat.zero_mul, Nat.add_zero] at this⟩
theorem mvSmall {L : List NodeD} {F : List Core} (h : coreL L = F) (hd : decide (F.length ≤ 1000 ∧ ∀ c ∈ F, c.kids.length ≤ 1000 ∧ c.attrs.length ≤ 1000 ∧ c.name.size ≤ 1000) = true) : smallF L := by
  have hd := of_decide_eq_true hd
  refine ⟨by rw [← coreL_len, h]; exact hd.1, fun x hx => ?_⟩
  have hm : x.core ∈ F := by rw [← h]; exact List.mem_map.2 ⟨x, hx, rfl⟩
  exact hd.2 _ hm
end Go.Proofs.YtkgbgnmmgmnnlaaGreatDoor
namespace Go.Proofs.YtkgbgnmmgmnnlaaGreatDoor
open Go.RowKit
theorem nearN_form {F : List Core} : ∀ (f i p : Nat), nearN F f i = (p : Int) → formB F p = true
  | 0, _, _, h => by unfold nearN at h; omega
  | f + 1, i, p, h => by
    unfold nearN at h
    cases hp : parF F i with
    | none => rw [hp] at h; exact absurd h (by show ¬ (-1 : Int) = p; omega)
    | some q =>
      rw [hp] at h
      dsimp only at h
      by_cases hf : formB F q = true
      · rw [if_pos hf] at h
        obtain rfl : q = p := by omega
        exact hf
      · rw [if_neg hf] at h
        exact nearN_form f q p h
theorem pick_form {F : List Core} {t : List Nat} {v : List UInt8} {p : Nat} (h : pickF F t v = (p : Int)) : formB F p = true ∧ p ∈ t ∧ idF F p = v ∧ v ≠ [] := by
  unfold pickF at h
  by_cases e : v = []
  · rw [if_pos e] at h; omega
  · rw [if_neg e] at h
    cases hf : t.find? (fun k => idF F k == v) with
    | none => rw [hf] at h; exact absurd h (by show ¬ (-1 : Int) = p; omega)
    | some k =>
      rw [hf] at h
      dsimp only at h
      by_cases hq : formB F k = true
      · rw [if_pos hq] at h
        obtain rfl : k = p := by omega
        have h2 := List.find?_some (p := fun k => idF F k == v) hf
        exact ⟨hq, List.mem_of_find?_eq_some hf, beq_iff_eq.1 h2, e⟩
      · rw [if_neg hq] at h; omega
theorem own_form {F : List Core} {n p : Nat} (h : ownF F n = (p : Int)) : formB F p = true := by
  unfold ownF at h
  cases hx : F[n]? with
  | none => rw [hx] at h; exact absurd h (by show ¬ (-1 : Int) = p; omega)
  | some x =>
    rw [hx] at h
    dsimp only at h
    unfold ownC at h
    by_cases hk : x.kind = 1
    · rw [if_pos hk] at h
      by_cases hc : (asksC x && linkF F n) = true
      · rw [if_pos hc] at h
        exact (pick_form h).1
      · rw [if_neg hc] at h
        exact nearN_form _ _ _ h
    · rw [if_neg hk] at h; omega
theorem form_kind {m : Int} {F : List Core} (h : rightF m F = true) {n : Nat} {x : Core} (hx : F[n]? = some x) (hf : formC x = true) : x.kind = 1 := by
  have h1 := (nodeOk_iff.1 (((rightF_iff m F).1 h).2.1 n x hx)).2.2.2.2.2
  unfold textOk at h1
  by_cases hk : x.kind = 1
  · exact hk
  · rw [if_neg hk] at h1
    simp only [Bool.and_eq_true] at h1
    unfold formC at hf
    have e1 := beq_iff_eq.1 h1.1.1.1
    rw [e1] at hf
    cases hf
theorem mem_nil {m : Int} {F : List Core} (h : rightF m F = true) {n : Nat} {x : Core} (hx : F[n]? = some x) (hf : (decide (x.kind = 1) && formC x) = false) : memO F n = [] := by
  unfold memO
  rw [List.filter_eq_nil_iff]
  intro z _ hz
  have h1 := own_form (beq_iff_eq.1 hz)
  rw [formB_at hx] at h1
  rw [h1, decide_eq_true (form_kind h hx h1)] at hf
  cases hf
end Go.Proofs.YtkgbgnmmgmnnlaaGreatDoor
namespace Go.Proofs.YtkgbgnmmgmnnlaaGreatDoor
open Go.ChangeShapes Go.WideShapes Go.ChangeAt Go.RowKit
theorem tied_own : ownKnob Tryz.prog.godebug = none := by kernel_rfl
theorem tied_laidOut : laidOutB Tryz.prog = true := by kernel_rfl
theorem tied_et : Tryz.prog.globalNamed "errors.errorType" = some 0 := by kernel_rfl
theorem tied_rt : (Tryz.prog.cutTypes.find? (·.1 == "internal/reflectlite.rtype")).map (·.2) = some 156 := by kernel_rfl
theorem tied_oneRow : ((List.range Tryz.prog.types.size).filter fun t => Tryz.prog.rowNamed t [101, 114, 114, 111, 114]) = [74] := by kernel_rfl
abbrev errLaid : List (String × DataW Unit) := [("errors.errorType", Rows.laid_errors_errorType)]
theorem handle_of_laid {W : World} (h : laidMetH Tryz.prog errLaid W) : ErrVar W := by
  have h' : laidMet Tryz.prog [] W ∧ handlesMet Tryz.prog errLaid W := h
  obtain ⟨name, u, ty, e1, e2, e3, e4, e5⟩ := h'.2 _ (List.mem_singleton.2 rfl)
  have en : name = [101, 114, 114, 111, 114] := (Option.some.inj e1).symm
  subst en
  obtain rfl := Option.some.inj (tied_rt.symm.trans e2)
  have hm : ty ∈ (List.range Tryz.prog.types.size).filter fun t => Tryz.prog.rowNamed t [101, 114, 114, 111, 114] := List.mem_filter.2 ⟨List.mem_range.2 e3, e4⟩
  rw [tied_oneRow] at hm
  obtain rfl := List.mem_singleton.1 hm
  have hh : typeHandle Tryz.prog 74 = .pointer (some ⟨2, 74, none⟩) := by kernel_rfl
  rw [hh] at e5
  unfold ErrVar
  simpa using World.var?_cell tied_et e5 0
noncomputable def laidWorld (os : Os) : World :=
  let w0 := World.holding Tryz.prog os ⟨#[], #[], []⟩
  { w0 with heap := w0.heap.modify 0 fun
      | .cells _ t frozen => .cells #[.iface 156 (.agg #[.pointer (some ⟨2, 74, none⟩)])] t frozen
      | o => o }
theorem laidWorld_met (os : Os) (args : Array Value) : laidMetH Tryz.prog errLaid ((laidWorld os).forCall (fun _ _ => 0) ⟨#[], args, []⟩).memory :=
  laidMetH_of_parts (laidMet_nil _ _) (by kernel_rfl)
end Go.Proofs.YtkgbgnmmgmnnlaaGreatDoor
namespace Go.Proofs.YtkgbgnmmgmnnlaaGreatDoor
open Go.RowKit
def unsZ (m : Int) (F : List Core) (n : Int) (s : List UInt8) : List Core × List NoteD × Int :=
  if elemE m F n = 0 then (if fitE s = 0 then (if hasA (attrsK F n) s then chgZ F n s (remA (attrsK F n) s) else (F, [], 0)) else (F, [], fitE s)) else (F, [], elemE m F n)
set_option maxHeartbeats 8000000 in
set_option maxRecDepth 100000 in
theorem munset_any (a : Option Addr) (len cap : Nat) (m : Int) (L : List NodeD) (n : Int) (s : ByteArray) (w : World) (h : NodeRow w a len cap L) (hm : In64 m) (hn : In64 n) (hsz : s.size ≤ maxLen) (hs : smallF L) (hg : ErrVar w) :
    Calls Tryz.prog 28 #[forV a len cap m, .int .i64 n, .string s] w (MvPost w m (unsZ m (coreL L) n s.toList)) := by
  have HCL : Hid ((coreL L).length = len) := Lib.hid (by rw [coreL_len, h.hlen])
  have hlen := h.len64
  have HS := Lib.hid hs
  have HSZ := Lib.hid hsz
  have CB : Hid (∀ W, NodeRow W a len cap L → Calls Tryz.prog 48 #[forV a len cap m] W fun e w' => ∃ pw a2 cap2 M, e = .returned (workV pw) ∧ Begun W w' pw a2 len cap2 m M (coreL L)) := Lib.hid (fun W h1 => mbegin_any a len cap m L W h1 hs)
  obtain ⟨E, hE⟩ : ∃ E, elemE m (coreL L) n = E := ⟨_, rfl⟩
  have CM : Hid (∀ W, NodeRow W a len cap L → Calls Tryz.prog 49 #[forV a len cap m, .int .i64 n] W fun e w' => e = .returned (.int .i64 E) ∧ Below W.heap.size W w') := Lib.hid (fun W h1 => by
    rw [← hE]
    exact melem_any a len cap m L n W h1 hm hn hs)
  obtain ⟨w0, hw0, TW, HB0⟩ : ∃ w0, (w.alloc (forB a len cap m)).alloc zeroFB = w0 ∧ Hid (Two w w0 a len cap m L) ∧ Hid (Below w.heap.size w w0) := ⟨_, rfl, Lib.hid (Two.start h), Lib.hid ((below_box _ _).trans ((below_box _ _).mono (by simp)))⟩
  have HG := Lib.hid (hg.keep HB0.out)
  have HW0 := Lib.hid hw0
  have z0 := TW.out.bx.c0
  have z1 := TW.out.bx.c1
  have HH := Lib.hid h
  clear h hm hn hg hw0 hsz
  by_cases h0 : E = 0
  · subst h0
    obtain ⟨k, rfl, hk, b, off, x, EI⟩ := elem_in HH.out hs hE
    have HK := Lib.hid hk
    have H1K : Hid (len ≤ 1000) := Lib.hid (by rw [← HH.out.hlen]; exact hs.1)
    have C4 := Lib.hid (stays EI.c4 EI.hb)
    have HEI := Lib.hid EI
    have hab := EI.ha
    subst hab
    have HAK := Lib.hid EI.is
    have HE := Lib.hid hE
    clear EI hE hs
    obtain ⟨E, hz⟩ : ∃ E, fitE s.toList = E := ⟨_, rfl⟩
    have CF : Hid (∀ W, Calls Tryz.prog 54 #[.string s] W fun e w' => e = .returned (.tuple #[.string (ofL (fitL s.toList)), .int .i64 E]) ∧ Below W.heap.size W w') := Lib.hid (fun W => by
      rw [← hz]
      exact fit_any s W HSZ.out)
    by_cases h0 : E = 0
    · subst h0
      obtain ⟨lA, hlA⟩ : ∃ lA, remA x.core.attrs s.toList = lA := ⟨_, rfl⟩
      have HLN : Hid (lA.length ≤ 1000) := Lib.hid (by rw [← hlA]; exact remA_len HEI.out.short)
      obtain ⟨q, hq⟩ : ∃ q, hasA x.core.attrs s.toList = q := ⟨_, rfl⟩
      have CA : Hid (∀ W, Below w.heap.size w W → Calls Tryz.prog 55 #[.slice x.aA x.aN x.aC, .string s] W (RemNew W lA q)) := Lib.hid (fun W hb => by
        rw [← hlA, ← hq]
        exact attrrem_any _ _ _ _ s W (HEI.out.row.below hb) HSZ.out HEI.out.short)
      cases q with
      | true =>
        have HQ : Hid (unsZ m (coreL L) k s.toList = chgZ (coreL L) k s.toList lA) := Lib.hid (by
          unfold unsZ
          rw [if_pos HE.out, if_pos hz, ← HAK.out, hq, if_pos rfl, hlA])
        clear hz hlA hq
        go_enter Tryz.func28, Tryz.ntmps28
        go_upto_region 1 with fail
        rw [HW0.out]
        go_upto_region 2 with (go_at_call 48; (with_reducible refine (CB.out _ TW.out.bx.row).mono ?_); rintro e w1 ⟨pw, a2, cap2, M, rfl, hB⟩; have BG := Lib.hid hB; have TW1 := Lib.hid (TW.out.keep hB.below); have z0 := TW1.out.bx.c0; have z1 := TW1.out.bx.c1; clear hB)
        (
          have HD0 := Lib.hid BG.out.held
          have HBW := Lib.hid (held_below w1 pw)
          obtain ⟨wh, hwh⟩ : ∃ wh, w1.alloc (wkB pw) = wh := ⟨_, rfl⟩
          rw [hwh] at HD0 HBW ⊢
          have TW1 := Lib.hid (TW1.out.keep HBW.out)
          clear BG z0 z1 hwh
          have BG := HD0
          clear HD0
          have z0 := TW1.out.bx.c0
          have z1 := TW1.out.bx.c1
          have zw := BG.out.wc)
        go_wp2_with (first
          | (go_at_call 49; (with_reducible refine (CM.out _ TW1.out.bx.row).mono ?_); rintro e w2 ⟨rfl, hb⟩; have BG := Lib.hid (BG.out.keep hb); have TW1 := Lib.hid (TW1.out.keep hb); have z0 := TW1.out.bx.c0; have z1 := TW1.out.bx.c1; clear hb)
          | (go_at_call 54; (with_reducible refine (CF.out _).mono ?_); rintro e w5 ⟨rfl, hb⟩; have BG := Lib.hid (BG.out.keep hb); have zw := BG.out.wc; have TW1 := Lib.hid (TW1.out.keep hb); have z0 := TW1.out.bx.c0; have z1 := TW1.out.bx.c1; have c4 := C4.out _ (HB0.out.trans (BG.out.below.mono HB0.out.size)); clear hb)
          | (go_at_call 55; obtain ⟨g, ρ, rfl, hwk, hρ, hwb⟩ := BG.out.wk (by omega); have HBC := Lib.hid BG.out.core; obtain ⟨y, hy⟩ : ∃ y, M[k]? = some y := ⟨_, List.getElem?_eq_getElem (by rw [hwk.hlen]; exact HK.out)⟩; have HY := Lib.hid hy; (with_reducible refine (CA.out _ (HB0.out.trans (BG.out.below.mono HB0.out.size))).mono ?_); rintro e w3 ⟨al, ln, lc, rfl, halr, hb, haln⟩; have ALR := Lib.hid halr; have ARF : Hid (∀ b off, al = some ⟨b, off, none⟩ → 0 < ln → ρ b = 0 ∧ g < b) := (Lib.hid (fun b off e _ => ⟨hwk.fresh b (haln b off e), Nat.lt_of_lt_of_le hwk.glt (haln b off e)⟩)); have HRO := Lib.hid hρ; have HWB := Lib.hid hwb; have W2 := Lib.hid (hwk.keep hb); have BG := Lib.hid (BG.out.keep hb); have zw := BG.out.wc; have TW1 := Lib.hid (TW1.out.keep hb); have z0 := TW1.out.bx.c0; have z1 := TW1.out.bx.c1; clear hb hwk hρ hwb halr haln hy)
          | (go_at_call 53; (refine (mchange_any _ W2.out k HK.out H1K.out y HY.out s HSZ.out al ln lc _ ALR.out ARF.out (by simp)).mono ?_); rintro e w4 ⟨rfl, ρ3, M3, v3, N3, hW3, hT3, hA3, hM3, hN3⟩; obtain ⟨va, vc, rfl, hNR⟩ := hW3.notes; have W3 := Lib.hid hW3; have EM3 := Lib.hid hM3; have EN3 := Lib.hid hN3; have HB3 := Lib.hid (BG.out.below.trans (hT3.below BG.out.below.size HRO.out)); have A3 : Hid (∀ k, k < w0.heap.size → ρ3 k = 0) := (Lib.hid (fun k hk => (hA3 k (Nat.lt_of_lt_of_le hk BG.out.below.size)).trans (HRO.out k hk))); have zw := (hT3.cell BG.out.wlt HWB.out).trans BG.out.wc; clear hW3 hT3 hA3 hM3 hN3 hNR)
          | (go_at_call 50; (refine (mended_any W3.out).mono ?_); rintro e w4 ⟨rfl, hb⟩; have HB4 := Lib.hid (HB3.out.trans (hb.mono HB3.out.size)); have HB34 := Lib.hid hb; have TW4 := Lib.hid (TW.out.keep HB4.out); have d0 := TW4.out.rb.c0; have d1 := TW4.out.rb.c1; have f0 := TW4.out.rb.f0; have f1 := TW4.out.rb.f1; clear hb))
        (
          obtain ⟨q0, q1⟩ := stored2 TW4.out.rb (.slice (some ⟨g, 0, none⟩) len cap2) (.int .i64 m)
          obtain ⟨ρ5, W5⟩ := (W3.out.keep HB34.out).stored (b := w.heap.size + 1) (B := w0.heap.size) TW.out.rb.lt HB4.out.size A3.out 0 1 (.slice (some ⟨g, 0, none⟩) len cap2) (.int .i64 m)
          obtain ⟨va', vc', hv', NR5⟩ := W5.notes
          injection hv' with e2 e3 e4
          subst e2 e4
          have HB5 := ((HB0.out.trans (HB4.out.mono HB0.out.size)).setCell (p := ⟨w.heap.size + 1, 0, none⟩) (by show w.heap.size ≤ w.heap.size + 1; omega) (.slice (some ⟨g, 0, none⟩) len cap2)).setCell (p := ⟨w.heap.size + 1, 1, none⟩) (by show w.heap.size ≤ w.heap.size + 1; omega) (.int .i64 m)
          have hcd := chg_done (s := s.toList) (l := lA) (al := al) (ln := ln) (lc := lc) HBC.out HY.out
          refine bodyPost_ret (v := .tuple #[forV (some ⟨g, 0, none⟩) len cap2 m, .slice va N3.length vc, .int .i64 0]) ?_ rfl ⟨some ⟨g, 0, none⟩, len, cap2, M3, va, N3.length, vc, by rw [HQ.out]; rfl, W5.row, by rw [HQ.out, EM3.out]; exact hcd.1, by rw [EM3.out]; exact small_setA (small_core HBC.out HS.out) HY.out _ _ _ _ HLN.out, by rw [HQ.out, ← hcd.2, ← EN3.out]; exact NR5, HB5, (W3.out.news A3.out).mono HB0.out.size⟩)
        simp [results, Tryz.results28, go_sem, q0, q1]
      | false =>
        obtain ⟨E, hE⟩ : ∃ E : Int, E = 0 := ⟨_, rfl⟩
        have HQ : Hid (unsZ m (coreL L) k s.toList = (coreL L, [], E)) := Lib.hid (by
          unfold unsZ
          rw [if_pos HE.out, if_pos hz, ← HAK.out, hq, if_neg (by decide), hE])
        clear hz hlA hq
        go_enter Tryz.func28, Tryz.ntmps28
        go_upto_region 1 with fail
        rw [HW0.out]
        go_upto_region 2 with (go_at_call 48; (with_reducible refine (CB.out _ TW.out.bx.row).mono ?_); rintro e w1 ⟨pw, a2, cap2, M, rfl, hB⟩; have BG := Lib.hid hB; have TW1 := Lib.hid (TW.out.keep hB.below); have z0 := TW1.out.bx.c0; have z1 := TW1.out.bx.c1; clear hB)
        (
          have HD0 := Lib.hid BG.out.held
          have HBW := Lib.hid (held_below w1 pw)
          obtain ⟨wh, hwh⟩ : ∃ wh, w1.alloc (wkB pw) = wh := ⟨_, rfl⟩
          rw [hwh] at HD0 HBW ⊢
          have TW1 := Lib.hid (TW1.out.keep HBW.out)
          clear BG z0 z1 hwh
          have BG := HD0
          clear HD0
          have z0 := TW1.out.bx.c0
          have z1 := TW1.out.bx.c1
          have zw := BG.out.wc)
        go_wp2_with (first
          | (go_at_call 49; (with_reducible refine (CM.out _ TW1.out.bx.row).mono ?_); rintro e w2 ⟨rfl, hb⟩; have BG := Lib.hid (BG.out.keep hb); have TW1 := Lib.hid (TW1.out.keep hb); have z0 := TW1.out.bx.c0; have z1 := TW1.out.bx.c1; clear hb)
          | (go_at_call 54; (with_reducible refine (CF.out _).mono ?_); rintro e w5 ⟨rfl, hb⟩; have BG := Lib.hid (BG.out.keep hb); have zw := BG.out.wc; have TW1 := Lib.hid (TW1.out.keep hb); have z0 := TW1.out.bx.c0; have z1 := TW1.out.bx.c1; have c4 := C4.out _ (HB0.out.trans (BG.out.below.mono HB0.out.size)); clear hb)
          | (go_at_call 55; (with_reducible refine (CA.out _ (HB0.out.trans (BG.out.below.mono HB0.out.size))).mono ?_); rintro e w3 ⟨al, ln, lc, rfl, -, hb, -⟩; have BG := Lib.hid (BG.out.keep hb); have zw := BG.out.wc; have TW1 := Lib.hid (TW1.out.keep hb); have z0 := TW1.out.bx.c0; have z1 := TW1.out.bx.c1; clear hb)
          | (go_at_call 50; (refine (mend_any _ pw a2 none len cap2 0 0 m _ 0 BG.out.c0 BG.out.c1 BG.out.c2 BG.out.lt (fun W _ => mwhyNil_any W)).mono ?_); rintro e w4 ⟨rfl, hb⟩; have BG4 := Lib.hid (BG.out.keep hb); have TW4 := Lib.hid (TW.out.keep BG4.out.below); have d0 := TW4.out.rb.c0; have d1 := TW4.out.rb.c1; have f0 := TW4.out.rb.f0; have f1 := TW4.out.rb.f1; clear hb))
        (
          obtain ⟨q0, q1⟩ := stored2 TW4.out.rb (.slice a2 len cap2) (.int .i64 m)
          have hlt0 := TW.out.rb.lt
          have R5 := (BG4.out.row.far (q := w.heap.size + 1) (fun b off e => by have := BG4.out.rlo b off e; omega) (fun x hx => (BG4.out.new x hx).away hlt0) 0 (.slice a2 len cap2)).far (q := w.heap.size + 1) (fun b off e => by have := BG4.out.rlo b off e; omega) (fun x hx => (BG4.out.new x hx).away hlt0) 1 (.int .i64 m)
          have HB5 := ((HB0.out.trans (BG4.out.below.mono HB0.out.size)).setCell (p := ⟨w.heap.size + 1, 0, none⟩) (by show w.heap.size ≤ w.heap.size + 1; omega) (.slice a2 len cap2)).setCell (p := ⟨w.heap.size + 1, 1, none⟩) (by show w.heap.size ≤ w.heap.size + 1; omega) (.int .i64 m)
          refine bodyPost_ret (v := .tuple #[forV a2 len cap2 m, .slice none 0 0, .int .i64 E]) ?_ rfl ⟨a2, len, cap2, M, none, 0, 0, by rw [HQ.out], R5, by rw [HQ.out, BG4.out.core], small_core BG4.out.core HS.out, by rw [HQ.out]; exact NoteRow.nil _, HB5, fun k hk => ⟨fun b off e e2 => (by have := BG4.out.rlo b off e; have := HB0.out.size; omega), fun x hx => (BG4.out.new x hx).away (Nat.lt_of_lt_of_le hk HB0.out.size), fun b off e => (by cases e)⟩⟩)
        simp [results, Tryz.results28, go_sem, q0, q1, hE]
    · have HQ : Hid (unsZ m (coreL L) k s.toList = (coreL L, [], E)) := Lib.hid (by
        unfold unsZ
        rw [if_pos HE.out, hz, if_neg h0])
      have e1 : (E != 0) = true := bne_iff_ne.2 h0
      clear hz h0
      go_enter Tryz.func28, Tryz.ntmps28
      go_upto_region 1 with fail
      rw [HW0.out]
      go_upto_region 2 with (go_at_call 48; (with_reducible refine (CB.out _ TW.out.bx.row).mono ?_); rintro e w1 ⟨pw, a2, cap2, M, rfl, hB⟩; have BG := Lib.hid hB; have TW1 := Lib.hid (TW.out.keep hB.below); have z0 := TW1.out.bx.c0; have z1 := TW1.out.bx.c1; clear hB)
      (
        have HD0 := Lib.hid BG.out.held
        have HBW := Lib.hid (held_below w1 pw)
        obtain ⟨wh, hwh⟩ : ∃ wh, w1.alloc (wkB pw) = wh := ⟨_, rfl⟩
        rw [hwh] at HD0 HBW ⊢
        have TW1 := Lib.hid (TW1.out.keep HBW.out)
        clear BG z0 z1 hwh
        have BG := HD0
        clear HD0
        have z0 := TW1.out.bx.c0
        have z1 := TW1.out.bx.c1
        have zw := BG.out.wc)
      go_upto_region 7 with (first
        | (go_at_call 49; (with_reducible refine (CM.out _ TW1.out.bx.row).mono ?_); rintro e w2 ⟨rfl, hb⟩; have BG := Lib.hid (BG.out.keep hb); have TW1 := Lib.hid (TW1.out.keep hb); have z0 := TW1.out.bx.c0; have z1 := TW1.out.bx.c1; clear hb)
        | (go_at_call 54; (with_reducible refine (CF.out _).mono ?_); rintro e w5 ⟨rfl, hb⟩; have BG := Lib.hid (BG.out.keep hb); have zw := BG.out.wc; have TW1 := Lib.hid (TW1.out.keep hb); have z0 := TW1.out.bx.c0; have z1 := TW1.out.bx.c1; clear hb))
      (
        have BD := Lib.hid (BG.out.keep ((Below.refl _ _).drew))
        have zw := BG.out.wc
        go_region_with (first | (go_at_call 51; (refine (mrefuse_any _ _ _).mono ?_); rintro e w' ⟨rfl, rfl⟩) | (go_at_call 50; (refine (mrefused_any BD.out (HG.out.keep BD.out.below) _ _).mono ?_); rintro e w4 ⟨rfl, hb⟩; have BG4 := Lib.hid (BD.out.keep hb); have TW4 := Lib.hid (TW.out.keep BG4.out.below); have d0 := TW4.out.rb.c0; have d1 := TW4.out.rb.c1; have f0 := TW4.out.rb.f0; have f1 := TW4.out.rb.f1; clear hb))
        all_goals go_wp2)
      all_goals (
                  obtain ⟨q0, q1⟩ := stored2 TW4.out.rb (.slice a2 len cap2) (.int .i64 m)
                  have hlt0 := TW.out.rb.lt
                  have R5 := (BG4.out.row.far (q := w.heap.size + 1) (fun b off e => by have := BG4.out.rlo b off e; omega) (fun x hx => (BG4.out.new x hx).away hlt0) 0 (.slice a2 len cap2)).far (q := w.heap.size + 1) (fun b off e => by have := BG4.out.rlo b off e; omega) (fun x hx => (BG4.out.new x hx).away hlt0) 1 (.int .i64 m)
                  have HB5 := ((HB0.out.trans (BG4.out.below.mono HB0.out.size)).setCell (p := ⟨w.heap.size + 1, 0, none⟩) (by show w.heap.size ≤ w.heap.size + 1; omega) (.slice a2 len cap2)).setCell (p := ⟨w.heap.size + 1, 1, none⟩) (by show w.heap.size ≤ w.heap.size + 1; omega) (.int .i64 m)
                  refine bodyPost_ret (v := .tuple #[forV a2 len cap2 m, .slice none 0 0, .int .i64 E]) ?_ rfl ⟨a2, len, cap2, M, none, 0, 0, by rw [HQ.out], R5, by rw [HQ.out, BG4.out.core], small_core BG4.out.core HS.out, by rw [HQ.out]; exact NoteRow.nil _, HB5, fun k hk => ⟨fun b off e e2 => (by have := BG4.out.rlo b off e; have := HB0.out.size; omega), fun x hx => (BG4.out.new x hx).away (Nat.lt_of_lt_of_le hk HB0.out.size), fun b off e => (by cases e)⟩⟩)
      all_goals simp [results, Tryz.results28, go_sem, q0, q1]
  · have HQ : Hid (unsZ m (coreL L) n s.toList = (coreL L, [], E)) := Lib.hid (by
      unfold unsZ
      rw [hE, if_neg h0])
    have e1 : (E != 0) = true := bne_iff_ne.2 h0
    clear hE h0 hs
    go_enter Tryz.func28, Tryz.ntmps28
    go_upto_region 1 with fail
    rw [HW0.out]
    go_upto_region 2 with (go_at_call 48; (with_reducible refine (CB.out _ TW.out.bx.row).mono ?_); rintro e w1 ⟨pw, a2, cap2, M, rfl, hB⟩; have BG := Lib.hid hB; have TW1 := Lib.hid (TW.out.keep hB.below); have z0 := TW1.out.bx.c0; have z1 := TW1.out.bx.c1; clear hB)
    (
      have HD0 := Lib.hid BG.out.held
      have HBW := Lib.hid (held_below w1 pw)
      obtain ⟨wh, hwh⟩ : ∃ wh, w1.alloc (wkB pw) = wh := ⟨_, rfl⟩
      rw [hwh] at HD0 HBW ⊢
      have TW1 := Lib.hid (TW1.out.keep HBW.out)
      clear BG z0 z1 hwh
      have BG := HD0
      clear HD0
      have z0 := TW1.out.bx.c0
      have z1 := TW1.out.bx.c1
      have zw := BG.out.wc)
    go_upto_region 4 with (first
      | (go_at_call 49; (with_reducible refine (CM.out _ TW1.out.bx.row).mono ?_); rintro e w2 ⟨rfl, hb⟩; have BG := Lib.hid (BG.out.keep hb); have TW1 := Lib.hid (TW1.out.keep hb); have z0 := TW1.out.bx.c0; have z1 := TW1.out.bx.c1; clear hb))
    (
      have BD := Lib.hid (BG.out.keep ((Below.refl _ _).drew))
      have zw := BG.out.wc
      go_region_with (first | (go_at_call 51; (refine (mrefuse_any _ _ _).mono ?_); rintro e w' ⟨rfl, rfl⟩) | (go_at_call 50; (refine (mrefused_any BD.out (HG.out.keep BD.out.below) _ _).mono ?_); rintro e w4 ⟨rfl, hb⟩; have BG4 := Lib.hid (BD.out.keep hb); have TW4 := Lib.hid (TW.out.keep BG4.out.below); have d0 := TW4.out.rb.c0; have d1 := TW4.out.rb.c1; have f0 := TW4.out.rb.f0; have f1 := TW4.out.rb.f1; clear hb))
      all_goals go_wp2)
    all_goals (
                obtain ⟨q0, q1⟩ := stored2 TW4.out.rb (.slice a2 len cap2) (.int .i64 m)
                have hlt0 := TW.out.rb.lt
                have R5 := (BG4.out.row.far (q := w.heap.size + 1) (fun b off e => by have := BG4.out.rlo b off e; omega) (fun x hx => (BG4.out.new x hx).away hlt0) 0 (.slice a2 len cap2)).far (q := w.heap.size + 1) (fun b off e => by have := BG4.out.rlo b off e; omega) (fun x hx => (BG4.out.new x hx).away hlt0) 1 (.int .i64 m)
                have HB5 := ((HB0.out.trans (BG4.out.below.mono HB0.out.size)).setCell (p := ⟨w.heap.size + 1, 0, none⟩) (by show w.heap.size ≤ w.heap.size + 1; omega) (.slice a2 len cap2)).setCell (p := ⟨w.heap.size + 1, 1, none⟩) (by show w.heap.size ≤ w.heap.size + 1; omega) (.int .i64 m)
                refine bodyPost_ret (v := .tuple #[forV a2 len cap2 m, .slice none 0 0, .int .i64 E]) ?_ rfl ⟨a2, len, cap2, M, none, 0, 0, by rw [HQ.out], R5, by rw [HQ.out, BG4.out.core], small_core BG4.out.core HS.out, by rw [HQ.out]; exact NoteRow.nil _, HB5, fun k hk => ⟨fun b off e e2 => (by have := BG4.out.rlo b off e; have := HB0.out.size; omega), fun x hx => (BG4.out.new x hx).away (Nat.lt_of_lt_of_le hk HB0.out.size), fun b off e => (by cases e)⟩⟩)
    all_goals simp [results, Tryz.results28, go_sem, q0, q1]
end Go.Proofs.YtkgbgnmmgmnnlaaGreatDoor
namespace Go.Proofs.YtkgbgnmmgmnnlaaGreatDoor
open Go.RowKit
end Go.Proofs.YtkgbgnmmgmnnlaaGreatDoor
namespace Go.Proofs.YtkgbgnmmgmnnlaaGreatDoor
open Go.RowKit
structure Worn (c d : Core) : Prop where
  kind : d.kind = c.kind
  parent : d.parent = c.parent
  kids : d.kids = c.kids
  host : d.host = c.host
  under : d.under = c.under
  doc : d.doc = c.doc
theorem Worn.refl (c : Core) : Worn c c := ⟨rfl, rfl, rfl, rfl, rfl, rfl⟩
theorem chg_at {F : List Core} {n : Nat} {l : AL} {j : Nat} {c : Core} (hc : F[j]? = some c) : (chgF F n l)[j]? = some (if j = n then withAC c l else c) := by
  unfold chgF
  cases hx : F[n]? with
  | none =>
    have h1 := List.getElem?_eq_none_iff.1 hx
    have h2 := (List.getElem?_eq_some_iff.1 hc).1
    rw [if_neg (by omega), hc]
  | some x =>
    dsimp only
    by_cases e : j = n
    · subst e
      rw [List.getElem?_set_self (List.getElem?_eq_some_iff.1 hc).1, if_pos rfl, Option.some.inj (hx.symm.trans hc)]
    · rw [List.getElem?_set_ne (fun e2 => e e2.symm), if_neg e, hc]
theorem chg_len {F : List Core} {n : Nat} {l : AL} : (chgF F n l).length = F.length := by
  unfold chgF
  split
  · rw [List.length_set]
  · rfl
theorem chg_worn {F : List Core} {n : Nat} {l : AL} {k : Int} {c : Core} (hc : getC F k = some c) : ∃ d, getC (chgF F n l) k = some d ∧ Worn c d := by
  obtain ⟨h1, h2, h3⟩ := getC_some hc
  refine ⟨if k.toNat = n then withAC c l else c, ?_, ?_⟩
  · unfold getC
    rw [if_pos h1]
    exact chg_at h3
  · split
    · exact ⟨rfl, rfl, rfl, rfl, rfl, rfl⟩
    · exact Worn.refl c
theorem chg_kindK {F : List Core} {n : Nat} {l : AL} (k : Int) : kindK (chgF F n l) k = kindK F k := by
  unfold kindK
  cases hc : getC F k with
  | some c =>
    obtain ⟨d, h1, h2⟩ := chg_worn (n := n) (l := l) hc
    rw [h1]
    exact h2.kind
  | none =>
    have : getC (chgF F n l) k = none := by
      unfold getC at hc ⊢
      by_cases h0 : 0 ≤ k
      · rw [if_pos h0] at hc ⊢
        have := List.getElem?_eq_none_iff.1 hc
        exact List.getElem?_eq_none (by rw [chg_len]; exact this)
      · rw [if_neg h0]
    rw [this]
theorem chg_next {F : List Core} {n : Nat} {l : AL} {j : Nat} {c : Core} (hc : F[j]? = some c) : nextUp (chgF F n l) (j : Int) = nextUp F j := by
  have hg : getC F (j : Int) = some c := by rw [getC_nat, hc]
  obtain ⟨d, h1, h2⟩ := chg_worn (n := n) (l := l) hg
  unfold nextUp
  rw [hg, h1]
  dsimp only
  rw [h2.parent, h2.host]
theorem chg_node {F : List Core} {n : Nat} {l : AL} (hl : rightA l = true) (hk : kindK F n = 1) {i : Nat} {c : Core} (h : NodeP F i c) (hc : F[i]? = some c) : NodeP (chgF F n l) i (if i = n then withAC c l else c) := by
  obtain ⟨d, hd, w⟩ : ∃ d, (if i = n then withAC c l else c) = d ∧ Worn c d := by
    refine ⟨_, rfl, ?_⟩
    split
    · exact ⟨rfl, rfl, rfl, rfl, rfl, rfl⟩
    · exact Worn.refl c
  have ht : textOk d = true := by
    rw [← hd]
    by_cases e : i = n
    · subst e
      rw [if_pos rfl]
      have h1 := h.text
      have h2 : c.kind = 1 := by rw [kindK_at hc] at hk; exact hk
      unfold textOk at h1 ⊢
      rw [if_pos h2] at h1
      rw [if_pos (show (withAC c l).kind = 1 from h2)]
      simp only [Bool.and_eq_true] at h1 ⊢
      exact ⟨h1.1, hl⟩
    · rw [if_neg e]; exact h.text
  rw [hd]
  refine ⟨by rw [w.kind]; exact h.kind, ?_, by rw [w.kind, w.doc]; exact h.own, ?_, by rw [w.kids]; exact h.once, fun k hk2 => ?_, by rw [w.kind, w.kids]; exact h.leaf, fun e => ?_, fun e => ?_, by rw [w.kind, w.host]; exact h.free, ?_, ht⟩
  · obtain ⟨u, h1, h2⟩ := h.doc
    obtain ⟨u2, h3, h4⟩ := chg_worn (n := n) (l := l) h1
    rw [w.doc]
    exact ⟨u2, h3, h4.kind.trans h2⟩
  · rw [w.parent, w.kind]
    rcases h.par with e | ⟨h1, u, h2, h3, h5⟩
    · exact .inl e
    · obtain ⟨u2, h6, h7⟩ := chg_worn (n := n) (l := l) h2
      exact .inr ⟨h1, u2, h6, by rw [h7.kind]; exact h3, by rw [h7.kids]; exact h5⟩
  · rw [w.kids] at hk2
    obtain ⟨u, h1, h2, h3, h5⟩ := h.kids k hk2
    obtain ⟨u2, h6, h7⟩ := chg_worn (n := n) (l := l) h1
    exact ⟨u2, h6, by rw [h7.kind]; exact h2, h7.parent.trans h3, by rw [h7.doc, w.doc]; exact h5⟩
  · rw [w.kind] at e
    obtain ⟨h1, h2⟩ := h.root e
    rw [w.kids]
    exact ⟨h1, fun k hk2 => by rw [chg_kindK]; exact h2 k hk2⟩
  · rw [w.kind] at e
    obtain ⟨u, h1, h2, h3, h5⟩ := h.host e
    obtain ⟨u2, h6, h7⟩ := chg_worn (n := n) (l := l) h1
    rw [w.host]
    exact ⟨u2, h6, h7.kind.trans h2, h7.under.trans h3, by rw [h7.doc, w.doc]; exact h5⟩
  · rw [w.under, w.kind]
    rcases h.under with e | ⟨h1, u, h2, h3, h5⟩
    · exact .inl e
    · obtain ⟨u2, h6, h7⟩ := chg_worn (n := n) (l := l) h2
      exact .inr ⟨h1, u2, h6, h7.kind.trans h3, h7.host.trans h5⟩
theorem chg_right {m : Int} {F : List Core} (h : rightF m F = true) {n : Nat} {l : AL} (hk : kindK F n = 1) (hl : rightA l = true) : rightF m (chgF F n l) = true := by
  obtain ⟨⟨h1, h2, h3, h4⟩, h5, _⟩ := (rightF_iff m F).1 h
  have hb : ∀ (i : Nat) d, (chgF F n l)[i]? = some d → ∃ c, F[i]? = some c ∧ d = if i = n then withAC c l else c := fun i d hd => by
    have hi := (List.getElem?_eq_some_iff.1 hd).1
    rw [chg_len] at hi
    have hc : F[i]? = some F[i] := List.getElem?_eq_getElem hi
    have h6 := chg_at (n := n) (l := l) hc
    exact ⟨_, hc, Option.some.inj (hd.symm.trans h6)⟩
  refine right_of h1 h2 (by rw [chg_len]; exact h3) ?_ (fun i d hd => ?_) (rankF F) (fun i hi => ?_)
  · have hl0 : 0 < F.length := right_len h
    have hc : F[0]? = some F[0] := List.getElem?_eq_getElem hl0
    have h6 := chg_at (n := n) (l := l) hc
    have h7 : headDoc F = (F[0].kind == 0) := by
      cases F with
      | nil => cases hl0
      | cons c r => rfl
    cases hG : chgF F n l with
    | nil => rw [hG] at h6; cases h6
    | cons c r =>
      rw [hG] at h6
      have h8 : c = if 0 = n then withAC F[0] l else F[0] := Option.some.inj h6
      show (c.kind == 0) = true
      rw [h8]
      rw [h7] at h4
      split
      · exact h4
      · exact h4
  · obtain ⟨c, hc, rfl⟩ := hb i d hd
    exact chg_node hl hk (right_node h hc) hc
  · rw [chg_len] at hi ⊢
    rw [chg_next (List.getElem?_eq_getElem hi)]
    exact rank_next h hi
end Go.Proofs.YtkgbgnmmgmnnlaaGreatDoor
namespace Go.Proofs.YtkgbgnmmgmnnlaaGreatDoor
open Go.RowKit
theorem chg_none {F : List Core} {n j : Nat} {l : AL} (h : F[j]? = none) : (chgF F n l)[j]? = none := by
  have := List.getElem?_eq_none_iff.1 h
  exact List.getElem?_eq_none (by rw [chg_len]; exact this)
theorem chg_parF (F : List Core) (n : Nat) (l : AL) : parF (chgF F n l) = parF F := by
  funext j
  unfold parF
  cases h : F[j]? with
  | none => rw [chg_none h]
  | some c =>
    rw [chg_at h]
    dsimp only
    split <;> rfl
theorem chg_kidsF (F : List Core) (n : Nat) (l : AL) : kidsF (chgF F n l) = kidsF F := by
  funext j
  unfold kidsF
  cases h : F[j]? with
  | none => rw [chg_none h]
  | some c =>
    rw [chg_at h]
    dsimp only
    split <;> rfl
theorem chg_formB (F : List Core) (n : Nat) (l : AL) : formB (chgF F n l) = formB F := by
  funext j
  unfold formB
  cases h : F[j]? with
  | none => rw [chg_none h]
  | some c =>
    rw [chg_at h]
    dsimp only
    split <;> rfl
theorem chg_nextF (F : List Core) (n : Nat) (l : AL) (j : Nat) : nextUp (chgF F n l) (j : Int) = nextUp F j := by
  cases h : F[j]? with
  | none =>
    unfold nextUp
    rw [getC_nat, getC_nat, h, chg_none h]
  | some c => exact chg_next h
theorem chg_parS (F : List Core) (n : Nat) (l : AL) : parS (chgF F n l) = parS F := by
  funext j
  unfold parS
  rw [chg_nextF]
theorem chg_link (F : List Core) (n : Nat) (l : AL) : linkF (chgF F n l) = linkF F := by
  funext j
  unfold linkF topF
  rw [chg_kindK, chg_parS, chg_len]
theorem nearN_same {F G : List Core} (hp : parF G = parF F) (hf : formB G = formB F) : ∀ f i, nearN G f i = nearN F f i
  | 0, _ => rfl
  | f + 1, i => by
    rw [nearN, nearN, hp, hf]
    cases parF F i with
    | none => rfl
    | some p => dsimp only; rw [nearN_same hp hf f p]
theorem chg_near (F : List Core) (n : Nat) (l : AL) (i : Nat) : nearF (chgF F n l) i = nearF F i := by
  unfold nearF
  rw [chg_len, nearN_same (chg_parF F n l) (chg_formB F n l)]
theorem chg_own {F : List Core} {n : Nat} {l : AL} {x : Core} (hx : F[n]? = some x) (h1 : hasA l formT = hasA x.attrs formT) (h2 : valA l formT = valA x.attrs formT) (h3 : valA l idT = valA x.attrs idT) : ownL (chgF F n l) = ownL F := by
  have hid : idF (chgF F n l) = idF F := by
    funext j
    unfold idF
    cases h : F[j]? with
    | none => rw [chg_none h]
    | some c =>
      rw [chg_at h]
      dsimp only
      by_cases e : j = n
      · subst e
        rw [if_pos rfl]
        obtain rfl := Option.some.inj (hx.symm.trans h)
        unfold idC withAC
        dsimp only
        rw [h3]
      · rw [if_neg e]
  have hpick : ∀ t v, pickF (chgF F n l) t v = pickF F t v := fun t v => by unfold pickF; rw [hid, chg_formB]
  have hroot : ∀ j, rootF (chgF F n l) j = rootF F j := fun j => by unfold rootF; rw [chg_parF, chg_len]
  have hord : ∀ j, ordF (chgF F n l) j = ordF F j := fun j => by unfold ordF; rw [chg_kidsF, chg_len]
  have hown : ∀ j, ownF (chgF F n l) j = ownF F j := fun j => by
    unfold ownF
    cases h : F[j]? with
    | none => rw [chg_none h]
    | some c =>
      rw [chg_at h]
      dsimp only
      have key : ∀ d : Core, d.kind = c.kind → asksC d = asksC c → wantC d = wantC c → ownC (chgF F n l) j d = ownC F j c := fun d e1 e2 e3 => by
        unfold ownC
        rw [e1, e2, e3, chg_link, hpick, hroot, hord, chg_near]
      by_cases e : j = n
      · subst e
        rw [if_pos rfl]
        obtain rfl := Option.some.inj (hx.symm.trans h)
        exact key _ rfl (by unfold asksC withAC; exact h1) (by unfold wantC withAC; dsimp only; rw [h2])
      · rw [if_neg e]
        exact key c rfl rfl rfl
  unfold ownL
  rw [chg_len]
  exact List.map_congr_left (fun j _ => hown j)
theorem setZ_yes {m : Int} {F : List Core} (hr : rightF m F = true) {n : Nat} {x : Core} (hx : F[n]? = some x) {s : List UInt8} {v : ByteArray} (h : (setZ m F n s v).2.2 = 0) :
    x.kind = 1 ∧ setE x.attrs s v = 0 ∧ setZ m F n s v = (chgF F n (setA x.attrs s v), [chgN n s x.attrs (setA x.attrs s v)], 0) ∧ rightF m (chgF F n (setA x.attrs s v)) = true := by
  have hn : n < F.length := (List.getElem?_eq_some_iff.1 hx).1
  have hk : x.kind = 1 := by
    by_cases hk : x.kind = 1
    · exact hk
    · unfold setZ elemE at h
      rw [thereF_of hr hn, if_pos rfl, kindK_at hx, if_neg hk] at h
      cases h
  have he : elemE m F n = 0 := by unfold elemE; rw [thereF_of hr hn, if_pos rfl, kindK_at hx, if_pos hk]
  have hs : setE x.attrs s v = 0 := by
    by_cases hs : setE x.attrs s v = 0
    · exact hs
    · unfold setZ at h
      rw [if_pos he, attrsK_at hx, if_neg hs] at h
      exact absurd h hs
  refine ⟨hk, hs, ?_, chg_right hr (by rw [kindK_at hx]; exact hk) (setA_right hs)⟩
  unfold setZ
  rw [if_pos he, attrsK_at hx, if_pos hs]
  unfold chgZ
  rw [attrsK_at hx, Int.toNat_natCast]
theorem rem_has {L : AL} {n : List UInt8} : hasA (remA L n) n = false := by
  cases hq : hasA (remA L n) n with
  | false => rfl
  | true =>
    by_cases h : hasA L n = true
    · obtain ⟨x, h1, h2⟩ := has_mem hq
      unfold remA at h1
      rw [if_pos h] at h1
      have h3 := (List.mem_filter.1 h1).2
      rw [show keyIs (smallL n) x = true from keyIs_iff.2 h2] at h3
      cases h3
    · unfold remA at hq
      rw [if_neg h] at hq
      exact absurd hq h
structure Back13 (m : Int) (F G H : List Core) (n : Nat) (N2 : List NoteD) : Prop where
  set : ∃ N1, setZ m F n formT ⟨#[]⟩ = (G, N1, 0)
  uns : unsZ m G n formT = (H, N2, 0)
  rG : rightF m G = true
  rH : rightF m H = true
  lG : G.length = F.length
  lH : H.length = F.length
  oG : ownF G n = if linkF F n then -1 else nearF F n
  oH : ownF H n = nearF F n
  nH : nearF H n = nearF F n
theorem back13 {m : Int} {F : List Core} (hr : rightF m F = true) {n : Nat} {x : Core} (hx : F[n]? = some x) (h : (setZ m F n formT ⟨#[]⟩).2.2 = 0) : ∃ G H N2, Back13 m F G H n N2 := by
  obtain ⟨hk, hs, hz, hG⟩ := setZ_yes hr hx h
  obtain ⟨l1, hl1⟩ : ∃ l1, setA x.attrs formT ⟨#[]⟩ = l1 := ⟨_, rfl⟩
  have hb := back_has hs
  have hra := setA_right hs
  rw [hl1] at hz hG hb hra
  have hn : n < F.length := (List.getElem?_eq_some_iff.1 hx).1
  have hnG : n < (chgF F n l1).length := by rw [chg_len]; exact hn
  have hxG : (chgF F n l1)[n]? = some (withAC x l1) := by
    have := chg_at (n := n) (l := l1) hx
    rwa [if_pos rfl] at this
  have hkG : kindK (chgF F n l1) (n : Int) = 1 := by rw [chg_kindK, kindK_at hx]; exact hk
  have hrr : rightA (remA l1 formT) = true := by
    unfold remA
    rw [if_pos hb.1]
    exact filter_right _ hra
  have hu : unsZ m (chgF F n l1) n formT = (chgF (chgF F n l1) n (remA l1 formT), [chgN n formT l1 (remA l1 formT)], 0) := by
    unfold unsZ elemE
    rw [thereF_of hG hnG, if_pos rfl, hkG, if_pos rfl, if_pos rfl, if_pos (show fitE formT = 0 by decide), attrsK_at hxG]
    rw [if_pos (show hasA (withAC x l1).attrs formT = true from hb.1)]
    unfold chgZ
    rw [attrsK_at hxG, Int.toNat_natCast]
    rfl
  have hH : rightF m (chgF (chgF F n l1) n (remA l1 formT)) = true := chg_right hG hkG hrr
  have hxH : (chgF (chgF F n l1) n (remA l1 formT))[n]? = some (withAC (withAC x l1) (remA l1 formT)) := by
    have := chg_at (n := n) (l := remA l1 formT) hxG
    rwa [if_pos rfl] at this
  refine ⟨_, _, _, ⟨_, hz⟩, hu, hG, hH, chg_len, by rw [chg_len, chg_len], ?_, ?_, by rw [chg_near, chg_near]⟩
  · rw [ownF_at hxG]
    unfold ownC
    rw [if_pos (show (withAC x l1).kind = 1 from hk), show asksC (withAC x l1) = true from hb.1, chg_link, Bool.true_and]
    by_cases hl : linkF F n = true
    · rw [if_pos hl, if_pos hl]
      have hw : wantC (withAC x l1) = [] := by
        show (valA l1 formT).toList = []
        rw [hb.2]
        exact toList_ofL []
      unfold pickF
      rw [hw, if_pos rfl]
    · rw [if_neg hl, if_neg hl, chg_near]
  · rw [ownF_at hxH]
    unfold ownC
    rw [if_pos (show (withAC (withAC x l1) (remA l1 formT)).kind = 1 from hk), show asksC (withAC (withAC x l1) (remA l1 formT)) = false from rem_has, Bool.false_and, if_neg Bool.false_ne_true, chg_near, chg_near]
theorem other13 {m : Int} {F : List Core} (hr : rightF m F = true) {n : Nat} {x : Core} (hx : F[n]? = some x) {s : List UInt8} {v : ByteArray} (h : (setZ m F n s v).2.2 = 0) (h1 : smallL s ≠ formT) (h2 : smallL s ≠ idT) :
    ∃ G, setZ m F n s v = (G, [chgN n s x.attrs (setA x.attrs s v)], 0) ∧ rightF m G = true ∧ ownL G = ownL F := by
  obtain ⟨hk, hs, hz, hG⟩ := setZ_yes hr hx h
  have a := other_M (o := formT) hs (fun e => h1 (by rw [← e]; decide))
  have b := other_M (o := idT) hs (fun e => h2 (by rw [← e]; decide))
  exact ⟨_, hz, hG, chg_own hx a.1 a.2 b.2⟩
end Go.Proofs.YtkgbgnmmgmnnlaaGreatDoor
namespace Go.Proofs.YtkgbgnmmgmnnlaaGreatDoor
open Go.RowKit
theorem out_at {F : List Core} {n j : Nat} {c : Core} (h : F[j]? = some c) : ∃ d, (mvOut F n)[j]? = some d ∧ d.name = c.name ∧ d.kind = c.kind ∧ d.attrs = c.attrs ∧ d.parent = if j = n then -1 else c.parent := by
  unfold mvOut edF
  rw [List.getElem?_mapIdx, h]
  exact ⟨_, rfl, rfl, rfl, rfl, rfl⟩
theorem out_len (F : List Core) (n : Nat) : (mvOut F n).length = F.length := by unfold mvOut edF; simp
theorem out_none {F : List Core} {n j : Nat} (h : F[j]? = none) : (mvOut F n)[j]? = none := by
  unfold mvOut edF
  rw [List.getElem?_mapIdx, h]
  rfl
theorem out_par13 (F : List Core) (n j : Nat) : parF (mvOut F n) j = if j = n then none else parF F j := by
  unfold parF
  cases h : F[j]? with
  | none =>
    rw [out_none h]
    by_cases e : j = n
    · rw [if_pos e]
    · rw [if_neg e]
  | some c =>
    obtain ⟨d, h1, -, -, -, h5⟩ := out_at (n := n) h
    rw [h1]
    dsimp only
    rw [h5]
    by_cases e : j = n
    · rw [if_pos e, if_pos rfl, if_pos e]
    · rw [if_neg e, if_neg e]
theorem out_form (F : List Core) (n j : Nat) : formB (mvOut F n) j = formB F j := by
  unfold formB
  cases h : F[j]? with
  | none => rw [out_none h]
  | some c =>
    obtain ⟨d, h1, h2, -⟩ := out_at (n := n) h
    rw [h1]
    dsimp only
    unfold formC
    rw [h2]
theorem out_near {m : Int} {F : List Core} (h : rightF m F = true) {n : Nat} (hG : rightF m (mvOut F n) = true) : ∀ (r k : Nat), k < F.length → rankF F k = r →
    (¬ holdsT (parF F) n k → nearF (mvOut F n) k = nearF F k) ∧
    (holdsT (parF F) n k → (∃ p : Nat, nearF F k = p ∧ holdsT (parF F) n p ∧ nearF (mvOut F n) k = p) ∨ (nearF (mvOut F n) k = -1 ∧ ∀ p : Nat, nearF F k = p → ¬ holdsT (parF F) n p)) := by
  have T := tree_of_right h
  intro r
  induction r with
  | zero =>
    intro k hk hr
    have hp : parF F k = none := by
      cases hp : parF F k with
      | none => rfl
      | some p => have := par_lt h hk hp; omega
    have hq : parF (mvOut F n) k = none := by rw [out_par13, hp]; exact ite_self _
    rw [nearF_none hp, nearF_none hq]
    exact ⟨fun _ => rfl, fun _ => .inr ⟨rfl, fun p e => by omega⟩⟩
  | succ r ih =>
    intro k hk hr
    cases hp : parF F k with
    | none =>
      have hq : parF (mvOut F n) k = none := by rw [out_par13, hp]; exact ite_self _
      rw [nearF_none hp, nearF_none hq]
      exact ⟨fun _ => rfl, fun _ => .inr ⟨rfl, fun p e => by omega⟩⟩
    | some p =>
      have hl := par_lt h hk hp
      by_cases e : k = n
      · subst e
        have hq : parF (mvOut F k) k = none := by rw [out_par13, if_pos rfl]
        rw [nearF_none hq]
        refine ⟨fun h2 => absurd (holds_refl k) h2, fun _ => .inr ⟨rfl, fun q e2 h2 => ?_⟩⟩
        rcases near_is h _ k hk rfl with ⟨h3, _⟩ | ⟨q2, h3, h4, _, h5, h6, _⟩
        · omega
        · obtain rfl : q = q2 := by omega
          exact h5 (T.holds_anti h4 hk h6 h2)
      · have hq : parF (mvOut F n) k = some p := by rw [out_par13, if_neg e, hp]
        have hup : holdsT (parF F) n k ↔ holdsT (parF F) n p := by
          constructor
          · intro h2
            rcases holds_up h2 with e2 | ⟨q, e2, h3⟩
            · exact absurd e2.symm e
            · rw [hp] at e2
              injection e2 with e2
              rw [e2]
              exact h3
          · intro h2
            exact holds_trans h2 (holds_par hp)
        cases hf : formB F p with
        | true =>
          rw [nearF_form hp hf, nearF_form hq ((out_form F n p).trans hf)]
          exact ⟨fun _ => rfl, fun h2 => .inl ⟨p, rfl, hup.1 h2, rfl⟩⟩
        | false =>
          rw [nearF_up h hk hp hf, nearF_up hG (by rw [out_len]; exact hk) hq ((out_form F n p).trans hf)]
          obtain ⟨h1, h2⟩ := ih p hl.1 (by omega)
          exact ⟨fun h3 => h1 (fun h4 => h3 (hup.2 h4)), fun h3 => h2 (hup.1 h3)⟩
theorem out_asks {m : Int} {F : List Core} (h : rightF m F = true) {n : Nat} (hG : rightF m (mvOut F n) = true) (hn : n < F.length) {k : Nat} (hk : k < F.length) :
    (holdsZ m F n k = false ∧ nearF (mvOut F n) k = nearF F k) ∨
    (holdsZ m F n k = true ∧ nearF F k = -1 ∧ nearF (mvOut F n) k = -1) ∨
    (∃ p : Nat, p < F.length ∧ holdsZ m F n k = true ∧ nearF F k = p ∧ holdsZ m F n p = true ∧ nearF (mvOut F n) k = p) ∨
    (∃ p : Nat, p < F.length ∧ holdsZ m F n k = true ∧ nearF F k = p ∧ holdsZ m F n p = false ∧ nearF (mvOut F n) k = -1) := by
  obtain ⟨h1, h2⟩ := out_near h hG _ k hk rfl
  cases hq : holdsZ m F n k with
  | false =>
    refine .inl ⟨rfl, h1 (fun h3 => ?_)⟩
    rw [(holdsZ_iff h hn hk).2 h3] at hq
    cases hq
  | true =>
    have h3 := (holdsZ_iff h hn hk).1 hq
    have hlt := nearF_lt h hk
    rcases h2 h3 with ⟨p, e1, e2, e3⟩ | ⟨e1, e2⟩
    · have hp : p < F.length := by omega
      exact .inr (.inr (.inl ⟨p, hp, rfl, e1, (holdsZ_iff h hn hp).2 e2, e3⟩))
    · by_cases e : nearF F k = -1
      · exact .inr (.inl ⟨rfl, e, e1⟩)
      · have hp : (nearF F k).toNat < F.length := by omega
        have e3 : nearF F k = ((nearF F k).toNat : Nat) := by omega
        refine .inr (.inr (.inr ⟨(nearF F k).toNat, hp, rfl, e3, ?_, e1⟩))
        cases hr : holdsZ m F n ((nearF F k).toNat : Nat) with
        | false => rfl
        | true => exact absurd ((holdsZ_iff h hn hp).1 hr) (e2 _ e3)
theorem own_near {F : List Core} {k : Nat} {x : Core} (hx : F[k]? = some x) (hk : x.kind = 1) (ha : asksC x = false) : ownF F k = nearF F k := by
  rw [ownF_at hx]
  unfold ownC
  rw [if_pos hk, ha]
  rfl
theorem own_near_out {F : List Core} {n k : Nat} {x : Core} (hx : F[k]? = some x) (hk : x.kind = 1) (ha : asksC x = false) : ownF (mvOut F n) k = nearF (mvOut F n) k := by
  obtain ⟨d, h1, _, h2, h3, _⟩ := out_at (n := n) hx
  exact own_near h1 (h2.trans hk) (by unfold asksC; rw [h3]; exact ha)
end Go.Proofs.YtkgbgnmmgmnnlaaGreatDoor
