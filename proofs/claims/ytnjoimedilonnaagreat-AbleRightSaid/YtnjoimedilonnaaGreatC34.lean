/- Texts joined in build order: ReaderRec ReaderKids. -/
import Derived.Test.YtnjoimedilonnaaGreatC33
import Derived.Deep.RegionHeld3
import Derived.Deep.LoopGhost
namespace Go.Proofs.YtnjoimedilonnaaGreat
open Go.RowKit
def wiU (x : NodeD) (z : Int) : NodeD := ⟨⟨x.core.kind, x.core.name, x.core.is, x.core.data, x.core.attrs, x.core.parent, x.core.kids, x.core.host, z, x.core.doc⟩, x.aA, x.aN, x.aC, x.kA, x.kN, x.kC⟩
def wiH (x : NodeD) (z : Int) : NodeD := ⟨⟨x.core.kind, x.core.name, x.core.is, x.core.data, x.core.attrs, x.core.parent, x.core.kids, z, x.core.under, x.core.doc⟩, x.aA, x.aN, x.aC, x.kA, x.kN, x.kC⟩
theorem coreL_mod {M : List NodeD} {k : Nat} {x y : NodeD} {f : Core → Core} (hk : M[k]? = some x) (hy : y.core = f x.core) : coreL (M.set k y) = (coreL M).modify k f := by
  apply List.ext_getElem?
  intro i
  unfold coreL
  rw [List.getElem?_map, List.getElem?_modify, List.getElem?_map]
  have hkl := (List.getElem?_eq_some_iff.1 hk).1
  by_cases e : k = i
  · subst e
    rw [List.getElem?_set_self hkl, hk]
    simp [hy]
  · rw [List.getElem?_set_ne e]
    simp [e]
section
variable {ρ : Nat → Nat} {W : World} {pr pw g cap len : Nat} {m : Int} {M : List NodeD} {v : Value} {N : List NoteD} {l l2 : BL} {doc : Int}
theorem Wk.setU (h : Wk ρ W pw g cap len m M v N) {k : Nat} {x : NodeD} (hk : M[k]? = some x) {p : Int} (hp : In64 p) : Wk ρ (W.setCell ⟨g, k * 10 + 8, none⟩ (.int .i64 p)) pw g cap len m (M.set k (wiU x p)) v N := by
  have hm := List.mem_of_getElem? hk
  have f := h.fld x hm
  exact h.setG hk (by omega) rfl ⟨rfl, rfl, rfl, rfl⟩ (h.aok x hm) (h.arole x hm) ⟨f.name, f.is, f.data, f.kind, f.parent, f.host, hp, f.doc, f.kids⟩
theorem Wk.setHo (h : Wk ρ W pw g cap len m M v N) {k : Nat} {x : NodeD} (hk : M[k]? = some x) {p : Int} (hp : In64 p) : Wk ρ (W.setCell ⟨g, k * 10 + 7, none⟩ (.int .i64 p)) pw g cap len m (M.set k (wiH x p)) v N := by
  have hm := List.mem_of_getElem? hk
  have f := h.fld x hm
  exact h.setG hk (by omega) rfl ⟨rfl, rfl, rfl, rfl⟩ (h.aok x hm) (h.arole x hm) ⟨f.name, f.is, f.data, f.kind, f.parent, hp, f.under, f.doc, f.kids⟩
theorem Rd.turned {W2 : World} {M2 : List NodeD} (h : Rd ρ W pr pw g cap len m M v N l doc) (hw : Wk ρ W2 pw g cap len m M2 v N) (hq : W2.heap[pr]? = W.heap[pr]?) (hs : W.heap.size ≤ W2.heap.size) (hm : smallF M2) : Rd ρ W2 pr pw g cap len m M2 v N l doc :=
  ⟨hw, (World.cell?_of_block (w := W) (a := ⟨pr, 0, none⟩) hq).trans h.r0, (World.cell?_of_block (w := W) (a := ⟨pr, 1, none⟩) hq).trans h.r1, (World.cell?_of_block (w := W) (a := ⟨pr, 2, none⟩) hq).trans h.r2, fun o => (World.frozen?_of_block (w := W) (a := ⟨pr, o, none⟩) hq).trans (h.rf o), Nat.lt_of_lt_of_le h.rlt hs, h.role, hm, h.hdoc⟩
theorem small_set {y : NodeD} {k : Nat} (h : smallF M) (hy : smallN y) : smallF (M.set k y) :=
  ⟨by rw [List.length_set]; exact h.1, fun z hz => by
    rcases List.mem_or_eq_of_mem_set hz with hz | rfl
    · exact h.2 z hz
    · exact hy⟩
def ReadPost (ρ : Nat → Nat) (w : World) (pr pw : Nat) (m : Int) (N : List NoteD) (doc : Int) (l' : BL) (F' : List Core) (e : Ending) (w' : World) : Prop :=
  e = .returned (.bool true) ∧ ∃ (ρ' : Nat → Nat) (g cap len : Nat) (M : List NodeD) (v : Value), Rd ρ' w' pr pw g cap len m M v N l' doc ∧ coreL M = F' ∧ Gone pr ρ ρ' w w'
def NodeAtK (pr pw : Nat) (m : Int) (N : List NoteD) (doc : Int) (k : Nat) : Prop := ∀ (ρ : Nat → Nat) (w : World) (g cap len : Nat) (M : List NodeD) (v : Value) (l l' : BL) (F' : List Core), Rd ρ w pr pw g cap len m M v N l doc → readM doc k .node l (coreL M) = some (l', F') →
  Calls Tryz.prog 52 #[ptrV pr] w (ReadPost ρ w pr pw m N doc l' F')
def KidsAtK (pr pw : Nat) (m : Int) (N : List NoteD) (doc : Int) (k : Nat) : Prop := ∀ (ρ : Nat → Nat) (w : World) (g cap len : Nat) (M : List NodeD) (v : Value) (l : BL) (p : Nat) (stop l' : BL) (F' : List Core), Rd ρ w pr pw g cap len m M v N l doc → readM doc k (.kids p stop) l (coreL M) = some (l', F') →
  Calls Tryz.prog 65 #[ptrV pr, .int .i64 (p : Int), .string ⟨stop.toArray⟩] w (ReadPost ρ w pr pw m N doc l' F')
abbrev zD (kind doc : Int) : NodeD := ⟨⟨kind, ⟨#[]⟩, ⟨#[]⟩, ⟨#[]⟩, [], 0, [], 0, 0, doc⟩, none, 0, 0, none, 0, 0⟩
theorem zD_ok (w : World) {kind doc : Int} (hk : In64 kind) (hd : In64 doc) : NodeOk w (zD kind doc) := by
  have z0 : In64 0 := ⟨by decide, by decide⟩
  have e0 : (⟨#[]⟩ : ByteArray).size ≤ maxLen := by decide
  exact ⟨⟨SRow.nil, by simp, fun _ => rfl⟩, ⟨SRow.nil, by simp, fun _ => rfl⟩, e0, e0, e0, hk, z0, z0, z0, hd⟩
theorem in64_th {n : Nat} (h : n ≤ 1000) : In64 (n : Int) := ⟨by omega, by omega⟩
set_option maxHeartbeats 4000000 in
set_option maxRecDepth 100000 in
theorem shadow_hit (k : Nat) (K : KidsAtK pr pw m N doc k) (w : World) (h : Rd ρ w pr pw g cap len m M v N l doc) {l3 l4 : BL} {F2 F3 : List Core} {hst : Nat} (hh : hst < len) (hs : skipM l [123] = some l3) (ha : addM (coreL M) (nodeC 4 [] [] [] [] doc) = some F2) (hk : readM doc k (.kids len [125]) l3 (hangM F2 hst len) = some (l4, F3)) :
    Calls Tryz.prog 80 #[ptrV pr, .int .i64 (hst : Int)] w (ReadPost ρ w pr pw m N doc l4 F3) := by
  have hml := h.wk.hlen
  unfold addM at ha
  by_cases hl : (coreL M).length < 1000
  case neg => rw [if_neg hl] at ha; cases ha
  rw [if_pos hl] at ha
  have ha := Option.some.inj ha
  rw [coreL_len, hml] at ha hl
  have CS : Hid (Calls Tryz.prog 63 #[ptrV pr, .string ⟨#[123]⟩] w (StepPost ρ w pr pw g cap len m M v N l3 doc (.bool true))) := Lib.hid (skip_hit w h [123] hs)
  have CA : Hid (∀ W, Rd ρ W pr pw g cap len m M v N l3 doc → Calls Tryz.prog 66 #[ptrV pr, .agg #[.int .i64 4, .string ⟨#[]⟩, .string ⟨#[]⟩, .string ⟨#[]⟩, .slice none 0 0, .int .i64 0, .slice none 0 0, .int .i64 0, .int .i64 0, .int .i64 0]] W fun e w' => e = .returned (.int .i64 (len : Int)) ∧ ∃ (ρ' : Nat → Nat) (g' cap' : Nat) (y : NodeD), Rd ρ' w' pr pw g' cap' (len + 1) m (M ++ [y]) v N l3 doc ∧ y.core = aloneC (nodeC 4 [] [] [] [] doc) len ∧ Gone pr ρ ρ' W w') := Lib.hid (fun W hR =>
    radd_any W hR (zD 4 0) (zD_ok W ⟨by decide, by decide⟩ ⟨by decide, by decide⟩) ⟨by decide, by decide⟩ hl)
  have HK := Lib.hid K
  have HRK := Lib.hid hk
  have HA := Lib.hid ha
  have HML := Lib.hid hml
  have HSM := Lib.hid h.small
  have hl64 : (len : Int) + 1 ≤ 9223372036854775807 := by omega
  have hh64 : (hst : Int) ≤ 9223372036854775807 := by omega
  clear h hs hk K ha hml
  go_enter Tryz.func80, Tryz.ntmps80
  go_upto_region 4 with (first
    | (go_at_call 63; (with_reducible refine CS.out.mono ?_); rintro e w1 ⟨rfl, hR, hG⟩; have HR := Lib.hid hR; have HG := Lib.hid hG; clear hR hG)
    | (go_at_call 66; (with_reducible refine (CA.out _ HR.out).mono ?_); rintro e w2 ⟨rfl, ρ2, g2, cap2, y, hR, hy, hG⟩; have HR2 := Lib.hid hR; have HY := Lib.hid hy; have HG2 := Lib.hid (HG.out.trans hG); clear hR hG hy))
  obtain ⟨x, hx⟩ : ∃ x, M[hst]? = some x := ⟨_, List.getElem?_eq_getElem (by rw [HML.out]; exact hh)⟩
  have HX : Hid ((M ++ [y])[hst]? = some x) := Lib.hid (by rw [List.getElem?_append_left (by rw [HML.out]; exact hh)]; exact hx)
  have HYL : Hid ((M ++ [y])[len]? = some y) := Lib.hid (by rw [List.getElem?_append_right (by rw [HML.out]; exact Nat.le_refl _), HML.out, Nat.sub_self]; rfl)
  have r0 := HR2.out.r0
  have p0 := HR2.out.wk.c0
  have c8 := HR2.out.wk.cells hst x 8 _ HX.out rfl
  have c7 := HR2.out.wk.cells len y 7 _ HYL.out rfl
  have f8 := HR2.out.wk.gfree (hst * 10 + 8)
  have f7 := HR2.out.wk.gfree (len * 10 + 7)
  have hne : len * 10 + 7 ≠ hst * 10 + 8 := by omega
  have hlt1 : hst < len + 1 := by omega
  clear hx
  have hi1 : (hst : Int) < (len : Int) + 1 := by omega
  have hi2 : (len : Int) < (len : Int) + 1 := by omega
  have hlen1 : len < len + 1 := Nat.lt_succ_self _
  have hgp1 : g2 ≠ pr := fun e => by have h1 := HR2.out.wk.grole; rw [e, HR2.out.role] at h1; cases h1
  have hgp2 : g2 ≠ pw := fun e => by have h1 := HR2.out.wk.grole; rw [e, HR2.out.wk.prole] at h1; cases h1
  have hgp3 : pr ≠ g2 := fun e => hgp1 e.symm
  have hgp4 : pw ≠ g2 := fun e => hgp2 e.symm
  go_region_held3 (fun w' => w'.cell? ⟨pr, 0, none⟩ = some (ptrV pw) ∧ w'.cell? ⟨pw, 0, none⟩ = some (.slice (some ⟨g2, 0, none⟩) ((len : Nat) + 1) cap2)) (go_keep) (fail)
  clear r0 p0 c8 c7 f8 f7 hi1 hi2 hlen1 hgp1 hgp2 hgp3 hgp4 hlt1 hne
  have hl64' : In64 (len : Int) := in64_th (by omega)
  have hh64' : In64 (hst : Int) := in64_th (by omega)
  have hne2 : hst ≠ len := by omega
  have HYL2 : ((M ++ [y]).set hst (wiU x len))[len]? = some y := by rw [List.getElem?_set_ne hne2]; exact HYL.out
  have hW := (HR2.out.wk.setU HX.out hl64').setHo HYL2 hh64'
  have hgp : g2 ≠ pr := fun e => by have h1 := HR2.out.wk.grole; rw [e, HR2.out.role] at h1; cases h1
  have hsm1 : smallN x := HSM.out.2 x (by
    have h1 := HX.out
    rw [List.getElem?_append_left (by rw [HML.out]; exact hh)] at h1
    exact List.mem_of_getElem? h1)
  have hsm2 : smallN y := HR2.out.small.2 y (List.mem_of_getElem? HYL.out)
  have HR4' := Lib.hid (HR2.out.turned hW ((Below.heap_setCell _ _ _ pr (fun e => hgp e.symm)).trans (Below.heap_setCell _ _ _ pr (fun e => hgp e.symm))) (by simp [World.setCell]) (small_set (small_set HR2.out.small (y := wiU x len) hsm1) (y := wiH y hst) hsm2))
  have hgq : ∀ b, (ρ2 b = 0 ∨ ρ2 b = 5) → b ≠ g2 := fun b h0 e => by have h1 := HR2.out.wk.grole; rw [e, h1] at h0; omega
  have HG4' := Lib.hid (HG2.out.trans (c := (w2.setCell ⟨g2, hst * 10 + 8, none⟩ (.int .i64 (len : Int))).setCell ⟨g2, len * 10 + 7, none⟩ (.int .i64 (hst : Int))) ⟨rfl, rfl, rfl, by simp [World.setCell], fun b _ _ h0 => (Below.heap_setCell _ _ _ b (hgq b h0)).trans (Below.heap_setCell _ _ _ b (hgq b h0)), fun _ _ _ => rfl⟩)
  have hcore : coreL (((M ++ [y]).set hst (wiU x len)).set len (wiH y hst)) = hangM F2 hst len := by
    rw [coreL_mod HYL2 (f := fun c => ⟨c.kind, c.name, c.is, c.data, c.attrs, c.parent, c.kids, hst, c.under, c.doc⟩) rfl, coreL_mod HX.out (f := fun c => ⟨c.kind, c.name, c.is, c.data, c.attrs, c.parent, c.kids, c.host, len, c.doc⟩) rfl, ← HA.out]
    unfold hangM coreL
    rw [List.map_append, List.map_cons, List.map_nil, HY.out]
  have HR4 := Lib.hid (HR4'.out.keep ((Below.refl _ _).drew))
  have HG4 := Lib.hid (HG4'.out.trans (Gone.of_below ((Below.refl _ _).drew)))
  clear HR4' HG4'
  have CK : Hid (Calls Tryz.prog 65 #[ptrV pr, .int .i64 (len : Int), .string ⟨#[125]⟩] ((w2.setCell ⟨g2, hst * 10 + 8, none⟩ (.int .i64 (len : Int))).setCell ⟨g2, len * 10 + 7, none⟩ (.int .i64 (hst : Int))).drew (ReadPost ρ2 ((w2.setCell ⟨g2, hst * 10 + 8, none⟩ (.int .i64 (len : Int))).setCell ⟨g2, len * 10 + 7, none⟩ (.int .i64 (hst : Int))).drew pr pw m N doc l4 F3)) := Lib.hid (HK.out _ _ _ _ _ _ _ _ _ _ _ _ HR4.out (by rw [hcore]; exact HRK.out))
  clear hW hcore hgq hgp hsm1 hsm2 HYL2 hl64' hh64'
  generalize ((w2.setCell ⟨g2, hst * 10 + 8, none⟩ (.int .i64 (len : Int))).setCell ⟨g2, len * 10 + 7, none⟩ (.int .i64 (hst : Int))).drew = w4 at CK HG4 ⊢
  go_wp2_with (go_at_call 65; (with_reducible refine CK.out.mono ?_); rintro e w5 ⟨rfl, hp⟩; have HP := Lib.hid hp; clear hp)
  go_ret
  obtain ⟨ρ5, g5, cap5, len5, M5, v5, h1, h2, h3⟩ := HP.out
  exact ⟨rfl, ρ5, g5, cap5, len5, M5, v5, h1, h2, HG4.out.trans h3⟩
end
end Go.Proofs.YtnjoimedilonnaaGreat
namespace Go.Proofs.YtnjoimedilonnaaGreat
open Go.RowKit
section
variable {ρ : Nat → Nat} {W : World} {pr pw g cap len : Nat} {m : Int} {M : List NodeD} {v : Value} {N : List NoteD} {l l2 : BL} {doc : Int}
theorem shadow_miss (w : World) (h : Rd ρ w pr pw g cap len m M v N l doc) {hst : Int} (hs : skipM l [123] = none) :
    Calls Tryz.prog 80 #[ptrV pr, .int .i64 hst] w (StepPost ρ w pr pw g cap len m M v N l doc (.bool true)) := by
  have CS : Hid (Calls Tryz.prog 63 #[ptrV pr, .string ⟨#[123]⟩] w (StepPost ρ w pr pw g cap len m M v N l doc (.bool false))) := Lib.hid (skip_miss w h [123] hs)
  clear h hs
  go_enter Tryz.func80, Tryz.ntmps80
  go_wp2_with (go_at_call 63; (with_reducible refine CS.out.mono ?_); rintro e w1 ⟨rfl, hR, hG⟩; have HR := Lib.hid hR; have HG := Lib.hid hG; clear hR hG)
  go_ret
  exact ⟨rfl, HR.out, HG.out⟩
theorem readM_kids (doc : Int) (k p : Nat) (stop l : BL) (F : List Core) : readM doc (k + 1) (.kids p stop) l F = match skipM l stop with
    | some l1 => some (l1, F)
    | none => match readM doc k .node l F with
      | none => none
      | some (l1, F1) => if (kidsK F1 p).length < 1000 ∧ p < F.length ∧ F.length < F1.length then readM doc k (.kids p stop) l1 (mvIn F1 F.length p (-1)) else none := rfl
theorem kids_small {x y : NodeD} {n p : Nat} {a : Option Addr} {c : Nat} (h : smallF M) (hx : M[n]? = some x) (hy : M[p]? = some y) (hk : y.core.kids.length < 1000) : smallF ((M.set p (withK y a (y.kN + 1) c (insB y.core.kids (-1) n))).set n (withP x p)) := by
  have hy2 := h.2 y (List.mem_of_getElem? hy)
  refine small_set (small_set h ⟨?_, hy2.2⟩) (h.2 x (List.mem_of_getElem? hx))
  show (insB y.core.kids (-1) n).length ≤ 1000
  unfold insB
  rw [if_pos rfl, List.length_append]
  simp
  omega
set_option maxHeartbeats 4000000 in
set_option maxRecDepth 100000 in
theorem kids_step (k : Nat) (K : ∀ j, j < k → NodeAtK pr pw m N doc j) (w : World) (h : Rd ρ w pr pw g cap len m M v N l doc) {p : Nat} (stop l' : BL) (F' : List Core) (hr : readM doc k (.kids p stop) l (coreL M) = some (l', F')) :
    Calls Tryz.prog 65 #[ptrV pr, .int .i64 (p : Int), .string ⟨stop.toArray⟩] w (ReadPost ρ w pr pw m N doc l' F') := by
  have HN := Lib.hid K
  have HR0 := Lib.hid h
  have HRM := Lib.hid hr
  have CSH : Hid (∀ ρ1 W g1 cap1 len1 M1 v1 l1 l2, Rd ρ1 W pr pw g1 cap1 len1 m M1 v1 N l1 doc → skipM l1 stop = some l2 → Calls Tryz.prog 63 #[ptrV pr, .string ⟨stop.toArray⟩] W (StepPost ρ1 W pr pw g1 cap1 len1 m M1 v1 N l2 doc (.bool true))) := Lib.hid (fun _ W _ _ _ _ _ _ _ h1 h2 => skip_hit W h1 stop h2)
  have CSM : Hid (∀ ρ1 W g1 cap1 len1 M1 v1 l1, Rd ρ1 W pr pw g1 cap1 len1 m M1 v1 N l1 doc → skipM l1 stop = none → Calls Tryz.prog 63 #[ptrV pr, .string ⟨stop.toArray⟩] W (StepPost ρ1 W pr pw g1 cap1 len1 m M1 v1 N l1 doc (.bool false))) := Lib.hid (fun _ W _ _ _ _ _ _ h1 h2 => skip_miss W h1 stop h2)
  obtain ⟨st, hst⟩ : ∃ st : ByteArray, (⟨stop.toArray⟩ : ByteArray) = st := ⟨_, rfl⟩
  rw [hst] at CSH CSM ⊢
  clear hst h hr K
  go_enter Tryz.func65, Tryz.ntmps65
  go_upto_region 1 with fail
  go_wp2
  go_loopg [7] k (fun gk _ wr => ∃ (ρ1 : Nat → Nat) (g1 cap1 len1 : Nat) (M1 : List NodeD) (v1 : Value) (l1 : BL), gk ≤ k ∧ Hid (Rd ρ1 wr pr pw g1 cap1 len1 m M1 v1 N l1 doc) ∧ Hid (readM doc gk (.kids p stop) l1 (coreL M1) = some (l', F')) ∧ Hid (Gone pr ρ ρ1 w wr))
  case atStart => exact ⟨ρ, g, cap, len, M, v, l, Nat.le_refl _, HR0, HRM, Lib.hid (Gone.refl _ _ _)⟩
  case round =>
    obtain ⟨ρ1, g1, cap1, len1, M1, v1, l1, hgk, HR, HM, HG⟩ := hrel
    cases gk with
    | zero => have := HM.out; cases this
    | succ j =>
      have hm := HM.out
      rw [readM_kids] at hm
      cases hs : skipM l1 stop with
      | some l2 =>
        rw [hs] at hm
        have HE := Lib.hid (Option.some.inj hm)
        have CS := Lib.hid (CSH.out _ _ _ _ _ _ _ _ _ HR.out hs)
        clear hm hs
        go_wp2_with (go_at_call 63; (with_reducible refine CS.out.mono ?_); rintro e w1 ⟨rfl, hR, hG⟩; have HR2 := Lib.hid hR; have HG2 := Lib.hid (HG.out.trans hG); clear hR hG)
        go_ret
        have he := HE.out
        injection he with e1 e2
        subst e1
        exact ⟨rfl, ρ1, g1, cap1, len1, M1, v1, HR2.out, e2, HG2.out⟩
      | none =>
        rw [hs] at hm
        dsimp only at hm
        have CS := Lib.hid (CSM.out _ _ _ _ _ _ _ _ HR.out hs)
        cases hn : readM doc j .node l1 (coreL M1) with
        | none => rw [hn] at hm; cases hm
        | some lf =>
        obtain ⟨l2, F1⟩ := lf
        rw [hn] at hm
        dsimp only at hm
        by_cases hg : (kidsK F1 p).length < 1000 ∧ p < (coreL M1).length ∧ (coreL M1).length < F1.length
        case neg => rw [if_neg hg] at hm; cases hm
        rw [if_pos hg] at hm
        have hml : (coreL M1).length = len1 := by rw [coreL_len, HR.out.wk.hlen]
        rw [hml] at hm hg
        have HM2 := Lib.hid hm
        have HGD := Lib.hid hg
        have CN : Hid (∀ W, Rd ρ1 W pr pw g1 cap1 len1 m M1 v1 N l1 doc → Calls Tryz.prog 52 #[ptrV pr] W (ReadPost ρ1 W pr pw m N doc l2 F1)) := Lib.hid (fun W h1 => HN.out j (by omega) _ _ _ _ _ _ _ _ _ _ h1 hn)
        have hl64 : (len1 : Int) ≤ 9223372036854775807 := by
          have h1 := HR.out.small.1
          have h2 := HR.out.wk.hlen
          omega
        clear hm hs hn hg hml HM
        go_upto_region 2 with (go_at_call 63; (with_reducible refine CS.out.mono ?_); rintro e w1 ⟨rfl, hR, hG⟩; have HR2 := Lib.hid hR; have HG2 := Lib.hid (HG.out.trans hG); clear hR hG)
        have r0 := HR2.out.r0
        have p0 := HR2.out.wk.c0
        go_upto_region 5 with (go_at_call 52; (with_reducible refine (CN.out _ HR2.out).mono ?_); rintro e w2 ⟨rfl, ρ2, g2, cap2, len2, M2, v2, hR, hc, hG⟩; have HR3 := Lib.hid hR; have HC := Lib.hid hc; have HG3 := Lib.hid (HG2.out.trans hG); clear hR hc hG r0 p0)
        have hF2 : F1.length = len2 := by rw [← HC.out, coreL_len, HR3.out.wk.hlen]
        obtain ⟨hg1, hg2, hg3⟩ := HGD.out
        have hlt2 : len1 < len2 := by omega
        have hp2 : p < len2 := by omega
        obtain ⟨x, hx⟩ : ∃ x, M2[len1]? = some x := ⟨_, List.getElem?_eq_getElem (by rw [HR3.out.wk.hlen]; exact hlt2)⟩
        obtain ⟨y, hy⟩ : ∃ y, M2[p]? = some y := ⟨_, List.getElem?_eq_getElem (by rw [HR3.out.wk.hlen]; exact hp2)⟩
        have hky : y.core.kids.length < 1000 := by
          rw [← HC.out] at hg1
          unfold kidsK at hg1
          rw [getC_nat, coreL_get hy] at hg1
          exact hg1
        have CS2 : Hid (Calls Tryz.prog 81 #[ptrV pw, .int .i64 (len1 : Int), .int .i64 (p : Int), .int .i64 (-1)] w2 fun e w' => e = .returned (.tuple #[]) ∧ ∃ (ρ3 : Nat → Nat) (M3 : List NodeD) (v3 : Value), Rd ρ3 w' pr pw g2 cap2 len2 m M3 v3 N l2 doc ∧ coreL M3 = mvIn F1 len1 p (-1) ∧ Gone pr ρ2 ρ3 w2 w') := Lib.hid ((mstandP_any w2 HR3.out.wk HR3.out.small len1 p x y hx hy (by omega) (-1) (.inl rfl)).mono (fun e w' hq => by
          obtain ⟨he, ρ3, M3, v3, N3, hW, hT, hO, ⟨a3, c3, rfl⟩, rfl⟩ := hq
          have hq := hT.quiet pr HR3.out.rlt (.inr HR3.out.role)
          refine ⟨he, ρ3, _, v3, ⟨hW, (World.cell?_of_block (w := w2) (a := ⟨pr, 0, none⟩) hq).trans HR3.out.r0, (World.cell?_of_block (w := w2) (a := ⟨pr, 1, none⟩) hq).trans HR3.out.r1, (World.cell?_of_block (w := w2) (a := ⟨pr, 2, none⟩) hq).trans HR3.out.r2, fun o => (World.frozen?_of_block (w := w2) (a := ⟨pr, o, none⟩) hq).trans (HR3.out.rf o), Nat.lt_of_lt_of_le HR3.out.rlt hT.size, (hO pr HR3.out.rlt).trans HR3.out.role, kids_small HR3.out.small hx hy hky, HR3.out.hdoc⟩, ?_, Gone.of_turn hT (fun b hb _ => hO b hb)⟩
          rw [stand_core hx hy (by omega), HC.out]))
        have r0 := HR3.out.r0
        clear hF2 hg1 hg2 hg3 hx hy hky
        go_wp2_with (go_at_call 81; (with_reducible refine CS2.out.mono ?_); rintro e w3 ⟨rfl, ρ3, M3, v3, hR, hc, hG⟩; have HR4 := Lib.hid hR; have HC4 := Lib.hid hc; have HG4 := Lib.hid (HG3.out.trans hG); clear hR hc hG r0)
        go_roundg j
        case measure => omega
        case rel => exact ⟨ρ3, g2, cap2, len2, M3, v3, l2, by omega, HR4, Lib.hid (by rw [HC4.out]; exact HM2.out), HG4⟩
end
end Go.Proofs.YtnjoimedilonnaaGreat
