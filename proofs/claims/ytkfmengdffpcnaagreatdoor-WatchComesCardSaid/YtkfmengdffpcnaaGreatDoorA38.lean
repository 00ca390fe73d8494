/- Texts joined in build order: WatchComesMath HeirSmall HeirFate FdAt HeirIter HeirHeirs MoveBox WatchOpen Tied. -/
import Derived.Test.YtkfmengdffpcnaaGreatDoorA33
import Derived.Test.YtkfmengdffpcnaaGreatDoorA20
import Derived.Test.YtkfmengdffpcnaaGreatDoorA11
import Derived.Test.YtkfmengdffpcnaaGreatDoorA04
import Derived.Test.YtkfmengdffpcnaaGreatDoorA12
import Derived.Deep.RegionHeld3
import Derived.Test.YtkfmengdffpcnaaGreatDoorA13
import Derived.Test.YtkfmengdffpcnaaGreatDoorA02
import Derived.Test.YtkfmengdffpcnaaGreatDoorA01
import Derived.Test.YtkfmengdffpcnaaGreatDoorA15
import Derived.Test.YtkfmengdffpcnaaGreatDoorA18
import Derived.Test.YtkfmengdffpcnaaGreatDoorA34
import Derived.Test.YtkfmengdffpcnaaGreatDoorA22
import Derived.Test.YtkfmengdffpcnaaGreatDoorA24
import Derived.Test.YtkfmengdffpcnaaGreatDoorRows
import Derived.WalkKit
import Derived.ProofKit
import Derived.OpenShut
import Derived.ShutString
import Derived.ChangeOld
import Derived.ChangeSame
import Derived.ChangeVars
import Derived.JoinedOf
import Derived.RowKit
import Derived.RowKitTokens
import Derived.LaidLaws
import Derived.LaidHandle
import Derived.Stop.Joined
namespace Go.Proofs.YtkfmengdffpcnaaGreatDoor
open Go.RowKit
section
variable {m : Int} {F : List Core}
theorem conn_of_doc (h : rightF m F = true) {d j : Nat} (hd : d < F.length) (hj : j < F.length) (hk : kindK F (d : Int) = 0) (hh : holdsT (parS F) d j) : connF F j = true := by
  have hx : F[d]? = some F[d] := List.getElem?_eq_getElem hd
  have hdn : parS F d = none := by
    have hov := over_facts h hd hd hd hx
    rw [kindK_at hx] at hk
    have h1 := (hov.doc hk).2
    rw [topZ_eq h hd] at h1
    have h2 : topF F d = d := by omega
    have h3 := (treeS h).root_top (F.length + 1) d hd (by have := (treeS h).rank_le d hd; omega)
    unfold topF at h2
    rwa [h2] at h3
  have h4 : topF F j = d := (treeS h).root_of (f := F.length + 1) hj (by have := (treeS h).rank_le j hj; omega) hh hdn
  unfold connF
  rw [h4]
  exact beq_iff_eq.2 hk
theorem doc_of_conn (h : rightF m F = true) {j : Nat} (hj : j < F.length) (hc : connF F j = true) : ∃ d : Nat, d < F.length ∧ kindK F (d : Int) = 0 ∧ holdsT (parS F) d j :=
  ⟨topF F j, topF_lt h hj, by unfold connF at hc; exact beq_iff_eq.1 hc, rootN_holds _ _⟩
theorem in_next12 {q p : Nat} {b : Int} {j : Nat} (hj : j < F.length) : nextUp (mvIn F q p b) (j : Int) = if j = q then (p : Int) else nextUp F j := by
  have hed : Edit F (mvIn F q p b) (fun j c => if j = q then (p : Int) else c.parent) (fun j c => if j = p then insB c.kids b q else c.kids) (fun _ c => c.doc) := edF_edit _ _ _ _
  have hc : F[j]? = some F[j] := List.getElem?_eq_getElem hj
  rw [hed.next hc]
  by_cases e : j = q
  · rw [if_pos e, if_pos e, if_neg (by omega)]
  · rw [if_neg e, if_neg e, nextUp_at hc]
    rfl
theorem in_ways (h : rightF m F = true) {q p : Nat} {b : Int} : ∀ (k c : Nat), c < F.length → ¬ holdsT (parS F) q c → upN (parS (mvIn F q p b)) k c = upN (parS F) k c := by
  intro k
  induction k with
  | zero => exact fun _ _ _ => rfl
  | succ k ih =>
    intro c hc hn
    have hcq : c ≠ q := fun e => hn (by rw [e]; exact holds_refl q)
    have hps : parS (mvIn F q p b) c = parS F c := by
      unfold parS
      rw [in_next12 hc, if_neg hcq]
    unfold upN
    rw [hps]
    cases hq2 : parS F c with
    | none => rfl
    | some t => exact ih t (parS_next h hc hq2).2 (fun hh => hn (holds_trans hh (holds_par hq2)))
theorem come_is (hr : rightF m F = true) {n p : Nat} (hn : n < F.length) (hpl : p < F.length) (hk : kindK F (n : Int) ≠ 3) (hd : docK F (n : Int) = docK F (p : Int)) (hcn : connF F n = false) (hcp : connF F p = true) (hmay : mayZ m F n p (-1) = 0) :
    ∃ H, insZ m F n p (-1) = (H, tellN H n (note 1), 0) ∧ rightF m H = true ∧ H.length = F.length ∧ (∀ z, kindK H z = kindK F z) := by
  have hy : F[p]? = some F[p] := List.getElem?_eq_getElem hpl
  have hx : F[n]? = some F[n] := List.getElem?_eq_getElem hn
  have PO := PutOk.of hmay hy
  have hpo : partsZ F (n : Int) = [(n : Int)] := by
    unfold partsZ
    rw [getC_nat, hx]
    dsimp only
    rw [if_neg (by rw [kindK_at hx] at hk; exact hk)]
  rw [hpo] at PO
  have inv := PO.inv
  obtain ⟨b, hb⟩ : ∃ b, beforeZ m F n p (-1) = b := ⟨_, rfl⟩
  rw [hb] at inv
  have hnp : ¬ holdsT (parS F) n p := PO.over n List.mem_cons_self
  have hput : putS (F, []) n p b = inS p b (F, []) n := by
    unfold putS
    dsimp only
    rw [hpo, if_neg hk]
    rfl
  -- the node taken out, if it has a parent
  obtain ⟨G, hG, hGr, hGl, hGk, hGd, hGh⟩ : ∃ G, overS (F, []) n (docK F (p : Int)) = (G, []) ∧ rightF m G = true ∧ G.length = F.length ∧ (∀ z, kindK G z = kindK F z) ∧ docK G (n : Int) = docK F n ∧ (∀ d j, d < F.length → j < F.length → ¬ holdsT (parS F) n j → (holdsT (parS G) d j ↔ holdsT (parS F) d j)) := by
    by_cases hpar : parentK F (n : Int) = -1
    · refine ⟨F, ?_, hr, rfl, fun _ => rfl, rfl, fun _ _ _ _ _ => Iff.rfl⟩
      unfold overS outS
      dsimp only
      rw [if_pos hpar]
      dsimp only
      rw [if_pos hd]
    · rw [parentK_at hx] at hpar
      obtain ⟨pp, _, _, ho⟩ := mvOut_out hr hx hpar
      have hdk : docK (mvOut F n) (n : Int) = docK F n := by
        unfold docK
        rw [ho.ed.getC (show getC F (n : Int) = some F[n] by rw [getC_nat, hx]), getC_nat, hx]
        rfl
      refine ⟨mvOut F n, ?_, ho.rightG, ho.ed.len, fun z => ho.ed.kindK z, hdk, fun d j h1 h2 h3 => ?_⟩
      · unfold overS outS
        dsimp only
        rw [parentK_at hx, if_neg hpar]
        dsimp only
        rw [hcn, if_neg Bool.false_ne_true, hdk, if_pos hd]
      · rw [ho.over h1 h2]
        exact ⟨fun h => h.1, fun h => ⟨h, fun h4 => absurd h4 h3⟩⟩
  have hnpG : ¬ holdsT (parS G) n p := fun h => hnp ((hGh n p hn hpl hnp).1 h)
  have hH : (inS p b (F, []) n).1 = mvIn G n p b := by
    unfold inS
    dsimp only
    rw [hG]
  have hright : rightF m (mvIn G n p b) = true := by rw [← hH]; exact (PutInv.ins (S := (F, [])) (r := []) inv).right
  have hlen : (mvIn G n p b).length = F.length := by
    unfold mvIn
    rw [(edF_edit _ _ _ _).len, hGl]
  have hkind : ∀ z, kindK (mvIn G n p b) z = kindK F z := fun z => by
    unfold mvIn
    rw [(edF_edit _ _ _ _).kindK, hGk]
  have hconn : connF (mvIn G n p b) n = true := by
    obtain ⟨d, h1, h2, h3⟩ := doc_of_conn hr hpl hcp
    have h4 := (hGh d p h1 hpl hnp).2 h3
    obtain ⟨k, h5⟩ := h4
    have h6 : holdsT (parS (mvIn G n p b)) d p := ⟨k, by rw [in_ways hGr k p (by rw [hGl]; exact hpl) hnpG]; exact h5⟩
    have h7 : holdsT (parS (mvIn G n p b)) p n := holds_par (parS_some (by rw [in_next12 (by rw [hGl]; exact hn), if_pos rfl]))
    exact conn_of_doc hright (by rw [hlen]; exact h1) (by rw [hlen]; exact hn) (by rw [hkind]; exact h2) (holds_trans h6 h7)
  have hN : (inS p b (F, []) n).2 = tellN (mvIn G n p b) n (note 1) := by
    unfold inS
    dsimp only
    rw [hG]
    dsimp only
    rw [hconn, if_pos rfl]
    rfl
  refine ⟨mvIn G n p b, ?_, hright, hlen, hkind⟩
  unfold insZ
  rw [if_pos hmay, Int.toNat_natCast, Int.toNat_natCast, hb, hput, hH, hN]
end
end Go.Proofs.YtkfmengdffpcnaaGreatDoor
namespace Go.Proofs.YtkfmengdffpcnaaGreatDoor
open Go.RowKit
def fateC (D : DeskD) (c : Core) : Int := if c.kind = 1 ∧ c.doc = 0 then ifRight D (findZ2 D.defs c.name.toList c.is.toList) else -1
def fateZ (m : Int) (F : List Core) (n : Int) (D : DeskD) : Int := if thereF m F n then (match getC F n with | some c => fateC D c | none => -1) else -1
set_option maxHeartbeats 1000000 in
set_option maxRecDepth 100000 in
theorem hknows_any (a : Option Addr) (len cap : Nat) (m : Int) (L : List NodeD) (n : Int) (w : World) (h : NodeRow w a len cap L) (hm : In64 m) (hn : In64 n) (hs : smallF L) :
    Calls Tryz.prog 34 #[forV a len cap m, .int .i64 n] w fun e w' => e = .returned (.bool (rootZ m (coreL L) n != -1)) ∧ Below w.heap.size w w' := by
  have BX := Lib.hid (Box.start (m := m) h)
  have CR : Hid (∀ W, NodeRow W a len cap L → Calls Tryz.prog 62 #[forV a len cap m, .int .i64 n] W fun e w' => e = .returned (.int .i64 (rootZ m (coreL L) n)) ∧ Below W.heap.size W w') := Lib.hid (fun W h1 => rootFn_any a len cap m L n W h1 hm hn hs)
  obtain ⟨z, hz⟩ : ∃ z, rootZ m (coreL L) n = z := ⟨_, rfl⟩
  rw [hz] at CR ⊢
  have z0 := BX.out.c0
  have z1 := BX.out.c1
  clear h hm hn hs hz
  go_enter Tryz.func34, Tryz.ntmps34
  go_wp2_with (go_at_call 62; (with_reducible refine (CR.out _ BX.out.row).mono ?_); rintro e w1 ⟨rfl, hb⟩; have HB := Lib.hid (BX.out.below.trans (hb.mono BX.out.below.size)); clear hb)
  go_ret
  exact ⟨rfl, HB.out⟩
theorem knows_there (m : Int) (F : List Core) (n : Int) : (rootZ m F n != -1) = thereF m F n := by
  unfold rootZ
  by_cases h : thereF m F n = true
  · rw [if_pos h, h]
    exact bne_iff_ne.2 (by omega)
  · rw [if_neg h, Bool.eq_false_iff.2 h]
    rfl
end Go.Proofs.YtkfmengdffpcnaaGreatDoor
namespace Go.Proofs.YtkfmengdffpcnaaGreatDoor
open Go.RowKit
theorem fateC_nil {L : List DefD} {M : List WaitD} {nx : Int} {bz : Bool} {c : Core} (h : rightK ⟨L, M, nx, bz⟩ = true) : fateC ⟨L, [], nx, bz⟩ c = fateC ⟨L, M, nx, bz⟩ c := by
  have h2 : rightK ⟨L, [], nx, bz⟩ = true := by
    unfold rightK at h ⊢
    simp only [Bool.and_eq_true] at h ⊢
    exact ⟨h.1, rfl⟩
  unfold fateC ifRight
  rw [h, h2]
theorem fateC_no {D : DeskD} {c : Core} (h : rightK D = false) : fateC D c = -1 := by
  unfold fateC ifRight
  rw [h]
  split <;> rfl
set_option maxHeartbeats 2000000 in
set_option maxRecDepth 100000 in
theorem fateOf_any (x : NodeD) (da : Option Addr) (dl dc : Nat) (wa : Option Addr) (wl wc : Nat) (nx : Int) (bz : Bool) (L : List DefD) (w : World) (hd : DefRow w da dl dc L) :
    Calls Tryz.prog 35 #[nodVal x, deskV da dl dc wa wl wc nx bz] w fun e w' => e = .returned (.int .i64 (fateC ⟨L, [], nx, bz⟩ x.core)) ∧ Below w.heap.size w w' := by
  obtain ⟨⟨kind, name, is, data, attrs, parent, kids, host, under, doc⟩, aA, aN, aC, kA, kN, kC⟩ := x
  have CF : Hid (∀ W, Below w.heap.size w W → Calls Tryz.prog 63 #[deskV da dl dc none 0 0 nx bz, .string name, .string is] W fun e w' => e = .returned (.int .i64 (ifRight ⟨L, [], nx, bz⟩ (findZ2 L name.toList is.toList))) ∧ Below W.heap.size W w') := Lib.hid (fun W hb => deskfind_any da dl dc none 0 0 nx bz L [] name is W (hd.below hb) (WaitRow.nil W))
  obtain ⟨z, hz⟩ : ∃ z, ifRight ⟨L, [], nx, bz⟩ (findZ2 L name.toList is.toList) = z := ⟨_, rfl⟩
  rw [hz] at CF
  have HF : Hid (∀ data attrs parent kids host under, fateC ⟨L, [], nx, bz⟩ ⟨kind, name, is, data, attrs, parent, kids, host, under, doc⟩ = if kind = 1 ∧ doc = 0 then z else -1) := Lib.hid (fun _ _ _ _ _ _ => by unfold fateC; rw [← hz])
  rw [HF.out]
  obtain ⟨r, hr⟩ : ∃ r, (if kind = 1 ∧ doc = 0 then z else -1) = r := ⟨_, rfl⟩
  rw [hr]
  have HR := Lib.hid hr
  clear hd hz HF hr
  obtain ⟨w0, hw0, X0, X9, X1, X2, D0, D1, D2, D3, DF, HSZ, HB⟩ : ∃ w0, (w.alloc (nodB ⟨⟨kind, name, is, data, attrs, parent, kids, host, under, doc⟩, aA, aN, aC, kA, kN, kC⟩)).alloc (deskB da dl dc wa wl wc nx bz) = w0 ∧ Hid (w0.cell? ⟨w.heap.size, 0, none⟩ = some (.int .i64 kind)) ∧ Hid (w0.cell? ⟨w.heap.size, 9, none⟩ = some (.int .i64 doc)) ∧ Hid (w0.cell? ⟨w.heap.size, 1, none⟩ = some (.string name)) ∧ Hid (w0.cell? ⟨w.heap.size, 2, none⟩ = some (.string is)) ∧ Hid (w0.cell? ⟨w.heap.size + 1, 0, none⟩ = some (.slice da dl dc)) ∧ Hid (w0.cell? ⟨w.heap.size + 1, 1, none⟩ = some (.slice wa wl wc)) ∧ Hid (w0.cell? ⟨w.heap.size + 1, 2, none⟩ = some (.int .i64 nx)) ∧ Hid (w0.cell? ⟨w.heap.size + 1, 3, none⟩ = some (.bool bz)) ∧ Hid (w0.frozen? ⟨w.heap.size + 1, 1, none⟩ = false) ∧ Hid (w0.heap.size = w.heap.size + 2) ∧ Hid (Below w.heap.size w w0) := by
    have hs : (w.alloc (nodB ⟨⟨kind, name, is, data, attrs, parent, kids, host, under, doc⟩, aA, aN, aC, kA, kN, kC⟩)).heap.size = w.heap.size + 1 := by simp
    have hb := below_box (w.alloc (nodB ⟨⟨kind, name, is, data, attrs, parent, kids, host, under, doc⟩, aA, aN, aC, kA, kN, kC⟩)) (deskB da dl dc wa wl wc nx bz)
    have c : ∀ (j : Nat), ((w.alloc (nodB ⟨⟨kind, name, is, data, attrs, parent, kids, host, under, doc⟩, aA, aN, aC, kA, kN, kC⟩)).alloc (deskB da dl dc wa wl wc nx bz)).cell? ⟨w.heap.size, j, none⟩ = (#[.int .i64 kind, .string name, .string is, .string data, .slice aA aN aC, .int .i64 parent, .slice kA kN kC, .int .i64 host, .int .i64 under, .int .i64 doc] : Array Value)[j]? := fun j => (hb.cell (p := ⟨w.heap.size, j, none⟩) (by rw [hs]; show w.heap.size < w.heap.size + 1; omega)).trans (cell_of_row _ w.heap.size j _ 36 (0, 0) (heap_alloc_new _ _))
    have h9 := heap_alloc_new (w.alloc (nodB ⟨⟨kind, name, is, data, attrs, parent, kids, host, under, doc⟩, aA, aN, aC, kA, kN, kC⟩)) (deskB da dl dc wa wl wc nx bz)
    rw [hs] at h9
    have d : ∀ (j : Nat), ((w.alloc (nodB ⟨⟨kind, name, is, data, attrs, parent, kids, host, under, doc⟩, aA, aN, aC, kA, kN, kC⟩)).alloc (deskB da dl dc wa wl wc nx bz)).cell? ⟨w.heap.size + 1, j, none⟩ = (#[.slice da dl dc, .slice wa wl wc, .int .i64 nx, .bool bz] : Array Value)[j]? := fun j => cell_of_row _ _ j _ 29 (0, 0) h9
    exact ⟨_, rfl, Lib.hid (c 0), Lib.hid (c 9), Lib.hid (c 1), Lib.hid (c 2), Lib.hid (d 0), Lib.hid (d 1), Lib.hid (d 2), Lib.hid (d 3), Lib.hid (by simp only [World.frozen?, h9]; rfl), Lib.hid (by simp), Lib.hid ((below_box _ _).trans (hb.mono (by rw [hs]; omega)))⟩
  have HW := Lib.hid hw0
  clear hw0
  have x0 := X0.out
  have x9 := X9.out
  have d1 := D1.out
  have f1 := DF.out
  by_cases hk : kind = 1
  · by_cases hdo : doc = 0
    · have e0 : (kind != 1) = false := by rw [hk]; rfl
      have e1 : (doc != 0) = false := by rw [hdo]; rfl
      have HE : Hid (r = z) := Lib.hid (by rw [← HR.out]; exact if_pos ⟨hk, hdo⟩)
      clear hk hdo
      go_enter Tryz.func35, Tryz.ntmps35
      go_upto_region 1 with fail
      rw [HW.out]
      go_upto_region 4 with fail
      obtain ⟨w1, hw1, Y1, Y2, E0, E1, E2, E3, HB1⟩ : ∃ w1, w0.setCell ⟨w.heap.size + 1, 1, none⟩ (.slice none 0 0) = w1 ∧ Hid (w1.cell? ⟨w.heap.size, 1, none⟩ = some (.string name)) ∧ Hid (w1.cell? ⟨w.heap.size, 2, none⟩ = some (.string is)) ∧ Hid (w1.cell? ⟨w.heap.size + 1, 0, none⟩ = some (.slice da dl dc)) ∧ Hid (w1.cell? ⟨w.heap.size + 1, 1, none⟩ = some (.slice none 0 0)) ∧ Hid (w1.cell? ⟨w.heap.size + 1, 2, none⟩ = some (.int .i64 nx)) ∧ Hid (w1.cell? ⟨w.heap.size + 1, 3, none⟩ = some (.bool bz)) ∧ Hid (Below w.heap.size w w1) := by
        have o : ∀ (b j : Nat), (b ≠ w.heap.size + 1 ∨ j ≠ 1) → (w0.setCell ⟨w.heap.size + 1, 1, none⟩ (.slice none 0 0)).cell? ⟨b, j, none⟩ = w0.cell? ⟨b, j, none⟩ := fun b j h => World.cell?_setCell_other _ _ _ _ (fun e => by injection e with e1 e2; omega)
        exact ⟨_, rfl, Lib.hid ((o _ _ (by omega)).trans X1.out), Lib.hid ((o _ _ (by omega)).trans X2.out), Lib.hid ((o _ _ (by omega)).trans D0.out), Lib.hid (World.cell?_setCell_same _ _ _ D1.out), Lib.hid ((o _ _ (by omega)).trans D2.out), Lib.hid ((o _ _ (by omega)).trans D3.out), Lib.hid (HB.out.setCell (p := ⟨w.heap.size + 1, 1, none⟩) (by show w.heap.size ≤ w.heap.size + 1; omega) _)⟩
      rw [hw1]
      clear hw1 x0 x9 d1 f1
      have x1 := Y1.out
      have x2 := Y2.out
      have d0 := E0.out
      have d1 := E1.out
      have d2 := E2.out
      have d3 := E3.out
      go_wp2_with (go_at_call 63; (with_reducible refine (CF.out _ HB1.out).mono ?_); rintro e w2 ⟨rfl, hb⟩; have HB2 := Lib.hid (HB1.out.trans (hb.mono HB1.out.size)); clear hb)
      go_ret
      exact ⟨by rw [HE.out]; rfl, HB2.out⟩
    · have e0 : (kind != 1) = false := by rw [hk]; rfl
      have e1 : (doc != 0) = true := bne_iff_ne.2 hdo
      have HE : Hid (r = -1) := Lib.hid (by rw [← HR.out]; exact if_neg (fun h => hdo h.2))
      clear hk hdo
      go_enter Tryz.func35, Tryz.ntmps35
      go_upto_region 1 with fail
      rw [HW.out]
      go_wp2
      go_ret
      exact ⟨by rw [HE.out]; rfl, HB.out⟩
  · have e0 : (kind != 1) = true := bne_iff_ne.2 hk
    have HE : Hid (r = -1) := Lib.hid (by rw [← HR.out]; exact if_neg (fun h => hk h.1))
    clear hk
    go_enter Tryz.func35, Tryz.ntmps35
    go_upto_region 1 with fail
    rw [HW.out]
    go_wp2
    go_ret
    exact ⟨by rw [HE.out]; rfl, HB.out⟩
set_option maxHeartbeats 4000000 in
set_option maxRecDepth 100000 in
theorem fateFn_any (a : Option Addr) (len cap : Nat) (m : Int) (K : List NodeD) (n : Int) (da : Option Addr) (dl dc : Nat) (wa : Option Addr) (wl wc : Nat) (nx : Int) (bz : Bool) (L : List DefD) (M : List WaitD) (w : World) (h : NodeRow w a len cap K) (hm : In64 m) (hn : In64 n) (hs : smallF K) (hd : DefRow w da dl dc L) (ht : WaitRow w wa wl wc M) :
    Calls Tryz.prog 11 #[forV a len cap m, .int .i64 n, deskV da dl dc wa wl wc nx bz] w fun e w' => e = .returned (.int .i64 (fateZ m (coreL K) n ⟨L, M, nx, bz⟩)) ∧ Below w.heap.size w w' := by
  have CK : Hid (∀ W, NodeRow W a len cap K → Calls Tryz.prog 34 #[forV a len cap m, .int .i64 n] W fun e w' => e = .returned (.bool (thereF m (coreL K) n)) ∧ Below W.heap.size W w') := Lib.hid (fun W h1 => by
    have := hknows_any a len cap m K n W h1 hm hn hs
    rwa [knows_there] at this)
  obtain ⟨w0, hw0, BX, D0, D1, D2, D3, HB0⟩ : ∃ w0, (w.alloc (forB a len cap m)).alloc (deskB da dl dc wa wl wc nx bz) = w0 ∧ Hid (Box w w0 w.heap.size a len cap m K (coreL K)) ∧ Hid (∀ W, Below w0.heap.size w0 W → W.cell? ⟨w.heap.size + 1, 0, none⟩ = some (.slice da dl dc)) ∧ Hid (∀ W, Below w0.heap.size w0 W → W.cell? ⟨w.heap.size + 1, 1, none⟩ = some (.slice wa wl wc)) ∧ Hid (∀ W, Below w0.heap.size w0 W → W.cell? ⟨w.heap.size + 1, 2, none⟩ = some (.int .i64 nx)) ∧ Hid (∀ W, Below w0.heap.size w0 W → W.cell? ⟨w.heap.size + 1, 3, none⟩ = some (.bool bz)) ∧ Hid (Below w.heap.size w w0) := by
    have hs : (w.alloc (forB a len cap m)).heap.size = w.heap.size + 1 := by simp
    have hb := below_box (w.alloc (forB a len cap m)) (deskB da dl dc wa wl wc nx bz)
    have hlt : w.heap.size + 1 < ((w.alloc (forB a len cap m)).alloc (deskB da dl dc wa wl wc nx bz)).heap.size := by simp
    have d : ∀ (j : Nat) (W : World), Below ((w.alloc (forB a len cap m)).alloc (deskB da dl dc wa wl wc nx bz)).heap.size ((w.alloc (forB a len cap m)).alloc (deskB da dl dc wa wl wc nx bz)) W → W.cell? ⟨w.heap.size + 1, j, none⟩ = (#[.slice da dl dc, .slice wa wl wc, .int .i64 nx, .bool bz] : Array Value)[j]? := fun j W hW => by
      have := cell_of_row ((w.alloc (forB a len cap m)).alloc (deskB da dl dc wa wl wc nx bz)) (w.alloc (forB a len cap m)).heap.size j _ 29 (0, 0) (heap_alloc_new _ _)
      rw [hs] at this
      exact (hW.cell (p := ⟨w.heap.size + 1, j, none⟩) hlt).trans this
    exact ⟨_, rfl, Lib.hid ((Box.start h).keep hb), Lib.hid (d 0), Lib.hid (d 1), Lib.hid (d 2), Lib.hid (d 3), Lib.hid ((below_box _ _).trans (hb.mono (by rw [hs]; omega)))⟩
  have HW := Lib.hid hw0
  have HDT : Hid (∀ W, Below w.heap.size w W → DefRow W da dl dc L ∧ WaitRow W wa wl wc M) := Lib.hid (fun W hb => ⟨hd.below hb, ht.below hb⟩)
  have HL := Lib.hid h.hlen
  have hl64 := h.len64
  have z0 := BX.out.c0
  have z1 := BX.out.c1
  have CD : Hid (∀ W, Below w.heap.size w W → Calls Tryz.prog 21 #[deskV da dl dc wa wl wc nx bz] W fun e w' => e = .returned (.bool (rightK ⟨L, M, nx, bz⟩)) ∧ Below W.heap.size W w') := Lib.hid (fun W hb => deskright_any da dl dc wa wl wc nx bz L M W (hd.below hb) (ht.below hb))
  obtain ⟨r9, hr9⟩ : ∃ r, rightK ⟨L, M, nx, bz⟩ = r := ⟨_, rfl⟩
  rw [hr9] at CD
  obtain ⟨q, hq⟩ : ∃ q, thereF m (coreL K) n = q := ⟨_, rfl⟩
  rw [hq] at CK
  cases q with
  | false =>
    have HE : Hid (fateZ m (coreL K) n ⟨L, M, nx, bz⟩ = -1) := Lib.hid (by unfold fateZ; rw [hq]; rfl)
    clear h hm hn hs hd ht hw0 hq hr9
    go_enter Tryz.func11, Tryz.ntmps11
    go_upto_region 1 with fail
    rw [HW.out]
    go_wp2_with (go_at_call 34; (with_reducible refine (CK.out _ BX.out.row).mono ?_); rintro e w1 ⟨rfl, hb⟩; have HB1 := Lib.hid (HB0.out.trans (hb.mono HB0.out.size)); clear hb)
    go_ret
    exact ⟨by rw [HE.out]; rfl, HB1.out⟩
  | true =>
    cases r9 with
    | false =>
    have HE : Hid (fateZ m (coreL K) n ⟨L, M, nx, bz⟩ = -1) := Lib.hid (by
      unfold fateZ
      rw [hq, if_pos rfl]
      split
      · exact fateC_no hr9
      · rfl)
    clear h hm hn hs hd ht hw0 hq hr9
    go_enter Tryz.func11, Tryz.ntmps11
    go_upto_region 1 with fail
    rw [HW.out]
    have d0 := D0.out _ (Below.refl _ _)
    have d1 := D1.out _ (Below.refl _ _)
    have d2 := D2.out _ (Below.refl _ _)
    have d3 := D3.out _ (Below.refl _ _)
    go_wp2_with (first
      | (go_at_call 34; (with_reducible refine (CK.out _ BX.out.row).mono ?_); rintro e w1 ⟨rfl, hb⟩; have HB1 := Lib.hid (HB0.out.trans (hb.mono HB0.out.size)); have d0 := D0.out _ hb; have d1 := D1.out _ hb; have d2 := D2.out _ hb; have d3 := D3.out _ hb; clear hb)
      | (go_at_call 21; (with_reducible refine (CD.out _ HB1.out).mono ?_); rintro e w2 ⟨rfl, hb⟩; have HB2 := Lib.hid (HB1.out.trans (hb.mono HB1.out.size)); clear hb))
    go_ret
    exact ⟨by rw [HE.out]; rfl, HB2.out⟩
    | true =>
    have HR9 := Lib.hid hr9
    obtain ⟨k, hk, rfl⟩ : ∃ k : Nat, k < len ∧ n = k := by
      unfold thereF at hq
      simp only [Bool.and_eq_true, decide_eq_true_eq] at hq
      refine ⟨n.toNat, ?_, by omega⟩
      have := hq.2
      rw [coreL_len, h.hlen] at this
      omega
    obtain ⟨b, off, x, rfl, hblt, hx, hxa, -⟩ := BX.out.row.get hk
    have HE : Hid (fateZ m (coreL K) (k : Int) ⟨L, M, nx, bz⟩ = fateC ⟨L, M, nx, bz⟩ x.core) := Lib.hid (by unfold fateZ; rw [hq, if_pos rfl, getC_nat, coreL_get hx])
    have CF : Hid (∀ W, Below w.heap.size w W → Calls Tryz.prog 35 #[nodVal x, deskV da dl dc wa wl wc nx bz] W fun e w' => e = .returned (.int .i64 (fateC ⟨L, M, nx, bz⟩ x.core)) ∧ Below W.heap.size W w') := Lib.hid (fun W hb => by
      have h := fateOf_any x da dl dc wa wl wc nx bz L W (hd.below hb)
      rw [fateC_nil HR9.out] at h
      exact h)
    obtain ⟨z, hz⟩ : ∃ z, fateC ⟨L, M, nx, bz⟩ x.core = z := ⟨_, rfl⟩
    rw [hz] at CF HE
    have hxd : x.core.data.size ≤ 9223372036854775807 := (h.ok x (List.mem_of_getElem? hx)).data
    have HXA : Hid (∀ W, Below w0.heap.size w0 W → NodeAt W b (off + k * 10) x) := Lib.hid (fun W hb => hxa.below hblt hb)
    clear h hm hn hs hd ht hw0 hq hz hx hxa hblt hr9
    go_enter Tryz.func11, Tryz.ntmps11
    go_upto_region 1 with fail
    rw [HW.out]
    have d0 := D0.out _ (Below.refl _ _)
    have d1 := D1.out _ (Below.refl _ _)
    have d2 := D2.out _ (Below.refl _ _)
    have d3 := D3.out _ (Below.refl _ _)
    go_upto_region 3 with (first
      | (go_at_call 34; (with_reducible refine (CK.out _ BX.out.row).mono ?_); rintro e v1 ⟨rfl, hb⟩; have HB1a := Lib.hid (HB0.out.trans (hb.mono HB0.out.size)); have HVa := Lib.hid hb; clear hb z0 z1 d0 d1 d2 d3; have d0 := D0.out _ HVa.out; have d1 := D1.out _ HVa.out; have d2 := D2.out _ HVa.out; have d3 := D3.out _ HVa.out)
      | (go_at_call 21; (with_reducible refine (CD.out _ HB1a.out).mono ?_); rintro e w1 ⟨rfl, hb⟩; have HB1 := Lib.hid (HB1a.out.trans (hb.mono HB1a.out.size)); have HV := Lib.hid (HVa.out.trans (hb.mono HVa.out.size)); clear hb d0 d1 d2 d3))
    have BX1 := Lib.hid (BX.out.keep HV.out)
    have z0 := BX1.out.c0
    have d0 := D0.out _ HV.out
    have d1 := D1.out _ HV.out
    have d2 := D2.out _ HV.out
    have d3 := D3.out _ HV.out
    obtain ⟨x0, x1, x2, x3, x4, x5, x6, x7, x8, x9⟩ := HXA.out _ HV.out
    go_region_held3 (fun w' => w'.cell? ⟨w.heap.size, 0, none⟩ = some (.slice (some ⟨b, off, none⟩) len cap) ∧ w'.cell? ⟨w.heap.size + 1, 0, none⟩ = some (.slice da dl dc) ∧ w'.cell? ⟨w.heap.size + 1, 1, none⟩ = some (.slice wa wl wc) ∧ w'.cell? ⟨w.heap.size + 1, 2, none⟩ = some (.int .i64 nx) ∧ w'.cell? ⟨w.heap.size + 1, 3, none⟩ = some (.bool bz) ∧ w'.cell? ⟨b, off + k * 10, none⟩ = some (.int .i64 x.core.kind) ∧ w'.cell? ⟨b, off + k * 10 + 1, none⟩ = some (.string x.core.name) ∧ w'.cell? ⟨b, off + k * 10 + 2, none⟩ = some (.string x.core.is) ∧ w'.cell? ⟨b, off + k * 10 + 3, none⟩ = some (.string x.core.data) ∧ w'.cell? ⟨b, off + k * 10 + 4, none⟩ = some (.slice x.aA x.aN x.aC) ∧ w'.cell? ⟨b, off + k * 10 + 5, none⟩ = some (.int .i64 x.core.parent) ∧ w'.cell? ⟨b, off + k * 10 + 6, none⟩ = some (.slice x.kA x.kN x.kC) ∧ w'.cell? ⟨b, off + k * 10 + 7, none⟩ = some (.int .i64 x.core.host) ∧ w'.cell? ⟨b, off + k * 10 + 8, none⟩ = some (.int .i64 x.core.under) ∧ w'.cell? ⟨b, off + k * 10 + 9, none⟩ = some (.int .i64 x.core.doc)) (go_keep) (first | (go_at_call 35; (with_reducible refine (CF.out _ HB1.out.drew).mono ?_); rintro e w2 ⟨rfl, hb⟩; have HB2 := Lib.hid (HB1.out.drew.trans (hb.mono HB1.out.drew.size)); have hv := (Below.refl w1.heap.size w1).drew.trans hb; have HV2 := Lib.hid (HV.out.trans (hv.mono HV.out.size)); clear z0 d0 d1 d2 d3 x0 x1 x2 x3 x4 x5 x6 x7 x8 x9 hb hv; have z0 := (BX.out.keep HV2.out).c0; have d0 := D0.out _ HV2.out; have d1 := D1.out _ HV2.out; have d2 := D2.out _ HV2.out; have d3 := D3.out _ HV2.out; obtain ⟨x0, x1, x2, x3, x4, x5, x6, x7, x8, x9⟩ := HXA.out _ HV2.out))
    all_goals go_wp2
    all_goals
      go_ret
      exact ⟨by rw [HE.out]; rfl, HB2.out⟩
end Go.Proofs.YtkfmengdffpcnaaGreatDoor
namespace Go.Proofs.YtkfmengdffpcnaaGreatDoor
open Go.RowKit
structure FD (w W : World) (gf gd : Nat) (a : Option Addr) (len cap : Nat) (m : Int) (K : List NodeD) (da : Option Addr) (dl dc : Nat) (wa : Option Addr) (wl wc : Nat) (nx : Int) (bz : Bool) (L : List DefD) (M : List WaitD) : Prop where
  f : Box w W gf a len cap m K (coreL K)
  d : DBox w W gd da dl dc wa wl wc nx bz L M
section
variable {w W V : World} {gf gd : Nat} {a : Option Addr} {len cap : Nat} {m : Int} {K : List NodeD} {da wa : Option Addr} {dl dc wl wc : Nat} {nx : Int} {bz : Bool} {L : List DefD} {M : List WaitD}
theorem FD.keep (h : FD w W gf gd a len cap m K da dl dc wa wl wc nx bz L M) (hb : Below W.heap.size W V) : FD w V gf gd a len cap m K da dl dc wa wl wc nx bz L M := ⟨h.f.keep hb, h.d.keep hb⟩
theorem FD.lt (h : FD w W gf gd a len cap m K da dl dc wa wl wc nx bz L M) : gf < W.heap.size ∧ gd < W.heap.size := ⟨h.f.lt, h.d.lt⟩
theorem FD.start (h0 : NodeRow w a len cap K) (hd : DefRow w da dl dc L) (ht : WaitRow w wa wl wc M) : FD w ((w.alloc (forB a len cap m)).alloc (deskB da dl dc wa wl wc nx bz)) w.heap.size (w.heap.size + 1) a len cap m K da dl dc wa wl wc nx bz L M := by
  have hb := below_box w (forB a len cap m)
  have hb2 := below_box (w.alloc (forB a len cap m)) (deskB da dl dc wa wl wc nx bz)
  have hs : (w.alloc (forB a len cap m)).heap.size = w.heap.size + 1 := by simp
  have h2 := DBox.start (nx := nx) (bz := bz) (hd.below hb) (ht.below hb)
  rw [hs] at h2
  exact ⟨(Box.start h0).keep hb2, ⟨h2.d, h2.t, by omega, h2.lt, h2.c0, h2.c1, h2.c2, h2.c3, hb.trans (hb2.mono (by omega))⟩⟩
end
end Go.Proofs.YtkfmengdffpcnaaGreatDoor
namespace Go.Proofs.YtkfmengdffpcnaaGreatDoor
open Go.RowKit Go.Shelf
attribute [local go_sem] Oper.semAt_some
def rowB (Bx : Nat) (W : World) : Option Nat := (W.cell? ⟨Bx, 0, none⟩).bind Value.ownBlock
structure KpE (Bx : Nat) (W W' : World) : Prop where
  size : W.heap.size ≤ W'.heap.size
  cell : ∀ b o u, b ≠ Bx → rowB Bx W ≠ some b → W.cell? ⟨b, o, none⟩ = some u → W'.cell? ⟨b, o, none⟩ = some u
  row : ∀ r, rowB Bx W' = some r → rowB Bx W = some r ∨ W.heap.size ≤ r
theorem cell_lt {W : World} {b o : Nat} {u : Value} (h : W.cell? ⟨b, o, none⟩ = some u) : b < W.heap.size := by
  rcases Nat.lt_or_ge b W.heap.size with h1 | h1
  · exact h1
  · simp [World.cell?, Array.getElem?_eq_none h1] at h
theorem KpE.refl (Bx : Nat) (W : World) : KpE Bx W W := ⟨Nat.le_refl _, fun _ _ _ _ _ h => h, fun _ h => .inl h⟩
theorem KpE.trans {Bx : Nat} {A B C : World} (h : KpE Bx A B) (k : KpE Bx B C) : KpE Bx A C :=
  ⟨Nat.le_trans h.size k.size, fun b o u hb hr hc => k.cell b o u hb (fun e => by
    rcases h.row b e with h1 | h1
    · exact hr h1
    · have := cell_lt hc
      omega) (h.cell b o u hb hr hc), fun r hr => by
    rcases k.row r hr with h1 | h1
    · exact h.row r h1
    · exact .inr (Nat.le_trans h.size h1)⟩
theorem cell_of_cells {W : World} {b o : Nat} {u : Value} (h : W.cell? ⟨b, o, none⟩ = some u) : ∃ c t f, W.heap[b]? = some (.cells c t f) := by
  have hlt := cell_lt h
  unfold World.cell? at h
  cases hb : W.heap[b]? with
  | none => simp [hb] at h
  | some ob =>
    cases ob with
    | cells c t f => exact ⟨c, t, f, rfl⟩
    | _ => simp [hb] at h
theorem putObj_cell {W : World} {l b o : Nat} {ob ob' : Obj} (hl : W.heap[l]? = some ob) (hc : ob.isCells = false) {u : Value} (h : W.cell? ⟨b, o, none⟩ = some u) : (W.putObj l ob').cell? ⟨b, o, none⟩ = some u := by
  have hne : b ≠ l := fun e => by
    obtain ⟨c, t, f, hb⟩ := cell_of_cells h
    rw [e, hl] at hb
    injection hb with hb
    rw [hb] at hc
    cases hc
  rw [World.cell?_of_block (w := W) (a := ⟨b, o, none⟩) (World.putObj_heap_other hne)]
  exact h
theorem KpE.putObj {Bx : Nat} {W : World} {l : Nat} {ob ob' : Obj} (hne : Bx ≠ l) (hl : W.heap[l]? = some ob) (hc : ob.isCells = false) : KpE Bx W (W.putObj l ob') := by
  refine ⟨by simp, fun b o u _ _ h => putObj_cell hl hc h, fun r hr => .inl ?_⟩
  unfold rowB at hr ⊢
  rwa [World.cell?_of_block (w := W) (a := ⟨Bx, 0, none⟩) (World.putObj_heap_other hne)] at hr
theorem elemsZ_in {m : Int} {F : List Core} {n z : Int} (h : z ∈ elemsZ m F n) : ∃ t : Nat, z = t ∧ t < F.length := by
  unfold elemsZ at h
  have h := (List.mem_filter.1 h).1
  unfold allZ at h
  by_cases ht : thereF m F n = true
  · rw [if_pos ht] at h
    unfold thereF at ht
    simp only [Bool.and_eq_true, decide_eq_true_eq] at ht
    have hn : n.toNat < F.length := by omega
    have := allI_num (x := n.toNat) ht.1.1 hn (z := z) (by rwa [show ((n.toNat : Nat) : Int) = n by omega])
    exact this
  · rw [if_neg ht] at h
    cases h
end Go.Proofs.YtkfmengdffpcnaaGreatDoor
namespace Go.Proofs.YtkfmengdffpcnaaGreatDoor
open Go.RowKit Go.Shelf
attribute [local go_sem] Oper.semAt_some
structure Coll (B Bx : Nat) (t e : TypeId) (size : Nat) (w W : World) (n : Nat) (xs : List Value) : Prop where
  row : ∃ v, Boxed W Bx t v ∧ W.ownsRow B e size v n xs
  below : Below B w W
  low : B ≤ W.heap.size
theorem Coll.own {β : Type} {B B' Bx : Nat} {t e : TypeId} {size : Nat} {w : World} (hB : B ≤ B') (k : β → Nat) (f : β → List Value) : OwnFrom B' (fun s W => Coll B Bx t e size w W (k s) (f s)) := by
  rintro s W W' row ⟨⟨v, hv, hr⟩, hb, hl⟩ hg hrow
  refine ⟨⟨v, hv.kept hg (fun e' => ?_), hr.kept hg ?_⟩, hb.grown hg hl (fun k e' => Nat.le_trans hB (hrow k e').1), Nat.le_trans hl hg.size⟩
  · obtain ⟨o, ho, hc⟩ := (hrow Bx e'.symm).2
    rw [show W.heap[Bx]? = _ from hv] at ho
    cases ho
    cases hc
  · rcases hr.2 with ⟨rfl, _⟩ | ⟨g, cap, cur, rfl, _, hgb, _⟩
    · exact .inl rfl
    · refine .inr fun e' => ?_
      obtain ⟨o, ho, hc⟩ := (hrow g (by simpa [Value.ownBlock] using e'.symm)).2
      rw [hgb] at ho
      cases ho
      cases hc
theorem elemsZ_len (m : Int) (F : List Core) (n : Int) : (elemsZ m F n).length ≤ F.length := by
  unfold elemsZ allZ
  refine Nat.le_trans (List.length_filter_le _ _) ?_
  by_cases ht : thereF m F n = true
  · rw [if_pos ht]
    unfold thereF at ht
    simp only [Bool.and_eq_true, decide_eq_true_eq] at ht
    have := allI_len (x := n.toNat) ht.1.1 (by omega)
    rwa [show ((n.toNat : Nat) : Int) = n by omega] at this
  · rw [if_neg ht]
    exact Nat.zero_le _
end Go.Proofs.YtkfmengdffpcnaaGreatDoor
namespace Go.Proofs.YtkfmengdffpcnaaGreatDoor
open Go.RowKit
structure MBox (w W : World) (g : Nat) (a : Option Addr) (len cap : Nat) (m : Int) (L : List NodeD) (F : List Core) : Prop where
  box : Box w W g a len cap m L F
  free : ∀ o, W.frozen? ⟨g, o, none⟩ = false
  nt : ∀ j s, W.cell? ⟨g, j, none⟩ ≠ some (.string s)
theorem MBox.new {w W : World} {a : Option Addr} {len cap : Nat} {m : Int} {L : List NodeD} {F : List Core} (hb : Below w.heap.size w W) (h : NodeRow W a len cap L) (hc : coreL L = F) : MBox w (W.alloc (forB a len cap m)) W.heap.size a len cap m L F := by
  refine ⟨⟨h.below (below_box _ _), hc, hb.size, by simp, cell_of_row (W.alloc (forB a len cap m)) W.heap.size 0 _ 24 (0, 0) (heap_alloc_new W _), cell_of_row (W.alloc (forB a len cap m)) W.heap.size 1 _ 24 (0, 0) (heap_alloc_new W _), hb.alloc hb.size _⟩, fun o => row_free (heap_alloc_new W _) o, fun j s => ?_⟩
  exact box_notext (Below.refl _ _)
theorem MBox.keep {w W W2 : World} {g : Nat} {a : Option Addr} {len cap : Nat} {m : Int} {L : List NodeD} {F : List Core} (h : MBox w W g a len cap m L F) (hb : Below W.heap.size W W2) : MBox w W2 g a len cap m L F :=
  ⟨h.box.keep hb, fun o => (hb.frozen (p := ⟨g, o, none⟩) h.box.lt).trans (h.free o), fun j s => by rw [hb.cell (p := ⟨g, j, none⟩) h.box.lt]; exact h.nt j s⟩
theorem MBox.put {w W : World} {g : Nat} {a a2 : Option Addr} {len cap len2 cap2 : Nat} {m m2 : Int} {L L2 : List NodeD} {F F2 : List Core} (h : MBox w W g a len cap m L F) (hr : NodeRow ((W.setCell ⟨g, 0, none⟩ (.slice a2 len2 cap2)).setCell ⟨g, 1, none⟩ (.int .i64 m2)) a2 len2 cap2 L2) (hc : coreL L2 = F2) :
    MBox w ((W.setCell ⟨g, 0, none⟩ (.slice a2 len2 cap2)).setCell ⟨g, 1, none⟩ (.int .i64 m2)) g a2 len2 cap2 m2 L2 F2 := by
  have n1 := notext_set (o := 0) (u := .slice a2 len2 cap2) h.nt h.box.c0 (fun s e => by cases e)
  have c1 : (W.setCell ⟨g, 0, none⟩ (.slice a2 len2 cap2)).cell? ⟨g, 1, none⟩ = some (.int .i64 m) := (World.cell?_setCell_other _ _ _ _ (fun e => by injection e with _ e; omega)).trans h.box.c1
  refine ⟨⟨hr, hc, h.box.low, by simpa [World.setCell] using h.box.lt, ?_, World.cell?_setCell_same _ _ _ c1, (h.box.below.setCell (p := ⟨g, 0, none⟩) h.box.low _).setCell (p := ⟨g, 1, none⟩) h.box.low _⟩, fun o => by rw [World.frozen?_setCell, World.frozen?_setCell]; exact h.free o, notext_set n1 c1 (fun s e => by cases e)⟩
  exact (World.cell?_setCell_other _ _ _ _ (fun e => by injection e with _ e; omega)).trans (World.cell?_setCell_same _ _ _ h.box.c0)
theorem MBox.set {w W : World} {g : Nat} {a a2 : Option Addr} {len cap len2 cap2 : Nat} {m m2 : Int} {L L2 : List NodeD} {F F2 : List Core} (h : MBox w W g a len cap m L F) (h2 : NodeRow W a2 len2 cap2 L2) (hc : coreL L2 = F2) (hk : ∀ x ∈ L2, x.core.kids = [] ∧ x.core.attrs = []) :
    MBox w ((W.setCell ⟨g, 0, none⟩ (.slice a2 len2 cap2)).setCell ⟨g, 1, none⟩ (.int .i64 m2)) g a2 len2 cap2 m2 L2 F2 :=
  h.put ((h2.setBox h.nt hk _).setBox (notext_set (o := 0) (u := .slice a2 len2 cap2) h.nt h.box.c0 (fun s e => by cases e)) hk _) hc
theorem MBox.mv {w W W2 : World} {g : Nat} {a a2 va : Option Addr} {len cap len2 cap2 : Nat} {m m2 : Int} {L L2 : List NodeD} {F F2 : List Core} (h : MBox w W g a len cap m L F) (hb : Below W.heap.size W W2) (h2 : NodeRow W2 a2 len2 cap2 L2) (hc : coreL L2 = F2) (hn : MvNew W.heap.size a2 va L2) :
    MBox w ((W2.setCell ⟨g, 0, none⟩ (.slice a2 len2 cap2)).setCell ⟨g, 1, none⟩ (.int .i64 m2)) g a2 len2 cap2 m2 L2 F2 :=
  (h.keep hb).put ((h2.far (hn g h.box.lt).1 (hn g h.box.lt).2.1 0 _).far (hn g h.box.lt).1 (hn g h.box.lt).2.1 1 _) hc
theorem NoteRow.far {W : World} {a : Option Addr} {len cap q : Nat} {N : List NoteD} (h : NoteRow W a len cap N) (ha : ∀ b off, a = some ⟨b, off, none⟩ → b ≠ q) (o : Nat) (u : Value) : NoteRow (W.setCell ⟨q, o, none⟩ u) a len cap N :=
  ⟨h.row.keep (by simp [World.setCell]) (fun b off he _ o' => World.cell?_setCell_other _ _ _ _ (fun e => by injection e with e _; exact ha b off he e.symm)), h.ok, h.hnil⟩
theorem NoteRow.one {W : World} {a : Option Addr} {len cap : Nat} {x : NoteD} (h : NoteRow W a len cap [x]) : len = 1 ∧ ∃ b off, a = some ⟨b, off, none⟩ ∧ b < W.heap.size ∧ ∀ j v, (encO x)[j]? = some v → W.cell? ⟨b, off + j, none⟩ = some v := by
  have hl : 1 = len := h.row.hlen
  subst hl
  obtain ⟨b, off, y, h1, h2, h3, _, h5⟩ := h.row.get (k := 0) (by decide)
  obtain rfl : x = y := Option.some.inj h3
  exact ⟨rfl, b, off, h1, h2, fun j v hv => by have := h5 j v hv; rwa [Nat.zero_mul, Nat.add_zero] at this⟩
end Go.Proofs.YtkfmengdffpcnaaGreatDoor
namespace Go.Proofs.YtkfmengdffpcnaaGreatDoor
open Go.RowKit Go.Deep Go.ChangeShapes Go.WideShapes
set_option maxRecDepth 100000 in
theorem open_opd {H : Type} {en : TypeId × Value → H} {W : World} (cs : List Value) (fuel : Nat) (d : DataW H) (p : List MemPlace) (hc : cs.length = 7)
    (h : DataW.trod en Tryz.prog W 0 (fun _ => true) true fuel 66 cs = some (d, p)) : ∃ x : OpD, cs = encOpD x ∧ okOpD x := by
  obtain ⟨xs, k, _, _, _, hxl, hff⟩ := DataW.trod_struct Tryz.underlying66 h
  have c3 : Tryz.prog.cellsOf 3 = 1 := by kernel_rfl
  have c9 : Tryz.prog.cellsOf 9 = 1 := by kernel_rfl
  have cb : Tryz.prog.cellsOf 4 = 1 := by kernel_rfl
  match cs, hc, xs, hxl with
  | [v0, v1, v2, v3, v4, v5, v6], _, [y0, y1, y2, y3, y4, y5, y6], _ =>
    have g0 := hff 0 _ rfl
    have g1 := hff 1 _ rfl
    have g2 := hff 2 _ rfl
    have g3 := hff 3 _ rfl
    have g4 := hff 4 _ rfl
    have g5 := hff 5 _ rfl
    have g6 := hff 6 _ rfl
    simp [c3, c9, cb] at g0 g1 g2 g3 g4 g5 g6
    obtain ⟨n0, hn0, _, hw0⟩ := DataW.trod_int Tryz.underlying3 g0
    obtain ⟨n1, hn1, _, hw1⟩ := DataW.trod_int Tryz.underlying3 g1
    obtain ⟨n2, hn2, _, hw2⟩ := DataW.trod_int Tryz.underlying3 g2
    obtain ⟨n3, hn3, _, hw3⟩ := DataW.trod_int Tryz.underlying3 g3
    obtain ⟨s4, hs4, _, hl4⟩ := DataW.trod_string Tryz.underlying9 g4
    obtain ⟨s5, hs5, _, hl5⟩ := DataW.trod_string Tryz.underlying9 g5
    obtain ⟨b6, hb6, _⟩ := DataW.trod_bool Tryz.underlying4 g6
    simp at hn0 hn1 hn2 hn3 hs4 hs5 hb6
    subst hn0 hn1 hn2 hn3 hs4 hs5 hb6
    exact ⟨⟨n0, n1, n2, n3, s4, s5, b6⟩, rfl, in64_of hw0, in64_of hw1, in64_of hw2, in64_of hw3, hl4, hl5⟩
theorem open_ops {H : Type} {en : TypeId × Value → H} {W : World} {a : Option Addr} {len cap : Nat} {d : DataW H} {p : List MemPlace}
    (h : DataW.Trod en Tryz.prog W 0 (fun _ => true) true 48 (.slice a len cap) d p) : ∃ L, OpRow W a len cap L := by
  obtain ⟨L, h1, h2, h3⟩ := open_rows encOpD 7 okOpD Tryz.underlying48 (te := 66) (by kernel_rfl) (by decide) open_opd h
  exact ⟨L, h1, h2, h3⟩
set_option maxRecDepth 100000 in
theorem open_strs {H : Type} {en : TypeId × Value → H} {W : World} {a : Option Addr} {len cap : Nat} {d : DataW H} {p : List MemPlace}
    (h : DataW.Trod en Tryz.prog W 0 (fun _ => true) true 47 (.slice a len cap) d p) : ∃ L, StrRow W a len cap L := by
  obtain ⟨L, h1, h2, h3⟩ := open_rows encStD 1 okStD Tryz.underlying47 (te := 9) (by kernel_rfl) (by decide) (fun cs fuel d p hc hd => by
    match cs, hc with
    | [v0], _ =>
      obtain ⟨s0, hs0, _, hl0⟩ := DataW.trod_string Tryz.underlying9 hd
      simp at hs0
      subst hs0
      exact ⟨s0, rfl, hl0⟩) h
  exact ⟨L, h1, h2, h3⟩
set_option maxRecDepth 100000 in
theorem open_hooks {H : Type} {en : TypeId × Value → H} {W : World} {a : Option Addr} {len cap : Nat} {d : DataW H} {p : List MemPlace}
    (h : DataW.Trod en Tryz.prog W 0 (fun _ => true) true 49 (.slice a len cap) d p) : ∃ L, HookRow W a len cap L := by
  obtain ⟨L, h1, h2, h3⟩ := open_rows encHkD 2 (fun x => In64 x.kind ∧ OpRow W x.a x.n x.c x.ops) Tryz.underlying49 (te := 68) (by kernel_rfl) (by decide) (fun cs fuel d p hc hd => by
    obtain ⟨xs, k, _, _, _, hxl, hff⟩ := DataW.trod_struct Tryz.underlying68 hd
    have c3 : Tryz.prog.cellsOf 3 = 1 := by kernel_rfl
    have co : Tryz.prog.cellsOf 48 = 1 := by kernel_rfl
    match cs, hc, xs, hxl with
    | [v0, v1], _, [y0, y1], _ =>
      have g0 := hff 0 _ rfl
      have g1 := hff 1 _ rfl
      simp [c3, co] at g0 g1
      obtain ⟨n0, hn0, _, hw0⟩ := DataW.trod_int Tryz.underlying3 g0
      simp at hn0
      subst hn0
      obtain ⟨a1, l1, c1, rfl⟩ := slice_cells Tryz.underlying48 g1
      obtain ⟨L, hL⟩ := open_ops (en := en) (W := W) (a := a1) (len := l1) (cap := c1) (d := y1.1) (p := y1.2) ⟨k, by simpa [Value.cells] using g1⟩
      exact ⟨⟨n0, a1, l1, c1, L⟩, rfl, in64_of hw0, hL⟩) h
  exact ⟨L, h1, h2, h3⟩
set_option maxRecDepth 100000 in
theorem open_classes {H : Type} {en : TypeId × Value → H} {W : World} {a : Option Addr} {len cap : Nat} {d : DataW H} {p : List MemPlace}
    (h : DataW.Trod en Tryz.prog W 0 (fun _ => true) true 30 (.slice a len cap) d p) : ∃ L, ClsRow W a len cap L := by
  obtain ⟨L, h1, h2, h3⟩ := open_rows encClD 5 (ClassAt W) Tryz.underlying30 (te := 51) (by kernel_rfl) (by decide) (fun cs fuel d p hc hd => by
    obtain ⟨xs, k, _, _, _, hxl, hff⟩ := DataW.trod_struct Tryz.underlying51 hd
    have cb : Tryz.prog.cellsOf 4 = 1 := by kernel_rfl
    have cw : Tryz.prog.cellsOf 47 = 1 := by kernel_rfl
    have co : Tryz.prog.cellsOf 48 = 1 := by kernel_rfl
    have ch : Tryz.prog.cellsOf 49 = 1 := by kernel_rfl
    match cs, hc, xs, hxl with
    | [v0, v1, v2, v3, v4], _, [y0, y1, y2, y3, y4], _ =>
      have g0 := hff 0 _ rfl
      have g1 := hff 1 _ rfl
      have g2 := hff 2 _ rfl
      have g3 := hff 3 _ rfl
      have g4 := hff 4 _ rfl
      simp [cb, cw, co, ch] at g0 g1 g2 g3 g4
      obtain ⟨b0, hb0, _⟩ := DataW.trod_bool Tryz.underlying4 g0
      simp at hb0
      subst hb0
      obtain ⟨a1, l1, c1, rfl⟩ := slice_cells Tryz.underlying47 g1
      obtain ⟨a2, l2, c2, rfl⟩ := slice_cells Tryz.underlying48 g2
      obtain ⟨a3, l3, c3, rfl⟩ := slice_cells Tryz.underlying48 g3
      obtain ⟨a4, l4, c4, rfl⟩ := slice_cells Tryz.underlying49 g4
      obtain ⟨L1, h1⟩ := open_strs (en := en) (W := W) (a := a1) (len := l1) (cap := c1) (d := y1.1) (p := y1.2) ⟨k, by simpa [Value.cells] using g1⟩
      obtain ⟨L2, h2⟩ := open_ops (en := en) (W := W) (a := a2) (len := l2) (cap := c2) (d := y2.1) (p := y2.2) ⟨k, by simpa [Value.cells] using g2⟩
      obtain ⟨L3, h3⟩ := open_ops (en := en) (W := W) (a := a3) (len := l3) (cap := c3) (d := y3.1) (p := y3.2) ⟨k, by simpa [Value.cells] using g3⟩
      obtain ⟨L4, h4⟩ := open_hooks (en := en) (W := W) (a := a4) (len := l4) (cap := c4) (d := y4.1) (p := y4.2) ⟨k, by simpa [Value.cells] using g4⟩
      exact ⟨⟨b0, a1, l1, c1, L1, a2, l2, c2, L2, a3, l3, c3, L3, a4, l4, c4, L4⟩, rfl, h1, h2, h3, h4⟩) h
  exact ⟨L, h1, h2, h3⟩
set_option maxRecDepth 100000 in
theorem open_states {H : Type} {en : TypeId × Value → H} {W : World} {a : Option Addr} {len cap : Nat} {d : DataW H} {p : List MemPlace}
    (h : DataW.Trod en Tryz.prog W 0 (fun _ => true) true 25 (.slice a len cap) d p) : ∃ L, StaRow W a len cap L := by
  obtain ⟨L, h1, h2, h3⟩ := open_rows encSta 4 okSta Tryz.underlying25 (te := 46) (by kernel_rfl) (by decide) (fun cs fuel d p hc hd => by
    obtain ⟨xs, k, _, _, _, hxl, hff⟩ := DataW.trod_struct Tryz.underlying46 hd
    have c3 : Tryz.prog.cellsOf 3 = 1 := by kernel_rfl
    have cb : Tryz.prog.cellsOf 4 = 1 := by kernel_rfl
    match cs, hc, xs, hxl with
    | [v0, v1, v2, v3], _, [y0, y1, y2, y3], _ =>
      have g0 := hff 0 _ rfl
      have g1 := hff 1 _ rfl
      have g2 := hff 2 _ rfl
      have g3 := hff 3 _ rfl
      simp [c3, cb] at g0 g1 g2 g3
      obtain ⟨n0, hn0, _, hw0⟩ := DataW.trod_int Tryz.underlying3 g0
      obtain ⟨n1, hn1, _, hw1⟩ := DataW.trod_int Tryz.underlying3 g1
      obtain ⟨n2, hn2, _, hw2⟩ := DataW.trod_int Tryz.underlying3 g2
      obtain ⟨b3, hb3, _⟩ := DataW.trod_bool Tryz.underlying4 g3
      simp at hn0 hn1 hn2 hb3
      subst hn0 hn1 hn2 hb3
      exact ⟨⟨n0, n1, n2, b3⟩, rfl, in64_of hw0, in64_of hw1, in64_of hw2⟩) h
  exact ⟨L, h1, h2, h3⟩
end Go.Proofs.YtkfmengdffpcnaaGreatDoor
namespace Go.Proofs.YtkfmengdffpcnaaGreatDoor
open Go.ChangeShapes Go.WideShapes Go.ChangeAt Go.RowKit
theorem tied_own : ownKnob Tryz.prog.godebug = none := by kernel_rfl
theorem tied_laidOut : laidOutB Tryz.prog = true := by kernel_rfl
theorem tied_et : Tryz.prog.globalNamed "errors.errorType" = some 0 := by kernel_rfl
theorem tied_rt : (Tryz.prog.cutTypes.find? (·.1 == "internal/reflectlite.rtype")).map (·.2) = some 187 := by kernel_rfl
theorem tied_oneRow : ((List.range Tryz.prog.types.size).filter fun t => Tryz.prog.rowNamed t [101, 114, 114, 111, 114]) = [85] := by kernel_rfl
abbrev errLaid : List (String × DataW Unit) := [("errors.errorType", Rows.laid_errors_errorType)]
theorem handle_of_laid {W : World} (h : laidMetH Tryz.prog errLaid W) : ErrVar W := by
  have h' : laidMet Tryz.prog [] W ∧ handlesMet Tryz.prog errLaid W := h
  obtain ⟨name, u, ty, e1, e2, e3, e4, e5⟩ := h'.2 _ (List.mem_singleton.2 rfl)
  have en : name = [101, 114, 114, 111, 114] := (Option.some.inj e1).symm
  subst en
  obtain rfl := Option.some.inj (tied_rt.symm.trans e2)
  have hm : ty ∈ (List.range Tryz.prog.types.size).filter fun t => Tryz.prog.rowNamed t [101, 114, 114, 111, 114] := List.mem_filter.2 ⟨List.mem_range.2 e3, e4⟩
  rw [tied_oneRow] at hm
  obtain rfl := List.mem_singleton.1 hm
  have hh : typeHandle Tryz.prog 85 = .pointer (some ⟨2, 85, none⟩) := by kernel_rfl
  rw [hh] at e5
  unfold ErrVar
  simpa using World.var?_cell tied_et e5 0
noncomputable def laidWorld (os : Os) : World :=
  let w0 := World.holding Tryz.prog os ⟨#[], #[], []⟩
  { w0 with heap := w0.heap.modify 0 fun
      | .cells _ t frozen => .cells #[.iface 187 (.agg #[.pointer (some ⟨2, 85, none⟩)])] t frozen
      | o => o }
theorem laidWorld_met (os : Os) (args : Array Value) : laidMetH Tryz.prog errLaid ((laidWorld os).forCall (fun _ _ => 0) ⟨#[], args, []⟩).memory :=
  laidMetH_of_parts (laidMet_nil _ _) (by kernel_rfl)
end Go.Proofs.YtkfmengdffpcnaaGreatDoor
