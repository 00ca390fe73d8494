/- Texts joined in build order: WatchAwake. -/
import Derived.Test.YtkfmengdffpcnaaGreatDoorA45
namespace Go.Proofs.YtkfmengdffpcnaaGreatDoor
open Go.RowKit
theorem in64_s {z : Int} (h : -100 ≤ z) (h2 : z ≤ 100) : In64 z := ⟨by omega, by omega⟩
theorem sta_box {w : World} {L : List StateD} {n : Nat} {cs : Array Value} (hc : cs.toList = L.flatMap encSta) (hl : L.length = n) (hn : n ≤ 100) (hok : ∀ x ∈ L, okSta x) : StaRow (w.alloc (.cells cs 46)) (some ⟨w.heap.size, 0, none⟩) n n L := by
  have h := CBox.new w cs 46
  rw [hc] at h
  exact ⟨h.row (fun _ => rfl) hl (by unfold maxLen; omega), hok, fun e => by cases e⟩
theorem note_box {w : World} {L : List NoteD} {n : Nat} {cs : Array Value} (hc : cs.toList = L.flatMap encO) (hl : L.length = n) (hn : n ≤ 100) (hok : ∀ x ∈ L, NoteOk x) : NoteRow (w.alloc (.cells cs 71)) (some ⟨w.heap.size, 0, none⟩) n n L := by
  have h := CBox.new w cs 71
  rw [hc] at h
  exact ⟨h.row (fun _ => rfl) hl (by unfold maxLen; omega), hok, fun e => by cases e⟩
theorem sta_ok {x : StateD} (h1 : -100 ≤ x.phase ∧ x.phase ≤ 100) (h2 : -100 ≤ x.dfn ∧ x.dfn ≤ 100) (h3 : -100 ≤ x.owner ∧ x.owner ≤ 100) : okSta x := ⟨in64_s h1.1 h1.2, in64_s h2.1 h2.2, in64_s h3.1 h3.2⟩
theorem note_ok12 {x : NoteD} (h1 : -100 ≤ x.kind ∧ x.kind ≤ 100) (h2 : -100 ≤ x.node ∧ x.node ≤ 100) (h3 : -100 ≤ x.src ∧ x.src ≤ 100) (h4 : -100 ≤ x.dst ∧ x.dst ≤ 100) (h5 : x.name.size ≤ 100) (h6 : x.old.size ≤ 100) (h7 : x.new.size ≤ 100) : NoteOk x :=
  ⟨in64_s h1.1 h1.2, in64_s h2.1 h2.2, in64_s h3.1 h3.2, in64_s h4.1 h4.2, by unfold maxLen; omega, by unfold maxLen; omega, by unfold maxLen; omega⟩
structure AwAt (W : World) (T : Nat) (g cap len : Nat) (M : List NodeD) : Prop where
  f : CBox W T [.slice (some ⟨g, 0, none⟩) len cap, .int .i64 9]
  d : CBox W (T + 1 + 1) [.slice (some ⟨T + 1, 0, none⟩) 1 1, .slice none 0 0, .int .i64 0, .bool false]
  k : CBox W (T + 1 + 1 + 1 + 1 + 1 + 1) [.bool false, .slice (some ⟨T + 1 + 1 + 1, 0, none⟩) 1 1, .slice none 0 0, .slice none 0 0, .slice (some ⟨T + 1 + 1 + 1 + 1 + 1, 0, none⟩) 2 2]
  s : CBox W (T + 1 + 1 + 1 + 1 + 1 + 1 + 1) [.int .i64 0, .int .i64 (-1), .int .i64 (-1), .bool false]
  n : NodeRow W (some ⟨g, 0, none⟩) len cap M
  dr : DefRow W (some ⟨T + 1, 0, none⟩) 1 1 aw12D
  cr : ∃ y : ClassD, y.core = aw12C ∧ y.val = classVal false (some ⟨T + 1 + 1 + 1, 0, none⟩) 1 1 none 0 0 none 0 0 (some ⟨T + 1 + 1 + 1 + 1 + 1, 0, none⟩) 2 2 ∧ ClsRow W (some ⟨T + 1 + 1 + 1 + 1 + 1 + 1, 0, none⟩) 1 1 [y]
theorem AwAt.keep {W V : World} {T g cap len : Nat} {M : List NodeD} (h : AwAt W T g cap len M) (hb : Below W.heap.size W V) : AwAt V T g cap len M := by
  obtain ⟨y, h1, h2, h3⟩ := h.cr
  exact ⟨h.f.keep hb, h.d.keep hb, h.k.keep hb, h.s.keep hb, h.n.below hb, h.dr.below hb, y, h1, h2, h3.below hb⟩
theorem aw_start {W : World} {T g cap len : Nat} {M : List NodeD} (hn : NodeRow W (some ⟨g, 0, none⟩) len cap M)
    (h0 : CBox W T [.slice (some ⟨g, 0, none⟩) len cap, .int .i64 9]) (h1 : CBox W (T + 1) [.string xaA12, .string xaA12, .int .i64 0]) (h2 : CBox W (T + 1 + 1) [.slice (some ⟨T + 1, 0, none⟩) 1 1, .slice none 0 0, .int .i64 0, .bool false])
    (h3 : CBox W (T + 1 + 1 + 1) [.string aA12]) (h4 : CBox W (T + 1 + 1 + 1 + 1) [.int .i64 22, .int .i64 0, .int .i64 0, .int .i64 0, .string ⟨#[]⟩, .string ⟨#[]⟩, .bool false])
    (h5 : CBox W (T + 1 + 1 + 1 + 1 + 1) [.int .i64 4, .slice (some ⟨T + 1 + 1 + 1 + 1, 0, none⟩) 1 1, .int .i64 1, .slice none 0 0])
    (h6 : CBox W (T + 1 + 1 + 1 + 1 + 1 + 1) [.bool false, .slice (some ⟨T + 1 + 1 + 1, 0, none⟩) 1 1, .slice none 0 0, .slice none 0 0, .slice (some ⟨T + 1 + 1 + 1 + 1 + 1, 0, none⟩) 2 2])
    (h7 : CBox W (T + 1 + 1 + 1 + 1 + 1 + 1 + 1) [.int .i64 0, .int .i64 (-1), .int .i64 (-1), .bool false]) : AwAt W T g cap len M := by
  have e1 : maxLen = 9223372036854775807 := rfl
  have dr : DefRow W (some ⟨T + 1, 0, none⟩) 1 1 aw12D := ⟨CBox.row (L := aw12D) (enc := encD) h1 (fun _ => rfl) rfl (by omega), (fun x hx => by
    rw [List.mem_singleton.1 hx]
    exact ⟨by decide, by decide, in64_s (by decide) (by decide)⟩), fun e => by cases e⟩
  have tr : StrRow W (some ⟨T + 1 + 1 + 1, 0, none⟩) 1 1 [aA12] := ⟨CBox.row (L := [aA12]) (enc := encStD) h3 (fun _ => rfl) rfl (by omega), (fun x hx => by
    rw [List.mem_singleton.1 hx]
    show aA12.size ≤ maxLen
    decide), fun e => by cases e⟩
  have op : OpRow W (some ⟨T + 1 + 1 + 1 + 1, 0, none⟩) 1 1 [op22] := ⟨CBox.row (L := [op22]) (enc := encOpD) h4 (fun _ => rfl) rfl (by omega), (fun x hx => by
    rw [List.mem_singleton.1 hx]
    exact ⟨in64_s (by decide) (by decide), in64_s (by decide) (by decide), in64_s (by decide) (by decide), in64_s (by decide) (by decide), by decide, by decide⟩), fun e => by cases e⟩
  have hr : HookRow W (some ⟨T + 1 + 1 + 1 + 1 + 1, 0, none⟩) 2 2 [⟨4, some ⟨T + 1 + 1 + 1 + 1, 0, none⟩, 1, 1, [op22]⟩, ⟨1, none, 0, 0, []⟩] := by
    refine ⟨CBox.row (L := [(⟨4, some ⟨T + 1 + 1 + 1 + 1, 0, none⟩, 1, 1, [op22]⟩ : HookD), ⟨1, none, 0, 0, []⟩]) (enc := encHkD) h5 (fun _ => rfl) rfl (by omega), fun x hx => ?_, fun e => by cases e⟩
    simp only [List.mem_cons, List.not_mem_nil, or_false] at hx
    rcases hx with rfl | rfl
    · exact ⟨in64_s (z := 4) (by decide) (by decide), op⟩
    · exact ⟨in64_s (z := 1) (by decide) (by decide), LRow.nil⟩
  refine ⟨h0, h2, h6, h7, hn, dr, ⟨false, some ⟨T + 1 + 1 + 1, 0, none⟩, 1, 1, [aA12], none, 0, 0, [], none, 0, 0, [], some ⟨T + 1 + 1 + 1 + 1 + 1, 0, none⟩, 2, 2, [⟨4, some ⟨T + 1 + 1 + 1 + 1, 0, none⟩, 1, 1, [op22]⟩, ⟨1, none, 0, 0, []⟩]⟩, rfl, rfl, ?_⟩
  exact ⟨CBox.row (L := [(⟨false, some ⟨T + 1 + 1 + 1, 0, none⟩, 1, 1, [aA12], none, 0, 0, [], none, 0, 0, [], some ⟨T + 1 + 1 + 1 + 1 + 1, 0, none⟩, 2, 2, [⟨4, some ⟨T + 1 + 1 + 1 + 1, 0, none⟩, 1, 1, [op22]⟩, ⟨1, none, 0, 0, []⟩]⟩ : ClassD)]) (enc := encClD) h6 (fun _ => rfl) rfl (by omega), (fun x hx => by
    rw [List.mem_singleton.1 hx]
    exact ⟨tr, LRow.nil, LRow.nil, hr⟩), fun e => by cases e⟩
structure DueC (W : World) (b o : Nat) (u : DueD) : Prop where
  c0 : W.cell? ⟨b, o, none⟩ = some (.int .i64 u.node)
  c1 : W.cell? ⟨b, o + 1, none⟩ = some (.int .i64 u.todo.kind)
  c2 : W.cell? ⟨b, o + 2, none⟩ = some (.int .i64 u.todo.dfn)
  c3 : W.cell? ⟨b, o + 3, none⟩ = some (.string u.todo.name)
  c4 : W.cell? ⟨b, o + 4, none⟩ = some (.bool u.todo.had)
  c5 : W.cell? ⟨b, o + 5, none⟩ = some (.bool u.todo.has)
  c6 : W.cell? ⟨b, o + 6, none⟩ = some (.string u.todo.old)
  c7 : W.cell? ⟨b, o + 7, none⟩ = some (.string u.todo.new)
  c8 : W.cell? ⟨b, o + 8, none⟩ = some (.int .i64 u.todo.src)
  c9 : W.cell? ⟨b, o + 9, none⟩ = some (.int .i64 u.todo.dst)
  c10 : W.cell? ⟨b, o + 10, none⟩ = some (.bool u.todo.on)
theorem DueRow.one {W : World} {a : Option Addr} {n c : Nat} {u : DueD} (h : DueRow W a n c [u]) : n = 1 ∧ ∃ b o, a = some ⟨b, o, none⟩ ∧ b < W.heap.size ∧ DueC W b o u := by
  have hn : 1 = n := h.row.hlen
  subst hn
  obtain ⟨b, o, x, rfl, hb, hx, -, hc⟩ := h.row.get (show 0 < 1 by decide)
  obtain rfl : u = x := by simpa using hx
  simp only [Nat.zero_mul, Nat.add_zero] at hc
  exact ⟨rfl, b, o, rfl, hb, hc 0 _ rfl, hc 1 _ rfl, hc 2 _ rfl, hc 3 _ rfl, hc 4 _ rfl, hc 5 _ rfl, hc 6 _ rfl, hc 7 _ rfl, hc 8 _ rfl, hc 9 _ rfl, hc 10 _ rfl⟩
theorem aw12_small : SmallCl aw12C := ⟨by decide, by decide, by decide, by decide, by decide⟩
set_option maxHeartbeats 8000000 in
set_option maxRecDepth 100000 in
theorem awake12_any (w : World) : Calls Tryz.prog 4 #[] w fun e w' => e = .returned (.bool true) ∧ Below w.heap.size w w' := by
  have CF : Hid (∀ W, Calls Tryz.prog 13 #[.string ⟨#[60, 120, 45, 97, 32, 97, 61, 34, 49, 34, 32, 98, 61, 34, 50, 34, 62, 60, 47, 120, 45, 97, 62]⟩, .int .i64 9] W (WkFor W 9 aw12F [.int .i64 1, .int .i64 0])) := Lib.hid (fun W => pFresh_ok 9 aw12 aw12F W ⟨by decide, by decide⟩ (by decide) (by decide) (by decide) hw1 hw2.1 (by decide))
  go_enter Tryz.func4, Tryz.ntmps4
  go_upto_region 5 with (go_at_call 13; (with_reducible refine (CF.out _).mono ?_); rintro e w1 ⟨ρ, pw, g, cap, len, M, v, rfl, hWk, hsm, hcm, hb, -⟩; have HR := Lib.hid hWk.row; have HSM := Lib.hid hsm; have HCM := Lib.hid hcm; have HB1 := Lib.hid hb; clear hWk hsm hcm hb)
  obtain ⟨W, hW, ⟨b0, b1, b2, b3, b4, b5, b6, b7⟩, hs, hb⟩ := boxes8 w1 #[.slice (some ⟨g, 0, none⟩) len cap, .int .i64 9] #[.string xaA12, .string xaA12, .int .i64 0] #[.slice (some ⟨w1.heap.size + 1, 0, none⟩) 1 1, .slice none 0 0, .int .i64 0, .bool false] #[.string aA12] #[.int .i64 22, .int .i64 0, .int .i64 0, .int .i64 0, .string ⟨#[]⟩, .string ⟨#[]⟩, .bool false] #[.int .i64 4, .slice (some ⟨w1.heap.size + 1 + 1 + 1 + 1, 0, none⟩) 1 1, .int .i64 1, .slice none 0 0] #[.bool false, .slice (some ⟨w1.heap.size + 1 + 1 + 1, 0, none⟩) 1 1, .slice none 0 0, .slice none 0 0, .slice (some ⟨w1.heap.size + 1 + 1 + 1 + 1 + 1, 0, none⟩) 2 2] #[.int .i64 0, .int .i64 (-1), .int .i64 (-1), .bool false] 24 64 29 9 66 68 51 46
  rw [hW]
  have AW := Lib.hid (aw_start (HR.out.below hb) b0 b1 b2 b3 b4 b5 b6 b7)
  have HBW := Lib.hid (HB1.out.trans (hb.mono HB1.out.size))
  clear hW b0 b1 b2 b3 b4 b5 b6 b7 hs hb HR HB1
  obtain ⟨T, hT⟩ : ∃ T, w1.heap.size = T := ⟨_, rfl⟩
  rw [hT] at AW ⊢
  clear hT
  (have f0 := AW.out.f.c 0 _ rfl; have f1 := AW.out.f.c 1 _ rfl; have d0 := AW.out.d.c 0 _ rfl; have d1 := AW.out.d.c 1 _ rfl; have d2 := AW.out.d.c 2 _ rfl; have d3 := AW.out.d.c 3 _ rfl; have s0 := AW.out.s.c 0 _ rfl; have s1 := AW.out.s.c 1 _ rfl; have s2 := AW.out.s.c 2 _ rfl; have s3 := AW.out.s.c 3 _ rfl; have e0 := fun o => (AW.out.keep (box_below _ o)).d.c 0 _ rfl; have e1 := fun o => (AW.out.keep (box_below _ o)).d.c 1 _ rfl; have e2 := fun o => (AW.out.keep (box_below _ o)).d.c 2 _ rfl; have e3 := fun o => (AW.out.keep (box_below _ o)).d.c 3 _ rfl)
  have CD : Hid (∀ X sa sl S na nl N, AwAt X T g cap len M → StaRow X sa sl sl S → NoteRow X na nl nl N → nl ≤ 1000 → Calls Tryz.prog 8 #[forV (some ⟨g, 0, none⟩) len cap 9, .slice sa sl sl, deskV (some ⟨T + 1, 0, none⟩) 1 1 none 0 0 0 false, .slice (some ⟨T + 1 + 1 + 1 + 1 + 1 + 1, 0, none⟩) 1 1, .slice na nl nl] X (DuePost X (dueZ 9 aw12F S ⟨aw12D, [], 0, false⟩ [aw12C] N))) := Lib.hid (fun X sa sl S na nl N h1 h2 h3 h4 => by
    obtain ⟨y, hy, -, hc⟩ := h1.cr
    have h := due_any (some ⟨g, 0, none⟩) len cap 9 M sa sl sl S (some ⟨T + 1, 0, none⟩) 1 1 none 0 0 0 false aw12D [] (some ⟨T + 1 + 1 + 1 + 1 + 1 + 1, 0, none⟩) 1 1 [y] na nl nl N X h1.n (in64_s (by decide) (by decide)) HSM.out h2 h1.dr (WaitRow.nil X) hc h3 h4
    rw [HCM.out, show coreCl [y] = [aw12C] by unfold coreCl; rw [List.map_singleton, hy]] at h
    exact h)
  have CFI : Hid (∀ X sa sl S, AwAt X T g cap len M → StaRow X sa sl sl S → Calls Tryz.prog 14 #[forV (some ⟨g, 0, none⟩) len cap 9, .slice sa sl sl, deskV (some ⟨T + 1, 0, none⟩) 1 1 none 0 0 0 false, .slice (some ⟨T + 1 + 1 + 1 + 1 + 1 + 1, 0, none⟩) 1 1, .int .i64 1] X (DuePost X (firstF 9 aw12F S ⟨aw12D, [], 0, false⟩ [aw12C] 1))) := Lib.hid (fun X sa sl S h1 h2 => by
    obtain ⟨y, hy, -, hc⟩ := h1.cr
    have h := first_any (some ⟨g, 0, none⟩) len cap 9 M sa sl sl S (some ⟨T + 1, 0, none⟩) 1 1 none 0 0 0 false aw12D [] (some ⟨T + 1 + 1 + 1 + 1 + 1 + 1, 0, none⟩) 1 1 [y] 1 X h1.n (in64_s (by decide) (by decide)) HSM.out h2 h1.dr (WaitRow.nil X) hc (in64_s (by decide) (by decide))
    rw [HCM.out, show coreCl [y] = [aw12C] by unfold coreCl; rw [List.map_singleton, hy]] at h
    exact h)
  have S1 : Hid (∀ X : World, StaRow (X.alloc (.cells #[.int .i64 0, .int .i64 (-1), .int .i64 (-1), .bool false, .int .i64 4, .int .i64 0, .int .i64 (-1), .bool false] 46)) (some ⟨X.heap.size, 0, none⟩) 2 2 [stN, stF]) := Lib.hid (fun X => sta_box rfl rfl (by decide) (fun x hx => by
    simp only [List.mem_cons, List.not_mem_nil, or_false] at hx
    rcases hx with rfl | rfl <;> exact sta_ok (by decide) (by decide) (by decide)))
  go_upto_region 6 with (go_at_call 14; (with_reducible refine (CFI.out _ _ _ _ (AW.out.keep (box_below _ _)) (S1.out _)).mono ?_); rintro e V1 ⟨la, ln, lc, rfl, hr, hb⟩; rw [hw3] at hr; have LR := Lib.hid hr; have HV1 := Lib.hid ((box_below _ _).trans (hb.mono (by simp))); have AW := Lib.hid (AW.out.keep HV1.out); clear hr hb; (clear f0 f1 d0 d1 d2 d3 s0 s1 s2 s3 e0 e1 e2 e3); (have f0 := AW.out.f.c 0 _ rfl; have f1 := AW.out.f.c 1 _ rfl; have d0 := AW.out.d.c 0 _ rfl; have d1 := AW.out.d.c 1 _ rfl; have d2 := AW.out.d.c 2 _ rfl; have d3 := AW.out.d.c 3 _ rfl; have s0 := AW.out.s.c 0 _ rfl; have s1 := AW.out.s.c 1 _ rfl; have s2 := AW.out.s.c 2 _ rfl; have s3 := AW.out.s.c 3 _ rfl; have e0 := fun o => (AW.out.keep (box_below _ o)).d.c 0 _ rfl; have e1 := fun o => (AW.out.keep (box_below _ o)).d.c 1 _ rfl; have e2 := fun o => (AW.out.keep (box_below _ o)).d.c 2 _ rfl; have e3 := fun o => (AW.out.keep (box_below _ o)).d.c 3 _ rfl))
  have S2 : Hid (∀ X : World, StaRow (X.alloc (.cells #[.int .i64 0, .int .i64 (-1), .int .i64 (-1), .bool false, .int .i64 1, .int .i64 (-1), .int .i64 (-1), .bool false] 46)) (some ⟨X.heap.size, 0, none⟩) 2 2 [stN, stO]) := Lib.hid (fun X => sta_box rfl rfl (by decide) (fun x hx => by
    simp only [List.mem_cons, List.not_mem_nil, or_false] at hx
    rcases hx with rfl | rfl <;> exact sta_ok (by decide) (by decide) (by decide)))
  have S3 : Hid (∀ X : World, StaRow (X.alloc (.cells #[.int .i64 0, .int .i64 (-1), .int .i64 (-1), .bool false, .int .i64 3, .int .i64 0, .int .i64 (-1), .bool false] 46)) (some ⟨X.heap.size, 0, none⟩) 2 2 [stN, stC]) := Lib.hid (fun X => sta_box rfl rfl (by decide) (fun x hx => by
    simp only [List.mem_cons, List.not_mem_nil, or_false] at hx
    rcases hx with rfl | rfl <;> exact sta_ok (by decide) (by decide) (by decide)))
  have NOK : ∀ x ∈ [nt1, nt2, nt4], NoteOk x := fun x hx => by
    simp only [List.mem_cons, List.not_mem_nil, or_false] at hx
    rcases hx with rfl | rfl | rfl <;> exact note_ok12 (by decide) (by decide) (by decide) (by decide) (by decide) (by decide) (by decide)
  have N2 : Hid (∀ (X : World) (o : Obj), NoteRow ((X.alloc o).alloc (.cells #[.int .i64 1, .int .i64 1, .int .i64 0, .int .i64 0, .string ⟨#[]⟩, .bool false, .bool false, .string ⟨#[]⟩, .string ⟨#[]⟩, .int .i64 2, .int .i64 1, .int .i64 0, .int .i64 0, .string ⟨#[]⟩, .bool false, .bool false, .string ⟨#[]⟩, .string ⟨#[]⟩] 71)) (some ⟨X.heap.size + 1, 0, none⟩) 2 2 [nt1, nt2]) := Lib.hid (fun X o => by
    have h := note_box (w := X.alloc o) (L := [nt1, nt2]) (n := 2) (cs := #[.int .i64 1, .int .i64 1, .int .i64 0, .int .i64 0, .string ⟨#[]⟩, .bool false, .bool false, .string ⟨#[]⟩, .string ⟨#[]⟩, .int .i64 2, .int .i64 1, .int .i64 0, .int .i64 0, .string ⟨#[]⟩, .bool false, .bool false, .string ⟨#[]⟩, .string ⟨#[]⟩]) rfl rfl (by decide) (fun x hx => NOK x (by simp only [List.mem_cons, List.not_mem_nil, or_false] at hx ⊢; rcases hx with rfl | rfl <;> simp))
    rw [show (X.alloc o).heap.size = X.heap.size + 1 by simp] at h
    exact h)
  have N3 : Hid (∀ (X : World) (o : Obj), NoteRow ((X.alloc o).alloc (.cells #[.int .i64 1, .int .i64 1, .int .i64 0, .int .i64 0, .string ⟨#[]⟩, .bool false, .bool false, .string ⟨#[]⟩, .string ⟨#[]⟩, .int .i64 2, .int .i64 1, .int .i64 0, .int .i64 0, .string ⟨#[]⟩, .bool false, .bool false, .string ⟨#[]⟩, .string ⟨#[]⟩, .int .i64 4, .int .i64 1, .int .i64 0, .int .i64 0, .string ⟨#[98]⟩, .bool false, .bool false, .string ⟨#[]⟩, .string ⟨#[]⟩] 71)) (some ⟨X.heap.size + 1, 0, none⟩) 3 3 [nt1, nt2, nt4]) := Lib.hid (fun X o => by
    have h := note_box (w := X.alloc o) (L := [nt1, nt2, nt4]) (n := 3) (cs := #[.int .i64 1, .int .i64 1, .int .i64 0, .int .i64 0, .string ⟨#[]⟩, .bool false, .bool false, .string ⟨#[]⟩, .string ⟨#[]⟩, .int .i64 2, .int .i64 1, .int .i64 0, .int .i64 0, .string ⟨#[]⟩, .bool false, .bool false, .string ⟨#[]⟩, .string ⟨#[]⟩, .int .i64 4, .int .i64 1, .int .i64 0, .int .i64 0, .string ⟨#[98]⟩, .bool false, .bool false, .string ⟨#[]⟩, .string ⟨#[]⟩]) rfl rfl (by decide) NOK
    rw [show (X.alloc o).heap.size = X.heap.size + 1 by simp] at h
    exact h)
  clear NOK
  have BB : Hid (∀ (X : World) (o o' : Obj), Below X.heap.size X ((X.alloc o).alloc o')) := Lib.hid (fun X o o' => (box_below X o).trans ((box_below _ o').mono (by simp)))
  go_upto_region 7 with (go_at_call 8; (with_reducible refine (CD.out _ _ _ _ _ _ _ (AW.out.keep (BB.out _ _ _)) ((S2.out _).below (box_below _ _)) (N2.out _ _) (by decide)).mono ?_); rintro e V2 ⟨ma, mn, mc, rfl, hr, hb⟩; rw [hw4] at hr; have MR := Lib.hid hr; have HV2 := Lib.hid ((BB.out _ _ _).trans (hb.mono (by simp; omega))); have AW := Lib.hid (AW.out.keep HV2.out); have LR := Lib.hid (LR.out.below HV2.out); clear hr hb; (clear f0 f1 d0 d1 d2 d3 s0 s1 s2 s3 e0 e1 e2 e3); (have f0 := AW.out.f.c 0 _ rfl; have f1 := AW.out.f.c 1 _ rfl; have d0 := AW.out.d.c 0 _ rfl; have d1 := AW.out.d.c 1 _ rfl; have d2 := AW.out.d.c 2 _ rfl; have d3 := AW.out.d.c 3 _ rfl; have s0 := AW.out.s.c 0 _ rfl; have s1 := AW.out.s.c 1 _ rfl; have s2 := AW.out.s.c 2 _ rfl; have s3 := AW.out.s.c 3 _ rfl; have e0 := fun o => (AW.out.keep (box_below _ o)).d.c 0 _ rfl; have e1 := fun o => (AW.out.keep (box_below _ o)).d.c 1 _ rfl; have e2 := fun o => (AW.out.keep (box_below _ o)).d.c 2 _ rfl; have e3 := fun o => (AW.out.keep (box_below _ o)).d.c 3 _ rfl))
  go_upto_region 8 with (go_at_call 8; (with_reducible refine (CD.out _ _ _ _ _ _ _ (AW.out.keep (BB.out _ _ _)) ((S3.out _).below (box_below _ _)) (N3.out _ _) (by decide)).mono ?_); rintro e V3 ⟨oa, on, oc, rfl, hr, hb⟩; rw [hw5] at hr; have OR := Lib.hid hr; have HV3 := Lib.hid ((BB.out _ _ _).trans (hb.mono (by simp; omega))); have AW := Lib.hid (AW.out.keep HV3.out); have LR := Lib.hid (LR.out.below HV3.out); have MR := Lib.hid (MR.out.below HV3.out); clear hr hb; (clear f0 f1 d0 d1 d2 d3 s0 s1 s2 s3 e0 e1 e2 e3); (have f0 := AW.out.f.c 0 _ rfl; have f1 := AW.out.f.c 1 _ rfl; have d0 := AW.out.d.c 0 _ rfl; have d1 := AW.out.d.c 1 _ rfl; have d2 := AW.out.d.c 2 _ rfl; have d3 := AW.out.d.c 3 _ rfl; have s0 := AW.out.s.c 0 _ rfl; have s1 := AW.out.s.c 1 _ rfl; have s2 := AW.out.s.c 2 _ rfl; have s3 := AW.out.s.c 3 _ rfl; have e0 := fun o => (AW.out.keep (box_below _ o)).d.c 0 _ rfl; have e1 := fun o => (AW.out.keep (box_below _ o)).d.c 1 _ rfl; have e2 := fun o => (AW.out.keep (box_below _ o)).d.c 2 _ rfl; have e3 := fun o => (AW.out.keep (box_below _ o)).d.c 3 _ rfl))
  have CC : Hid (∀ X, AwAt X T g cap len M → Calls Tryz.prog 10 #[.agg #[.int .i64 0, .int .i64 (-1), .int .i64 (-1), .bool false], deskV (some ⟨T + 1, 0, none⟩) 1 1 none 0 0 0 false, .slice (some ⟨T + 1 + 1 + 1 + 1 + 1 + 1, 0, none⟩) 1 1] X fun e w' => ∃ z : ClassD, e = .returned (.tuple #[z.val, .bool false]) ∧ Below X.heap.size X w') := Lib.hid (fun X h1 => by
    obtain ⟨y, hy, -, hc⟩ := h1.cr
    have e : coreCl [y] = [aw12C] := by unfold coreCl; rw [List.map_singleton, hy]
    have h := classFn_any stN (some ⟨T + 1, 0, none⟩) 1 1 none 0 0 0 false (some ⟨T + 1 + 1 + 1 + 1 + 1 + 1, 0, none⟩) 1 1 aw12D [y] X h1.dr hc (fun c hc => by rw [e, List.mem_singleton] at hc; rw [hc]; exact aw12_small)
    refine h.mono ?_
    rintro e' w' ⟨z, ok, rfl, -, hb, -, hor⟩
    rw [e, hw6] at hor
    rcases hor with ⟨rfl, -, -⟩ | ⟨-, e9⟩
    · exact ⟨z, rfl, hb⟩
    · cases e9)
  go_upto_region 9 with (go_at_call 10; (with_reducible refine (CC.out _ AW.out).mono ?_); rintro e V4 ⟨z, rfl, hb⟩; have HV4 := Lib.hid hb; clear hb)
  obtain ⟨X, hX, -, -, hXB⟩ := boxes1 V4 (encClD z).toArray 51
  have hX2 : V4.alloc (.cells #[.bool z.form, .slice z.wa z.wn z.wk, .slice z.pa z.pn z.pk, .slice z.ma z.mn z.mc, .slice z.ha z.hn z.hk] 51) = X := hX
  rw [hX2]
  have HX := Lib.hid (HV4.out.trans (hXB.mono HV4.out.size))
  have AW := Lib.hid (AW.out.keep HX.out)
  have HBX := Lib.hid ((((HBW.out.trans (HV1.out.mono HBW.out.size)).trans (HV2.out.mono (Nat.le_trans HBW.out.size HV1.out.size))).trans (HV3.out.mono (Nat.le_trans (Nat.le_trans HBW.out.size HV1.out.size) HV2.out.size))).trans (HX.out.mono (Nat.le_trans (Nat.le_trans (Nat.le_trans HBW.out.size HV1.out.size) HV2.out.size) HV3.out.size)))
  obtain ⟨rfl, lb, lo, rfl, hlb, ⟨l0, q1, q2, q3, q4, q5, q6, q7, q8, q9, q10⟩⟩ := (LR.out.below HX.out).one
  obtain ⟨rfl, mb, mo, rfl, hmb, hm⟩ := (MR.out.below HX.out).one
  obtain ⟨rfl, ob, oo, rfl, hob, ho⟩ := (OR.out.below HX.out).one
  have m1 : X.cell? ⟨mb, mo + 1, none⟩ = some (.int .i64 9) := hm.c1
  have o1 : X.cell? ⟨ob, oo + 1, none⟩ = some (.int .i64 1) := ho.c1
  have l1 : X.cell? ⟨lb, lo + 1, none⟩ = some (.int .i64 4) := q1
  have l2 : X.cell? ⟨lb, lo + 2, none⟩ = some (.int .i64 0) := q2
  have l3 : X.cell? ⟨lb, lo + 3, none⟩ = some (.string ⟨#[97]⟩) := q3
  have l4 : X.cell? ⟨lb, lo + 4, none⟩ = some (.bool false) := q4
  have l5 : X.cell? ⟨lb, lo + 5, none⟩ = some (.bool true) := q5
  have l6 : X.cell? ⟨lb, lo + 6, none⟩ = some (.string ⟨#[]⟩) := q6
  have l7 : X.cell? ⟨lb, lo + 7, none⟩ = some (.string ⟨#[49]⟩) := q7
  have l8 : X.cell? ⟨lb, lo + 8, none⟩ = some (.int .i64 0) := q8
  have l9 : X.cell? ⟨lb, lo + 9, none⟩ = some (.int .i64 0) := q9
  have l10 : X.cell? ⟨lb, lo + 10, none⟩ = some (.bool false) := q10
  (clear f0 f1 d0 d1 d2 d3 s0 s1 s2 s3 e0 e1 e2 e3)
  clear q1 q2 q3 q4 q5 q6 q7 q8 q9 q10 hX hX2 hXB hm ho hlb hmb hob LR MR OR HV1 HV2 HV3 HV4 HX CC CD CFI CF S1 S2 S3 N2 N3 BB HBW HSM HCM
  have k0 := AW.out.k.c 0 _ rfl
  have k1 := AW.out.k.c 1 _ rfl
  have k2 := AW.out.k.c 2 _ rfl
  have k3 := AW.out.k.c 3 _ rfl
  have k4 := AW.out.k.c 4 _ rfl
  have CP : Hid (∀ Y, Below X.heap.size X Y → Calls Tryz.prog 15 #[classVal false (some ⟨T + 1 + 1 + 1, 0, none⟩) 1 1 none 0 0 none 0 0 (some ⟨T + 1 + 1 + 1 + 1 + 1, 0, none⟩) 2 2, .int .i64 4] Y fun e w' => ∃ a c, e = .returned (.slice a 1 c) ∧ Below Y.heap.size Y w') := Lib.hid (fun Y hb => by
    obtain ⟨y, hy, hv, hc⟩ := (AW.out.keep hb).cr
    have h := program_any y 4 Y (hc.each y (by simp)) (by rw [hy]; exact aw12_small)
    rw [hv, hy] at h
    refine h.mono ?_
    rintro e w' ⟨a, n, c, rfl, hr, hb⟩
    have := hr.hlen
    rw [hw7.1] at this
    subst this
    exact ⟨a, c, rfl, hb⟩)
  have CH : Hid (∀ Y, Below X.heap.size X Y → Calls Tryz.prog 12 #[classVal false (some ⟨T + 1 + 1 + 1, 0, none⟩) 1 1 none 0 0 none 0 0 (some ⟨T + 1 + 1 + 1 + 1 + 1, 0, none⟩) 2 2, .int .i64 1] Y fun e w' => e = .returned (.bool true) ∧ Below Y.heap.size Y w') := Lib.hid (fun Y hb => by
    obtain ⟨y, hy, hv, hc⟩ := (AW.out.keep hb).cr
    have h := hears_any y 1 Y (hc.each y (by simp))
    rw [hv, hy, hw7.2.1] at h
    exact h)
  have CW : Hid (∀ Y, Below X.heap.size X Y → Calls Tryz.prog 16 #[classVal false (some ⟨T + 1 + 1 + 1, 0, none⟩) 1 1 none 0 0 none 0 0 (some ⟨T + 1 + 1 + 1 + 1 + 1, 0, none⟩) 2 2, .string ⟨#[98]⟩] Y fun e w' => e = .returned (.bool false) ∧ Below Y.heap.size Y w') := Lib.hid (fun Y hb => by
    obtain ⟨y, hy, hv, hc⟩ := (AW.out.keep hb).cr
    have h := watches_any y ⟨#[98]⟩ Y (hc.each y (by simp))
    rw [hv, hy, hw7.2.2] at h
    exact h)
  simp only [List.append]
  go_wp2_with (first
    | (go_at_call 15; (with_reducible refine (CP.out _ (Below.refl _ _)).mono ?_); rintro e Y1 ⟨pa, pc, rfl, hb⟩; have HY1 := Lib.hid hb; have K1 := Lib.hid (AW.out.keep hb); clear hb k0 k1 k2 k3 k4; have k0 := K1.out.k.c 0 _ rfl; have k1 := K1.out.k.c 1 _ rfl; have k2 := K1.out.k.c 2 _ rfl; have k3 := K1.out.k.c 3 _ rfl; have k4 := K1.out.k.c 4 _ rfl)
    | (go_at_call 12; (with_reducible refine (CH.out _ HY1.out).mono ?_); rintro e Y2 ⟨rfl, hb⟩; have HY2 := Lib.hid (HY1.out.trans (hb.mono HY1.out.size)); have K2 := Lib.hid (AW.out.keep HY2.out); clear hb k0 k1 k2 k3 k4; have k0 := K2.out.k.c 0 _ rfl; have k1 := K2.out.k.c 1 _ rfl; have k2 := K2.out.k.c 2 _ rfl; have k3 := K2.out.k.c 3 _ rfl; have k4 := K2.out.k.c 4 _ rfl)
    | (go_at_call 16; (with_reducible refine (CW.out _ HY2.out).mono ?_); rintro e Y3 ⟨rfl, hb⟩; have HY3 := Lib.hid (HY2.out.trans (hb.mono HY2.out.size)); clear hb k0 k1 k2 k3 k4))
  go_ret
  exact ⟨rfl, HBX.out.trans (HY3.out.mono HBX.out.size)⟩
end Go.Proofs.YtkfmengdffpcnaaGreatDoor
