/- Texts joined in build order: StrShelf Reader ReaderQuo. -/
import Derived.Shelf.Strings.Builder1
import Derived.Shelf.Small.Wraps
import Derived.Shelf.Strings.IndexAnyAll
import Derived.Test.YtkfmengdffpcnaaGreatDoorChecked
import Derived.WalkKit
import Derived.WalkLawsBesides
import Derived.Lib.Hide
import Derived.Test.YtkfmengdffpcnaaGreatDoorA22
import Derived.Test.YtkfmengdffpcnaaGreatDoorA26
namespace Go.Proofs.YtkfmengdffpcnaaGreatDoor
open Go.RowKit Go.Shelf
def lays169_ren : Go.Shelf.Ren := ⟨fun | 169 => 139 | n => n, fun | 70 => 207 | 9 => 9 | 0 => 0 | 72 => 209 | 37 => 184 | 127 => 213 | 3 => 3 | 5 => 5 | n => n, fun | n => n⟩
theorem lays169 : Go.Proofs.Lays.n169 Tryz.prog lays169_ren := {
  mixed := by kernel_rfl
  f169 := Tryz.func139.trans (congrArg some (by kernel_rfl))
  t0 := Tryz.underlying0
  a0 := Tryz.isAgg0
  z0 := Tryz.sizeOf0
  v0 := Tryz.zeroValue0
  t3 := Tryz.underlying3
  a3 := Tryz.isAgg3
  z3 := Tryz.sizeOf3
  v3 := Tryz.zeroValue3
  t9 := Tryz.underlying9
  a9 := Tryz.isAgg9
  z9 := Tryz.sizeOf9
  v9 := Tryz.zeroValue9
  t37 := Tryz.underlying184
  a37 := Tryz.isAgg184
  z37 := Tryz.sizeOf184
  v37 := Tryz.zeroValue184
  t70 := Tryz.underlying207
  a70 := Tryz.isAgg207
  z70 := Tryz.sizeOf207
  v70 := Tryz.zeroValue207
  t72 := Tryz.underlying209
  a72 := Tryz.isAgg209
  z72 := Tryz.sizeOf209
  v72 := Tryz.zeroValue209
  t127 := Tryz.underlying213
  a127 := Tryz.isAgg213
  z127 := Tryz.sizeOf213
  v127 := Tryz.zeroValue213 }
def lays103_ren : Go.Shelf.Ren := ⟨fun | 103 => 134 | 210 => 146 | 206 => 154 | n => n, fun | 9 => 9 | 4 => 4 | 24 => 177 | 3 => 3 | n => n, fun | n => n⟩
theorem lays103 : Go.Proofs.Lays.n103 Tryz.prog lays103_ren := {
  mixed := by kernel_rfl
  f103 := Tryz.func134.trans (congrArg some (by kernel_rfl))
  f206 := Tryz.func154.trans (congrArg some (by kernel_rfl))
  f210 := Tryz.func146.trans (congrArg some (by kernel_rfl))
  t3 := Tryz.underlying3
  a3 := Tryz.isAgg3
  z3 := Tryz.sizeOf3
  v3 := Tryz.zeroValue3
  t4 := Tryz.underlying4
  a4 := Tryz.isAgg4
  z4 := Tryz.sizeOf4
  v4 := Tryz.zeroValue4
  t9 := Tryz.underlying9
  a9 := Tryz.isAgg9
  z9 := Tryz.sizeOf9
  v9 := Tryz.zeroValue9
  t24 := Tryz.underlying177
  a24 := Tryz.isAgg177
  z24 := Tryz.sizeOf177
  v24 := Tryz.zeroValue177 }
def lays153_ren : Go.Shelf.Ren := ⟨fun | 153 => 147 | 152 => 155 | 226 => 156 | 227 => 157 | 228 => 158 | 137 => 162 | 119 => 163 | 224 => 151 | 225 => 150 | 217 => 149 | 266 => 160 | n => n, fun | 9 => 9 | 3 => 3 | 4 => 4 | 5 => 5 | 21 => 21 | 117 => 221 | 116 => 220 | 0 => 0 | 46 => 216 | 124 => 228 | n => n, fun | n => n⟩
theorem lays153 : Go.Proofs.Lays.n153 Tryz.prog lays153_ren := {
  mixed := by kernel_rfl
  f119 := Tryz.func163.trans (congrArg some (by kernel_rfl))
  f137 := Tryz.func162.trans (congrArg some (by kernel_rfl))
  f152 := Tryz.func155.trans (congrArg some (by kernel_rfl))
  f153 := Tryz.func147.trans (congrArg some (by kernel_rfl))
  f217 := Tryz.func149.trans (congrArg some (by kernel_rfl))
  f224 := Tryz.func151.trans (congrArg some (by kernel_rfl))
  f225 := Tryz.func150.trans (congrArg some (by kernel_rfl))
  f226 := Tryz.func156.trans (congrArg some (by kernel_rfl))
  f227 := Tryz.func157.trans (congrArg some (by kernel_rfl))
  f228 := Tryz.func158.trans (congrArg some (by kernel_rfl))
  f266 := Tryz.func160.trans (congrArg some (by kernel_rfl))
  t0 := Tryz.underlying0
  a0 := Tryz.isAgg0
  z0 := Tryz.sizeOf0
  v0 := Tryz.zeroValue0
  t3 := Tryz.underlying3
  a3 := Tryz.isAgg3
  z3 := Tryz.sizeOf3
  v3 := Tryz.zeroValue3
  t4 := Tryz.underlying4
  a4 := Tryz.isAgg4
  z4 := Tryz.sizeOf4
  v4 := Tryz.zeroValue4
  t5 := Tryz.underlying5
  a5 := Tryz.isAgg5
  z5 := Tryz.sizeOf5
  v5 := Tryz.zeroValue5
  t9 := Tryz.underlying9
  a9 := Tryz.isAgg9
  z9 := Tryz.sizeOf9
  v9 := Tryz.zeroValue9
  t21 := Tryz.underlying21
  a21 := Tryz.isAgg21
  z21 := Tryz.sizeOf21
  v21 := Tryz.zeroValue21
  t46 := Tryz.underlying216
  a46 := Tryz.isAgg216
  z46 := Tryz.sizeOf216
  v46 := Tryz.zeroValue216
  t116 := Tryz.underlying220
  a116 := Tryz.isAgg220
  z116 := Tryz.sizeOf220
  t117 := Tryz.underlying221
  a117 := Tryz.isAgg221
  z117 := Tryz.sizeOf221
  v117 := Tryz.zeroValue221
  t124 := Tryz.underlying228
  a124 := Tryz.isAgg228
  z124 := Tryz.sizeOf228
  v124 := Tryz.zeroValue228 }
theorem extra169 : Builder.Extra Tryz.prog lays169_ren := {
  sizeBuilder := by kernel_rfl
  liesBuilder := by kernel_rfl
  t5 := Tryz.underlying5
  a5 := Tryz.isAgg5
  z5 := Tryz.sizeOf5
  v5 := Tryz.zeroValue5
  infoByte := by kernel_rfl
  cellsByte := by kernel_rfl
  sizeByte := by kernel_rfl
  neB5 := by decide }
abbrev bdT : TypeId := 209
theorem bString_any (B b : Nat) (l : List UInt8) (w : World) (h : Lib.IsBuilder bdT 5 B b (Lib.byteCells l) w) (hB : B ≤ w.heap.size) :
    Calls Tryz.prog 139 #[.pointer (some ⟨b, 0, none⟩)] w fun e w' => e = .returned (.string ⟨l.toArray⟩) ∧ Below B w w' := Any.Builder_String_any lays169 extra169 B b l w h hB
theorem cutPrefix_any (s p : ByteArray) (w : World) :
    Calls Tryz.prog 134 #[.string s, .string p] w fun e w' => e = .returned (.tuple #[.string ⟨(Lib.trimPrefix s.data.toList p.data.toList).toArray⟩, .bool (Lib.hasPrefix s.data.toList p.data.toList)]) ∧ w' = w := Any.strings_CutPrefix lays103 s p w
theorem indexAny_any (s chars : ByteArray) (w : World) (hs : s.size < 4294967281) (hcs : chars.size < 4294967281) (has : ∀ (j : Nat) b, s.data.toList[j]? = some b → b.toNat < 128) (hac : ∀ (j : Nat) b, chars.data.toList[j]? = some b → b.toNat < 128) :
    Calls Tryz.prog 147 #[.string s, .string chars] w fun e w' => e = .returned (.int .i64 (Lib.indexAny s.data.toList chars.data.toList)) ∧ Below w.heap.size w w' := Any.strings_IndexAny_laid lays153 (by kernel_rfl) s chars w hs hcs has hac
set_option maxHeartbeats 1000000 in
set_option maxRecDepth 100000 in
theorem copyUsed_any (b : Nat) (w : World) (h0 : w.cell? ⟨b, 0, none⟩ = some (.pointer (some ⟨b, 0, none⟩))) :
    Calls Tryz.prog 148 #[.pointer (some ⟨b, 0, none⟩)] w fun e w' => e = .returned (.tuple #[]) ∧ w' = w := by
  obtain ⟨j, hj, _⟩ := Option.map_eq_some_iff.1 extra169.sizeBuilder
  go_enter Tryz.func148, Tryz.ntmps148
  go_wp2
  rw [Lib.run_neq_ptr_same w _ Tryz.underlying207 hj]
  go_wp2
  go_end0
  exact ⟨rfl, rfl⟩
set_option maxHeartbeats 1000000 in
set_option maxRecDepth 100000 in
theorem copyFresh_any (b : Nat) (w : World) (h0 : w.cell? ⟨b, 0, none⟩ = some (.pointer none)) (hsh : w.shape? b = some (bdT, 2)) (hfz : w.frozen? ⟨b, 0, none⟩ = false) :
    Calls Tryz.prog 148 #[.pointer (some ⟨b, 0, none⟩)] w fun e w' => e = .returned (.tuple #[]) ∧ w' = w.setCell ⟨b, 0, none⟩ (.pointer (some ⟨b, 0, none⟩)) := by
  obtain ⟨j, hj, hjs⟩ := Option.map_eq_some_iff.1 extra169.sizeBuilder
  go_enter Tryz.func148, Tryz.ntmps148
  go_wp2
  rw [Lib.run_to_unsafe w ⟨b, 0, none⟩ Tryz.underlying207 Tryz.underlying159 hj (by rw [hjs]; decide) hsh (Nat.zero_lt_succ 1)]
  simp only [Result.andThen]
  rw [Oper.upon_value]
  go_wp2
  rw [run_callFunc_extern Tryz.func159 (by kernel_rfl) (by kernel_rfl) (by kernel_rfl) (e := Extern.AbiNoEscape.same) (by kernel_rfl)]
  rw [Lib.run_noEscape]
  simp only [Result.andThen]
  rw [Oper.upon_value]
  go_wp2
  rw [Lib.run_from_unsafe w ⟨b, 0, none⟩ Tryz.underlying159 Tryz.underlying207 hj hsh extra169.liesBuilder]
  simp only [Result.andThen]
  rw [Oper.upon_value]
  go_wp2
  go_end0
  exact ⟨rfl, rfl⟩
theorem copyCheck_any (B b : Nat) (bs : List Value) (w : World) (h : Lib.IsBuilder bdT 5 B b bs w) :
    Calls Tryz.prog 148 #[.pointer (some ⟨b, 0, none⟩)] w fun e w' => e = .returned (.tuple #[]) ∧ Lib.BuilderAt bdT 5 B b (.pointer (some ⟨b, 0, none⟩)) bs w' ∧ Below B w w' := by
  rcases h with h | h
  · refine (copyFresh_any b w h.cell0 h.shape h.frozen0).mono ?_
    rintro e w' ⟨rfl, rfl⟩
    exact ⟨rfl, h.used _, (Below.refl B w).setCell (p := ⟨b, 0, none⟩) h.1 _⟩
  · refine (copyUsed_any b w h.cell0).mono ?_
    rintro e w' ⟨rfl, rfl⟩
    exact ⟨rfl, h, Below.refl B _⟩
set_option maxHeartbeats 2000000 in
set_option maxRecDepth 100000 in
theorem bWriteByte_any (B b : Nat) (bs : List Value) (c : Int) (w : World) (h : Lib.IsBuilder bdT 5 B b bs w) (hlen : bs.length + 1 ≤ 140737488355328) (hBw : B ≤ w.heap.size) :
    Calls Tryz.prog 140 #[.pointer (some ⟨b, 0, none⟩), .int .u8 c] w fun e w' => e = .returned .nilIface ∧ Lib.BuilderAt bdT 5 B b (.pointer (some ⟨b, 0, none⟩)) (bs ++ [.int .u8 c]) w' ∧ Below B w w' := by
  obtain ⟨i0, hi, hz0, hz1, hz2⟩ := info_parts extra169.infoByte
  have CC := Lib.hid (copyCheck_any B b bs w h)
  go_enter Tryz.func140, Tryz.ntmps140
  go_wp2_with (go_at_call 148; refine CC.out.mono ?_)
  rintro e w1 ⟨rfl, h1, hb1⟩
  obtain ⟨hB, v, hbk, hown, hne⟩ := h1
  have c0 : w1.cell? ⟨b, 0, none⟩ = some (.pointer (some ⟨b, 0, none⟩)) := by rw [Lib.cell_of_heap hbk]; rfl
  have c1 : w1.cell? ⟨b, 1, none⟩ = some v := by rw [Lib.cell_of_heap hbk]; rfl
  have hs1 := hb1.size
  go_wp2_with (at_builtin; refine wpList_append_own _ rfl _ _ 184 rfl B 5 i0 (.int .u8 0) 1 1 Tryz.underlying184 hi hz0 hz1 hz2 rfl (by decide) _ _ _ rfl (hown.alloc _) ⟨w1.heap.size, 0, none⟩ 1 1 [.int .u8 c] rfl rfl ?c1 ?c2 ?c3 ?c4 ?c5 ?_)
  case c1 =>
    intro j u hj
    match j, hj with
    | 0, hj => simp at hj; subst hj; simp [Addr.add]
  case c2 => intro u hu; simp at hu; subst hu; rfl
  case c3 => unfold maxLen; omega
  case c4 => omega
  case c5 => simp; omega
  intro v' w2 hown' hgrow _
  have hlt : b < w1.heap.size := Lib.BuilderAt.lt ⟨hB, v, hbk, hown, hne⟩
  have hb2 : w2.heap[b]? = some (.cells #[.pointer (some ⟨b, 0, none⟩), v] bdT (0, 0)) := by
    rw [hgrow.block b (by simp; omega) (fun e => hne e.symm), Lib.alloc_old w1 _ b hlt]
    exact hbk
  have d0 : w2.cell? ⟨b, 0, none⟩ = some (.pointer (some ⟨b, 0, none⟩)) := by rw [Lib.cell_of_heap hb2]; rfl
  have d1 : w2.cell? ⟨b, 1, none⟩ = some v := by rw [Lib.cell_of_heap hb2]; rfl
  have f1 : w2.frozen? ⟨b, 1, none⟩ = false := Lib.frozen_of_heap hb2 1
  obtain ⟨g, cap, rfl⟩ : ∃ g cap, v' = .slice (some ⟨g, 0, none⟩) (bs.length + 1) cap := by
    rcases hown'.2 with ⟨_, h0⟩ | ⟨g, cap, cur, hv, _⟩
    · omega
    · exact ⟨g, cap, hv⟩
  go_wp2
  go_ret
  refine ⟨rfl, ?_, ?_⟩
  · exact Lib.BuilderAt.put (T := bdT) (e := 5) hB hb2 (bs' := bs ++ [.int .u8 c]) (by simpa using hown') (by decide)
  · exact ((hb1.alloc (by omega) _).grown hgrow (by simp; omega) (fun k hk => (hown.lt k hk).1)).setCell (p := ⟨b, 1, none⟩) hB _
end Go.Proofs.YtkfmengdffpcnaaGreatDoor
namespace Go.Proofs.YtkfmengdffpcnaaGreatDoor
open Go.RowKit
structure Gone (pr : Nat) (ρ ρ' : Nat → Nat) (w w' : World) : Prop where
  os : w'.os = w.os
  tape : w'.tape = w.tape
  output : w'.output = w.output
  size : w.heap.size ≤ w'.heap.size
  quiet : ∀ b, b < w.heap.size → b ≠ pr → (ρ b = 0 ∨ ρ b = 5) → w'.heap[b]? = w.heap[b]?
  old : ∀ b, b < w.heap.size → (ρ b = 0 ∨ ρ b = 5) → ρ' b = ρ b
theorem Gone.trans {pr : Nat} {ρ ρ1 ρ2 : Nat → Nat} {a b c : World} (h : Gone pr ρ ρ1 a b) (k : Gone pr ρ1 ρ2 b c) : Gone pr ρ ρ2 a c :=
  ⟨k.os.trans h.os, k.tape.trans h.tape, k.output.trans h.output, Nat.le_trans h.size k.size, fun i hi hne h0 => (k.quiet i (Nat.lt_of_lt_of_le hi h.size) hne (by rw [h.old i hi h0]; exact h0)).trans (h.quiet i hi hne h0), fun i hi h0 => (k.old i (Nat.lt_of_lt_of_le hi h.size) (by rw [h.old i hi h0]; exact h0)).trans (h.old i hi h0)⟩
theorem Gone.of_below {pr : Nat} {ρ : Nat → Nat} {w w' : World} (h : Below w.heap.size w w') : Gone pr ρ ρ w w' := ⟨h.os, h.tape, h.output, h.size, fun b hb _ _ => h.block b hb, fun _ _ _ => rfl⟩
theorem Gone.refl (pr : Nat) (ρ : Nat → Nat) (w : World) : Gone pr ρ ρ w w := Gone.of_below (Below.refl _ _)
theorem Gone.of_turn {pr : Nat} {ρ ρ' : Nat → Nat} {w w' : World} (h : Turn ρ w w') (ho : ∀ b, b < w.heap.size → (ρ b = 0 ∨ ρ b = 5) → ρ' b = ρ b) : Gone pr ρ ρ' w w' := ⟨h.os, h.tape, h.output, h.size, fun b hb _ h0 => h.quiet b hb h0, ho⟩
theorem Gone.rest {pr : Nat} {ρ ρ' : Nat → Nat} {w w' : World} (h : Gone pr ρ ρ' w w') (o : Nat) (u : Value) : Gone pr ρ ρ' w (w'.setCell ⟨pr, o, none⟩ u) :=
  ⟨h.os, h.tape, h.output, by simpa [World.setCell] using h.size, fun b hb hne h0 => (Below.heap_setCell _ _ _ b hne).trans (h.quiet b hb hne h0), h.old⟩
theorem Gone.cell {pr : Nat} {ρ ρ' : Nat → Nat} {w w' : World} (h : Gone pr ρ ρ' w w') {b o : Nat} (hb : b < w.heap.size) (hne : b ≠ pr) (h0 : ρ b = 0 ∨ ρ b = 5) : w'.cell? ⟨b, o, none⟩ = w.cell? ⟨b, o, none⟩ := World.cell?_of_block (w := w) (a := ⟨b, o, none⟩) (h.quiet b hb hne h0)
theorem Gone.frozen {pr : Nat} {ρ ρ' : Nat → Nat} {w w' : World} (h : Gone pr ρ ρ' w w') {b o : Nat} (hb : b < w.heap.size) (hne : b ≠ pr) (h0 : ρ b = 0 ∨ ρ b = 5) : w'.frozen? ⟨b, o, none⟩ = w.frozen? ⟨b, o, none⟩ := World.frozen?_of_block (w := w) (a := ⟨b, o, none⟩) (h.quiet b hb hne h0)
structure Rd (ρ : Nat → Nat) (W : World) (pr pw g cap len : Nat) (m : Int) (M : List NodeD) (v : Value) (N : List NoteD) (l : BL) (doc : Int) : Prop where
  wk : Wk ρ W pw g cap len m M v N
  r0 : W.cell? ⟨pr, 0, none⟩ = some (ptrV pw)
  r1 : W.cell? ⟨pr, 1, none⟩ = some (.string (strB l))
  r2 : W.cell? ⟨pr, 2, none⟩ = some (.int .i64 doc)
  rf : ∀ o, W.frozen? ⟨pr, o, none⟩ = false
  rlt : pr < W.heap.size
  role : ρ pr = 5
  small : smallF M
  hdoc : In64 doc
section
variable {ρ : Nat → Nat} {W W2 : World} {pr pw g cap len : Nat} {m : Int} {M : List NodeD} {v : Value} {N : List NoteD} {l l2 : BL} {doc : Int}
theorem Rd.keep (h : Rd ρ W pr pw g cap len m M v N l doc) (hb : Below W.heap.size W W2) : Rd ρ W2 pr pw g cap len m M v N l doc :=
  ⟨h.wk.keep hb, (hb.cell (p := ⟨pr, 0, none⟩) h.rlt).trans h.r0, (hb.cell (p := ⟨pr, 1, none⟩) h.rlt).trans h.r1, (hb.cell (p := ⟨pr, 2, none⟩) h.rlt).trans h.r2, fun o => (hb.frozen (p := ⟨pr, o, none⟩) h.rlt).trans (h.rf o), Nat.lt_of_lt_of_le h.rlt hb.size, h.role, h.small, h.hdoc⟩
theorem Rd.rest (h : Rd ρ W pr pw g cap len m M v N l doc) (l2 : BL) : Rd ρ (W.setCell ⟨pr, 1, none⟩ (.string (strB l2))) pr pw g cap len m M v N l2 doc :=
  ⟨h.wk.otherR (.inr h.role) 1 _, (World.cell?_setCell_other _ _ _ _ (fun e => by injection e with _ e; omega)).trans h.r0, World.cell?_setCell_same _ _ _ h.r1, (World.cell?_setCell_other _ _ _ _ (fun e => by injection e with _ e; omega)).trans h.r2, fun o => by rw [World.frozen?_setCell]; exact h.rf o, by simpa [World.setCell] using h.rlt, h.role, h.small, h.hdoc⟩
def StepPost (ρ : Nat → Nat) (w : World) (pr pw g cap len : Nat) (m : Int) (M : List NodeD) (v : Value) (N : List NoteD) (l2 : BL) (doc : Int) (u : Value) (e : Ending) (w' : World) : Prop :=
  e = .returned u ∧ Rd ρ w' pr pw g cap len m M v N l2 doc ∧ Gone pr ρ ρ w w'
theorem skipM_some {l p l2 : BL} (h : skipM l p = some l2) : Lib.hasPrefix l p = true ∧ Lib.trimPrefix l p = l2 := by
  unfold skipM at h
  by_cases hp : p.isPrefixOf l = true
  · rw [if_pos hp] at h
    have : Lib.hasPrefix l p = true := hp
    refine ⟨this, ?_⟩
    unfold Lib.trimPrefix
    rw [if_pos this]
    exact Option.some.inj h
  · rw [if_neg hp] at h
    cases h
theorem skipM_none {l p : BL} (h : skipM l p = none) : Lib.hasPrefix l p = false ∧ Lib.trimPrefix l p = l := by
  unfold skipM at h
  by_cases hp : p.isPrefixOf l = true
  · rw [if_pos hp] at h
    cases h
  · have : Lib.hasPrefix l p = false := Bool.eq_false_iff.2 hp
    refine ⟨this, ?_⟩
    unfold Lib.trimPrefix
    rw [if_neg (by rw [this]; decide)]
set_option maxHeartbeats 1000000 in
set_option maxRecDepth 100000 in
theorem skip_core (w : World) (h : Rd ρ w pr pw g cap len m M v N l doc) (p : BL) :
    Calls Tryz.prog 117 #[ptrV pr, .string ⟨p.toArray⟩] w (StepPost ρ w pr pw g cap len m M v N (Lib.trimPrefix l p) doc (.bool (Lib.hasPrefix l p))) := by
  have CP : Hid (Calls Tryz.prog 134 #[.string (strB l), .string ⟨p.toArray⟩] w fun e w' => e = .returned (.tuple #[.string (strB (Lib.trimPrefix l p)), .bool (Lib.hasPrefix l p)]) ∧ w' = w) := Lib.hid (cutPrefix_any (strB l) ⟨p.toArray⟩ w)
  have HR := Lib.hid (h.rest (Lib.trimPrefix l p))
  have HF := Lib.hid ((Gone.refl pr ρ w).rest 1 (.string (strB (Lib.trimPrefix l p))))
  obtain ⟨S, hS⟩ : ∃ S, strB l = S := ⟨_, rfl⟩
  obtain ⟨T, hT⟩ : ∃ T, strB (Lib.trimPrefix l p) = T := ⟨_, rfl⟩
  obtain ⟨q, hq⟩ : ∃ q, Lib.hasPrefix l p = q := ⟨_, rfl⟩
  have r1 := h.r1
  rw [hS] at CP r1
  rw [hT, hq] at CP
  rw [hT] at HR HF
  rw [hq]
  have rf := h.rf 1
  clear h hS hT hq
  go_enter Tryz.func117, Tryz.ntmps117
  go_wp2_with (go_at_call 134; (with_reducible refine CP.out.mono ?_); rintro e w' ⟨rfl, rfl⟩)
  go_ret
  exact ⟨rfl, HR.out, HF.out⟩
theorem skip_hit (w : World) (h : Rd ρ w pr pw g cap len m M v N l doc) (p : BL) (hs : skipM l p = some l2) :
    Calls Tryz.prog 117 #[ptrV pr, .string ⟨p.toArray⟩] w (StepPost ρ w pr pw g cap len m M v N l2 doc (.bool true)) := by
  have := skip_core w h p
  rwa [(skipM_some hs).1, (skipM_some hs).2] at this
theorem skip_miss (w : World) (h : Rd ρ w pr pw g cap len m M v N l doc) (p : BL) (hs : skipM l p = none) :
    Calls Tryz.prog 117 #[ptrV pr, .string ⟨p.toArray⟩] w (StepPost ρ w pr pw g cap len m M v N l doc (.bool false)) := by
  have := skip_core w h p
  rwa [(skipM_none hs).1, (skipM_none hs).2] at this
theorem strB_upto (l : BL) (k : Nat) : (strB l).extract 0 k = strB (l.take k) := by
  apply ByteArray.ext
  simp [strB, ByteArray.data_extract]
theorem strB_from (l : BL) (k : Nat) : (strB l).extract k (strB l).size = strB (l.drop k) := by
  apply ByteArray.ext
  rw [strB_size]
  simp [strB, ByteArray.data_extract, List.take_of_length_le]
theorem indexAny_lt (cs : BL) : ∀ l : BL, Lib.indexAny l cs < (l.length : Int)
  | [] => by simp [Lib.indexAny]
  | b :: r => by
    have ih := indexAny_lt cs r
    have hl : ((b :: r).length : Int) = (r.length : Int) + 1 := by simp
    by_cases h1 : cs.contains b = true
    · rw [Lib.indexAny, if_pos h1, hl]; omega
    · by_cases h2 : (Lib.indexAny r cs == -1) = true
      · rw [Lib.indexAny, if_neg h1, if_pos h2, hl]; omega
      · rw [Lib.indexAny, if_neg h1, if_neg h2, hl]; omega
set_option maxHeartbeats 2000000 in
set_option maxRecDepth 100000 in
theorem word_any (w : World) (h : Rd ρ w pr pw g cap len m M v N l doc) {n : BL} (hw : wordM l = some (n, l2)) :
    Calls Tryz.prog 135 #[ptrV pr] w (StepPost ρ w pr pw g cap len m M v N l2 doc (.string (strB n))) := by
  unfold wordM at hw
  by_cases ho : okM l = true
  · rw [if_pos ho] at hw
    have hw := Option.some.inj hw
    injection hw with hn hl2
    subst hn hl2
    unfold okM at ho
    simp only [Bool.and_eq_true, decide_eq_true_eq, List.all_eq_true] at ho
    obtain ⟨hlen, hasc⟩ := ho
    obtain ⟨z, hz⟩ : ∃ z, Lib.indexAny l [33, 32, 61, 62] = z := ⟨_, rfl⟩
    obtain ⟨k, hk⟩ : ∃ k, endM l = k := ⟨_, rfl⟩
    have hzk : z.toNat = k := by rw [← hk, ← hz]; rfl
    have hkl : k ≤ l.length := by
      have := indexAny_lt [33, 32, 61, 62] l
      rw [hz] at this
      omega
    have CI : Hid (Calls Tryz.prog 147 #[.string (strB l), .string ⟨#[33, 32, 61, 62]⟩] w fun e w' => e = .returned (.int .i64 z) ∧ Below w.heap.size w w') := Lib.hid (by
      have := indexAny_any (strB l) (strB [33, 32, 61, 62]) w (by rw [strB_size]; omega) (by decide) (fun j b hb => hasc b (List.mem_of_getElem? hb)) (fun j b hb => by
        have hb : ([33, 32, 61, 62] : BL)[j]? = some b := hb
        have := List.mem_of_getElem? hb
        simp at this
        rcases this with rfl | rfl | rfl | rfl <;> decide)
      rw [strB_data, strB_data, hz] at this
      exact this)
    have HK : Hid (∀ W, Below w.heap.size w W → Rd ρ W pr pw g cap len m M v N l doc) := Lib.hid (fun W hb => h.keep hb)
    have HU : Hid ((strB l).extract 0 k = strB (l.take k)) := Lib.hid (strB_upto l k)
    have HD : Hid ((strB l).extract k l.length = strB (l.drop k)) := Lib.hid (by have := strB_from l k; rwa [strB_size] at this)
    obtain ⟨S, hS⟩ : ∃ S, strB l = S := ⟨_, rfl⟩
    have hsz : S.size = l.length := by rw [← hS, strB_size]
    have r1 := h.r1
    rw [hS] at CI r1 HU HD
    have HS := Lib.hid hS
    have HKE := Lib.hid hk
    have hk0 : ((k : Int)).toNat = k := rfl
    have hks : (k : Int) ≤ (S.size : Int) := by rw [hsz]; omega
    rw [hk]
    have hplt := h.rlt
    clear h hS hk hz hasc hlen
    have hmx : (max z 0).toNat = k := by omega
    have hm0 : 0 ≤ max z 0 ∧ max z 0 ≤ (S.size : Int) := by omega
    have HMX := Lib.hid hmx
    clear hmx hzk hkl hk0 hks
    obtain ⟨q, hq⟩ : ∃ q, max z 0 = q := ⟨_, rfl⟩
    have HQ := Lib.hid hq
    rw [hq] at hm0
    clear hq
    go_enter Tryz.func135, Tryz.ntmps135
    go_upto_region 2 with (go_at_call 147; (with_reducible refine CI.out.mono ?_); rintro e w1 ⟨rfl, hb⟩; have HB := Lib.hid hb; have r1 := (HK.out _ hb).r1; rw [HS.out] at r1; have rf := (HK.out _ hb).rf 1; clear hb)
    rw [HQ.out]
    obtain ⟨hm0, hm1⟩ := hm0
    go_wp2
    go_ret
    have e1 : q.toNat = k := by rw [← HQ.out]; exact HMX.out
    refine ⟨?_, ?_, ?_⟩
    · show Ending.returned (Value.string (S.extract 0 q.toNat)) = _
      rw [e1, HU.out]
    · rw [e1, HD.out]
      exact (HK.out _ HB.out).rest _
    · exact (Gone.of_below HB.out).rest 1 _
  · rw [if_neg ho] at hw
    cases hw
end
end Go.Proofs.YtkfmengdffpcnaaGreatDoor
namespace Go.Proofs.YtkfmengdffpcnaaGreatDoor
open Go.RowKit
theorem below_both {B : Nat} {a b : World} (h : Below B a b) (p : Addr) (u : Value) : Below B (a.setCell p u) (b.setCell p u) := by
  refine ⟨h.os, h.tape, h.output, by simpa [World.setCell] using h.size, fun k hk => ?_⟩
  simp only [World.setCell, Array.getElem?_modify, h.block k hk]
theorem builder_far {T e : TypeId} {B b : Nat} {bs : List Value} {w : World} (h : Lib.IsBuilder T e B b bs w) {q : Nat} (hq : q < B) (o : Nat) (u : Value) : Lib.IsBuilder T e B b bs (w.setCell ⟨q, o, none⟩ u) := by
  have key : ∀ p, Lib.BuilderAt T e B b p bs w → Lib.BuilderAt T e B b p bs (w.setCell ⟨q, o, none⟩ u) := fun p ⟨hB, v, hb, hown, hne⟩ =>
    ⟨hB, v, (Below.heap_setCell _ _ _ b (fun e => by have e : b = q := e; omega)).trans hb, own_same hown (fun k hk => Below.heap_setCell _ _ _ k (fun e => by have e : k = q := e; have := (hown.lt k hk).1; omega)), hne⟩
  exact h.imp (key _) (key _)
theorem qM_34 (acc r : BL) : qM acc (34 :: r) = some (acc, r) := by
  rw [qM.eq_def]
  dsimp only
  rw [if_pos rfl]
theorem qM_92 (acc r : BL) (c : UInt8) : qM acc (92 :: c :: r) = if c = 34 ∨ c = 92 then qM (acc ++ [c]) r else none := by
  rw [qM.eq_def]
  dsimp only
  rw [if_neg (by decide), if_pos rfl]
theorem qM_92nil (acc : BL) : qM acc [92] = none := by
  rw [qM.eq_def]
  dsimp only
  rw [if_neg (by decide), if_pos rfl]
theorem qM_other {acc r : BL} {b : UInt8} (h1 : b ≠ 34) (h2 : b ≠ 92) : qM acc (b :: r) = qM (acc ++ [b]) r := by
  rw [qM.eq_def]
  dsimp only
  rw [if_neg h1, if_neg h2]
theorem byteCells_add (l : BL) (x : UInt8) : Lib.byteCells l ++ [.int .u8 x.toNat] = Lib.byteCells (l ++ [x]) := by simp [Lib.byteCells]
theorem qM_cons {acc : BL} {l1 : BL} {i : Nat} {r : BL × BL} (h : qM acc (l1.drop i) = some r) : ∃ x, l1[i]? = some x ∧ l1.drop i = x :: l1.drop (i + 1) := by
  rcases Nat.lt_or_ge i l1.length with hi | hi
  · exact ⟨l1[i], List.getElem?_eq_getElem hi, List.drop_eq_getElem_cons hi⟩
  · rw [List.drop_eq_nil_of_le hi] at h
    cases h
section
variable {ρ : Nat → Nat} {pr pw g cap len : Nat} {m : Int} {M : List NodeD} {v : Value} {N : List NoteD} {l l2 : BL} {doc : Int}
set_option maxHeartbeats 4000000 in
set_option maxRecDepth 100000 in
theorem quoted_any (w : World) (h : Rd ρ w pr pw g cap len m M v N l doc) {s : BL} (hq : quoM l = some (s, l2)) :
    Calls Tryz.prog 121 #[ptrV pr] w (StepPost ρ w pr pw g cap len m M v N l2 doc (.tuple #[.string (strB s), .bool true])) := by
  unfold quoM at hq
  by_cases hl : l.length ≤ 100000
  case neg => rw [if_neg hl] at hq; cases hq
  rw [if_pos hl] at hq
  cases hs : skipM l [34] with
  | none => rw [hs] at hq; cases hq
  | some l1 =>
  rw [hs] at hq
  have hq : qM [] l1 = some (s, l2) := hq
  have hl1 : l1.length ≤ 100000 := by
    have := (skipM_some hs).2
    have h2 := Lib.trimPrefix_le l [34]
    rw [this] at h2
    omega
  have CS : Hid (Calls Tryz.prog 117 #[ptrV pr, .string ⟨#[34]⟩] w (StepPost ρ w pr pw g cap len m M v N l1 doc (.bool true))) := Lib.hid (skip_hit w h [34] hs)
  have HQ := Lib.hid hq
  have hplt := h.rlt
  clear h hq hs hl
  go_enter Tryz.func121, Tryz.ntmps121
  go_upto_region 3 with (go_at_call 117; (with_reducible refine CS.out.mono ?_); rintro e w1 ⟨rfl, hR, hG⟩; have HR := Lib.hid hR; have HG := Lib.hid hG; clear hR hG)
  go_upto_region 4 with fail
  have IB0 := Lib.hid (Lib.fresh_isBuilder bdT 5 w1)
  have hb0 : Below w1.heap.size w1 (w1.alloc (.cells #[.pointer none, .slice none 0 0] bdT)) := below_box w1 _
  have HB0 := Lib.hid hb0
  have hpl1 : pr < w1.heap.size := HR.out.rlt
  obtain ⟨S, hS⟩ : ∃ S, strB l1 = S := ⟨_, rfl⟩
  have hsz : S.size = l1.length := by rw [← hS, strB_size]
  have hszI : (S.size : Int) = (l1.length : Int) := by rw [hsz]
  have HSX : Hid (∀ (i : Nat) (hi : i < S.size) x, l1[i]? = some x → S[i]'hi = x) := Lib.hid (fun i hi x hx => by
    subst hS
    have h1 : l1[i]? = some ((strB l1)[i]'hi) := Lib.data_getElem? (strB l1) i hi
    rw [hx] at h1
    exact (Option.some.inj h1).symm)
  have HR1 : Hid (∀ W, Below w1.heap.size w1 W → W.cell? ⟨pr, 1, none⟩ = some (.string S)) := Lib.hid (fun W hb => by rw [← hS]; exact (HR.out.keep hb).r1)
  have HRF : Hid (∀ W, Below w1.heap.size w1 W → W.frozen? ⟨pr, 1, none⟩ = false) := Lib.hid (fun W hb => (HR.out.keep hb).rf 1)
  have HDR : Hid (∀ k, S.extract k l1.length = strB (l1.drop k)) := Lib.hid (fun k => by rw [← hS]; have := strB_from l1 k; rwa [strB_size] at this)
  clear hS hb0
  obtain ⟨w2, hw2⟩ : ∃ w2, w1.alloc (.cells #[.pointer none, .slice none 0 0] bdT) = w2 := ⟨_, rfl⟩
  obtain ⟨bb, hbb⟩ : ∃ bb, w1.heap.size = bb := ⟨_, rfl⟩
  rw [hw2] at IB0 HB0 ⊢
  rw [hbb] at IB0 HB0 HR1 HRF hpl1 ⊢
  have HBB := Lib.hid hbb
  clear hw2 hbb
  go_wp2
  go_loopw [5] (fun iv wr => ∃ (i : Nat) (acc : BL), iv = .int .i64 i ∧ acc.length ≤ i ∧ Hid (Lib.IsBuilder bdT 5 bb bb (Lib.byteCells acc) wr) ∧ Hid (Below bb w1 wr) ∧ Hid (qM acc (l1.drop i) = some (s, l2))) (fun iv _ => l1.length - (intOf iv).toNat)
  case atStart => exact ⟨0, [], rfl, Nat.le_refl _, IB0, HB0, HQ⟩
  case round =>
    obtain ⟨i, acc, rfl, hai, IB, HB, HQI⟩ := hrel
    obtain ⟨x, hx, hdr⟩ := qM_cons HQI.out
    have hil : i < l1.length := (List.getElem?_eq_some_iff.1 hx).1
    have hiS : i < S.size := by omega
    have hiz : (i : Int) < (S.size : Int) := by omega
    have hi64 : (i : Int) + 2 ≤ 9223372036854775807 := by omega
    have hxs := HSX.out i hiS x hx
    have r1 := HR1.out _ HB.out
    have rf := HRF.out _ HB.out
    have hBw : bb ≤ wr.heap.size := by have := HB.out.size; have := HBB.out; omega
    have HQJ := Lib.hid (show qM acc (x :: l1.drop (i + 1)) = some (s, l2) by rw [← hdr]; exact HQI.out)
    have HX := Lib.hid hx
    clear hx hdr
    by_cases h34 : x = 34
    · have e34 : ((x.toNat : Int) == 34) = true := by rw [h34]; rfl
      have hqe := HQJ.out
      rw [h34, qM_34] at hqe
      have hqe := Option.some.inj hqe
      injection hqe with hs2 hl2
      have HE := Lib.hid (show acc = s ∧ l1.drop (i + 1) = l2 from ⟨hs2, hl2⟩)
      have CB : Hid (∀ u, Calls Tryz.prog 139 #[.pointer (some ⟨bb, 0, none⟩)] (wr.setCell ⟨pr, 1, none⟩ u) fun e w' => e = .returned (.string (strB acc)) ∧ Below bb (wr.setCell ⟨pr, 1, none⟩ u) w') := Lib.hid (fun u => bString_any bb bb acc _ (builder_far IB.out hpl1 1 u) (by simpa [World.setCell] using hBw))
      clear hs2 hl2 h34 hqe
      go_wp2_with (go_at_call 139; (with_reducible refine (CB.out _).mono ?_); rintro e w3 ⟨rfl, hb⟩; have HB3 := Lib.hid hb; clear hb)
      go_ret2
      refine ⟨?_, ?_, ?_⟩
      · show Ending.returned (Value.tuple #[Value.string (strB acc), Value.bool true]) = _
        rw [HE.out.1]
      · have hb := HB3.out
        rw [HDR.out, HE.out.2] at hb
        have hb2 := (below_both HB.out ⟨pr, 1, none⟩ (.string (strB l2))).trans hb
        exact (HR.out.rest l2).keep (by rw [show (w1.setCell ⟨pr, 1, none⟩ (.string (strB l2))).heap.size = bb by simpa [World.setCell] using HBB.out]; exact hb2)
      · have hb := HB3.out
        rw [HDR.out, HE.out.2] at hb
        have hb2 := (below_both HB.out ⟨pr, 1, none⟩ (.string (strB l2))).trans hb
        exact (HG.out.rest 1 _).trans (Gone.of_below (by rw [show (w1.setCell ⟨pr, 1, none⟩ (.string (strB l2))).heap.size = bb by simpa [World.setCell] using HBB.out]; exact hb2))
    · have e34 : ((x.toNat : Int) == 34) = false := beq_eq_false_iff_ne.2 (fun e => h34 (by
        have e : x.toNat = 34 := by omega
        exact UInt8.toNat_inj.1 e))
      have hacl : acc.length + 1 ≤ 140737488355328 := by omega
      by_cases h92 : x = 92
      · have e92 : ((x.toNat : Int) == 92) = true := by rw [h92]; rfl
        obtain ⟨c, hc, hc2, HQ2⟩ : ∃ c, l1[i + 1]? = some c ∧ (c = 34 ∨ c = 92) ∧ Hid (qM (acc ++ [c]) (l1.drop (i + 2)) = some (s, l2)) := by
          have hq := HQJ.out
          rw [h92] at hq
          rcases Nat.lt_or_ge (i + 1) l1.length with hi | hi
          · rw [List.drop_eq_getElem_cons hi, qM_92] at hq
            by_cases hc : l1[i + 1] = 34 ∨ l1[i + 1] = 92
            · rw [if_pos hc] at hq
              exact ⟨l1[i + 1], List.getElem?_eq_getElem hi, hc, Lib.hid hq⟩
            · rw [if_neg hc] at hq
              cases hq
          · rw [List.drop_eq_nil_of_le hi, qM_92nil] at hq
            cases hq
        have hi1 : i + 1 < l1.length := (List.getElem?_eq_some_iff.1 hc).1
        have hiS1 : i + 1 < S.size := by omega
        have hcs := HSX.out (i + 1) hiS1 c hc
        have hne1 : ((i : Int) + 1 == (l1.length : Int)) = false := beq_eq_false_iff_ne.2 (by omega)
        have CB : Hid (Calls Tryz.prog 140 #[.pointer (some ⟨bb, 0, none⟩), .int .u8 (c.toNat : Int)] wr fun e w' => e = .returned .nilIface ∧ Lib.IsBuilder bdT 5 bb bb (Lib.byteCells (acc ++ [c])) w' ∧ Below bb wr w') := Lib.hid ((bWriteByte_any bb bb (Lib.byteCells acc) (c.toNat : Int) wr IB.out (by rw [Lib.byteCells_length]; exact hacl) hBw).mono (fun e w' ⟨h1, h2, h3⟩ => ⟨h1, .inr (by rwa [byteCells_add] at h2), h3⟩))
        have HRND : Hid (∀ w', Lib.IsBuilder bdT 5 bb bb (Lib.byteCells (acc ++ [c])) w' → Below bb wr w' → ∃ (i' : Nat) (acc' : BL), Value.int .i64 ((i : Int) + 1 + 1) = .int .i64 i' ∧ acc'.length ≤ i' ∧ Hid (Lib.IsBuilder bdT 5 bb bb (Lib.byteCells acc') w') ∧ Hid (Below bb w1 w') ∧ Hid (qM acc' (l1.drop i') = some (s, l2))) := Lib.hid (fun w' h1 h2 => ⟨i + 2, acc ++ [c], by congr 1, by simp; omega, Lib.hid h1, Lib.hid (HB.out.trans h2), HQ2⟩)
        clear h34 h92 hc hacl
        rcases hc2 with hc2 | hc2
        · have f34 : ((c.toNat : Int) != 34) = false := by rw [hc2]; rfl
          clear hc2
          go_wp2_with (go_at_call 140; (with_reducible refine CB.out.mono ?_); rintro e w3 ⟨rfl, hib, hb⟩; have HN := Lib.hid (HRND.out _ hib hb); clear hib hb)
          go_roundw
          case rel => exact HN.out
          case measure => simp [intOf]; omega
        · have f34 : ((c.toNat : Int) != 34) = true := by rw [hc2]; rfl
          have f92 : ((c.toNat : Int) != 92) = false := by rw [hc2]; rfl
          clear hc2
          go_wp2_with (go_at_call 140; (with_reducible refine CB.out.mono ?_); rintro e w3 ⟨rfl, hib, hb⟩; have HN := Lib.hid (HRND.out _ hib hb); clear hib hb)
          go_roundw
          case rel => exact HN.out
          case measure => simp [intOf]; omega
      · have e92 : ((x.toNat : Int) == 92) = false := beq_eq_false_iff_ne.2 (fun e => h92 (by
          have e : x.toNat = 92 := by omega
          exact UInt8.toNat_inj.1 e))
        have HQ2 := HQJ.out
        rw [qM_other h34 h92] at HQ2
        have HQ2 := Lib.hid HQ2
        have CB : Hid (Calls Tryz.prog 140 #[.pointer (some ⟨bb, 0, none⟩), .int .u8 (x.toNat : Int)] wr fun e w' => e = .returned .nilIface ∧ Lib.IsBuilder bdT 5 bb bb (Lib.byteCells (acc ++ [x])) w' ∧ Below bb wr w') := Lib.hid ((bWriteByte_any bb bb (Lib.byteCells acc) (x.toNat : Int) wr IB.out (by rw [Lib.byteCells_length]; exact hacl) hBw).mono (fun e w' ⟨h1, h2, h3⟩ => ⟨h1, .inr (by rwa [byteCells_add] at h2), h3⟩))
        have HRND : Hid (∀ w', Lib.IsBuilder bdT 5 bb bb (Lib.byteCells (acc ++ [x])) w' → Below bb wr w' → ∃ (i' : Nat) (acc' : BL), Value.int .i64 ((i : Int) + 1) = .int .i64 i' ∧ acc'.length ≤ i' ∧ Hid (Lib.IsBuilder bdT 5 bb bb (Lib.byteCells acc') w') ∧ Hid (Below bb w1 w') ∧ Hid (qM acc' (l1.drop i') = some (s, l2))) := Lib.hid (fun w' h1 h2 => ⟨i + 1, acc ++ [x], by congr 1, by simp; omega, Lib.hid h1, Lib.hid (HB.out.trans h2), HQ2⟩)
        clear h34 h92 hacl
        go_wp2_with (go_at_call 140; (with_reducible refine CB.out.mono ?_); rintro e w3 ⟨rfl, hib, hb⟩; have HN := Lib.hid (HRND.out _ hib hb); clear hib hb)
        go_roundw
        case rel => exact HN.out
        case measure => simp [intOf]; omega
end
end Go.Proofs.YtkfmengdffpcnaaGreatDoor
