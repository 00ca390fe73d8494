/- Texts joined in build order: ForestFit4 StrShelf. -/
import Derived.Test.YtkgbgnmmgmnnlaaGreatDoorA05
import Derived.Shelf.Strings.Builder1
import Derived.Shelf.Small.Wraps
import Derived.Shelf.Strings.IndexAnyAll
import Derived.Test.YtkgbgnmmgmnnlaaGreatDoorChecked
import Derived.WalkKit
import Derived.WalkLawsBesides
import Derived.Lib.Hide
namespace Go.Proofs.YtkgbgnmmgmnnlaaGreatDoor
open Go.RowKit
def elemNameB (l : List UInt8) : Bool := rightL l && (smallL l == l)
set_option maxHeartbeats 2000000 in
theorem elemName_any (s : ByteArray) (w : World) (hs : s.size ≤ maxLen) :
    Calls Tryz.prog 101 #[.string s] w fun e w' => e = .returned (.bool (elemNameB s.toList)) ∧ Below w.heap.size w w' := by
  have C1 := Lib.hid (fit_any s w hs)
  by_cases hr : rightL s.toList = true
  rotate_left
  · have hr : rightL s.toList = false := by simpa using hr
    have HR : Hid (elemNameB s.toList = false) := Lib.hid (by unfold elemNameB; rw [hr]; rfl)
    have e1 : fitE s.toList = 4 := by unfold fitE; rw [hr]; rfl
    rw [e1] at C1
    clear hr e1
    go_enter Tryz.func101, Tryz.ntmps101
    go_wp2_with (go_at_call 54; refine C1.out.mono ?_; rintro e w' ⟨rfl, hb⟩)
    go_ret
    exact ⟨ret_bool HR.out.symm, by assumption⟩
  have e1 : fitE s.toList = 0 := by unfold fitE; rw [hr]; rfl
  have e2 : fitL s.toList = smallL s.toList := by unfold fitL; rw [hr]; rfl
  rw [e1, e2] at C1
  have HR : Hid (elemNameB s.toList = (smallL s.toList == s.toList)) := Lib.hid (by unfold elemNameB; rw [hr]; rfl)
  clear hr e1 e2
  cases hsm : (smallL s.toList == s.toList) with
  | false =>
    rw [hsm] at HR
    go_enter Tryz.func101, Tryz.ntmps101
    go_wp2_with (go_at_call 54; refine C1.out.mono ?_; rintro e w' ⟨rfl, hb⟩)
    go_ret
    exact ⟨ret_bool HR.out.symm, by assumption⟩
  | true =>
    rw [hsm] at HR
    go_enter Tryz.func101, Tryz.ntmps101
    go_wp2_with (go_at_call 54; refine C1.out.mono ?_; rintro e w' ⟨rfl, hb⟩)
    go_ret
    exact ⟨ret_bool HR.out.symm, by assumption⟩
def fieldsB (x : Core) : Bool :=
  if x.kind = 1 then elemNameB x.name.toList && (x.is.toList == [] || customL x.is.toList) && (x.data.toList == []) && rightA x.attrs
  else if x.kind = 0 ∨ x.kind = 3 ∨ x.kind = 4 then (x.data.toList == []) && (x.name.toList == []) && (x.is.toList == []) && decide (x.attrs.length = 0)
  else if x.kind = 2 then (x.name.toList == []) && (x.is.toList == []) && decide (x.data.size ≤ 200) && decide (x.attrs.length = 0)
  else false
structure NKeep (w W : World) (x : NodeD) : Prop where
  box : NBox w W w.heap.size x
  below : Below w.heap.size w W
theorem NKeep.start {w : World} {x : NodeD} (h : NodeOk w x) : NKeep w (w.alloc (nodB x)) x := by
  have c : ∀ (j : Nat), (w.alloc (nodB x)).cell? ⟨w.heap.size, j, none⟩ = (#[.int .i64 x.core.kind, .string x.core.name, .string x.core.is, .string x.core.data, .slice x.aA x.aN x.aC, .int .i64 x.core.parent, .slice x.kA x.kN x.kC, .int .i64 x.core.host, .int .i64 x.core.under, .int .i64 x.core.doc] : Array Value)[j]? := fun j =>
    cell_of_row (w.alloc (nodB x)) w.heap.size j _ 37 (0, 0) (heap_alloc_new _ _)
  exact ⟨⟨by simp, c 0, c 1, c 2, c 3, c 4, c 5, c 6, c 7, c 8, c 9, h.below (below_box w _)⟩, below_box w _⟩
theorem NKeep.keep {w W W2 : World} {x : NodeD} (h : NKeep w W x) (hb : Below W.heap.size W W2) : NKeep w W2 x := ⟨h.box.keep hb, h.below.trans (hb.mono h.below.size)⟩
set_option maxHeartbeats 8000000 in
set_option maxRecDepth 100000 in
theorem fieldsFit_any (x : NodeD) (w : World) (h : NodeOk w x) :
    Calls Tryz.prog 73 #[nodVal x] w fun e w' => e = .returned (.bool (fieldsB x.core)) ∧ Below w.heap.size w w' := by
  obtain ⟨⟨kind, name, is, data, attrs, parent, kids, host, under, doc⟩, aA, aN, aC, kA, kN, kC⟩ := x
  have HN1 : Hid (name.size ≤ maxLen) := Lib.hid h.name
  have HN2 : Hid (is.size ≤ maxLen) := Lib.hid h.is
  have hal : aN ≤ 9223372036854775807 := h.attrs.len64
  have hdl : data.size ≤ 9223372036854775807 := by have : data.size ≤ maxLen := h.data; unfold maxLen at this; omega
  have HAL : Hid (attrs.length = aN) := Lib.hid h.attrs.hlen
  have HH := Lib.hid h
  clear h
  by_cases k1 : kind = 1
  · subst k1
    have NK := Lib.hid (NKeep.start HH.out)
    clear HH
    have HR : Hid (fieldsB ⟨1, name, is, data, attrs, parent, kids, host, under, doc⟩ = (elemNameB name.toList && (is.toList == [] || customL is.toList) && (data.toList == []) && rightA attrs)) := Lib.hid rfl
    obtain ⟨-, x0, x1, x2, x3, x4, x5, x6, x7, x8, x9, -⟩ := NK.out.box
    go_enter Tryz.func73, Tryz.ntmps73
    go_wp2_with (first
                    | (go_at_call 101; (refine (elemName_any _ _ HN1.out).mono ?_); rintro e w1 ⟨rfl, hb⟩; have NK := Lib.hid (NK.out.keep hb); obtain ⟨-, x0, x1, x2, x3, x4, x5, x6, x7, x8, x9, -⟩ := NK.out.box; clear hb)
                    | (go_at_call 102; (refine (custom_any _ _ HN2.out).mono ?_); rintro e w1 ⟨rfl, hb⟩; have NK := Lib.hid (NK.out.keep hb); obtain ⟨-, x0, x1, x2, x3, x4, x5, x6, x7, x8, x9, -⟩ := NK.out.box; clear hb)
                    | (go_at_call 103; (refine (right_any' _ _ _ _ _ NK.out.box.ok.attrs).mono ?_); rintro e w1 ⟨rfl, hb⟩; have NK := Lib.hid (NK.out.keep hb); obtain ⟨-, x0, x1, x2, x3, x4, x5, x6, x7, x8, x9, -⟩ := NK.out.box; clear hb))
    all_goals (go_ret; exact ⟨ret_bool (by rw [HR.out]; first | (simp [*]; done) | (rw [Bool.eq_iff_iff]; simp [*])), by first | exact NK.out.below | assumption⟩)
  by_cases k2 : kind = 2
  · subst k2
    clear HH
    have HR : Hid (fieldsB ⟨2, name, is, data, attrs, parent, kids, host, under, doc⟩ = ((name.toList == []) && (is.toList == []) && decide (data.size ≤ 200) && decide (aN = 0))) := Lib.hid (by rw [← HAL.out]; rfl)
    clear k1
    go_enter Tryz.func73, Tryz.ntmps73
    go_wp2
    all_goals (go_ret; exact ⟨ret_bool (by rw [HR.out]; first | (simp [*]; done) | (rw [Bool.eq_iff_iff]; simp [*]; done) | (rw [Bool.eq_iff_iff]; simp [*]; omega)), below_box _ _⟩)
  by_cases k3 : kind = 0 ∨ kind = 3 ∨ kind = 4
  · have HR : Hid (fieldsB ⟨kind, name, is, data, attrs, parent, kids, host, under, doc⟩ = ((data.toList == []) && (name.toList == []) && (is.toList == []) && decide (aN = 0))) := Lib.hid (by
      unfold fieldsB
      rw [if_neg k1]
      dsimp only
      rw [if_pos k3, HAL.out])
    clear k1 k2 HH
    by_cases d0 : data.toList = []
    · have hd : (data.size : Int) ≤ 200 := by
        have : data.size = 0 := by rw [← tl_len, d0]; rfl
        omega
      have hd2 : (!data.toList.isEmpty) = false := by rw [d0]; rfl
      have hd3 : data.toList.isEmpty = true := by rw [d0]; rfl
      rcases k3 with k3 | k3 | k3
      all_goals
        subst k3
        go_enter Tryz.func73, Tryz.ntmps73
        go_wp2
        all_goals (go_ret; exact ⟨ret_bool (by rw [HR.out]; first | (simp [*]; done) | (rw [Bool.eq_iff_iff]; simp [*]; done) | (rw [Bool.eq_iff_iff]; simp [*]; omega)), below_box _ _⟩)
    · have hd3 : data.toList.isEmpty = false := by
        cases hh : data.toList with
        | nil => exact absurd hh d0
        | cons _ _ => rfl
      have hd2 : (!data.toList.isEmpty) = true := by rw [hd3]; rfl
      rcases k3 with k3 | k3 | k3
      all_goals
        subst k3
        go_enter Tryz.func73, Tryz.ntmps73
        go_wp2
        all_goals (go_ret; exact ⟨ret_bool (by rw [HR.out]; simp [*]), below_box _ _⟩)
  have HR : Hid (fieldsB ⟨kind, name, is, data, attrs, parent, kids, host, under, doc⟩ = false) := Lib.hid (by unfold fieldsB; dsimp only; rw [if_neg k1, if_neg k3, if_neg k2])
  have f0 : (kind == 0) = false := beq_eq_false_iff_ne.2 (fun e => k3 (.inl e))
  have f1 : (kind == 1) = false := beq_eq_false_iff_ne.2 k1
  have f2 : (kind == 2) = false := beq_eq_false_iff_ne.2 k2
  have f3 : (kind == 3) = false := beq_eq_false_iff_ne.2 (fun e => k3 (.inr (.inl e)))
  have f4 : (kind == 4) = false := beq_eq_false_iff_ne.2 (fun e => k3 (.inr (.inr e)))
  clear k1 k2 k3 HH
  go_enter Tryz.func73, Tryz.ntmps73
  go_wp2
  go_ret
  exact ⟨ret_bool HR.out.symm, below_box _ _⟩
end Go.Proofs.YtkgbgnmmgmnnlaaGreatDoor
namespace Go.Proofs.YtkgbgnmmgmnnlaaGreatDoor
open Go.RowKit Go.Shelf
def lays169_ren : Go.Shelf.Ren := ⟨fun | 169 => 146 | n => n, fun | 70 => 173 | 9 => 9 | 0 => 0 | 72 => 175 | 37 => 123 | 127 => 178 | 3 => 3 | 5 => 5 | n => n, fun | n => n⟩
theorem lays169 : Go.Proofs.Lays.n169 Tryz.prog lays169_ren := {
  mixed := by kernel_rfl
  f169 := Tryz.func146.trans (congrArg some (by kernel_rfl))
  t0 := Tryz.underlying0
  a0 := Tryz.isAgg0
  z0 := Tryz.sizeOf0
  v0 := Tryz.zeroValue0
  t3 := Tryz.underlying3
  a3 := Tryz.isAgg3
  z3 := Tryz.sizeOf3
  v3 := Tryz.zeroValue3
  t9 := Tryz.underlying9
  a9 := Tryz.isAgg9
  z9 := Tryz.sizeOf9
  v9 := Tryz.zeroValue9
  t37 := Tryz.underlying123
  a37 := Tryz.isAgg123
  z37 := Tryz.sizeOf123
  v37 := Tryz.zeroValue123
  t70 := Tryz.underlying173
  a70 := Tryz.isAgg173
  z70 := Tryz.sizeOf173
  v70 := Tryz.zeroValue173
  t72 := Tryz.underlying175
  a72 := Tryz.isAgg175
  z72 := Tryz.sizeOf175
  v72 := Tryz.zeroValue175
  t127 := Tryz.underlying178
  a127 := Tryz.isAgg178
  z127 := Tryz.sizeOf178
  v127 := Tryz.zeroValue178 }
def lays103_ren : Go.Shelf.Ren := ⟨fun | 103 => 141 | 210 => 151 | 206 => 159 | n => n, fun | 9 => 9 | 4 => 4 | 24 => 33 | 3 => 3 | n => n, fun | n => n⟩
theorem lays103 : Go.Proofs.Lays.n103 Tryz.prog lays103_ren := {
  mixed := by kernel_rfl
  f103 := Tryz.func141.trans (congrArg some (by kernel_rfl))
  f206 := Tryz.func159.trans (congrArg some (by kernel_rfl))
  f210 := Tryz.func151.trans (congrArg some (by kernel_rfl))
  t3 := Tryz.underlying3
  a3 := Tryz.isAgg3
  z3 := Tryz.sizeOf3
  v3 := Tryz.zeroValue3
  t4 := Tryz.underlying4
  a4 := Tryz.isAgg4
  z4 := Tryz.sizeOf4
  v4 := Tryz.zeroValue4
  t9 := Tryz.underlying9
  a9 := Tryz.isAgg9
  z9 := Tryz.sizeOf9
  v9 := Tryz.zeroValue9
  t24 := Tryz.underlying33
  a24 := Tryz.isAgg33
  z24 := Tryz.sizeOf33
  v24 := Tryz.zeroValue33 }
def lays153_ren : Go.Shelf.Ren := ⟨fun | 153 => 152 | 152 => 160 | 226 => 161 | 227 => 162 | 228 => 163 | 137 => 168 | 119 => 169 | 224 => 157 | 225 => 156 | 217 => 155 | 266 => 166 | n => n, fun | 9 => 9 | 3 => 3 | 4 => 4 | 5 => 5 | 21 => 21 | 117 => 185 | 116 => 184 | 0 => 0 | 46 => 181 | 124 => 193 | n => n, fun | n => n⟩
theorem lays153 : Go.Proofs.Lays.n153 Tryz.prog lays153_ren := {
  mixed := by kernel_rfl
  f119 := Tryz.func169.trans (congrArg some (by kernel_rfl))
  f137 := Tryz.func168.trans (congrArg some (by kernel_rfl))
  f152 := Tryz.func160.trans (congrArg some (by kernel_rfl))
  f153 := Tryz.func152.trans (congrArg some (by kernel_rfl))
  f217 := Tryz.func155.trans (congrArg some (by kernel_rfl))
  f224 := Tryz.func157.trans (congrArg some (by kernel_rfl))
  f225 := Tryz.func156.trans (congrArg some (by kernel_rfl))
  f226 := Tryz.func161.trans (congrArg some (by kernel_rfl))
  f227 := Tryz.func162.trans (congrArg some (by kernel_rfl))
  f228 := Tryz.func163.trans (congrArg some (by kernel_rfl))
  f266 := Tryz.func166.trans (congrArg some (by kernel_rfl))
  t0 := Tryz.underlying0
  a0 := Tryz.isAgg0
  z0 := Tryz.sizeOf0
  v0 := Tryz.zeroValue0
  t3 := Tryz.underlying3
  a3 := Tryz.isAgg3
  z3 := Tryz.sizeOf3
  v3 := Tryz.zeroValue3
  t4 := Tryz.underlying4
  a4 := Tryz.isAgg4
  z4 := Tryz.sizeOf4
  v4 := Tryz.zeroValue4
  t5 := Tryz.underlying5
  a5 := Tryz.isAgg5
  z5 := Tryz.sizeOf5
  v5 := Tryz.zeroValue5
  t9 := Tryz.underlying9
  a9 := Tryz.isAgg9
  z9 := Tryz.sizeOf9
  v9 := Tryz.zeroValue9
  t21 := Tryz.underlying21
  a21 := Tryz.isAgg21
  z21 := Tryz.sizeOf21
  v21 := Tryz.zeroValue21
  t46 := Tryz.underlying181
  a46 := Tryz.isAgg181
  z46 := Tryz.sizeOf181
  v46 := Tryz.zeroValue181
  t116 := Tryz.underlying184
  a116 := Tryz.isAgg184
  z116 := Tryz.sizeOf184
  t117 := Tryz.underlying185
  a117 := Tryz.isAgg185
  z117 := Tryz.sizeOf185
  v117 := Tryz.zeroValue185
  t124 := Tryz.underlying193
  a124 := Tryz.isAgg193
  z124 := Tryz.sizeOf193
  v124 := Tryz.zeroValue193 }
theorem extra169 : Builder.Extra Tryz.prog lays169_ren := {
  sizeBuilder := by kernel_rfl
  liesBuilder := by kernel_rfl
  t5 := Tryz.underlying5
  a5 := Tryz.isAgg5
  z5 := Tryz.sizeOf5
  v5 := Tryz.zeroValue5
  infoByte := by kernel_rfl
  cellsByte := by kernel_rfl
  sizeByte := by kernel_rfl
  neB5 := by decide }
abbrev bdT : TypeId := 175
theorem bString_any (B b : Nat) (l : List UInt8) (w : World) (h : Lib.IsBuilder bdT 5 B b (Lib.byteCells l) w) (hB : B ≤ w.heap.size) :
    Calls Tryz.prog 146 #[.pointer (some ⟨b, 0, none⟩)] w fun e w' => e = .returned (.string ⟨l.toArray⟩) ∧ Below B w w' := Any.Builder_String_any lays169 extra169 B b l w h hB
theorem cutPrefix_any (s p : ByteArray) (w : World) :
    Calls Tryz.prog 141 #[.string s, .string p] w fun e w' => e = .returned (.tuple #[.string ⟨(Lib.trimPrefix s.data.toList p.data.toList).toArray⟩, .bool (Lib.hasPrefix s.data.toList p.data.toList)]) ∧ w' = w := Any.strings_CutPrefix lays103 s p w
theorem indexAny_any (s chars : ByteArray) (w : World) (hs : s.size < 4294967281) (hcs : chars.size < 4294967281) (has : ∀ (j : Nat) b, s.data.toList[j]? = some b → b.toNat < 128) (hac : ∀ (j : Nat) b, chars.data.toList[j]? = some b → b.toNat < 128) :
    Calls Tryz.prog 152 #[.string s, .string chars] w fun e w' => e = .returned (.int .i64 (Lib.indexAny s.data.toList chars.data.toList)) ∧ Below w.heap.size w w' := Any.strings_IndexAny_laid lays153 (by kernel_rfl) s chars w hs hcs has hac
set_option maxHeartbeats 1000000 in
set_option maxRecDepth 100000 in
theorem copyUsed_any (b : Nat) (w : World) (h0 : w.cell? ⟨b, 0, none⟩ = some (.pointer (some ⟨b, 0, none⟩))) :
    Calls Tryz.prog 153 #[.pointer (some ⟨b, 0, none⟩)] w fun e w' => e = .returned (.tuple #[]) ∧ w' = w := by
  obtain ⟨j, hj, _⟩ := Option.map_eq_some_iff.1 extra169.sizeBuilder
  go_enter Tryz.func153, Tryz.ntmps153
  go_wp2
  rw [Lib.run_neq_ptr_same w _ Tryz.underlying173 hj]
  go_wp2
  go_end0
  exact ⟨rfl, rfl⟩
set_option maxHeartbeats 1000000 in
set_option maxRecDepth 100000 in
theorem copyFresh_any (b : Nat) (w : World) (h0 : w.cell? ⟨b, 0, none⟩ = some (.pointer none)) (hsh : w.shape? b = some (bdT, 2)) (hfz : w.frozen? ⟨b, 0, none⟩ = false) :
    Calls Tryz.prog 153 #[.pointer (some ⟨b, 0, none⟩)] w fun e w' => e = .returned (.tuple #[]) ∧ w' = w.setCell ⟨b, 0, none⟩ (.pointer (some ⟨b, 0, none⟩)) := by
  obtain ⟨j, hj, hjs⟩ := Option.map_eq_some_iff.1 extra169.sizeBuilder
  go_enter Tryz.func153, Tryz.ntmps153
  go_wp2
  rw [Lib.run_to_unsafe w ⟨b, 0, none⟩ Tryz.underlying173 Tryz.underlying138 hj (by rw [hjs]; decide) hsh (Nat.zero_lt_succ 1)]
  simp only [Result.andThen]
  rw [Oper.upon_value]
  go_wp2
  rw [run_callFunc_extern Tryz.func164 (by kernel_rfl) (by kernel_rfl) (by kernel_rfl) (e := Extern.AbiNoEscape.same) (by kernel_rfl)]
  rw [Lib.run_noEscape]
  simp only [Result.andThen]
  rw [Oper.upon_value]
  go_wp2
  rw [Lib.run_from_unsafe w ⟨b, 0, none⟩ Tryz.underlying138 Tryz.underlying173 hj hsh extra169.liesBuilder]
  simp only [Result.andThen]
  rw [Oper.upon_value]
  go_wp2
  go_end0
  exact ⟨rfl, rfl⟩
theorem copyCheck_any (B b : Nat) (bs : List Value) (w : World) (h : Lib.IsBuilder bdT 5 B b bs w) :
    Calls Tryz.prog 153 #[.pointer (some ⟨b, 0, none⟩)] w fun e w' => e = .returned (.tuple #[]) ∧ Lib.BuilderAt bdT 5 B b (.pointer (some ⟨b, 0, none⟩)) bs w' ∧ Below B w w' := by
  rcases h with h | h
  · refine (copyFresh_any b w h.cell0 h.shape h.frozen0).mono ?_
    rintro e w' ⟨rfl, rfl⟩
    exact ⟨rfl, h.used _, (Below.refl B w).setCell (p := ⟨b, 0, none⟩) h.1 _⟩
  · refine (copyUsed_any b w h.cell0).mono ?_
    rintro e w' ⟨rfl, rfl⟩
    exact ⟨rfl, h, Below.refl B _⟩
set_option maxHeartbeats 2000000 in
set_option maxRecDepth 100000 in
theorem bWriteByte_any (B b : Nat) (bs : List Value) (c : Int) (w : World) (h : Lib.IsBuilder bdT 5 B b bs w) (hlen : bs.length + 1 ≤ 140737488355328) (hBw : B ≤ w.heap.size) :
    Calls Tryz.prog 147 #[.pointer (some ⟨b, 0, none⟩), .int .u8 c] w fun e w' => e = .returned .nilIface ∧ Lib.BuilderAt bdT 5 B b (.pointer (some ⟨b, 0, none⟩)) (bs ++ [.int .u8 c]) w' ∧ Below B w w' := by
  obtain ⟨i0, hi, hz0, hz1, hz2⟩ := info_parts extra169.infoByte
  have CC := Lib.hid (copyCheck_any B b bs w h)
  go_enter Tryz.func147, Tryz.ntmps147
  go_wp2_with (go_at_call 153; refine CC.out.mono ?_)
  rintro e w1 ⟨rfl, h1, hb1⟩
  obtain ⟨hB, v, hbk, hown, hne⟩ := h1
  have c0 : w1.cell? ⟨b, 0, none⟩ = some (.pointer (some ⟨b, 0, none⟩)) := by rw [Lib.cell_of_heap hbk]; rfl
  have c1 : w1.cell? ⟨b, 1, none⟩ = some v := by rw [Lib.cell_of_heap hbk]; rfl
  have hs1 := hb1.size
  go_wp2_with (at_builtin; refine wpList_append_own _ rfl _ _ 123 rfl B 5 i0 (.int .u8 0) 1 1 Tryz.underlying123 hi hz0 hz1 hz2 rfl (by decide) _ _ _ rfl (hown.alloc _) ⟨w1.heap.size, 0, none⟩ 1 1 [.int .u8 c] rfl rfl ?c1 ?c2 ?c3 ?c4 ?c5 ?_)
  case c1 =>
    intro j u hj
    match j, hj with
    | 0, hj => simp at hj; subst hj; simp [Addr.add]
  case c2 => intro u hu; simp at hu; subst hu; rfl
  case c3 => unfold maxLen; omega
  case c4 => omega
  case c5 => simp; omega
  intro v' w2 hown' hgrow _
  have hlt : b < w1.heap.size := Lib.BuilderAt.lt ⟨hB, v, hbk, hown, hne⟩
  have hb2 : w2.heap[b]? = some (.cells #[.pointer (some ⟨b, 0, none⟩), v] bdT (0, 0)) := by
    rw [hgrow.block b (by simp; omega) (fun e => hne e.symm), Lib.alloc_old w1 _ b hlt]
    exact hbk
  have d0 : w2.cell? ⟨b, 0, none⟩ = some (.pointer (some ⟨b, 0, none⟩)) := by rw [Lib.cell_of_heap hb2]; rfl
  have d1 : w2.cell? ⟨b, 1, none⟩ = some v := by rw [Lib.cell_of_heap hb2]; rfl
  have f1 : w2.frozen? ⟨b, 1, none⟩ = false := Lib.frozen_of_heap hb2 1
  obtain ⟨g, cap, rfl⟩ : ∃ g cap, v' = .slice (some ⟨g, 0, none⟩) (bs.length + 1) cap := by
    rcases hown'.2 with ⟨_, h0⟩ | ⟨g, cap, cur, hv, _⟩
    · omega
    · exact ⟨g, cap, hv⟩
  go_wp2
  go_ret
  refine ⟨rfl, ?_, ?_⟩
  · exact Lib.BuilderAt.put (T := bdT) (e := 5) hB hb2 (bs' := bs ++ [.int .u8 c]) (by simpa using hown') (by decide)
  · exact ((hb1.alloc (by omega) _).grown hgrow (by simp; omega) (fun k hk => (hown.lt k hk).1)).setCell (p := ⟨b, 1, none⟩) hB _
end Go.Proofs.YtkgbgnmmgmnnlaaGreatDoor
