/- Texts joined in build order: ShadeTree StrShelf ForestOpen. -/
import Derived.Test.YtbkhngoehoiccaaGreatD14
import Derived.Test.YtbkhngoehoiccaaGreatD11
import Derived.Shelf.Strings.Builder1
import Derived.Shelf.Small.Wraps
import Derived.Shelf.Strings.IndexAnyAll
import Derived.Test.YtbkhngoehoiccaaGreatChecked
import Derived.WalkKit
import Derived.WalkLawsBesides
import Derived.Lib.Hide
import Derived.Test.YtbkhngoehoiccaaGreatD03
import Derived.Test.YtbkhngoehoiccaaGreatD06
import Derived.OpenShut
namespace Go.Proofs.YtbkhngoehoiccaaGreat
open Go.RowKit
section
variable {n : Nat} {par : Nat → Option Nat} {kids : Nat → List Nat} {rank : Nat → Nat}
theorem Tree.ord_open (T : Tree n par kids rank) {i : Nat} (hi : i < n) : ordN kids (n + 1) i = i :: (kids i).flatMap (ordN kids (n + 1)) := by
  rw [← T.ord_more (n + 1) i hi (by omega)]
  rfl
end
theorem findN_mem {l : List Int} {z : Int} (h : z ∈ l) : findN l z < l.length := List.findIdx_lt_length_of_exists ⟨z, h, by simp⟩
theorem findZ_mem {l : List Int} {z : Int} (h : z ∈ l) : findZ l z = (findN l z : Int) := by unfold findZ; rw [if_pos (findN_mem h)]
theorem right_up {m : Int} {F : List Core} (h : rightF m F = true) : upIn F F.length := by
  have := nodes_eq.1 ((rightF_iff m F).1 h).2.1
  exact fit_up this.1 this.2
theorem next_par {F : List Core} {i : Nat} {x : Core} (hx : F[i]? = some x) (hp : x.parent ≠ -1) : nextUp F (i : Int) = x.parent := by
  rw [nextUp_at hx]
  unfold upC
  rw [if_neg hp]
theorem next_host {F : List Core} {i : Nat} {x : Core} (hx : F[i]? = some x) (hp : x.parent = -1) : nextUp F (i : Int) = x.host := by
  rw [nextUp_at hx]
  unfold upC
  rw [if_pos hp]
theorem right_held {m : Int} {F : List Core} (h : rightF m F = true) {i : Nat} {x : Core} (hx : F[i]? = some x) (hp : x.parent ≠ -1) : x.kind = 1 ∨ x.kind = 2 := by
  have h1 := (nodeOk_iff.1 (((rightF_iff m F).1 h).2.1 i x hx)).2.1
  unfold parOk at h1
  rw [beq_eq_false_iff_ne.2 hp, Bool.false_or, Bool.and_eq_true] at h1
  simpa using h1.1
theorem right_under {m : Int} {F : List Core} (h : rightF m F = true) {i : Nat} {x : Core} (hx : F[i]? = some x) (hu : x.under ≠ -1) : ∃ (s : Nat) (u : Core), x.under = s ∧ F[s]? = some u ∧ u.kind = 4 ∧ u.host = i ∧ u.parent = -1 ∧ x.kind = 1 := by
  have h1 := (nodeOk_iff.1 (((rightF_iff m F).1 h).2.1 i x hx)).2.2.2.2.1
  rw [Bool.and_eq_true] at h1
  have h2 := h1.2
  unfold underOk at h2
  rw [beq_eq_false_iff_ne.2 hu, Bool.false_or, Bool.and_eq_true] at h2
  cases hg : getC F x.under with
  | none => rw [hg] at h2; simp at h2
  | some u =>
    rw [hg] at h2
    simp only [Bool.and_eq_true, beq_iff_eq] at h2
    obtain ⟨e1, e2, e3⟩ := getC_some hg
    refine ⟨x.under.toNat, u, by omega, e3, h2.2.1, h2.2.2, ?_, h2.1⟩
    by_cases hp : u.parent = -1
    · exact hp
    · rcases right_held h e3 hp with k | k
      · rw [k] at h2; exact absurd h2.2.1 (by decide)
      · rw [k] at h2; exact absurd h2.2.1 (by decide)
theorem right_host {m : Int} {F : List Core} (h : rightF m F = true) {k : Nat} {u : Core} (hu : F[k]? = some u) (hh : u.host ≠ -1) : u.kind = 4 ∧ ∃ (i : Nat) (x : Core), u.host = i ∧ F[i]? = some x ∧ x.kind = 1 ∧ x.under = k ∧ x.doc = u.doc := by
  have h1 := (nodeOk_iff.1 (((rightF_iff m F).1 h).2.1 k u hu)).2.2.2.2.1
  rw [Bool.and_eq_true] at h1
  have h2 := h1.1
  unfold hostOk at h2
  by_cases k4 : u.kind = 4
  · rw [if_pos k4] at h2
    cases hg : getC F u.host with
    | none => rw [hg] at h2; simp at h2
    | some x =>
      rw [hg] at h2
      simp only [Bool.and_eq_true, beq_iff_eq] at h2
      obtain ⟨e1, e2, e3⟩ := getC_some hg
      exact ⟨k4, u.host.toNat, x, by omega, e3, h2.1.1, h2.1.2, h2.2⟩
  · rw [if_neg k4] at h2
    exact absurd (beq_iff_eq.1 h2) hh
def parS (F : List Core) (i : Nat) : Option Nat := if nextUp F (i : Int) = -1 then none else some (nextUp F (i : Int)).toNat
def undS (F : List Core) (i : Nat) : List Nat := match F[i]? with | some c => if c.under = -1 then [] else [c.under.toNat] | none => []
def kidsS (F : List Core) (i : Nat) : List Nat := undS F i ++ kidsF F i
theorem parS_some {F : List Core} {k i : Nat} (h : nextUp F (k : Int) = i) : parS F k = some i := by
  unfold parS
  rw [h, if_neg (by omega), Int.toNat_natCast]
theorem parS_none {F : List Core} {k : Nat} (h : nextUp F (k : Int) = -1) : parS F k = none := by
  unfold parS
  rw [if_pos h]
theorem parS_next {m : Int} {F : List Core} (hr : rightF m F = true) {k i : Nat} (hk : k < F.length) (h : parS F k = some i) : nextUp F (k : Int) = i ∧ i < F.length := by
  unfold parS at h
  by_cases he : nextUp F (k : Int) = -1
  · rw [if_pos he] at h; cases h
  · rw [if_neg he] at h
    injection h with h
    rcases right_up hr k (by omega) (by omega) with e | ⟨e1, e2⟩
    · exact absurd e he
    · exact ⟨by omega, by omega⟩
theorem undS_mem {m : Int} {F : List Core} (hr : rightF m F = true) {i k : Nat} (h : k ∈ undS F i) : ∃ x u, F[i]? = some x ∧ x.under = (k : Int) ∧ F[k]? = some u ∧ u.kind = 4 ∧ u.host = i ∧ u.parent = -1 := by
  unfold undS at h
  cases hx : F[i]? with
  | none => rw [hx] at h; simp at h
  | some x =>
    rw [hx] at h
    dsimp only at h
    by_cases hu : x.under = -1
    · rw [if_pos hu] at h; simp at h
    · rw [if_neg hu] at h
      obtain ⟨s, u, e1, e2, e3, e4, e5, _⟩ := right_under hr hx hu
      have : k = s := by
        have := List.mem_singleton.1 h
        omega
      subst this
      exact ⟨x, u, rfl, e1, e2, e3, e4, e5⟩
theorem treeS {m : Int} {F : List Core} (hr : rightF m F = true) : Tree F.length (parS F) (kidsS F) (rankF F) := by
  have T := tree_of_right hr
  have E := ((rightF_iff m F).1 hr).2.2
  have kid : ∀ i k, k ∈ kidsF F i → k < F.length ∧ nextUp F (k : Int) = i := fun i k hk => by
    have hl := T.kid_lt i k hk
    have hp := T.kid_par i k hk
    have hx : F[k]? = some F[k] := List.getElem?_eq_getElem hl
    by_cases he : F[k].parent = -1
    · rw [right_top hx he] at hp; cases hp
    · obtain ⟨p, h1, _, h3⟩ := right_par hr hx he
      rw [h3] at hp
      injection hp with hp
      subst hp
      exact ⟨hl, (next_par hx he).trans h1⟩
  have all : ∀ i k, k ∈ kidsS F i → k < F.length ∧ nextUp F (k : Int) = i := fun i k hk => by
    rcases List.mem_append.1 hk with hk | hk
    · obtain ⟨x, u, hx, _, hu, _, hh, hp⟩ := undS_mem hr hk
      exact ⟨(List.getElem?_eq_some_iff.1 hu).1, (next_host hu hp).trans hh⟩
    · exact kid i k hk
  refine ⟨fun i k hk => (all i k hk).1, fun i k hk => parS_some (all i k hk).2, fun i k hk hp => ?_, fun i => ?_, fun i k hk hp => ?_, fun i hi => rankZ_le (n := F.length) (E i hi)⟩
  · obtain ⟨h1, h2⟩ := parS_next hr hk hp
    refine ⟨h2, List.mem_append.2 ?_⟩
    have hx : F[k]? = some F[k] := List.getElem?_eq_getElem hk
    by_cases he : F[k].parent = -1
    · rw [next_host hx he] at h1
      obtain ⟨_, j, y, e1, e2, _, e4, _⟩ := right_host hr hx (by omega)
      have : j = i := by omega
      subst this
      left
      unfold undS
      rw [e2]
      dsimp only
      rw [if_neg (by omega), e4, Int.toNat_natCast]
      simp
    · rw [next_par hx he] at h1
      obtain ⟨p, e1, _, e3⟩ := right_par hr hx he
      have : p = i := by omega
      subst this
      exact .inr (T.par_kid p k hk e3).2
  · unfold kidsS
    rw [List.nodup_append]
    refine ⟨?_, T.nodup i, fun a ha b hb e => ?_⟩
    · unfold undS
      cases F[i]? with
      | none => simp
      | some c => dsimp only; split <;> simp
    · subst e
      obtain ⟨x, u, hx, _, hu, _, hh, hp⟩ := undS_mem hr ha
      have := T.kid_par i a hb
      rw [right_top hu hp] at this
      cases this
  · obtain ⟨h1, h2⟩ := parS_next hr hk hp
    unfold rankF
    rw [rankZ_up (nxt := nextUp F) (n := F.length) (i := (k : Int)) (by omega) (E k hk) (by rw [h1]; exact E i h2), h1]
def topF (F : List Core) (a : Nat) : Nat := rootN (parS F) (F.length + 1) a
def allF (F : List Core) (a : Nat) : List Nat := ordN (kidsS F) (F.length + 1) a
def overF (F : List Core) (a b : Nat) : Bool := decide (b ∈ allF F a)
def topZ (m : Int) (F : List Core) (n : Int) : Int := if thereF m F n then (topF F n.toNat : Int) else -1
def allI (F : List Core) (z : Int) : List Int := (allF F z.toNat).map Int.ofNat
def overZ (m : Int) (F : List Core) (a b : Int) : Bool := thereF m F a && thereF m F b && overF F a.toNat b.toNat
def connZ (m : Int) (F : List Core) (n : Int) : Bool := thereF m F n && kindK F (topZ m F n) == 0
theorem topZ_eq {m : Int} {F : List Core} (h : rightF m F = true) {a : Nat} (ha : a < F.length) : topZ m F (a : Int) = (topF F a : Nat) := by
  unfold topZ
  rw [thereF_of h ha]
  rfl
theorem overZ_iff {m : Int} {F : List Core} (h : rightF m F = true) {a b : Nat} (ha : a < F.length) (hb : b < F.length) : overZ m F (a : Int) (b : Int) = true ↔ holdsT (parS F) a b := by
  unfold overZ
  rw [thereF_of h ha, thereF_of h hb, Bool.true_and, Bool.true_and]
  unfold overF allF
  rw [decide_eq_true_iff]
  exact (treeS h).mem_ord _ _ ha (by omega) _ hb
theorem topF_lt {m : Int} {F : List Core} (h : rightF m F = true) {a : Nat} (ha : a < F.length) : topF F a < F.length := (treeS h).root_lt ha
theorem allI_open {m : Int} {F : List Core} (h : rightF m F = true) {a : Nat} {x : Core} (hx : F[a]? = some x) : allI F (a : Int) = (a : Int) :: ((if x.under = -1 then [] else allI F x.under) ++ x.kids.flatMap (allI F)) := by
  have T := treeS h
  have ha := (List.getElem?_eq_some_iff.1 hx).1
  unfold allI allF
  rw [Int.toNat_natCast, T.ord_open ha, List.map_cons]
  congr 1
  have hk : kidsF F a = x.kids.map Int.toNat := by unfold kidsF; rw [hx]
  rw [show kidsS F a = undS F a ++ kidsF F a from rfl, List.flatMap_append, List.map_append, hk]
  congr 1
  · unfold undS
    rw [hx]
    dsimp only
    by_cases hu : x.under = -1
    · rw [if_pos hu, if_pos hu]; rfl
    · rw [if_neg hu, if_neg hu]; simp
  · rw [List.flatMap_map, List.map_flatMap]
end Go.Proofs.YtbkhngoehoiccaaGreat
namespace Go.Proofs.YtbkhngoehoiccaaGreat
open Go.RowKit Go.Shelf
def lays169_ren : Go.Shelf.Ren := ⟨fun | 169 => 131 | n => n, fun | 70 => 158 | 9 => 9 | 0 => 0 | 72 => 160 | 37 => 123 | 127 => 168 | 3 => 3 | 5 => 5 | n => n, fun | n => n⟩
theorem lays169 : Go.Proofs.Lays.n169 Tryz.prog lays169_ren := {
  mixed := by kernel_rfl
  f169 := Tryz.func131.trans (congrArg some (by kernel_rfl))
  t0 := Tryz.underlying0
  a0 := Tryz.isAgg0
  z0 := Tryz.sizeOf0
  v0 := Tryz.zeroValue0
  t3 := Tryz.underlying3
  a3 := Tryz.isAgg3
  z3 := Tryz.sizeOf3
  v3 := Tryz.zeroValue3
  t9 := Tryz.underlying9
  a9 := Tryz.isAgg9
  z9 := Tryz.sizeOf9
  v9 := Tryz.zeroValue9
  t37 := Tryz.underlying123
  a37 := Tryz.isAgg123
  z37 := Tryz.sizeOf123
  v37 := Tryz.zeroValue123
  t70 := Tryz.underlying158
  a70 := Tryz.isAgg158
  z70 := Tryz.sizeOf158
  v70 := Tryz.zeroValue158
  t72 := Tryz.underlying160
  a72 := Tryz.isAgg160
  z72 := Tryz.sizeOf160
  v72 := Tryz.zeroValue160
  t127 := Tryz.underlying168
  a127 := Tryz.isAgg168
  z127 := Tryz.sizeOf168
  v127 := Tryz.zeroValue168 }
def lays103_ren : Go.Shelf.Ren := ⟨fun | 103 => 125 | 210 => 137 | 206 => 146 | n => n, fun | 9 => 9 | 4 => 4 | 24 => 144 | 3 => 3 | n => n, fun | n => n⟩
theorem lays103 : Go.Proofs.Lays.n103 Tryz.prog lays103_ren := {
  mixed := by kernel_rfl
  f103 := Tryz.func125.trans (congrArg some (by kernel_rfl))
  f206 := Tryz.func146.trans (congrArg some (by kernel_rfl))
  f210 := Tryz.func137.trans (congrArg some (by kernel_rfl))
  t3 := Tryz.underlying3
  a3 := Tryz.isAgg3
  z3 := Tryz.sizeOf3
  v3 := Tryz.zeroValue3
  t4 := Tryz.underlying4
  a4 := Tryz.isAgg4
  z4 := Tryz.sizeOf4
  v4 := Tryz.zeroValue4
  t9 := Tryz.underlying9
  a9 := Tryz.isAgg9
  z9 := Tryz.sizeOf9
  v9 := Tryz.zeroValue9
  t24 := Tryz.underlying144
  a24 := Tryz.isAgg144
  z24 := Tryz.sizeOf144
  v24 := Tryz.zeroValue144 }
def lays153_ren : Go.Shelf.Ren := ⟨fun | 153 => 138 | 152 => 147 | 226 => 148 | 227 => 149 | 228 => 150 | 137 => 156 | 119 => 157 | 224 => 144 | 225 => 143 | 217 => 142 | 266 => 154 | n => n, fun | 9 => 9 | 3 => 3 | 4 => 4 | 5 => 5 | 21 => 21 | 117 => 175 | 116 => 174 | 0 => 0 | 46 => 171 | 124 => 185 | n => n, fun | n => n⟩
theorem lays153 : Go.Proofs.Lays.n153 Tryz.prog lays153_ren := {
  mixed := by kernel_rfl
  f119 := Tryz.func157.trans (congrArg some (by kernel_rfl))
  f137 := Tryz.func156.trans (congrArg some (by kernel_rfl))
  f152 := Tryz.func147.trans (congrArg some (by kernel_rfl))
  f153 := Tryz.func138.trans (congrArg some (by kernel_rfl))
  f217 := Tryz.func142.trans (congrArg some (by kernel_rfl))
  f224 := Tryz.func144.trans (congrArg some (by kernel_rfl))
  f225 := Tryz.func143.trans (congrArg some (by kernel_rfl))
  f226 := Tryz.func148.trans (congrArg some (by kernel_rfl))
  f227 := Tryz.func149.trans (congrArg some (by kernel_rfl))
  f228 := Tryz.func150.trans (congrArg some (by kernel_rfl))
  f266 := Tryz.func154.trans (congrArg some (by kernel_rfl))
  t0 := Tryz.underlying0
  a0 := Tryz.isAgg0
  z0 := Tryz.sizeOf0
  v0 := Tryz.zeroValue0
  t3 := Tryz.underlying3
  a3 := Tryz.isAgg3
  z3 := Tryz.sizeOf3
  v3 := Tryz.zeroValue3
  t4 := Tryz.underlying4
  a4 := Tryz.isAgg4
  z4 := Tryz.sizeOf4
  v4 := Tryz.zeroValue4
  t5 := Tryz.underlying5
  a5 := Tryz.isAgg5
  z5 := Tryz.sizeOf5
  v5 := Tryz.zeroValue5
  t9 := Tryz.underlying9
  a9 := Tryz.isAgg9
  z9 := Tryz.sizeOf9
  v9 := Tryz.zeroValue9
  t21 := Tryz.underlying21
  a21 := Tryz.isAgg21
  z21 := Tryz.sizeOf21
  v21 := Tryz.zeroValue21
  t46 := Tryz.underlying171
  a46 := Tryz.isAgg171
  z46 := Tryz.sizeOf171
  v46 := Tryz.zeroValue171
  t116 := Tryz.underlying174
  a116 := Tryz.isAgg174
  z116 := Tryz.sizeOf174
  t117 := Tryz.underlying175
  a117 := Tryz.isAgg175
  z117 := Tryz.sizeOf175
  v117 := Tryz.zeroValue175
  t124 := Tryz.underlying185
  a124 := Tryz.isAgg185
  z124 := Tryz.sizeOf185
  v124 := Tryz.zeroValue185 }
theorem extra169 : Builder.Extra Tryz.prog lays169_ren := {
  sizeBuilder := by kernel_rfl
  liesBuilder := by kernel_rfl
  t5 := Tryz.underlying5
  a5 := Tryz.isAgg5
  z5 := Tryz.sizeOf5
  v5 := Tryz.zeroValue5
  infoByte := by kernel_rfl
  cellsByte := by kernel_rfl
  sizeByte := by kernel_rfl
  neB5 := by decide }
abbrev bdT : TypeId := 160
theorem bString_any (B b : Nat) (l : List UInt8) (w : World) (h : Lib.IsBuilder bdT 5 B b (Lib.byteCells l) w) (hB : B ≤ w.heap.size) :
    Calls Tryz.prog 131 #[.pointer (some ⟨b, 0, none⟩)] w fun e w' => e = .returned (.string ⟨l.toArray⟩) ∧ Below B w w' := Any.Builder_String_any lays169 extra169 B b l w h hB
theorem cutPrefix_any (s p : ByteArray) (w : World) :
    Calls Tryz.prog 125 #[.string s, .string p] w fun e w' => e = .returned (.tuple #[.string ⟨(Lib.trimPrefix s.data.toList p.data.toList).toArray⟩, .bool (Lib.hasPrefix s.data.toList p.data.toList)]) ∧ w' = w := Any.strings_CutPrefix lays103 s p w
theorem indexAny_any (s chars : ByteArray) (w : World) (hs : s.size < 4294967281) (hcs : chars.size < 4294967281) (has : ∀ (j : Nat) b, s.data.toList[j]? = some b → b.toNat < 128) (hac : ∀ (j : Nat) b, chars.data.toList[j]? = some b → b.toNat < 128) :
    Calls Tryz.prog 138 #[.string s, .string chars] w fun e w' => e = .returned (.int .i64 (Lib.indexAny s.data.toList chars.data.toList)) ∧ Below w.heap.size w w' := Any.strings_IndexAny_laid lays153 (by kernel_rfl) s chars w hs hcs has hac
set_option maxHeartbeats 1000000 in
set_option maxRecDepth 100000 in
theorem copyUsed_any (b : Nat) (w : World) (h0 : w.cell? ⟨b, 0, none⟩ = some (.pointer (some ⟨b, 0, none⟩))) :
    Calls Tryz.prog 141 #[.pointer (some ⟨b, 0, none⟩)] w fun e w' => e = .returned (.tuple #[]) ∧ w' = w := by
  obtain ⟨j, hj, _⟩ := Option.map_eq_some_iff.1 extra169.sizeBuilder
  go_enter Tryz.func141, Tryz.ntmps141
  go_wp2
  rw [Lib.run_neq_ptr_same w _ Tryz.underlying158 hj]
  go_wp2
  go_end0
  exact ⟨rfl, rfl⟩
set_option maxHeartbeats 1000000 in
set_option maxRecDepth 100000 in
theorem copyFresh_any (b : Nat) (w : World) (h0 : w.cell? ⟨b, 0, none⟩ = some (.pointer none)) (hsh : w.shape? b = some (bdT, 2)) (hfz : w.frozen? ⟨b, 0, none⟩ = false) :
    Calls Tryz.prog 141 #[.pointer (some ⟨b, 0, none⟩)] w fun e w' => e = .returned (.tuple #[]) ∧ w' = w.setCell ⟨b, 0, none⟩ (.pointer (some ⟨b, 0, none⟩)) := by
  obtain ⟨j, hj, hjs⟩ := Option.map_eq_some_iff.1 extra169.sizeBuilder
  go_enter Tryz.func141, Tryz.ntmps141
  go_wp2
  rw [Lib.run_to_unsafe w ⟨b, 0, none⟩ Tryz.underlying158 Tryz.underlying179 hj (by rw [hjs]; decide) hsh (Nat.zero_lt_succ 1)]
  simp only [Result.andThen]
  rw [Oper.upon_value]
  go_wp2
  rw [run_callFunc_extern Tryz.func153 (by kernel_rfl) (by kernel_rfl) (by kernel_rfl) (e := Extern.AbiNoEscape.same) (by kernel_rfl)]
  rw [Lib.run_noEscape]
  simp only [Result.andThen]
  rw [Oper.upon_value]
  go_wp2
  rw [Lib.run_from_unsafe w ⟨b, 0, none⟩ Tryz.underlying179 Tryz.underlying158 hj hsh extra169.liesBuilder]
  simp only [Result.andThen]
  rw [Oper.upon_value]
  go_wp2
  go_end0
  exact ⟨rfl, rfl⟩
theorem copyCheck_any (B b : Nat) (bs : List Value) (w : World) (h : Lib.IsBuilder bdT 5 B b bs w) :
    Calls Tryz.prog 141 #[.pointer (some ⟨b, 0, none⟩)] w fun e w' => e = .returned (.tuple #[]) ∧ Lib.BuilderAt bdT 5 B b (.pointer (some ⟨b, 0, none⟩)) bs w' ∧ Below B w w' := by
  rcases h with h | h
  · refine (copyFresh_any b w h.cell0 h.shape h.frozen0).mono ?_
    rintro e w' ⟨rfl, rfl⟩
    exact ⟨rfl, h.used _, (Below.refl B w).setCell (p := ⟨b, 0, none⟩) h.1 _⟩
  · refine (copyUsed_any b w h.cell0).mono ?_
    rintro e w' ⟨rfl, rfl⟩
    exact ⟨rfl, h, Below.refl B _⟩
set_option maxHeartbeats 2000000 in
set_option maxRecDepth 100000 in
theorem bWriteByte_any (B b : Nat) (bs : List Value) (c : Int) (w : World) (h : Lib.IsBuilder bdT 5 B b bs w) (hlen : bs.length + 1 ≤ 140737488355328) (hBw : B ≤ w.heap.size) :
    Calls Tryz.prog 132 #[.pointer (some ⟨b, 0, none⟩), .int .u8 c] w fun e w' => e = .returned .nilIface ∧ Lib.BuilderAt bdT 5 B b (.pointer (some ⟨b, 0, none⟩)) (bs ++ [.int .u8 c]) w' ∧ Below B w w' := by
  obtain ⟨i0, hi, hz0, hz1, hz2⟩ := info_parts extra169.infoByte
  have CC := Lib.hid (copyCheck_any B b bs w h)
  go_enter Tryz.func132, Tryz.ntmps132
  go_wp2_with (go_at_call 141; refine CC.out.mono ?_)
  rintro e w1 ⟨rfl, h1, hb1⟩
  obtain ⟨hB, v, hbk, hown, hne⟩ := h1
  have c0 : w1.cell? ⟨b, 0, none⟩ = some (.pointer (some ⟨b, 0, none⟩)) := by rw [Lib.cell_of_heap hbk]; rfl
  have c1 : w1.cell? ⟨b, 1, none⟩ = some v := by rw [Lib.cell_of_heap hbk]; rfl
  have hs1 := hb1.size
  go_wp2_with (at_builtin; refine wpList_append_own _ rfl _ _ 123 rfl B 5 i0 (.int .u8 0) 1 1 Tryz.underlying123 hi hz0 hz1 hz2 rfl (by decide) _ _ _ rfl (hown.alloc _) ⟨w1.heap.size, 0, none⟩ 1 1 [.int .u8 c] rfl rfl ?c1 ?c2 ?c3 ?c4 ?c5 ?_)
  case c1 =>
    intro j u hj
    match j, hj with
    | 0, hj => simp at hj; subst hj; simp [Addr.add]
  case c2 => intro u hu; simp at hu; subst hu; rfl
  case c3 => unfold maxLen; omega
  case c4 => omega
  case c5 => simp; omega
  intro v' w2 hown' hgrow _
  have hlt : b < w1.heap.size := Lib.BuilderAt.lt ⟨hB, v, hbk, hown, hne⟩
  have hb2 : w2.heap[b]? = some (.cells #[.pointer (some ⟨b, 0, none⟩), v] bdT (0, 0)) := by
    rw [hgrow.block b (by simp; omega) (fun e => hne e.symm), Lib.alloc_old w1 _ b hlt]
    exact hbk
  have d0 : w2.cell? ⟨b, 0, none⟩ = some (.pointer (some ⟨b, 0, none⟩)) := by rw [Lib.cell_of_heap hb2]; rfl
  have d1 : w2.cell? ⟨b, 1, none⟩ = some v := by rw [Lib.cell_of_heap hb2]; rfl
  have f1 : w2.frozen? ⟨b, 1, none⟩ = false := Lib.frozen_of_heap hb2 1
  obtain ⟨g, cap, rfl⟩ : ∃ g cap, v' = .slice (some ⟨g, 0, none⟩) (bs.length + 1) cap := by
    rcases hown'.2 with ⟨_, h0⟩ | ⟨g, cap, cur, hv, _⟩
    · omega
    · exact ⟨g, cap, hv⟩
  go_wp2
  go_ret
  refine ⟨rfl, ?_, ?_⟩
  · exact Lib.BuilderAt.put (T := bdT) (e := 5) hB hb2 (bs' := bs ++ [.int .u8 c]) (by simpa using hown') (by decide)
  · exact ((hb1.alloc (by omega) _).grown hgrow (by simp; omega) (fun k hk => (hown.lt k hk).1)).setCell (p := ⟨b, 1, none⟩) hB _
end Go.Proofs.YtbkhngoehoiccaaGreat
namespace Go.Proofs.YtbkhngoehoiccaaGreat
open Go.RowKit Go.Deep Go.ChangeShapes Go.WideShapes
theorem in64_of {z : Int} (h : (Lit.int .i64 z).wf = true) : In64 z := by
  exact bounds_i64 h
theorem open_introw {H : Type} {enc : TypeId × Value → H} {W : World} {a : Option Addr} {len cap : Nat} {d : DataW H} {p : List MemPlace}
    (h : DataW.Trod enc Tryz.prog W 0 (fun _ => true) true 56 (.slice a len cap) d p) : ∃ L, IntRow W a len cap L := by
  obtain ⟨fuel, hf⟩ := h
  rcases open_slice Tryz.underlying56 hf with ⟨hcs, _⟩ | ⟨ad, l, c, m, n, D, Pl, hcs, _, hl, hm, hmm, _, hi⟩
  · simp [Value.cells] at hcs
    obtain ⟨rfl, rfl, rfl⟩ := hcs
    exact ⟨[], SRow.nil, by simp, fun _ => rfl⟩
  · simp [Value.cells] at hcs
    obtain ⟨rfl, rfl, rfl⟩ := hcs
    have hml : len ≤ m := by rw [hmm]; simpa using hl
    have ce : Tryz.prog.cellsOf 3 = 1 := by kernel_rfl
    have each : ∀ i, i < len → ∃ x : Int, W.cell? (ad.add i) = some (.int .i64 x) ∧ In64 x := by
      intro i hil
      obtain ⟨cs', h1, h2⟩ := hi i (by omega)
      rw [ce] at h1
      obtain ⟨_, hlen, hcell⟩ := World.cells?_some h1
      match cs', hlen with
      | [v0], _ =>
        have e0 := hcell 0 (by omega)
        rw [add_add] at e0
        obtain ⟨n0, hn0, _, hw0⟩ := DataW.trod_int Tryz.underlying3 h2
        simp at hn0
        subst hn0
        exact ⟨n0, by simpa using e0, in64_of hw0⟩
    obtain ⟨q, hq⟩ : ∃ q : Nat → Int, ∀ i, i < len → W.cell? (ad.add i) = some (.int .i64 (q i)) ∧ In64 (q i) := by
      refine ⟨fun i => if h : i < len then (each i h).choose else 0, fun i hil => ?_⟩
      simp only [dif_pos hil]
      exact (each i hil).choose_spec
    refine ⟨(List.range len).map q, ⟨by simp, hl, hm, fun x _ => rfl, ?_⟩, ?_, fun h => by cases h⟩
    · rcases Nat.eq_zero_or_pos len with h0 | h0
      · exact .inl h0
      · obtain ⟨b, off, spot⟩ := ad
        have hc := (hq 0 h0).1
        have hspot : spot = none := by simpa [Addr.add] using World.cell?_spot hc
        subst hspot
        refine .inr ⟨b, off, rfl, ?_, ?_⟩
        · have := block_lt hc
          rwa [add_plain] at this
        · intro i x j v hx hv
          obtain ⟨hil, hgx⟩ := List.getElem?_eq_some_iff.1 hx
          have hil' : i < len := by simpa using hil
          simp at hgx
          obtain ⟨h1, _⟩ := hq i hil'
          rw [add_plain] at h1
          rw [hgx] at h1
          obtain ⟨hjl, hgv⟩ := List.getElem?_eq_some_iff.1 hv
          match j, hjl with
          | 0, _ => simp [encZ] at hgv; subst hgv; simpa using h1
    · intro x hx
      obtain ⟨i, hi1, rfl⟩ := List.mem_map.1 hx
      exact (hq i (List.mem_range.1 hi1)).2
theorem slice_cells {H : Type} {enc : TypeId × Value → H} {W : World} {t e : TypeId} {fuel : Nat} {v : Value} {x : DataW H × List MemPlace} (ht : Tryz.prog.underlying t = some (.slice e))
    (h : DataW.trod enc Tryz.prog W 0 (fun _ => true) true fuel t [v] = some x) : ∃ a n c, v = .slice a n c := by
  rcases open_slice ht h with ⟨hcs, _⟩ | ⟨ad, l, c, m, n, D, Pl, hcs, _⟩
  · exact ⟨none, 0, 0, by simpa using hcs⟩
  · exact ⟨some ad, l, c, by simpa using hcs⟩
set_option maxRecDepth 100000 in
theorem open_nodecells {H : Type} {enc : TypeId × Value → H} {W : World} {cs : List Value} {d : DataW H} {p : List MemPlace} {fuel : Nat} (hc : cs.length = 10)
    (h : DataW.trod enc Tryz.prog W 0 (fun _ => true) true fuel 58 cs = some (d, p)) : ∃ x : NodeD, cs = encN x ∧ NodeOk W x := by
  obtain ⟨xs, k, _, _, _, hxl, hff⟩ := DataW.trod_struct Tryz.underlying58 h
  have c3 : Tryz.prog.cellsOf 3 = 1 := by kernel_rfl
  have c9 : Tryz.prog.cellsOf 9 = 1 := by kernel_rfl
  have ca : Tryz.prog.cellsOf 55 = 1 := by kernel_rfl
  have ci : Tryz.prog.cellsOf 56 = 1 := by kernel_rfl
  match cs, hc with
  | [v0, v1, v2, v3, v4, v5, v6, v7, v8, v9], _ =>
    match xs, hxl with
    | [y0, y1, y2, y3, y4, y5, y6, y7, y8, y9], _ =>
      have g0 := hff 0 _ rfl
      have g1 := hff 1 _ rfl
      have g2 := hff 2 _ rfl
      have g3 := hff 3 _ rfl
      have g4 := hff 4 _ rfl
      have g5 := hff 5 _ rfl
      have g6 := hff 6 _ rfl
      have g7 := hff 7 _ rfl
      have g8 := hff 8 _ rfl
      have g9 := hff 9 _ rfl
      simp [c3, c9, ca, ci] at g0 g1 g2 g3 g4 g5 g6 g7 g8 g9
      obtain ⟨n0, hn0, _, hw0⟩ := DataW.trod_int Tryz.underlying3 g0
      obtain ⟨s1, hs1, _, hl1⟩ := DataW.trod_string Tryz.underlying9 g1
      obtain ⟨s2, hs2, _, hl2⟩ := DataW.trod_string Tryz.underlying9 g2
      obtain ⟨s3, hs3, _, hl3⟩ := DataW.trod_string Tryz.underlying9 g3
      obtain ⟨n5, hn5, _, hw5⟩ := DataW.trod_int Tryz.underlying3 g5
      obtain ⟨n7, hn7, _, hw7⟩ := DataW.trod_int Tryz.underlying3 g7
      obtain ⟨n8, hn8, _, hw8⟩ := DataW.trod_int Tryz.underlying3 g8
      obtain ⟨n9, hn9, _, hw9⟩ := DataW.trod_int Tryz.underlying3 g9
      simp at hn0 hs1 hs2 hs3 hn5 hn7 hn8 hn9
      subst hn0 hs1 hs2 hs3 hn5 hn7 hn8 hn9
      obtain ⟨a4, l4, c4, rfl⟩ := slice_cells Tryz.underlying55 g4
      obtain ⟨a6, l6, c6, rfl⟩ := slice_cells Tryz.underlying56 g6
      obtain ⟨A, hA⟩ := open_attrs (enc := enc) (W := W) (a := a4) (len := l4) (cap := c4) (d := y4.1) (p := y4.2) ⟨k, by simpa [Value.cells] using g4⟩
      obtain ⟨K, hK⟩ := open_introw (enc := enc) (W := W) (a := a6) (len := l6) (cap := c6) (d := y6.1) (p := y6.2) ⟨k, by simpa [Value.cells] using g6⟩
      exact ⟨⟨⟨n0, s1, s2, s3, A, n5, K, n7, n8, n9⟩, a4, l4, c4, a6, l6, c6⟩, rfl, hA, hK, hl1, hl2, hl3, in64_of hw0, in64_of hw5, in64_of hw7, in64_of hw8, in64_of hw9⟩
theorem open_noderow {H : Type} {enc : TypeId × Value → H} {W : World} {a : Option Addr} {len cap : Nat} {d : DataW H} {p : List MemPlace}
    (h : DataW.Trod enc Tryz.prog W 0 (fun _ => true) true 22 (.slice a len cap) d p) : ∃ L, NodeRow W a len cap L := by
  obtain ⟨fuel, hf⟩ := h
  rcases open_slice Tryz.underlying22 hf with ⟨hcs, _⟩ | ⟨ad, l, c, m, n, D, Pl, hcs, _, hl, hm, hmm, _, hi⟩
  · simp [Value.cells] at hcs
    obtain ⟨rfl, rfl, rfl⟩ := hcs
    exact ⟨[], SRow.nil, by simp, fun _ => rfl⟩
  · simp [Value.cells] at hcs
    obtain ⟨rfl, rfl, rfl⟩ := hcs
    have hml : len ≤ m := by rw [hmm]; simpa using hl
    have ce : Tryz.prog.cellsOf 58 = 10 := by kernel_rfl
    have each : ∀ i, i < len → ∃ x : NodeD, NodeOk W x ∧ ∀ j v, (encN x)[j]? = some v → W.cell? (ad.add (i * 10 + j)) = some v := by
      intro i hil
      obtain ⟨cs', h1, h2⟩ := hi i (by omega)
      rw [ce] at h1
      obtain ⟨_, hlen, hcell⟩ := World.cells?_some h1
      obtain ⟨x, hx, hok⟩ := open_nodecells hlen h2
      refine ⟨x, hok, fun j v hv => ?_⟩
      have hj : j < 10 := (List.getElem?_eq_some_iff.1 hv).1
      have e0 := hcell j hj
      rw [add_add, hx, hv] at e0
      exact e0
    obtain ⟨q, hq⟩ : ∃ q : Nat → NodeD, ∀ i, i < len → NodeOk W (q i) ∧ ∀ j v, (encN (q i))[j]? = some v → W.cell? (ad.add (i * 10 + j)) = some v := by
      rcases Nat.eq_zero_or_pos len with h0 | h0
      · exact ⟨fun _ => ⟨⟨0, ByteArray.empty, ByteArray.empty, ByteArray.empty, [], 0, [], 0, 0, 0⟩, none, 0, 0, none, 0, 0⟩, fun i hi => by omega⟩
      · refine ⟨fun i => if h : i < len then (each i h).choose else (each 0 h0).choose, fun i hil => ?_⟩
        simp only [dif_pos hil]
        exact (each i hil).choose_spec
    refine ⟨(List.range len).map q, ⟨by simp, hl, hm, fun x _ => rfl, ?_⟩, ?_, fun h => by cases h⟩
    · rcases Nat.eq_zero_or_pos len with h0 | h0
      · exact .inl h0
      · obtain ⟨b, off, spot⟩ := ad
        have hc := (hq 0 h0).2 0 _ rfl
        have hspot : spot = none := by simpa [Addr.add] using World.cell?_spot hc
        subst hspot
        refine .inr ⟨b, off, rfl, ?_, ?_⟩
        · have := block_lt hc
          rwa [add_plain] at this
        · intro i x j v hx hv
          obtain ⟨hil, hgx⟩ := List.getElem?_eq_some_iff.1 hx
          have hil' : i < len := by simpa using hil
          simp at hgx
          have h1 := (hq i hil').2 j v (by rw [hgx]; exact hv)
          rw [add_plain] at h1
          simpa [Nat.add_assoc] using h1
    · intro x hx
      obtain ⟨i, hi1, rfl⟩ := List.mem_map.1 hx
      exact (hq i (List.mem_range.1 hi1)).1
set_option maxRecDepth 100000 in
theorem open_forest {H : Type} {enc : TypeId × Value → H} {W : World} {r : Reach} {b0 : Nat} {v : Value} {d : DataW H} {p : List MemPlace} (hv : Value.okWide Tryz.prog W r b0 24 v)
    (h : DataW.Trod enc Tryz.prog W 0 (fun _ => true) true 24 v d p) : ∃ a len cap m L, v = .agg #[.slice a len cap, .int .i64 m] ∧ NodeRow W a len cap L ∧ In64 m := by
  obtain ⟨cs, rfl, hsz⟩ := okWide_struct Tryz.underlying24 hv
  have hC : Tryz.prog.cellsOf 24 = 2 := by kernel_rfl
  have c3 : Tryz.prog.cellsOf 3 = 1 := by kernel_rfl
  have cn : Tryz.prog.cellsOf 22 = 1 := by kernel_rfl
  obtain ⟨l⟩ := cs
  match l, hsz.trans hC with
  | [v0, v1], _ =>
    obtain ⟨fuel, hf⟩ := h
    obtain ⟨xs, k, _, _, _, hxl, hff⟩ := DataW.trod_struct Tryz.underlying24 hf
    match xs, hxl with
    | [y0, y1], _ =>
      have g0 := hff 0 _ rfl
      have g1 := hff 1 _ rfl
      simp [c3, cn, Value.cells] at g0 g1
      obtain ⟨n1, hn1, _, hw1⟩ := DataW.trod_int Tryz.underlying3 g1
      simp at hn1
      subst hn1
      obtain ⟨a4, l4, c4, rfl⟩ := slice_cells Tryz.underlying22 g0
      obtain ⟨L, hL⟩ := open_noderow (enc := enc) (W := W) (a := a4) (len := l4) (cap := c4) (d := y0.1) (p := y0.2) ⟨k, by simpa [Value.cells] using g0⟩
      exact ⟨a4, l4, c4, n1, L, rfl, hL, in64_of hw1⟩
end Go.Proofs.YtbkhngoehoiccaaGreat
