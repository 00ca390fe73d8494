/- Texts joined in build order: MoveWhy MoveAs. -/
import Derived.Test.YtkfmengdffpcnaaGreatDoorA23
import Derived.WalkKit
import Derived.LaidEql
import Derived.Stop.Asserts
import Derived.RowKitTokens
namespace Go.Proofs.YtkfmengdffpcnaaGreatDoor
open Go.RowKit Go.Extern.Stop Go.Stop Go.Extern
def ErrVar (w : World) : Prop := w.cell? ⟨0, 0, none⟩ = some (.iface 187 (.agg #[.pointer (some ⟨2, 85, none⟩)]))
theorem ErrVar.lt {w : World} (h : ErrVar w) : 0 < w.heap.size := by
  rcases Nat.eq_zero_or_pos w.heap.size with h0 | h1
  · unfold ErrVar at h
    simp [World.cell?, h0] at h
  · exact h1
theorem ErrVar.keep {w w2 : World} (h : ErrVar w) (hb : Below w.heap.size w w2) : ErrVar w2 := (hb.cell (p := ⟨0, 0, none⟩) h.lt).trans h
abbrev faultV (no : Int) : Value := .iface 116 (.int .i64 no)
abbrev refusedV (s : ByteArray) (no : Int) : Value := .iface 118 (.agg #[.string s, faultV no])
set_option maxHeartbeats 4000000 in
theorem mrefuse_any (s : ByteArray) (no : Int) (w : World) : Calls Tryz.prog 26 #[.string s, .int .i64 no] w fun e w' => e = .returned (refusedV s no) ∧ w' = w := by
  go_enter Tryz.func26, Tryz.ntmps26
  go_wp2
  go_ret
  exact ⟨rfl, rfl⟩
theorem as_nil (t : Value) (w : World) : Calls Tryz.prog 81 #[.nilIface, t] w fun e w' => e = .returned (.bool false) ∧ w' = w := by
  go_enter Tryz.func81, Tryz.ntmps81
  go_wp2
  go_ret
  exact ⟨rfl, rfl⟩
abbrev hdl (t : Nat) : Value := .pointer (some ⟨2, t, none⟩)
theorem rl_valueOfP (t : Addr) (w : World) : (ReflectliteValue.unpack (.iface 139 (.pointer (some t)))).run Tryz.prog w
    = .ok (.agg #[hdl 139, .pointer (some ⟨w.heap.size, 0, none⟩), .int .u64 150]) (w.alloc (.cells #[.pointer (some t)] 139)) := by kernel_rfl
theorem rl_typeP (a : Addr) (w : World) : (ReflectliteValue.methodAny (ReflectliteValue.valueError "reflectlite.Value.Type" 0) (fun t _ _ _ => ReflectliteType.toType t) #[.agg #[hdl 139, .pointer (some a), .int .u64 150]]).run Tryz.prog w
    = .ok (.iface 187 (.agg #[hdl 139])) w := by kernel_rfl
theorem rl_methodKind (h : Value) (w : World) : (Go.method 356 187 (.agg #[h]) "Kind").run Tryz.prog w = .ok (178, h) w := by kernel_rfl
theorem rl_kindP (w : World) : ((ReflectliteType.abiMethod fun t => (fun a : Nat => Value.int IntKind.u8 (a : Int)) <$> Rtype.kind t) #[hdl 139]).run Tryz.prog w = .ok (.int .u8 22) w := by kernel_rfl
theorem rl_kindF (w : World) : ((ReflectliteType.abiMethod fun t => (fun a : Nat => Value.int IntKind.u8 (a : Int)) <$> Rtype.kind t) #[hdl 116]).run Tryz.prog w = .ok (.int .u8 2) w := by kernel_rfl
theorem rlm (z : Sem Value) (f : TypeId → Addr → Nat → Nat → Sem Value) (v : Value) :
    ReflectliteValue.method z f #[v] = (do match ← ReflectliteValue.parts v with | none => z | some (t, a, fl) => f t a fl (fl % 32)) := rfl
theorem rl_partsP (a : Addr) (w : World) : (ReflectliteValue.parts (.agg #[hdl 139, .pointer (some a), .int .u64 150])).run Tryz.prog w = .ok (some (139, a, 150)) w := by kernel_rfl
theorem rl_isNilP (a p : Addr) (W : World) (ha : W.cell? a = some (.pointer (some p))) :
    (ReflectliteValue.method (ReflectliteValue.valueError "reflectlite.Value.IsNil" 0) ReflectliteValue.isNil #[.agg #[hdl 139, .pointer (some a), .int .u64 150]]).run Tryz.prog W = .ok (.bool false) W := by
  rw [rlm]
  simp only [Sem.run_bind, rl_partsP, Result.andThen]
  simp [ReflectliteValue.isNil, loadVar, isAgg, underlying, Tryz.underlying139, ha, Result.andThen]
theorem rl_methodElem (h : Value) (w : World) : (Go.method 356 187 (.agg #[h]) "Elem").run Tryz.prog w = .ok (190, .agg #[h]) w := by kernel_rfl
theorem rl_methodImpl (h : Value) (w : World) : (Go.method 356 187 (.agg #[h]) "Implements").run Tryz.prog w = .ok (191, .agg #[h]) w := by kernel_rfl
theorem rl_methodAsg (h : Value) (w : World) : (Go.method 356 187 (.agg #[h]) "AssignableTo").run Tryz.prog w = .ok (188, .agg #[h]) w := by kernel_rfl
theorem rl_elemP (w : World) : (ReflectliteType.method ReflectliteType.elem #[.agg #[hdl 139]]).run Tryz.prog w = .ok (.iface 187 (.agg #[hdl 116])) w := by kernel_rfl
theorem rl_implF (w : World) : (ReflectliteType.relation "Implements" ReflectliteType.implements_ #[.agg #[hdl 116], .iface 187 (.agg #[hdl 85])]).run Tryz.prog w = .ok (.bool true) w := by kernel_rfl
theorem rl_typeOfF (v : Value) (w : World) : (ReflectliteType.typeOf #[.iface 116 v]).run Tryz.prog w = .ok (.iface 187 (.agg #[hdl 116])) w := by kernel_rfl
theorem rl_typeOfR (v : Value) (w : World) : (ReflectliteType.typeOf #[.iface 118 v]).run Tryz.prog w = .ok (.iface 187 (.agg #[hdl 118])) w := by kernel_rfl
theorem rl_asgF (w : World) : (ReflectliteType.relation "AssignableTo" ReflectliteType.assignableTo #[.agg #[hdl 116], .iface 187 (.agg #[hdl 116])]).run Tryz.prog w = .ok (.bool true) w := by kernel_rfl
theorem rl_asgR (w : World) : (ReflectliteType.relation "AssignableTo" ReflectliteType.assignableTo #[.agg #[hdl 118], .iface 187 (.agg #[hdl 116])]).run Tryz.prog w = .ok (.bool false) w := by kernel_rfl
theorem rl_valueOfF (no : Int) (w : World) : (ReflectliteValue.unpack (faultV no)).run Tryz.prog w
    = .ok (.agg #[hdl 116, .pointer (some ⟨w.heap.size, 0, none⟩), .int .u64 130]) (w.alloc (.cells #[.int .i64 no] 116)) := by kernel_rfl
theorem rl_elemOfP (w : World) : (Rtype.elem? 139).run Tryz.prog w = .ok (some 116) w := by kernel_rfl
theorem rl_mkF (p : Addr) (w : World) : (ReflectliteValue.mk 116 p ReflectliteValue.flagAddr).run Tryz.prog w = .ok (.agg #[hdl 116, .pointer (some p), .int .u64 386]) w := by kernel_rfl
theorem rl_elemVP (a p : Addr) (W : World) (ha : W.cell? a = some (.pointer (some p))) :
    (ReflectliteValue.method (ReflectliteValue.valueError "reflectlite.Value.Elem" 0) ReflectliteValue.elem #[.agg #[hdl 139, .pointer (some a), .int .u64 150]]).run Tryz.prog W
      = .ok (.agg #[hdl 116, .pointer (some p), .int .u64 386]) W := by
  rw [rlm]
  simp only [Sem.run_bind, rl_partsP, Result.andThen]
  simp [ReflectliteValue.elem, loadVar, isAgg, underlying, Tryz.underlying139, ha, Result.andThen, rl_elemOfP, rl_mkF]
theorem rls (v x : Value) : ReflectliteValue.set #[v, x] = (do
    let (some (dst, a, fl), some (src, b, _)) := (← ReflectliteValue.parts v, ← ReflectliteValue.parts x)
      | unsupported (.noEntry "extern/(internal/reflectlite.Value).Set.zeroValue")
    if fl / ReflectliteValue.flagAddr % 2 == 0 then unsupported (.noEntry "extern/(internal/reflectlite.Value).Set.unaddressable")
    let val ← loadVar src b
    if ← Rtype.directlyAssignable dst src then storeVar dst a val
    else if ← Rtype.implements dst src then
      if (← Rtype.kind src) == 20 then
        match val with
        | .nilIface => unsupported (.noEntry "extern/reflectlite: a nil value of one interface type handed on as a value of another")
        | _ => storeVar dst a val
      else storeVar dst a (.iface src val)
    else panicString ("reflectlite.Set: value of type " ++ (← Rtype.spelt src) ++ " is not assignable to type " ++ (← Rtype.spelt dst))
    pure (.tuple #[])) := rfl
theorem rl_partsFa (a : Addr) (w : World) : (ReflectliteValue.parts (.agg #[hdl 116, .pointer (some a), .int .u64 386])).run Tryz.prog w = .ok (some (116, a, 386)) w := by kernel_rfl
theorem rl_partsF (a : Addr) (w : World) : (ReflectliteValue.parts (.agg #[hdl 116, .pointer (some a), .int .u64 130])).run Tryz.prog w = .ok (some (116, a, 130)) w := by kernel_rfl
theorem rl_direct (w : World) : (Rtype.directlyAssignable 116 116).run Tryz.prog w = .ok true w := by kernel_rfl
theorem rl_setF (ta b : Addr) (no : Int) (old : Value) (W : World) (hb : W.cell? b = some (.int .i64 no)) (ht : W.cell? ta = some old) (hf : W.frozen? ta = false) :
    (ReflectliteValue.set #[.agg #[hdl 116, .pointer (some ta), .int .u64 386], .agg #[hdl 116, .pointer (some b), .int .u64 130]]).run Tryz.prog W
      = .ok (.tuple #[]) (W.setCell ta (.int .i64 no)) := by
  rw [rls]
  simp only [Sem.run_bind, rl_partsFa, rl_partsF, Result.andThen]
  simp [ReflectliteValue.flagAddr, loadVar, isAgg, underlying, Tryz.underlying116, hb, Result.andThen, rl_direct, storeVar, Value.cells, storeCells, Addr.add]
  rw [run_store Tryz.prog W ta _ _ (by rfl)]
  simp [ht, hf]
theorem rl_noAs (v : Value) (xT : TypeId) (w : World) : (Instr.typeAssert (.iface 118 v) xT 192 true).run Tryz.prog w = .ok (.tuple #[.nilIface, .bool false]) w :=
  run_typeAssert_lacksB Tryz.underlying192 (by kernel_rfl) (by kernel_rfl) v xT w
theorem rl_unwraps (v : Value) (xT : TypeId) (w : World) : (Instr.typeAssert (.iface 118 v) xT 195 true).run Tryz.prog w = .ok (.tuple #[.iface 118 v, .bool true]) w :=
  run_typeAssert_hasB Tryz.underlying195 (by kernel_rfl) v xT w
theorem rl_methodUnwrap (s : ByteArray) (no : Int) (w : World) : (Go.method 356 118 (.agg #[.string s, faultV no]) "Unwrap").run Tryz.prog w = .ok (183, .agg #[.string s, faultV no]) w := by kernel_rfl
end Go.Proofs.YtkfmengdffpcnaaGreatDoor
namespace Go.Proofs.YtkfmengdffpcnaaGreatDoor
open Go.RowKit Go.Extern.Stop Go.Stop Go.Extern
abbrev asW1 (w : World) (t : Addr) : World := w.alloc (.cells #[.pointer (some t)] 139)
abbrev asW2 (w : World) (t : Addr) : World := (asW1 w t).alloc (.cells #[hdl 139, .pointer (some ⟨w.heap.size, 0, none⟩), .int .u64 150] 162)
abbrev asW3 (w : World) (t : Addr) : World := (asW2 w t).alloc (.cells #[hdl 139, .pointer (some ⟨w.heap.size, 0, none⟩), .int .u64 150] 162)
abbrev asW4 (w : World) (t : Addr) (s : ByteArray) (no : Int) : World := (asW3 w t).alloc (.cells #[.string s, faultV no] 118)
abbrev asW5 (w : World) (t : Addr) (s : ByteArray) (no : Int) : World := (asW4 w t s no).alloc (.cells #[.int .i64 no] 116)
set_option maxHeartbeats 8000000 in
set_option maxRecDepth 100000 in
theorem as_any (s : ByteArray) (no : Int) (t : Addr) (old : Value) (w : World) (hg : ErrVar w) (ht0 : w.cell? t = some old) (hf0 : w.frozen? t = false) :
    Calls Tryz.prog 81 #[refusedV s no, .iface 139 (.pointer (some t))] w fun e w' => e = .returned (.bool true) ∧ w' = (asW5 w t s no).setCell t (.int .i64 no) := by
  have h134 := @run_callFunc_extern Tryz.prog 111 _ (fun args => ReflectliteValue.unpack (args.getD 0 (.tuple #[]))) Tryz.func111 (by kernel_rfl) (by kernel_rfl) (by kernel_rfl) (by kernel_rfl)
  have h135 := @run_callFunc_extern Tryz.prog 112 _ (ReflectliteValue.methodAny (ReflectliteValue.valueError "reflectlite.Value.Type" 0) (fun t _ _ _ => ReflectliteType.toType t)) Tryz.func112 (by kernel_rfl) (by kernel_rfl) (by kernel_rfl) (by kernel_rfl)
  have h136 := @run_callFunc_extern Tryz.prog 113 _ (ReflectliteValue.method (ReflectliteValue.valueError "reflectlite.Value.IsNil" 0) ReflectliteValue.isNil) Tryz.func113 (by kernel_rfl) (by kernel_rfl) (by kernel_rfl) (by kernel_rfl)
  have h27 := @run_callFunc_extern Tryz.prog 178 _ (ReflectliteType.abiMethod fun t => do pure (.int .u8 (← Rtype.kind t))) Tryz.func178 (by kernel_rfl) (by kernel_rfl) (by kernel_rfl) (by kernel_rfl)
  have h37 := @run_callFunc_extern Tryz.prog 190 _ (ReflectliteType.method ReflectliteType.elem) Tryz.func190 (by kernel_rfl) (by kernel_rfl) (by kernel_rfl) (by kernel_rfl)
  have h38 := @run_callFunc_extern Tryz.prog 191 _ (ReflectliteType.relation "Implements" ReflectliteType.implements_) Tryz.func191 (by kernel_rfl) (by kernel_rfl) (by kernel_rfl) (by kernel_rfl)
  have h10 := @run_callFunc_extern Tryz.prog 128 _ ReflectliteType.typeOf Tryz.func128 (by kernel_rfl) (by kernel_rfl) (by kernel_rfl) (by kernel_rfl)
  have h35 := @run_callFunc_extern Tryz.prog 188 _ (ReflectliteType.relation "AssignableTo" ReflectliteType.assignableTo) Tryz.func188 (by kernel_rfl) (by kernel_rfl) (by kernel_rfl) (by kernel_rfl)
  have h11 := @run_callFunc_extern Tryz.prog 129 _ (ReflectliteValue.method (ReflectliteValue.valueError "reflectlite.Value.Elem" 0) ReflectliteValue.elem) Tryz.func129 (by kernel_rfl) (by kernel_rfl) (by kernel_rfl) (by kernel_rfl)
  have h12 := @run_callFunc_extern Tryz.prog 130 _ ReflectliteValue.set Tryz.func130 (by kernel_rfl) (by kernel_rfl) (by kernel_rfl) (by kernel_rfl)
  have tO := rl_typeOfF
  have tR := rl_typeOfR
  have mA := rl_methodAsg
  have aF := rl_asgF
  have aR := rl_asgR
  have vF := rl_valueOfF
  have f6 := rl_valueOfP
  have f7 := rl_typeP
  have mK := rl_methodKind
  have mE := rl_methodElem
  have mI := rl_methodImpl
  have kP := rl_kindP
  have kF := rl_kindF
  have eP := rl_elemP
  have iF := rl_implF
  have nA := rl_noAs
  have uW := rl_unwraps
  have mU := rl_methodUnwrap
  have hlt := hg.lt
  unfold ErrVar at hg
  have htl : t.block < w.heap.size := by
    rcases Nat.lt_or_ge t.block w.heap.size with h | h
    · exact h
    · simp [World.cell?, Array.getElem?_eq_none h] at ht0
  have n8 := rl_isNilP ⟨w.heap.size, 0, none⟩ t (asW2 w t) (by simp)
  have hg2 : (asW2 w t).cell? ⟨0, 0, none⟩ = some (.iface 187 (.agg #[hdl 85])) := by
    rw [World.cell?_alloc_lt _ _ ⟨0, 0, none⟩ (by simp), World.cell?_alloc_lt _ _ ⟨0, 0, none⟩ hlt]; exact hg
  have el := rl_elemVP ⟨w.heap.size, 0, none⟩ t (asW4 w t s no) (by
    rw [World.cell?_alloc_lt _ _ ⟨w.heap.size, 0, none⟩ (by simp; omega), World.cell?_alloc_lt _ _ ⟨w.heap.size, 0, none⟩ (by simp; omega)]
    simp)
  have hb3 : (asW4 w t s no).cell? ⟨w.heap.size + 1 + 1, 0, none⟩ = some (hdl 139) ∧ (asW4 w t s no).cell? ⟨w.heap.size + 1 + 1, 1, none⟩ = some (.pointer (some ⟨w.heap.size, 0, none⟩)) ∧ (asW4 w t s no).cell? ⟨w.heap.size + 1 + 1, 2, none⟩ = some (.int .u64 150) := by
    refine ⟨?_, ?_, ?_⟩
    all_goals
      rw [World.cell?_alloc_lt _ _ _ (by simp), World.cell?_alloc_at _ _ _ _ (by simp)]
      rfl
  obtain ⟨b30, b31, b32⟩ := hb3
  have st := rl_setF t ⟨w.heap.size + 1 + 1 + 1 + 1, 0, none⟩ no old (asW5 w t s no)
    (by rw [World.cell?_alloc_at _ _ _ _ (by simp)]; rfl)
    (by rw [World.cell?_alloc_lt _ _ t (by simp; omega), World.cell?_alloc_lt _ _ t (by simp; omega), World.cell?_alloc_lt _ _ t (by simp; omega), World.cell?_alloc_lt _ _ t (by simp; omega), World.cell?_alloc_lt _ _ t htl]; exact ht0)
    (by rw [World.frozen?_alloc_old _ _ t (by simp; omega), World.frozen?_alloc_old _ _ t (by simp; omega), World.frozen?_alloc_old _ _ t (by simp; omega), World.frozen?_alloc_old _ _ t (by simp; omega), World.frozen?_alloc_old _ _ t (Nat.ne_of_lt htl)]; exact hf0)
  go_enter Tryz.func81, Tryz.ntmps81
  go_wp2
  refine wp_loop_rounds 2 ?_
  rw [rounds_succ]
  go_wp2
  rw [rounds_succ]
  go_wp2
  go_ret
  exact ⟨rfl, rfl⟩
theorem as_below {w : World} {t : Addr} {s : ByteArray} {no : Int} : Below w.heap.size w (asW5 w t s no) := by
  have h1 := (Below.refl w.heap.size w).alloc (Nat.le_refl _) (.cells #[.pointer (some t)] 139)
  have h2 := h1.alloc h1.size (.cells #[hdl 139, .pointer (some ⟨w.heap.size, 0, none⟩), .int .u64 150] 162)
  have h3 := h2.alloc h2.size (.cells #[hdl 139, .pointer (some ⟨w.heap.size, 0, none⟩), .int .u64 150] 162)
  have h4 := h3.alloc h3.size (.cells #[.string s, faultV no] 118)
  exact h4.alloc h4.size _
set_option maxHeartbeats 4000000 in
theorem mwhyNil_any (w : World) : Calls Tryz.prog 52 #[.nilIface] w fun e w' => e = .returned (.int .i64 0) ∧ Below w.heap.size w w' := by
  go_enter Tryz.func52, Tryz.ntmps52
  go_wp2_with (go_at_call 81; (refine (as_nil _ _).mono ?_); rintro e w1 ⟨rfl, rfl⟩)
  go_ret
  exact ⟨rfl, below_box _ _⟩
set_option maxHeartbeats 4000000 in
theorem mwhy_any (s : ByteArray) (no : Int) (w : World) (hg : ErrVar w) : Calls Tryz.prog 52 #[refusedV s no] w fun e w' => e = .returned (.int .i64 no) ∧ Below w.heap.size w w' := by
  have hb0 : Below w.heap.size w (w.alloc (.cells #[.int .i64 0] 116)) := below_box _ _
  have c0 : (w.alloc (.cells #[.int .i64 0] 116)).cell? ⟨w.heap.size, 0, none⟩ = some (.int .i64 0) := by
    rw [cell_of_row (w.alloc (.cells #[.int .i64 0] 116)) w.heap.size 0 _ _ (0, 0) (heap_alloc_new w _)]
    rfl
  have f0 : (w.alloc (.cells #[.int .i64 0] 116)).frozen? ⟨w.heap.size, 0, none⟩ = false := row_free (heap_alloc_new w _) 0
  have CA := Lib.hid (as_any s no ⟨w.heap.size, 0, none⟩ (.int .i64 0) _ (hg.keep hb0) c0 f0)
  obtain ⟨w0, hw0⟩ : ∃ w0, w.alloc (.cells #[.int .i64 0] 116) = w0 := ⟨_, rfl⟩
  have hlt : w.heap.size < w0.heap.size := by rw [← hw0]; simp
  rw [hw0] at CA hb0 c0 f0
  obtain ⟨w5, hw5, hb5⟩ : ∃ w5, asW5 w0 ⟨w.heap.size, 0, none⟩ s no = w5 ∧ Below w0.heap.size w0 w5 := ⟨_, rfl, as_below⟩
  rw [hw5] at CA
  have c5 : (w5.setCell ⟨w.heap.size, 0, none⟩ (.int .i64 no)).cell? ⟨w.heap.size, 0, none⟩ = some (.int .i64 no) := World.cell?_setCell_same _ _ _ ((hb5.cell (p := ⟨w.heap.size, 0, none⟩) hlt).trans c0)
  have HB : Hid (Below w.heap.size w (w5.setCell ⟨w.heap.size, 0, none⟩ (.int .i64 no))) := Lib.hid ((hb0.trans (hb5.mono hb0.size)).setCell (p := ⟨w.heap.size, 0, none⟩) (Nat.le_refl _) _)
  have HW0 := Lib.hid hw0
  clear hw0 hb0 hb5 hw5 c0 f0 hg
  go_enter Tryz.func52, Tryz.ntmps52
  go_wp2_with (go_at_call 81; rw [HW0.out]; (with_reducible refine CA.out.mono ?_); rintro e w1 ⟨rfl, rfl⟩)
  go_ret
  exact ⟨rfl, HB.out⟩
end Go.Proofs.YtkfmengdffpcnaaGreatDoor
