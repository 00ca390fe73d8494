/- instarlaw09's awake, over what is asked of package desk. -/
import Derived.Test.YtapfhgimeohmgaaDeskFns
import Derived.Test.YtapfhgimeohmgaaDeskAddFn
import Derived.Test.YtapfhgimeohmgaaForestRefs
namespace Go.Proofs.Ytapfhgimeohmgaa
open Go.RowKit
abbrev xaB : ByteArray := ⟨#[120, 45, 97]⟩
abbrev xbB : ByteArray := ⟨#[120, 45, 98]⟩
abbrev pB : ByteArray := ⟨#[112]⟩
abbrev aw1 : DeskD := ⟨[], [⟨xaB, 0⟩], 1, false⟩
abbrev aw2 : DeskD := ⟨[], [⟨xaB, 0⟩, ⟨xaB, 1⟩], 2, false⟩
abbrev aw3 : DeskD := ⟨[⟨xaB, pB, 1⟩], [], 2, false⟩
theorem xaL : xaB.toList = [120, 45, 97] := toList_ofL [120, 45, 97]
theorem xbL : xbB.toList = [120, 45, 98] := toList_ofL [120, 45, 98]
theorem pL : pB.toList = [112] := toList_ofL [112]
theorem eL : (⟨#[]⟩ : ByteArray).toList = [] := toList_ofL []
theorem aw1_is : awaitR ⟨[], [], 0, false⟩ xaB = (aw1, 0, -1, 0) := by
  have h : awaitE ⟨[], [], 0, false⟩ xaB.toList = 0 := by rw [xaL]; decide
  unfold awaitR
  rw [if_pos h]
  rw [xaL]
  rfl
theorem aw2_is : awaitR aw1 xaB = (aw2, 1, -1, 0) := by
  have h : awaitE aw1 xaB.toList = 0 := by
    unfold awaitE rightK aw1 waitsOk waitsOk okT
    simp only [xaL]
    decide
  unfold awaitR
  rw [if_pos h, xaL]
  rfl
theorem aw3_is : addR aw2 2 xaB pB 1 = (aw3, 0, [0, 1], 0) := by
  have h : mayE aw2 2 xaB.toList pB.toList 1 = 0 := by
    unfold mayE rightK aw2 waitsOk waitsOk waitsOk okT
    simp only [xaL, pL]
    decide
  unfold addR
  rw [if_pos h]
  have h1 : newDef xaB pB 1 = ⟨xaB, pB, 1⟩ := by
    unfold newDef
    rw [if_neg (by rw [pL]; decide)]
  have h2 : restT aw2.waits xaB.toList = [] := by
    unfold restT aw2
    simp
  have h3 : toldZ aw2.waits xaB.toList = [0, 1] := by
    unfold toldZ aw2
    simp
  unfold addK
  rw [h1, h2, h3]
  rfl
theorem aw3_right : rightK aw3 = true := by
  unfold rightK aw3 defsOk defsOk waitsOk okD namedZ classedZ firstZ firstN isName isCls
  simp only [List.findIdx_cons, xaL, pL]
  decide
theorem aw4_is : (awaitR aw3 xaB).2 = (2, 0, 0) := by
  have h : awaitE aw3 xaB.toList = 0 := by
    unfold awaitE
    rw [aw3_right, if_neg (by decide), if_neg (by rw [xaL]; decide), if_neg (by decide)]
  unfold awaitR
  rw [if_pos h]
  unfold namedZ firstZ firstN isName aw3
  simp [List.findIdx_cons]
theorem aw5_is : ifRight aw3 (findZ2 aw3.defs pB.toList xaB.toList) = 0 ∧ ifRight aw3 (findZ2 aw3.defs xaB.toList (⟨#[]⟩ : ByteArray).toList) = -1 ∧ ifRight aw3 (namedZ aw3.defs xaB.toList) = 0 ∧ ifRight aw3 (classedZ aw3.defs 1) = 0 ∧ mayE aw3 2 xbB.toList (⟨#[]⟩ : ByteArray).toList 1 = 10 := by
  unfold ifRight mayE
  rw [aw3_right]
  unfold findZ2 namedZ classedZ firstZ firstN isName isCls isOwn isIs aw3
  simp only [List.findIdx_cons, xaL, pL, xbL, eL]
  decide
end Go.Proofs.Ytapfhgimeohmgaa
