/- Texts joined in build order: WatchAwakeM. -/
import Derived.Test.YtkfmengdffpcnaaGreatDoorA42
import Derived.Test.YtkfmengdffpcnaaGreatDoorA44
namespace Go.Proofs.YtkfmengdffpcnaaGreatDoor
open Go.RowKit
abbrev aA12 : ByteArray := ⟨#[97]⟩
abbrev bA12 : ByteArray := ⟨#[98]⟩
abbrev xaA12 : ByteArray := ⟨#[120, 45, 97]⟩
abbrev oneA12 : ByteArray := ⟨#[49]⟩
abbrev aw12 : BL := [60, 120, 45, 97, 32, 97, 61, 34, 49, 34, 32, 98, 61, 34, 50, 34, 62, 60, 47, 120, 45, 97, 62]
abbrev aw12F : List Core := [⟨0, ⟨#[]⟩, ⟨#[]⟩, ⟨#[]⟩, [], -1, [], -1, -1, 0⟩, ⟨1, xaA12, ⟨#[]⟩, ⟨#[]⟩, [(aA12, oneA12), (bA12, ⟨#[50]⟩)], -1, [], -1, -1, 0⟩]
abbrev aw12D : List DefD := [⟨xaA12, xaA12, 0⟩]
abbrev op22 : OpD := ⟨22, 0, 0, 0, ⟨#[]⟩, ⟨#[]⟩, false⟩
abbrev aw12C : ClassC := ⟨false, [aA12], [], [], [(4, [op22]), (1, [])]⟩
abbrev stN : StateD := ⟨0, -1, -1, false⟩
abbrev stF : StateD := ⟨4, 0, -1, false⟩
abbrev stO : StateD := ⟨1, -1, -1, false⟩
abbrev stC : StateD := ⟨3, 0, -1, false⟩
abbrev nt1 : NoteD := ⟨1, 1, 0, 0, ⟨#[]⟩, false, false, ⟨#[]⟩, ⟨#[]⟩⟩
abbrev nt2 : NoteD := ⟨2, 1, 0, 0, ⟨#[]⟩, false, false, ⟨#[]⟩, ⟨#[]⟩⟩
abbrev nt4 : NoteD := ⟨4, 1, 0, 0, bA12, false, false, ⟨#[]⟩, ⟨#[]⟩⟩
theorem hw1 : readM 0 (aw12.length + 3) .node aw12 [docC] = some ([], aw12F) := by decide +kernel
theorem hw2 : rightF 400 aw12F = true ∧ rightF 9 aw12F = true := by decide +kernel
theorem hw3 : firstF 9 aw12F [stN, stF] ⟨aw12D, [], 0, false⟩ [aw12C] 1 = [⟨1, attrT (aA12, oneA12)⟩] := by decide +kernel
theorem hw4 : dueZ 9 aw12F [stN, stO] ⟨aw12D, [], 0, false⟩ [aw12C] [nt1, nt2] = [⟨1, upT 0⟩] := by decide +kernel
theorem hw5 : dueZ 9 aw12F [stN, stC] ⟨aw12D, [], 0, false⟩ [aw12C] [nt1, nt2, nt4] = [⟨1, callT nt1⟩] := by decide +kernel
theorem hw6 : classZ stN aw12D [aw12C] = none := by decide +kernel
theorem hw7 : (progC aw12C 4).length = 1 ∧ hearsC aw12C 1 = true ∧ watchesC aw12C bA12 = false := by decide +kernel
end Go.Proofs.YtkfmengdffpcnaaGreatDoor
