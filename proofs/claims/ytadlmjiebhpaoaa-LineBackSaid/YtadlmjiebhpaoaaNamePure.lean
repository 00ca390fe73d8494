/- What package name's functions compute, said over lists of bytes: plain mathematics, no program. -/
import Derived.Lib.Bytealg
namespace Go.Proofs.Ytadlmjiebhpaoaa
def lowI (n : Int) : Bool := decide (97 ≤ n ∧ n ≤ 122)
def capI (n : Int) : Bool := decide (65 ≤ n ∧ n ≤ 90)
def alphI (n : Int) : Bool := lowI n || capI n
def digI (n : Int) : Bool := decide (48 ≤ n ∧ n ≤ 57)
def signI (n : Int) : Bool := alphI n || digI n || decide (n = 45 ∨ n = 95 ∨ n = 46)
def headI (n : Int) : Bool := alphI n || decide (n = 95)
def signB (c : UInt8) : Bool := signI (c.toNat : Int)
def headB (c : UInt8) : Bool := headI (c.toNat : Int)
def smallB (c : UInt8) : UInt8 := if capI (c.toNat : Int) then c + 32 else c
def rightL (l : List UInt8) : Bool := decide (1 ≤ l.length ∧ l.length ≤ 40) && headB (l.headD 0) && l.all signB
def smallL (l : List UInt8) : List UInt8 := l.map smallB
def dashL (l : List UInt8) : Bool := l.contains 45
def reservedL (l : List UInt8) : Bool := ([[97, 110, 110, 111, 116, 97, 116, 105, 111, 110, 45, 120, 109, 108], [99, 111, 108, 111, 114, 45, 112, 114, 111, 102, 105, 108, 101], [102, 111, 110, 116, 45, 102, 97, 99, 101], [102, 111, 110, 116, 45, 102, 97, 99, 101, 45, 115, 114, 99], [102, 111, 110, 116, 45, 102, 97, 99, 101, 45, 117, 114, 105], [102, 111, 110, 116, 45, 102, 97, 99, 101, 45, 102, 111, 114, 109, 97, 116], [102, 111, 110, 116, 45, 102, 97, 99, 101, 45, 110, 97, 109, 101], [109, 105, 115, 115, 105, 110, 103, 45, 103, 108, 121, 112, 104]] : List (List UInt8)).contains l
def knownL (l : List UInt8) : Bool := ([[97], [98], [98, 117, 116, 116, 111, 110], [100, 105, 118], [102, 105, 101, 108, 100, 115, 101, 116], [102, 111, 114, 109], [105], [105, 110, 112, 117, 116], [108, 97, 98, 101, 108], [108, 101, 103, 101, 110, 100], [108, 105], [111, 112, 116, 105, 111, 110], [111, 117, 116, 112, 117, 116], [112], [115, 101, 108, 101, 99, 116], [115, 112, 97, 110], [116, 101, 109, 112, 108, 97, 116, 101], [116, 101, 120, 116, 97, 114, 101, 97], [117, 108]] : List (List UInt8)).contains l
def customL (l : List UInt8) : Bool := rightL l && (smallL l == l) && lowI ((l.headD 0).toNat : Int) && dashL l && !reservedL l
def kindL (l : List UInt8) : Int := if rightL l then (if customL l then 1 else if knownL l then 2 else 3) else 0
def ofL (l : List UInt8) : ByteArray := ⟨l.toArray⟩
end Go.Proofs.Ytadlmjiebhpaoaa
