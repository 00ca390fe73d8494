/- Fit answers what NamePure says. -/
import Derived.Test.YtapfhgimeohmgaaNameSmall
namespace Go.Proofs.Ytapfhgimeohmgaa
open Go.RowKit
def fitL (l : List UInt8) : List UInt8 := if rightL l then smallL l else []
def fitE (l : List UInt8) : Int := if rightL l then 0 else 4
end Go.Proofs.Ytapfhgimeohmgaa
