/- Contracts of Cas and Add. -/
import Derived.Test.YtjbmldadlpbiaaaCellB
import Derived.RegionTactic
namespace Go.Proofs.Ytjbmldadlpbiaaa
open Go.RowKit Go.Deep
/-- Is the number at place i the number u? -/
def isAt (l : List Int) (i u : Int) : Bool := decide (0 ≤ i) && l[i.toNat]? == some u
end Go.Proofs.Ytjbmldadlpbiaaa
