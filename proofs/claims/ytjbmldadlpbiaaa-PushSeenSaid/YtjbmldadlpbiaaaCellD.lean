/- Contract of Same. -/
import Derived.Test.YtjbmldadlpbiaaaCellB
import Derived.RegionTactic
import Derived.Deep.LoopGhost
namespace Go.Proofs.Ytjbmldadlpbiaaa
open Go.RowKit Go.Deep

end Go.Proofs.Ytjbmldadlpbiaaa
