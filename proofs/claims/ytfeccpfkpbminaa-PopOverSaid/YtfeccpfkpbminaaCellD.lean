/- Contract of Same. -/
import Derived.Test.YtfeccpfkpbminaaCellB
import Derived.RegionTactic
import Derived.Deep.LoopGhost
namespace Go.Proofs.Ytfeccpfkpbminaa
open Go.RowKit Go.Deep

end Go.Proofs.Ytfeccpfkpbminaa
