/- Contracts of deeds and Once, of the document's own answers, and of Nums. -/
import Derived.Test.YtgemaeibmgkneaaFrC
namespace Go.Proofs.Ytgemaeibmgkneaa
open Go.RowKit Go.Deep

end Go.Proofs.Ytgemaeibmgkneaa
