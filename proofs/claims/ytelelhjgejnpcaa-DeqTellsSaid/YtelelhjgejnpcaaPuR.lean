/- Contract of the document's own Goes. -/
import Derived.Test.YtelelhjgejnpcaaPuF
import Derived.Test.YtelelhjgejnpcaaLaR
namespace Go.Proofs.Ytelelhjgejnpcaa
open Go.RowKit Go.Deep

end Go.Proofs.Ytelelhjgejnpcaa
