/- Contract of the document's own Goes. -/
import Derived.Test.YtppllanmgdhabaaPuF
import Derived.Test.YtppllanmgdhabaaLaR
namespace Go.Proofs.Ytppllanmgdhabaa
open Go.RowKit Go.Deep

end Go.Proofs.Ytppllanmgdhabaa
