/- The document's own answer whether two rows of cells are the same. -/
import Derived.Test.YtjddglandcpfpaaBaM
namespace Go.Proofs.Ytjddglandcpfpaa
open Go.RowKit Go.Deep

end Go.Proofs.Ytjddglandcpfpaa
