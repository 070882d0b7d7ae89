/- Contracts of deeds and Once, of the document's own answers, and of Nums. -/
import Derived.Test.YtjddglandcpfpaaFrC
namespace Go.Proofs.Ytjddglandcpfpaa
open Go.RowKit Go.Deep

end Go.Proofs.Ytjddglandcpfpaa
