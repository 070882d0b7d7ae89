/- Contracts of Bump and of awake. -/
import Derived.Test.YtpnmgpmmaiinmaaWordB
namespace Go.Proofs.Ytpnmgpmmaiinmaa
open Go.RowKit Go.Deep
theorem ep_wrap (e : Int) (h : U e) : IntKind.u64.wrap (e / 65536 + 1) = e / 65536 + 1 := wraps_u64 _ (by have := h.1; omega) (by have := h.2; omega)
theorem mask_u (e : Int) : U (e % 65536) := by unfold U; omega
end Go.Proofs.Ytpnmgpmmaiinmaa
