/- Contracts of Pack, Epoch, Mask, Set, Wipe, Far. -/
import Derived.Test.YtfeccpfkpbminaaWordM
import Derived.WalkKit
import Derived.WalkSpells
import Derived.WalkLawsBesides
import Derived.Lib.Hide
import Derived.Deep.Draws
import Derived.Deep.OwnRows
import Derived.RegionTactic
import Derived.Deep.RegionHeld3
import Derived.IntWalk
import Derived.OpenShut
namespace Go.Proofs.Ytfeccpfkpbminaa
open Go.RowKit Go.Deep
theorem far_any (a b : Int) (w : World) : Gives 37 #[.int .u64 a, .int .u64 b] w (.int .i64 (far a b)) := by
  go_enter Try.func37, Try.ntmps37
  go_wp2
  go_ret
  refine ⟨?_, rfl⟩
  unfold far wrap64
  rw [IntKind.wrap_u64]
  rw [show ((a - b) % 18446744073709551616 + 9223372036854775808) % 18446744073709551616 - 9223372036854775808 = (a - b + 9223372036854775808) % 18446744073709551616 - 9223372036854775808 by omega]
  rfl
end Go.Proofs.Ytfeccpfkpbminaa
