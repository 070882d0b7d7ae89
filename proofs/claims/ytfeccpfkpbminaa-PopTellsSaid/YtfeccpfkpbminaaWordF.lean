/- The document's own Far. -/
import Derived.Test.YtfeccpfkpbminaaWordA
import Derived.IntWalk
namespace Go.Proofs.Ytfeccpfkpbminaa
open Go.RowKit Go.Deep
theorem far_lo {a b : Int} : wrap64 (IntKind.u64.wrap (a - b)) = far a b := by unfold far wrap64; rw [IntKind.wrap_u64]; omega
theorem far_hi {a b : Int} : wrap64 (wrap64 (-wrap64 (IntKind.u64.wrap (18446744073709551615 - IntKind.u64.wrap (a - b)))) - 1) = far a b := by
  unfold far wrap64; simp only [IntKind.wrap_u64]; omega
theorem rfar_any (a b : Int) (w : World) (ha : U a) (hb : U b) : Gives 31 #[.int .u64 a, .int .u64 b] w (.int .i64 (far a b)) := by
  have HA := Lib.hid ha
  have HB := Lib.hid hb
  clear ha hb
  by_cases h : 9223372036854775808 ≤ IntKind.u64.wrap (a - b)
  · go_enter Try.func31, Try.ntmps31
    go_wp2
    go_ret
    rw [far_hi]
    exact ⟨rfl, rfl⟩
  · go_enter Try.func31, Try.ntmps31
    go_wp2
    go_ret
    rw [far_lo]
    exact ⟨rfl, rfl⟩
end Go.Proofs.Ytfeccpfkpbminaa
