/- The document's answers (poacherref02) are those same numbers. -/
import Derived.Test.YtjbmldadlpbiaaaWordC
import Derived.Deep.LoopGhost
namespace Go.Proofs.Ytjbmldadlpbiaaa
open Go.RowKit Go.Deep
theorem tm_u {a m : Int} (h : U a) : a.tmod m = a % m := Int.tmod_eq_emod_of_nonneg h.1
theorem td_u {a m : Int} (h : U a) : a.tdiv m = a / m := Int.tdiv_eq_ediv_of_nonneg h.1
theorem far_lo {a b : Int} : wrap64 (IntKind.u64.wrap (a - b)) = far a b := by unfold far wrap64; rw [IntKind.wrap_u64]; omega
theorem far_hi {a b : Int} : wrap64 (wrap64 (-wrap64 (IntKind.u64.wrap (18446744073709551615 - IntKind.u64.wrap (a - b)))) - 1) = far a b := by
  unfold far wrap64; simp only [IntKind.wrap_u64]; omega
theorem rfar_any (a b : Int) (w : World) (ha : U a) (hb : U b) : Gives 40 #[.int .u64 a, .int .u64 b] w (.int .i64 (far a b)) := by
  have HA := Lib.hid ha
  have HB := Lib.hid hb
  clear ha hb
  by_cases h : 9223372036854775808 ≤ IntKind.u64.wrap (a - b)
  · go_enter Try.func40, Try.ntmps40
    go_wp2
    go_ret
    rw [far_hi]
    exact ⟨rfl, rfl⟩
  · go_enter Try.func40, Try.ntmps40
    go_wp2
    go_ret
    rw [far_lo]
    exact ⟨rfl, rfl⟩
theorem bit_div (m : Int) (k : Nat) (h : U m) : IntKind.u64.wrap (m.tdiv (2 ^ k)) = m / 2 ^ k := by
  have hu := bit_u m k h
  rw [td_u h, wraps_u64 _ hu.1 hu.2]
end Go.Proofs.Ytjbmldadlpbiaaa
