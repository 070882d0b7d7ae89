/- The document's answers (poacherref02) are those same numbers. -/
import Derived.Test.YtomlgglcfbdimaaWordC
import Derived.Test.YtomlgglcfbdimaaBaM
import Derived.Deep.LoopGhost
namespace Go.Proofs.Ytomlgglcfbdimaa
open Go.RowKit Go.Deep
theorem tm_u {a m : Int} (h : U a) : a.tmod m = a % m := Int.tmod_eq_emod_of_nonneg h.1
theorem td_u {a m : Int} (h : U a) : a.tdiv m = a / m := Int.tdiv_eq_ediv_of_nonneg h.1
theorem bit_div (m : Int) (k : Nat) (h : U m) : IntKind.u64.wrap (m.tdiv (2 ^ k)) = m / 2 ^ k := by
  have hu := bit_u m k h
  rw [td_u h, wraps_u64 _ hu.1 hu.2]
end Go.Proofs.Ytomlgglcfbdimaa
