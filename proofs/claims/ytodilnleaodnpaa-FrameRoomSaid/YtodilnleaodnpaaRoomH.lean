/- The walk of FrameRoom: too many numbers. -/
import Derived.Test.YtodilnleaodnpaaFrQ
import Derived.Deep.QuietTactic
namespace Go.Proofs.Ytodilnleaodnpaa
open Go.RowKit Go.Deep
theorem then_drew {n q : Nat} {w w' : World} (h : Below n w w') : Below n w (w'.drewN q) := h.trans ⟨rfl, rfl, rfl, Nat.le_refl _, fun _ _ => rfl⟩
theorem room_big (A : Option Addr) (n c : Nat) (r i : Int) (f : Fr) (w : World) (hn : 300 < n) : Tells 6 #[.slice A n c, .int .i64 r, fv f, .int .i64 i] w (.bool true) := by
  obtain ⟨o, p, q, v, x, y, s⟩ := f
  have hd : decide ((300 : Int) < (n : Int)) = true := decide_eq_true (by omega)
  go_enter Try.func6, Try.ntmps6
  go_wp2_with fail
  refine (awake_any _).mono ?_
  rintro _ w1 ⟨rfl, z⟩
  have Z := Lib.hid (keep_call z (bel_alloc w _))
  clear z
  go_wp2
  go_ret
  exact ⟨rfl, Z.out⟩
end Go.Proofs.Ytodilnleaodnpaa
