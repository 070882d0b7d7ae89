/- Contracts of package lay: Seq, Val, Top, Bottom, Park, Slot, New. -/
import Derived.Test.YtfeccpfkpbminaaLayB
import Derived.Test.YtfeccpfkpbminaaMem
namespace Go.Proofs.Ytfeccpfkpbminaa
open Go.RowKit Go.Deep
/-- The injector's cells, and a slot. -/
def sq (W D J S x : Int) : Int := if may W D J S then 6 + x % J else -1
def vl (W D J S x : Int) : Int := if may W D J S then 6 + J + x % J else -1
def sl (W D J S y x : Int) : Int := if may W D J S && wi y 0 (W - 1) then bg D J y + 3 + x % D else -1
theorem mod_lim (x : Int) {n : Int} (hn : 1 ≤ n) : 0 ≤ x % n ∧ x % n < n := ⟨Int.emod_nonneg x (by omega), Int.emod_lt_of_pos x (by omega)⟩
theorem top_any (W D J S x : Int) (w : World) : Tells 20 #[cf W D J S, .int .i64 x] w (.int .i64 (ow W D J S x 0)) := by
  go_enter Try.func20, Try.ntmps20
  go_wp2_with fail
  refine (own_any W D J S x 0 _ (by omega)).mono ?_
  rintro _ w1 ⟨rfl, z1⟩
  have HZ := Lib.hid ((box_below w _).trans (z1.mono (by simp)))
  clear z1
  go_wp2
  go_ret
  exact ⟨rfl, HZ.out⟩
theorem bottom_any (W D J S x : Int) (w : World) : Tells 19 #[cf W D J S, .int .i64 x] w (.int .i64 (ow W D J S x 1)) := by
  go_enter Try.func19, Try.ntmps19
  go_wp2_with fail
  refine (own_any W D J S x 1 _ (by omega)).mono ?_
  rintro _ w1 ⟨rfl, z1⟩
  have HZ := Lib.hid ((box_below w _).trans (z1.mono (by simp)))
  clear z1
  go_wp2
  go_ret
  exact ⟨rfl, HZ.out⟩
theorem slot_no (W D J S y x : Int) (w : World) (h : (may W D J S && wi y 0 (W - 1)) = false) : Tells 38 #[cf W D J S, .int .i64 y, .int .u64 x] w (.int .i64 (-1)) := by
  have HM := Lib.hid h
  clear h
  go_enter Try.func38, Try.ntmps38
  go_wp2_with fail
  refine (Tells.of (own_any W D J S y 3 _ (by omega)) (v' := .int .i64 (-1)) (by unfold ow; rw [HM.out]; rfl)).mono ?_
  rintro _ w1 ⟨rfl, z1⟩
  have HZ := Lib.hid ((box_below w _).trans (z1.mono (by simp)))
  clear z1
  go_wp2
  go_ret
  exact ⟨rfl, HZ.out⟩
theorem slot_yes (W D J S y x : Int) (w : World) (hx : U x) (h : (may W D J S && wi y 0 (W - 1)) = true) : Tells 38 #[cf W D J S, .int .i64 y, .int .u64 x] w (.int .i64 (bg D J y + 3 + x % D)) := by
  have HM := Lib.hid h
  have HX := Lib.hid hx
  simp only [Bool.and_eq_true, wi_true] at h
  obtain ⟨⟨w1', w2'⟩, ⟨d1, d2⟩, hJ, hS⟩ := may_lim h.1
  obtain ⟨b1, b2⟩ := bg_lim (D := D) ⟨d1, d2⟩ hJ (x := y) ⟨h.2.1, by omega⟩
  obtain ⟨m1, m2⟩ := mod_lim x d1
  have hne : ¬ bg D J y + 3 = -1 := by omega
  clear h hx
  go_enter Try.func38, Try.ntmps38
  go_wp2_with fail
  refine (Tells.of (own_any W D J S y 3 _ (by omega)) (v' := .int .i64 (bg D J y + 3)) (by unfold ow; rw [HM.out]; rfl)).mono ?_
  rintro _ w1 ⟨rfl, z1⟩
  have HZ := Lib.hid ((box_below w _).trans (z1.mono (by simp)))
  obtain ⟨g0, c0, c1, c2, c3⟩ := (Bx.mk w W D J S 23).below z1
  clear z1
  go_wp2_with fail
  refine (modulo_any _ _ _ HX.out ⟨d1, d2⟩).mono ?_
  rintro _ _ ⟨rfl, rfl⟩
  go_wp2
  go_ret
  exact ⟨rfl, HZ.out⟩
theorem slot_any (W D J S y x : Int) (w : World) (hx : U x) : Tells 38 #[cf W D J S, .int .i64 y, .int .u64 x] w (.int .i64 (sl W D J S y x)) := by
  unfold sl
  cases h : may W D J S && wi y 0 (W - 1)
  · exact slot_no W D J S y x w h
  · exact slot_yes W D J S y x w hx h
end Go.Proofs.Ytfeccpfkpbminaa
