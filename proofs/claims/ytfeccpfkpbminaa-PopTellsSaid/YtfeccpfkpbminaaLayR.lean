/- Contracts of the document's own answers for layer 3. -/
import Derived.Test.YtfeccpfkpbminaaLayD
namespace Go.Proofs.Ytfeccpfkpbminaa
open Go.RowKit Go.Deep
theorem p2_no {D : Int} (h : p2 D = false) : ¬ D = 1 ∧ ¬ D = 2 ∧ ¬ D = 4 ∧ ¬ D = 8 ∧ ¬ D = 16 := by
  unfold p2 at h
  simp at h
  omega
theorem bool_is {b b' : Bool} (h : b' = b) : Ending.returned (.bool b) = .returned (.bool b') := by rw [h]
set_option maxHeartbeats 1000000 in
theorem rmay_any (W D J S : Int) (w : World) : Tells 51 #[cf W D J S] w (.bool (may W D J S)) := by
  go_enter Try.func51, Try.ntmps51
  go_wp2
  all_goals
    go_ret
    refine ⟨?_, box_below _ _⟩
    first
      | exact bool_is (b := true) (by simp only [may, wi, p2, Bool.and_eq_true, decide_eq_true_eq]; omega)
      | exact bool_is (b := false) (by simp only [may, wi, p2, ← Bool.not_eq_true, Bool.and_eq_true, decide_eq_true_eq]; omega)
      | exact bool_is (b := decide (S ≤ 4)) (by rw [Bool.eq_iff_iff]; simp only [may, wi, p2, Bool.and_eq_true, decide_eq_true_eq]; omega)
theorem rsize_may (W D J S : Int) (w : World) (h : may W D J S = false) : Tells 53 #[cf W D J S] w (.int .i64 (0)) := by
  have HM := Lib.hid h
  clear h
  go_enter Try.func53, Try.ntmps53
  go_wp2_with fail
  refine (Tells.of (rmay_any W D J S _) (v' := .bool false) (by rw [HM.out])).mono ?_
  rintro _ w1 ⟨rfl, z1⟩
  have HZ := Lib.hid ((box_below w _).trans (z1.mono (by simp)))
  clear z1
  go_wp2
  go_ret
  exact ⟨rfl, HZ.out⟩
theorem rsize_yes (W D J S : Int) (w : World) (h : may W D J S = true) : Tells 53 #[cf W D J S] w (.int .i64 (bg D J W)) := by
  have HM := Lib.hid h
  obtain ⟨hW, hD, hJ, hS⟩ := may_lim h
  obtain ⟨b1, b2⟩ := bg_lim hD hJ (x := W) ⟨by omega, by omega⟩
  unfold bg at b1 b2
  have m1 : 0 ≤ W * (3 + D) := Int.mul_nonneg (by omega) (by omega)
  obtain ⟨d1, d2⟩ := hD
  obtain ⟨j1, j2⟩ := hJ
  clear h
  go_enter Try.func53, Try.ntmps53
  go_wp2_with fail
  refine (Tells.of (rmay_any W D J S _) (v' := .bool true) (by rw [HM.out])).mono ?_
  rintro _ w1 ⟨rfl, z1⟩
  have HZ := Lib.hid ((box_below w _).trans (z1.mono (by simp)))
  obtain ⟨g0, c0, c1, c2, c3⟩ := (Bx.mk w W D J S 23).below z1
  clear z1
  go_wp2
  go_ret
  exact ⟨rfl, HZ.out⟩
theorem rsize_any (W D J S : Int) (w : World) : Tells 53 #[cf W D J S] w (.int .i64 (sz W D J S)) := by
  unfold sz
  cases h : may W D J S
  · exact rsize_may W D J S w h
  · exact rsize_yes W D J S w h
end Go.Proofs.Ytfeccpfkpbminaa
