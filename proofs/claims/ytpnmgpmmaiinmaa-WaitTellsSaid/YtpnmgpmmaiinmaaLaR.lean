/- Merged: LayR, LayS. -/
import Derived.Test.YtpnmgpmmaiinmaaLaC
namespace Go.Proofs.Ytpnmgpmmaiinmaa
open Go.RowKit Go.Deep
theorem p2_no {D : Int} (h : p2 D = false) : ¬ D = 1 ∧ ¬ D = 2 ∧ ¬ D = 4 ∧ ¬ D = 8 ∧ ¬ D = 16 := by
  unfold p2 at h
  simp at h
  omega
theorem bool_is {b b' : Bool} (h : b' = b) : Ending.returned (.bool b) = .returned (.bool b') := by rw [h]
set_option maxHeartbeats 1000000 in
theorem rmay_any (W D J S : Int) (w : World) : Tells 36 #[cf W D J S] w (.bool (may W D J S)) := by
  go_enter Try.func36, Try.ntmps36
  go_wp2
  all_goals
    go_ret
    refine ⟨?_, box_below _ _⟩
    first
      | exact bool_is (b := true) (by simp only [may, wi, p2, Bool.and_eq_true, decide_eq_true_eq]; omega)
      | exact bool_is (b := false) (by simp only [may, wi, p2, ← Bool.not_eq_true, Bool.and_eq_true, decide_eq_true_eq]; omega)
      | exact bool_is (b := decide (S ≤ 4)) (by rw [Bool.eq_iff_iff]; simp only [may, wi, p2, Bool.and_eq_true, decide_eq_true_eq]; omega)
theorem rsize_may (W D J S : Int) (w : World) (h : may W D J S = false) : Tells 37 #[cf W D J S] w (.int .i64 (0)) := by
  have HM := Lib.hid h
  clear h
  go_enter Try.func37, Try.ntmps37
  go_wp2_with fail
  refine (Tells.of (rmay_any W D J S _) (v' := .bool false) (by rw [HM.out])).mono ?_
  rintro _ w1 ⟨rfl, z1⟩
  have HZ := Lib.hid ((box_below w _).trans (z1.mono (by simp)))
  clear z1
  go_wp2
  go_ret
  exact ⟨rfl, HZ.out⟩
theorem rsize_yes (W D J S : Int) (w : World) (h : may W D J S = true) : Tells 37 #[cf W D J S] w (.int .i64 (bg D J W)) := by
  have HM := Lib.hid h
  obtain ⟨hW, hD, hJ, hS⟩ := may_lim h
  obtain ⟨b1, b2⟩ := bg_lim hD hJ (x := W) ⟨by omega, by omega⟩
  unfold bg at b1 b2
  have m1 : 0 ≤ W * (3 + D) := Int.mul_nonneg (by omega) (by omega)
  obtain ⟨d1, d2⟩ := hD
  obtain ⟨j1, j2⟩ := hJ
  clear h
  go_enter Try.func37, Try.ntmps37
  go_wp2_with fail
  refine (Tells.of (rmay_any W D J S _) (v' := .bool true) (by rw [HM.out])).mono ?_
  rintro _ w1 ⟨rfl, z1⟩
  have HZ := Lib.hid ((box_below w _).trans (z1.mono (by simp)))
  obtain ⟨g0, c0, c1, c2, c3⟩ := (Bx.mk w W D J S 23).below z1
  clear z1
  go_wp2
  go_ret
  exact ⟨rfl, HZ.out⟩
theorem rsize_any (W D J S : Int) (w : World) : Tells 37 #[cf W D J S] w (.int .i64 (sz W D J S)) := by
  unfold sz
  cases h : may W D J S
  · exact rsize_may W D J S w h
  · exact rsize_yes W D J S w h
end Go.Proofs.Ytpnmgpmmaiinmaa
namespace Go.Proofs.Ytpnmgpmmaiinmaa
open Go.RowKit Go.Deep
theorem mod64 (x : Int) {n : Int} (hn : 1 ≤ n) (h2 : n ≤ 16) : wrap64 (x % n) = x % n := by
  obtain ⟨m1, m2⟩ := mod_lim x hn
  unfold wrap64; omega
theorem int_is {k : IntKind} {a b : Int} (h : a = b) : Ending.returned (.int k a) = .returned (.int k b) := by rw [h]
theorem rtop_may (W D J S x : Int) (w : World) (h : may W D J S = false) : Tells 56 #[cf W D J S, .int .i64 x] w (.int .i64 (-1)) := by
  have HM := Lib.hid h
  clear h
  go_enter Try.func56, Try.ntmps56
  go_wp2_with fail
  refine (Tells.of (rmay_any W D J S _) (v' := .bool false) (by rw [HM.out])).mono ?_
  rintro _ w1 ⟨rfl, z1⟩
  have HZ := Lib.hid ((box_below w _).trans (z1.mono (by simp)))
  clear z1
  go_wp2
  go_ret
  exact ⟨rfl, HZ.out⟩
theorem rtop_no (W D J S x : Int) (w : World) (h : may W D J S = true) (hx : wi x 0 (W - 1) = false) : Tells 56 #[cf W D J S, .int .i64 x] w (.int .i64 (-1)) := by
  have HM := Lib.hid h
  have hx' : x < 0 ∨ (¬ x < 0 ∧ W ≤ x) := by have := wi_false.1 hx; omega
  clear h hx
  rcases hx' with hx | ⟨hx0, hx⟩
  all_goals
    go_enter Try.func56, Try.ntmps56
    go_wp2_with fail
    refine (Tells.of (rmay_any W D J S _) (v' := .bool true) (by rw [HM.out])).mono ?_
    rintro _ w1 ⟨rfl, z1⟩
    have HZ := Lib.hid ((box_below w _).trans (z1.mono (by simp)))
    obtain ⟨g0, c0, c1, c2, c3⟩ := (Bx.mk w W D J S 23).below z1
    clear z1
    go_wp2
    go_ret
    exact ⟨rfl, HZ.out⟩
theorem rtop_yes (W D J S x : Int) (w : World) (h : may W D J S = true) (hx : wi x 0 (W - 1) = true) : Tells 56 #[cf W D J S, .int .i64 x] w (.int .i64 (bg D J x)) := by
  have HM := Lib.hid h
  obtain ⟨hW, hD, hJ, hS⟩ := may_lim h
  have hx' := wi_true.1 hx
  obtain ⟨b1, b2⟩ := bg_lim hD hJ (x := x) ⟨by omega, by omega⟩
  unfold bg at b1 b2
  have m1 : 0 ≤ x * (3 + D) := Int.mul_nonneg (by omega) (by omega)
  obtain ⟨d1, d2⟩ := hD
  obtain ⟨j1, j2⟩ := hJ
  have x1 : ¬ x < 0 := by omega
  have x2 : ¬ W ≤ x := by omega
  clear h hx hx'
  go_enter Try.func56, Try.ntmps56
  go_wp2_with fail
  refine (Tells.of (rmay_any W D J S _) (v' := .bool true) (by rw [HM.out])).mono ?_
  rintro _ w1 ⟨rfl, z1⟩
  have HZ := Lib.hid ((box_below w _).trans (z1.mono (by simp)))
  obtain ⟨g0, c0, c1, c2, c3⟩ := (Bx.mk w W D J S 23).below z1
  clear z1
  go_wp2
  go_ret
  exact ⟨rfl, HZ.out⟩
theorem rtop_any (W D J S x : Int) (w : World) : Tells 56 #[cf W D J S, .int .i64 x] w (.int .i64 (ow W D J S x 0)) := by
  unfold ow
  cases h : may W D J S
  · exact rtop_may W D J S x w h
  · cases hx : wi x 0 (W - 1)
    · exact rtop_no W D J S x w h hx
    · rw [Bool.and_self, if_pos rfl, Int.add_zero]
      exact rtop_yes W D J S x w h hx
theorem ow_cases (W D J S x : Int) : (∀ k, ow W D J S x k = -1) ∧ (may W D J S && wi x 0 (W - 1)) = false ∨ (∀ k, ow W D J S x k = bg D J x + k) ∧ (8 ≤ bg D J x ∧ bg D J x ≤ 190) ∧ (may W D J S && wi x 0 (W - 1)) = true := by
  cases h : may W D J S && wi x 0 (W - 1)
  · left; exact ⟨fun k => by unfold ow; rw [h]; rfl, rfl⟩
  · right
    refine ⟨fun k => by unfold ow; rw [h]; rfl, ?_, rfl⟩
    simp only [Bool.and_eq_true, wi_true] at h
    obtain ⟨hW, hD, hJ, hS⟩ := may_lim h.1
    exact bg_lim hD hJ ⟨by omega, by omega⟩
theorem rpark_any (W D J S x : Int) (w : World) : Tells 34 #[cf W D J S, .int .i64 x] w (.int .i64 (ow W D J S x 2)) := by
  rcases ow_cases W D J S x with ⟨he, _⟩ | ⟨he, ⟨b1, b2⟩, _⟩
  · rw [he 2]
    have HE := Lib.hid (he 0)
    clear he
    go_enter Try.func34, Try.ntmps34
    go_wp2_with fail
    refine (Tells.of (rtop_any W D J S x _) (v' := .int .i64 (-1)) (by rw [HE.out])).mono ?_
    rintro _ w1 ⟨rfl, z1⟩
    have HZ := Lib.hid ((box_below w _).trans (z1.mono (by simp)))
    clear z1
    go_wp2
    go_ret
    exact ⟨rfl, HZ.out⟩
  · rw [he 2]
    have HE := Lib.hid (he 0)
    have hne : ¬ bg D J x < 0 := by omega
    clear he
    go_enter Try.func34, Try.ntmps34
    go_wp2_with fail
    refine (Tells.of (rtop_any W D J S x _) (v' := .int .i64 (bg D J x)) (by rw [HE.out, Int.add_zero])).mono ?_
    rintro _ w1 ⟨rfl, z1⟩
    have HZ := Lib.hid ((box_below w _).trans (z1.mono (by simp)))
    clear z1
    go_wp2
    go_ret
    exact ⟨rfl, HZ.out⟩
end Go.Proofs.Ytpnmgpmmaiinmaa
