/- The walk of LayMay: which neighbours of a layout may be. -/
import Derived.Test.YtmmojjpmnmjbkaaLayE
namespace Go.Proofs.Ytmmojjpmnmjbkaa
open Go.RowKit Go.Deep
set_option maxHeartbeats 1000000 in
theorem layMay_no (W D J S : Int) (w : World) (hm : may W D J S = false) : Tells 7 #[cf W D J S] w (.bool true) := by
  have HM := Lib.hid hm
  clear hm
  go_enter Try.func7, Try.ntmps7
  go_wp2_with fail
  have Bc := Lib.hid (Bx.mk w W D J S 23)
  obtain ⟨g_c, c0_c, c1_c, c2_c, c3_c⟩ := Bc.out
  refine (awake_any _).mono ?_
  rintro _ w1 ⟨rfl, z1⟩
  have HZ := Lib.hid ((box_below w _).trans (z1.mono (by simp)))
  clear g_c c0_c c1_c c2_c c3_c
  replace Bc := Lib.hid (Bc.out.below z1)
  obtain ⟨g_c, c0_c, c1_c, c2_c, c3_c⟩ := Bc.out
  clear z1
  go_wp2_with fail
  refine (Tells.of (may_any W D J S _) (v' := .bool false) (by rw [HM.out])).mono ?_
  rintro _ w2 ⟨rfl, z2⟩
  replace HZ := Lib.hid (HZ.out.trans (z2.mono HZ.out.size))
  clear g_c c0_c c1_c c2_c c3_c
  replace Bc := Lib.hid (Bc.out.below z2)
  obtain ⟨g_c, c0_c, c1_c, c2_c, c3_c⟩ := Bc.out
  clear z2
  go_wp2
  go_ret
  exact ⟨rfl, HZ.out⟩
set_option maxHeartbeats 1000000 in
theorem layMay_yes (W D J S : Int) (w : World) (hm : may W D J S = true) : Tells 7 #[cf W D J S] w (.bool true) := by
  have HM := Lib.hid hm
  obtain ⟨⟨w1', w2'⟩, ⟨d1', d2'⟩, ⟨j1', j2'⟩, ⟨s1', s2'⟩⟩ := may_lim hm
  clear hm
  go_enter Try.func7, Try.ntmps7
  go_wp2_with fail
  have Bc := Lib.hid (Bx.mk w W D J S 23)
  obtain ⟨g_c, c0_c, c1_c, c2_c, c3_c⟩ := Bc.out
  refine (awake_any _).mono ?_
  rintro _ w1 ⟨rfl, z1⟩
  have HZ := Lib.hid ((box_below w _).trans (z1.mono (by simp)))
  clear g_c c0_c c1_c c2_c c3_c
  replace Bc := Lib.hid (Bc.out.below z1)
  obtain ⟨g_c, c0_c, c1_c, c2_c, c3_c⟩ := Bc.out
  clear z1
  go_wp2_with fail
  refine (Tells.of (may_any W D J S _) (v' := .bool true) (by rw [HM.out])).mono ?_
  rintro _ w2 ⟨rfl, z2⟩
  replace HZ := Lib.hid (HZ.out.trans (z2.mono HZ.out.size))
  clear g_c c0_c c1_c c2_c c3_c
  replace Bc := Lib.hid (Bc.out.below z2)
  obtain ⟨g_c, c0_c, c1_c, c2_c, c3_c⟩ := Bc.out
  clear z2
  have gc1 : w.heap.size < w2.heap.size + 1 := by omega
  have gc2 : w.heap.size < w2.heap.size + 1 + 1 := by omega
  have gc3 : w.heap.size < w2.heap.size + 1 + 1 + 1 := by omega
  have gc4 : w.heap.size < w2.heap.size + 1 + 1 + 1 + 1 := by omega
  have gc5 : w.heap.size < w2.heap.size + 1 + 1 + 1 + 1 + 1 := by omega
  have gc6 : w.heap.size < w2.heap.size + 1 + 1 + 1 + 1 + 1 + 1 := by omega
  have F : Bx ((((((w2.alloc (.cells #[.int .i64 (W + 1), .int .i64 D, .int .i64 J, .int .i64 S] 23)).alloc (.cells #[.int .i64 W, .int .i64 D, .int .i64 (J + 1), .int .i64 S] 23)).alloc (.cells #[.int .i64 W, .int .i64 (2 * D), .int .i64 J, .int .i64 S] 23)).alloc (.cells #[.int .i64 W, .int .i64 D, .int .i64 J, .int .i64 (S + 1)] 23)).alloc (.cells #[.int .i64 W, .int .i64 (D + 1), .int .i64 J, .int .i64 S] 23)).alloc (.cells #[.int .i64 0, .int .i64 D, .int .i64 J, .int .i64 S] 23)) (w2.heap.size) (W + 1) D J S ∧ Bx ((((((w2.alloc (.cells #[.int .i64 (W + 1), .int .i64 D, .int .i64 J, .int .i64 S] 23)).alloc (.cells #[.int .i64 W, .int .i64 D, .int .i64 (J + 1), .int .i64 S] 23)).alloc (.cells #[.int .i64 W, .int .i64 (2 * D), .int .i64 J, .int .i64 S] 23)).alloc (.cells #[.int .i64 W, .int .i64 D, .int .i64 J, .int .i64 (S + 1)] 23)).alloc (.cells #[.int .i64 W, .int .i64 (D + 1), .int .i64 J, .int .i64 S] 23)).alloc (.cells #[.int .i64 0, .int .i64 D, .int .i64 J, .int .i64 S] 23)) (w2.heap.size + 1) W D (J + 1) S ∧ Bx ((((((w2.alloc (.cells #[.int .i64 (W + 1), .int .i64 D, .int .i64 J, .int .i64 S] 23)).alloc (.cells #[.int .i64 W, .int .i64 D, .int .i64 (J + 1), .int .i64 S] 23)).alloc (.cells #[.int .i64 W, .int .i64 (2 * D), .int .i64 J, .int .i64 S] 23)).alloc (.cells #[.int .i64 W, .int .i64 D, .int .i64 J, .int .i64 (S + 1)] 23)).alloc (.cells #[.int .i64 W, .int .i64 (D + 1), .int .i64 J, .int .i64 S] 23)).alloc (.cells #[.int .i64 0, .int .i64 D, .int .i64 J, .int .i64 S] 23)) (w2.heap.size + 1 + 1) W (2 * D) J S ∧ Bx ((((((w2.alloc (.cells #[.int .i64 (W + 1), .int .i64 D, .int .i64 J, .int .i64 S] 23)).alloc (.cells #[.int .i64 W, .int .i64 D, .int .i64 (J + 1), .int .i64 S] 23)).alloc (.cells #[.int .i64 W, .int .i64 (2 * D), .int .i64 J, .int .i64 S] 23)).alloc (.cells #[.int .i64 W, .int .i64 D, .int .i64 J, .int .i64 (S + 1)] 23)).alloc (.cells #[.int .i64 W, .int .i64 (D + 1), .int .i64 J, .int .i64 S] 23)).alloc (.cells #[.int .i64 0, .int .i64 D, .int .i64 J, .int .i64 S] 23)) (w2.heap.size + 1 + 1 + 1) W D J (S + 1) ∧ Bx ((((((w2.alloc (.cells #[.int .i64 (W + 1), .int .i64 D, .int .i64 J, .int .i64 S] 23)).alloc (.cells #[.int .i64 W, .int .i64 D, .int .i64 (J + 1), .int .i64 S] 23)).alloc (.cells #[.int .i64 W, .int .i64 (2 * D), .int .i64 J, .int .i64 S] 23)).alloc (.cells #[.int .i64 W, .int .i64 D, .int .i64 J, .int .i64 (S + 1)] 23)).alloc (.cells #[.int .i64 W, .int .i64 (D + 1), .int .i64 J, .int .i64 S] 23)).alloc (.cells #[.int .i64 0, .int .i64 D, .int .i64 J, .int .i64 S] 23)) (w2.heap.size + 1 + 1 + 1 + 1) W (D + 1) J S ∧ Bx ((((((w2.alloc (.cells #[.int .i64 (W + 1), .int .i64 D, .int .i64 J, .int .i64 S] 23)).alloc (.cells #[.int .i64 W, .int .i64 D, .int .i64 (J + 1), .int .i64 S] 23)).alloc (.cells #[.int .i64 W, .int .i64 (2 * D), .int .i64 J, .int .i64 S] 23)).alloc (.cells #[.int .i64 W, .int .i64 D, .int .i64 J, .int .i64 (S + 1)] 23)).alloc (.cells #[.int .i64 W, .int .i64 (D + 1), .int .i64 J, .int .i64 S] 23)).alloc (.cells #[.int .i64 0, .int .i64 D, .int .i64 J, .int .i64 S] 23)) (w2.heap.size + 1 + 1 + 1 + 1 + 1) 0 D J S ∧ Bx ((((((w2.alloc (.cells #[.int .i64 (W + 1), .int .i64 D, .int .i64 J, .int .i64 S] 23)).alloc (.cells #[.int .i64 W, .int .i64 D, .int .i64 (J + 1), .int .i64 S] 23)).alloc (.cells #[.int .i64 W, .int .i64 (2 * D), .int .i64 J, .int .i64 S] 23)).alloc (.cells #[.int .i64 W, .int .i64 D, .int .i64 J, .int .i64 (S + 1)] 23)).alloc (.cells #[.int .i64 W, .int .i64 (D + 1), .int .i64 J, .int .i64 S] 23)).alloc (.cells #[.int .i64 0, .int .i64 D, .int .i64 J, .int .i64 S] 23)) w.heap.size W D J S ∧ Below w.heap.size w ((((((w2.alloc (.cells #[.int .i64 (W + 1), .int .i64 D, .int .i64 J, .int .i64 S] 23)).alloc (.cells #[.int .i64 W, .int .i64 D, .int .i64 (J + 1), .int .i64 S] 23)).alloc (.cells #[.int .i64 W, .int .i64 (2 * D), .int .i64 J, .int .i64 S] 23)).alloc (.cells #[.int .i64 W, .int .i64 D, .int .i64 J, .int .i64 (S + 1)] 23)).alloc (.cells #[.int .i64 W, .int .i64 (D + 1), .int .i64 J, .int .i64 S] 23)).alloc (.cells #[.int .i64 0, .int .i64 D, .int .i64 J, .int .i64 S] 23)) := by
    have b0 := Bx.at w2 (w2.heap.size) (W + 1) D J S 23 (by simp)
    have b1 := Bx.at (w2.alloc (.cells #[.int .i64 (W + 1), .int .i64 D, .int .i64 J, .int .i64 S] 23)) (w2.heap.size + 1) W D (J + 1) S 23 (by simp)
    have b2 := Bx.at ((w2.alloc (.cells #[.int .i64 (W + 1), .int .i64 D, .int .i64 J, .int .i64 S] 23)).alloc (.cells #[.int .i64 W, .int .i64 D, .int .i64 (J + 1), .int .i64 S] 23)) (w2.heap.size + 1 + 1) W (2 * D) J S 23 (by simp)
    have b3 := Bx.at (((w2.alloc (.cells #[.int .i64 (W + 1), .int .i64 D, .int .i64 J, .int .i64 S] 23)).alloc (.cells #[.int .i64 W, .int .i64 D, .int .i64 (J + 1), .int .i64 S] 23)).alloc (.cells #[.int .i64 W, .int .i64 (2 * D), .int .i64 J, .int .i64 S] 23)) (w2.heap.size + 1 + 1 + 1) W D J (S + 1) 23 (by simp)
    have b4 := Bx.at ((((w2.alloc (.cells #[.int .i64 (W + 1), .int .i64 D, .int .i64 J, .int .i64 S] 23)).alloc (.cells #[.int .i64 W, .int .i64 D, .int .i64 (J + 1), .int .i64 S] 23)).alloc (.cells #[.int .i64 W, .int .i64 (2 * D), .int .i64 J, .int .i64 S] 23)).alloc (.cells #[.int .i64 W, .int .i64 D, .int .i64 J, .int .i64 (S + 1)] 23)) (w2.heap.size + 1 + 1 + 1 + 1) W (D + 1) J S 23 (by simp)
    have b5 := Bx.at (((((w2.alloc (.cells #[.int .i64 (W + 1), .int .i64 D, .int .i64 J, .int .i64 S] 23)).alloc (.cells #[.int .i64 W, .int .i64 D, .int .i64 (J + 1), .int .i64 S] 23)).alloc (.cells #[.int .i64 W, .int .i64 (2 * D), .int .i64 J, .int .i64 S] 23)).alloc (.cells #[.int .i64 W, .int .i64 D, .int .i64 J, .int .i64 (S + 1)] 23)).alloc (.cells #[.int .i64 W, .int .i64 (D + 1), .int .i64 J, .int .i64 S] 23)) (w2.heap.size + 1 + 1 + 1 + 1 + 1) 0 D J S 23 (by simp)
    exact ⟨((((((b0.alloc _).alloc _).alloc _).alloc _).alloc _)), (((((b1.alloc _).alloc _).alloc _).alloc _)), ((((b2.alloc _).alloc _).alloc _)), (((b3.alloc _).alloc _)), ((b4.alloc _)), (b5), ((((((Bc.out.alloc _).alloc _).alloc _).alloc _).alloc _).alloc _), ((((((HZ.out.alloc (by have := HZ.out.size; simp; omega) _).alloc (by have := HZ.out.size; simp; omega) _).alloc (by have := HZ.out.size; simp; omega) _).alloc (by have := HZ.out.size; simp; omega) _).alloc (by have := HZ.out.size; simp; omega) _).alloc (by have := HZ.out.size; simp; omega) _)⟩
  have e1 : may (W + 1) D J S = decide (W < 8) := by rw [Bool.eq_iff_iff]; have := HM.out; simp only [may, wi, p2, Bool.and_eq_true, decide_eq_true_eq] at this ⊢; omega
  have e2 : may W D (J + 1) S = decide (J < 16) := by rw [Bool.eq_iff_iff]; have := HM.out; simp only [may, wi, p2, Bool.and_eq_true, decide_eq_true_eq] at this ⊢; omega
  have e3 : may W (2 * D) J S = decide (D < 16) := by rw [Bool.eq_iff_iff]; have := HM.out; simp only [may, wi, p2, Bool.and_eq_true, decide_eq_true_eq] at this ⊢; omega
  have e4 : may W D J (S + 1) = decide (S < 4) := by rw [Bool.eq_iff_iff]; have := HM.out; simp only [may, wi, p2, Bool.and_eq_true, decide_eq_true_eq] at this ⊢; omega
  have e5 : may W (D + 1) J S = (D == 1) := by rw [Bool.eq_iff_iff]; have := HM.out; simp only [may, wi, p2, Bool.and_eq_true, decide_eq_true_eq, beq_iff_eq] at this ⊢; omega
  have e6 : may 0 D J S = false := by simp [may, wi]
  have HE := Lib.hid (And.intro e1 (And.intro e2 (And.intro e3 (And.intro e4 (And.intro e5 e6)))))
  clear e1 e2 e3 e4 e5 e6
  have HF := Lib.hid F
  clear F
  go_wp2_with fail
  generalize ((((((w2.alloc (.cells #[.int .i64 (W + 1), .int .i64 D, .int .i64 J, .int .i64 S] 23)).alloc (.cells #[.int .i64 W, .int .i64 D, .int .i64 (J + 1), .int .i64 S] 23)).alloc (.cells #[.int .i64 W, .int .i64 (2 * D), .int .i64 J, .int .i64 S] 23)).alloc (.cells #[.int .i64 W, .int .i64 D, .int .i64 J, .int .i64 (S + 1)] 23)).alloc (.cells #[.int .i64 W, .int .i64 (D + 1), .int .i64 J, .int .i64 S] 23)).alloc (.cells #[.int .i64 0, .int .i64 D, .int .i64 J, .int .i64 S] 23)) = w3 at HF ⊢
  obtain ⟨B0, B1, B2, B3, B4, B5, B6, BW⟩ := HF.out
  have K : ∀ w', Below w3.heap.size w3 w' → w'.cell? ⟨w2.heap.size, 0, none⟩ = some (.int .i64 (W + 1)) ∧ w'.cell? ⟨w2.heap.size, 1, none⟩ = some (.int .i64 D) ∧ w'.cell? ⟨w2.heap.size, 2, none⟩ = some (.int .i64 J) ∧ w'.cell? ⟨w2.heap.size, 3, none⟩ = some (.int .i64 S) ∧ w'.cell? ⟨w2.heap.size + 1, 0, none⟩ = some (.int .i64 W) ∧ w'.cell? ⟨w2.heap.size + 1, 1, none⟩ = some (.int .i64 D) ∧ w'.cell? ⟨w2.heap.size + 1, 2, none⟩ = some (.int .i64 (J + 1)) ∧ w'.cell? ⟨w2.heap.size + 1, 3, none⟩ = some (.int .i64 S) ∧ w'.cell? ⟨w2.heap.size + 1 + 1, 0, none⟩ = some (.int .i64 W) ∧ w'.cell? ⟨w2.heap.size + 1 + 1, 1, none⟩ = some (.int .i64 (2 * D)) ∧ w'.cell? ⟨w2.heap.size + 1 + 1, 2, none⟩ = some (.int .i64 J) ∧ w'.cell? ⟨w2.heap.size + 1 + 1, 3, none⟩ = some (.int .i64 S) ∧ w'.cell? ⟨w2.heap.size + 1 + 1 + 1, 0, none⟩ = some (.int .i64 W) ∧ w'.cell? ⟨w2.heap.size + 1 + 1 + 1, 1, none⟩ = some (.int .i64 D) ∧ w'.cell? ⟨w2.heap.size + 1 + 1 + 1, 2, none⟩ = some (.int .i64 J) ∧ w'.cell? ⟨w2.heap.size + 1 + 1 + 1, 3, none⟩ = some (.int .i64 (S + 1)) ∧ w'.cell? ⟨w2.heap.size + 1 + 1 + 1 + 1, 0, none⟩ = some (.int .i64 W) ∧ w'.cell? ⟨w2.heap.size + 1 + 1 + 1 + 1, 1, none⟩ = some (.int .i64 (D + 1)) ∧ w'.cell? ⟨w2.heap.size + 1 + 1 + 1 + 1, 2, none⟩ = some (.int .i64 J) ∧ w'.cell? ⟨w2.heap.size + 1 + 1 + 1 + 1, 3, none⟩ = some (.int .i64 S) ∧ w'.cell? ⟨w2.heap.size + 1 + 1 + 1 + 1 + 1, 0, none⟩ = some (.int .i64 0) ∧ w'.cell? ⟨w2.heap.size + 1 + 1 + 1 + 1 + 1, 1, none⟩ = some (.int .i64 D) ∧ w'.cell? ⟨w2.heap.size + 1 + 1 + 1 + 1 + 1, 2, none⟩ = some (.int .i64 J) ∧ w'.cell? ⟨w2.heap.size + 1 + 1 + 1 + 1 + 1, 3, none⟩ = some (.int .i64 S) ∧ w'.cell? ⟨w.heap.size, 0, none⟩ = some (.int .i64 W) ∧ w'.cell? ⟨w.heap.size, 1, none⟩ = some (.int .i64 D) ∧ w'.cell? ⟨w.heap.size, 2, none⟩ = some (.int .i64 J) ∧ w'.cell? ⟨w.heap.size, 3, none⟩ = some (.int .i64 S) ∧ Below w3.heap.size w3 w' := by
    intro w' hb
    obtain ⟨f00, f01, f02, f03⟩ := (B0.below hb).cells
    obtain ⟨f10, f11, f12, f13⟩ := (B1.below hb).cells
    obtain ⟨f20, f21, f22, f23⟩ := (B2.below hb).cells
    obtain ⟨f30, f31, f32, f33⟩ := (B3.below hb).cells
    obtain ⟨f40, f41, f42, f43⟩ := (B4.below hb).cells
    obtain ⟨f50, f51, f52, f53⟩ := (B5.below hb).cells
    obtain ⟨f60, f61, f62, f63⟩ := (B6.below hb).cells
    exact ⟨f00, f01, f02, f03, f10, f11, f12, f13, f20, f21, f22, f23, f30, f31, f32, f33, f40, f41, f42, f43, f50, f51, f52, f53, f60, f61, f62, f63, hb⟩
  have HK := Lib.hid K
  clear K B0 B1 B2 B3 B4 B5 B6
  have S0 := HK.out w3 (Below.refl _ _)
  have HS0 := Lib.hid S0
  clear S0
  obtain ⟨f00, f01, f02, f03, f10, f11, f12, f13, f20, f21, f22, f23, f30, f31, f32, f33, f40, f41, f42, f43, f50, f51, f52, f53, f60, f61, f62, f63, hbb⟩ := HS0.out
  obtain ⟨e1, e2, e3, e4, e5, e6⟩ := HE.out
  go_region_held3 (fun w' => w'.cell? ⟨w2.heap.size, 0, none⟩ = some (.int .i64 (W + 1)) ∧ w'.cell? ⟨w2.heap.size, 1, none⟩ = some (.int .i64 D) ∧ w'.cell? ⟨w2.heap.size, 2, none⟩ = some (.int .i64 J) ∧ w'.cell? ⟨w2.heap.size, 3, none⟩ = some (.int .i64 S) ∧ w'.cell? ⟨w2.heap.size + 1, 0, none⟩ = some (.int .i64 W) ∧ w'.cell? ⟨w2.heap.size + 1, 1, none⟩ = some (.int .i64 D) ∧ w'.cell? ⟨w2.heap.size + 1, 2, none⟩ = some (.int .i64 (J + 1)) ∧ w'.cell? ⟨w2.heap.size + 1, 3, none⟩ = some (.int .i64 S) ∧ w'.cell? ⟨w2.heap.size + 1 + 1, 0, none⟩ = some (.int .i64 W) ∧ w'.cell? ⟨w2.heap.size + 1 + 1, 1, none⟩ = some (.int .i64 (2 * D)) ∧ w'.cell? ⟨w2.heap.size + 1 + 1, 2, none⟩ = some (.int .i64 J) ∧ w'.cell? ⟨w2.heap.size + 1 + 1, 3, none⟩ = some (.int .i64 S) ∧ w'.cell? ⟨w2.heap.size + 1 + 1 + 1, 0, none⟩ = some (.int .i64 W) ∧ w'.cell? ⟨w2.heap.size + 1 + 1 + 1, 1, none⟩ = some (.int .i64 D) ∧ w'.cell? ⟨w2.heap.size + 1 + 1 + 1, 2, none⟩ = some (.int .i64 J) ∧ w'.cell? ⟨w2.heap.size + 1 + 1 + 1, 3, none⟩ = some (.int .i64 (S + 1)) ∧ w'.cell? ⟨w2.heap.size + 1 + 1 + 1 + 1, 0, none⟩ = some (.int .i64 W) ∧ w'.cell? ⟨w2.heap.size + 1 + 1 + 1 + 1, 1, none⟩ = some (.int .i64 (D + 1)) ∧ w'.cell? ⟨w2.heap.size + 1 + 1 + 1 + 1, 2, none⟩ = some (.int .i64 J) ∧ w'.cell? ⟨w2.heap.size + 1 + 1 + 1 + 1, 3, none⟩ = some (.int .i64 S) ∧ w'.cell? ⟨w2.heap.size + 1 + 1 + 1 + 1 + 1, 0, none⟩ = some (.int .i64 0) ∧ w'.cell? ⟨w2.heap.size + 1 + 1 + 1 + 1 + 1, 1, none⟩ = some (.int .i64 D) ∧ w'.cell? ⟨w2.heap.size + 1 + 1 + 1 + 1 + 1, 2, none⟩ = some (.int .i64 J) ∧ w'.cell? ⟨w2.heap.size + 1 + 1 + 1 + 1 + 1, 3, none⟩ = some (.int .i64 S) ∧ w'.cell? ⟨w.heap.size, 0, none⟩ = some (.int .i64 W) ∧ w'.cell? ⟨w.heap.size, 1, none⟩ = some (.int .i64 D) ∧ w'.cell? ⟨w.heap.size, 2, none⟩ = some (.int .i64 J) ∧ w'.cell? ⟨w.heap.size, 3, none⟩ = some (.int .i64 S) ∧ Below w3.heap.size w3 w') (first | exact held_drew HK.out (fun _ h => h.2.2.2.2.2.2.2.2.2.2.2.2.2.2.2.2.2.2.2.2.2.2.2.2.2.2.2.2) (by assumption) | exact held_call HK.out (fun _ h => h.2.2.2.2.2.2.2.2.2.2.2.2.2.2.2.2.2.2.2.2.2.2.2.2.2.2.2.2) (by assumption) (by assumption))
    (first
      | (go_at_call 14; ((with_reducible refine (may_any _ _ _ _ _).mono ?_); rintro e w' ⟨rfl, hb⟩)))
  rename_i hS
  have HEND := Lib.hid (BW.trans ((hS.2.2.2.2.2.2.2.2.2.2.2.2.2.2.2.2.2.2.2.2.2.2.2.2.2.2.2.2).mono BW.size))
  go_wp2
  go_ret
  exact ⟨rfl, HEND.out⟩
theorem layMay_walk (W D J S : Int) (w : World) : Tells 7 #[cf W D J S] w (.bool true) := by
  cases hm : may W D J S
  · exact layMay_no W D J S w hm
  · exact layMay_yes W D J S w hm
end Go.Proofs.Ytmmojjpmnmjbkaa
