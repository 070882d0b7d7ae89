/- The walk of LayApart: two cells are one just if they are of one kind, of one worker, and of numbers that are the same, modulo how many there are. -/
import Derived.Test.YtmmojjpmnmjbkaaLayE
namespace Go.Proofs.Ytmmojjpmnmjbkaa
open Go.RowKit Go.Deep
/-- A cell by its kind. -/
def ps (D J a y x : Int) : Int := if a = 0 then 6 + x % J else if a = 1 then 6 + J + x % J else if a = 2 then bg D J y else if a = 3 then bg D J y + 1 else if a = 4 then bg D J y + 2 else bg D J y + 3 + x % D
theorem bg_step {D J y v : Int} (hD : 1 ≤ D) (h : y < v) : bg D J y + 3 + D ≤ bg D J v := by
  have h1 : (y + 1) * (3 + D) ≤ v * (3 + D) := Int.mul_le_mul_of_nonneg_right (by omega) (by omega)
  unfold bg
  rw [Int.add_mul] at h1
  omega
theorem bg_low {D J y : Int} (hD : 1 ≤ D) (h : 0 ≤ y) : 6 + 2 * J ≤ bg D J y := by
  have h1 : 0 ≤ y * (3 + D) := Int.mul_nonneg h (by omega)
  unfold bg
  omega
theorem six {a : Int} (h : 0 ≤ a ∧ a ≤ 5) : a = 0 ∨ a = 1 ∨ a = 2 ∨ a = 3 ∨ a = 4 ∨ a = 5 := by omega
theorem ps_lim {W D J a y x : Int} (hD : 1 ≤ D) (hJ : 1 ≤ J) (ha : 0 ≤ a ∧ a ≤ 5) (hy : 0 ≤ y ∧ y < W) : 6 ≤ ps D J a y x ∧ ps D J a y x < bg D J W := by
  have h1 := mod_lim x hD
  have h2 := mod_lim x hJ
  have h3 := bg_step (D := D) (J := J) hD hy.2
  have h4 := bg_low (D := D) (J := J) hD hy.1
  rcases six ha with rfl | rfl | rfl | rfl | rfl | rfl <;> simp only [ps] <;> simp <;> omega
theorem ps_ne {D J a b y v x z : Int} (hD : 1 ≤ D) (hJ : 1 ≤ J) (ha : 0 ≤ a ∧ a ≤ 5) (hb : 0 ≤ b ∧ b ≤ 5) (hy : 0 ≤ y) (hv : 0 ≤ v) (h : ¬ a = b) : ¬ ps D J a y x = ps D J b v z := by
  have h1 := mod_lim x hD
  have h2 := mod_lim x hJ
  have h3 := mod_lim z hD
  have h4 := mod_lim z hJ
  have h5 := bg_low (D := D) (J := J) hD hy
  have h6 := bg_low (D := D) (J := J) hD hv
  rcases Int.lt_trichotomy y v with hc | rfl | hc
  · have h7 := bg_step (D := D) (J := J) hD hc
    rcases six ha with rfl | rfl | rfl | rfl | rfl | rfl <;> rcases six hb with rfl | rfl | rfl | rfl | rfl | rfl <;> simp only [ps] <;> simp at h ⊢ <;> omega
  · rcases six ha with rfl | rfl | rfl | rfl | rfl | rfl <;> rcases six hb with rfl | rfl | rfl | rfl | rfl | rfl <;> simp only [ps] <;> simp at h ⊢ <;> omega
  · have h7 := bg_step (D := D) (J := J) hD hc
    rcases six ha with rfl | rfl | rfl | rfl | rfl | rfl <;> rcases six hb with rfl | rfl | rfl | rfl | rfl | rfl <;> simp only [ps] <;> simp at h ⊢ <;> omega
theorem ps_far {D J a y v x z : Int} (hD : 1 ≤ D) (ha : 2 ≤ a) (h : ¬ y = v) : ¬ ps D J a y x = ps D J a v z := by
  have h1 := mod_lim x hD
  have h3 := mod_lim z hD
  have h5 : ¬ a = 0 ∧ ¬ a = 1 := by omega
  rcases Int.lt_trichotomy y v with hc | hc | hc
  · have h7 := bg_step (D := D) (J := J) hD hc
    simp only [ps, if_neg h5.1, if_neg h5.2]
    (repeat' split) <;> omega
  · exact absurd hc h
  · have h7 := bg_step (D := D) (J := J) hD hc
    simp only [ps, if_neg h5.1, if_neg h5.2]
    (repeat' split) <;> omega
theorem ps_low {D J a y v x z : Int} (ha : a < 2) (h0 : 0 ≤ a) : (ps D J a y x == ps D J a v z) = (x % J == z % J) := by
  rw [Bool.eq_iff_iff, beq_iff_eq, beq_iff_eq]
  have h : a = 0 ∨ a = 1 := by omega
  rcases h with rfl | rfl <;> simp only [ps] <;> simp <;> omega
theorem ps_slot {D J y x z : Int} : (ps D J 5 y x == ps D J 5 y z) = (x % D == z % D) := by
  rw [Bool.eq_iff_iff, beq_iff_eq, beq_iff_eq]
  simp only [ps]
  simp
theorem ps_mid {D J a y x z : Int} (h0 : 2 ≤ a) (h1 : a < 5) : ps D J a y x = ps D J a y z := by
  have h : a = 2 ∨ a = 3 ∨ a = 4 := by omega
  rcases h with rfl | rfl | rfl <;> rfl
set_option maxHeartbeats 1000000 in
theorem spot_any (W D J S a y x : Int) (w : World) (hx : U x) (hm : may W D J S = true) (ha : 0 ≤ a ∧ a ≤ 5) (hy : 0 ≤ y ∧ y < W) : Tells 29 #[cf W D J S, .int .i64 a, .int .i64 y, .int .u64 x] w (.int .i64 (ps D J a y x)) := by
  have wy : wi y 0 (W - 1) = true := wi_true.2 ⟨by omega, by omega⟩
  have HX := Lib.hid hx
  have C0 := Lib.hid (fun w => Tells.of (seq_any W D J S x w hx) (v' := .int .i64 (6 + x % J)) (by unfold sq; rw [hm]; rfl))
  have C1 := Lib.hid (fun w => Tells.of (val_any W D J S x w hx) (v' := .int .i64 (6 + J + x % J)) (by unfold vl; rw [hm]; rfl))
  have C2 := Lib.hid (fun w => Tells.of (top_any W D J S y w) (v' := .int .i64 (bg D J y)) (by unfold ow; rw [hm, wy, Bool.and_self, if_pos rfl, Int.add_zero]))
  have C3 := Lib.hid (fun w => Tells.of (bottom_any W D J S y w) (v' := .int .i64 (bg D J y + 1)) (by unfold ow; rw [hm, wy]; rfl))
  have C4 := Lib.hid (fun w => Tells.of (park_any W D J S y w) (v' := .int .i64 (bg D J y + 2)) (by unfold ow; rw [hm, wy]; rfl))
  have C5 := Lib.hid (fun w => Tells.of (slot_any W D J S y x w hx) (v' := .int .i64 (bg D J y + 3 + x % D)) (by unfold sl; rw [hm, wy]; rfl))
  clear hx wy hm hy
  rcases six ha with rfl | rfl | rfl | rfl | rfl | rfl
  · clear ha
    show Tells _ _ _ (.int .i64 (6 + x % J))
    go_enter Try.func29, Try.ntmps29
    go_wp2_with fail
    refine (C0.out _).mono ?_
    rintro _ w1 ⟨rfl, z1⟩
    have HZ := Lib.hid ((box_below w _).trans (z1.mono (by simp)))
    clear z1
    go_wp2
    go_ret
    exact ⟨rfl, HZ.out⟩
  · clear ha
    show Tells _ _ _ (.int .i64 (6 + J + x % J))
    go_enter Try.func29, Try.ntmps29
    go_wp2_with fail
    refine (C1.out _).mono ?_
    rintro _ w1 ⟨rfl, z1⟩
    have HZ := Lib.hid ((box_below w _).trans (z1.mono (by simp)))
    clear z1
    go_wp2
    go_ret
    exact ⟨rfl, HZ.out⟩
  · clear ha
    show Tells _ _ _ (.int .i64 (bg D J y))
    go_enter Try.func29, Try.ntmps29
    go_wp2_with fail
    refine (C2.out _).mono ?_
    rintro _ w1 ⟨rfl, z1⟩
    have HZ := Lib.hid ((box_below w _).trans (z1.mono (by simp)))
    clear z1
    go_wp2
    go_ret
    exact ⟨rfl, HZ.out⟩
  · clear ha
    show Tells _ _ _ (.int .i64 (bg D J y + 1))
    go_enter Try.func29, Try.ntmps29
    go_wp2_with fail
    refine (C3.out _).mono ?_
    rintro _ w1 ⟨rfl, z1⟩
    have HZ := Lib.hid ((box_below w _).trans (z1.mono (by simp)))
    clear z1
    go_wp2
    go_ret
    exact ⟨rfl, HZ.out⟩
  · clear ha
    show Tells _ _ _ (.int .i64 (bg D J y + 2))
    go_enter Try.func29, Try.ntmps29
    go_wp2_with fail
    refine (C4.out _).mono ?_
    rintro _ w1 ⟨rfl, z1⟩
    have HZ := Lib.hid ((box_below w _).trans (z1.mono (by simp)))
    clear z1
    go_wp2
    go_ret
    exact ⟨rfl, HZ.out⟩
  · clear ha
    show Tells _ _ _ (.int .i64 (bg D J y + 3 + x % D))
    go_enter Try.func29, Try.ntmps29
    go_wp2_with fail
    refine (C5.out _).mono ?_
    rintro _ w1 ⟨rfl, z1⟩
    have HZ := Lib.hid ((box_below w _).trans (z1.mono (by simp)))
    clear z1
    go_wp2
    go_ret
    exact ⟨rfl, HZ.out⟩
set_option maxHeartbeats 1000000 in
theorem layApart_a (W D J S a y x b v z : Int) (w : World) (hm : may W D J S = false) : Tells 4 #[cf W D J S, .int .i64 a, .int .i64 y, .int .u64 x, .int .i64 b, .int .i64 v, .int .u64 z] w (.bool true) := by
  have HM := Lib.hid hm
  clear hm
  go_enter Try.func4, Try.ntmps4
  go_wp2_with fail
  have Bc := Lib.hid (Bx.mk w W D J S 23)
  obtain ⟨g_c, c0_c, c1_c, c2_c, c3_c⟩ := Bc.out
  refine (awake_any _).mono ?_
  rintro _ w1 ⟨rfl, z1⟩
  have HZ := Lib.hid ((box_below w _).trans (z1.mono (by simp)))
  clear g_c c0_c c1_c c2_c c3_c
  replace Bc := Lib.hid (Bc.out.below z1)
  obtain ⟨g_c, c0_c, c1_c, c2_c, c3_c⟩ := Bc.out
  clear z1
  go_wp2_with fail
  refine (Tells.of (may_any W D J S _) (v' := .bool false) (by rw [HM.out])).mono ?_
  rintro _ w2 ⟨rfl, z2⟩
  replace HZ := Lib.hid (HZ.out.trans (z2.mono HZ.out.size))
  clear g_c c0_c c1_c c2_c c3_c
  replace Bc := Lib.hid (Bc.out.below z2)
  obtain ⟨g_c, c0_c, c1_c, c2_c, c3_c⟩ := Bc.out
  clear z2
  go_wp2
  go_ret
  exact ⟨rfl, HZ.out⟩
set_option maxHeartbeats 1000000 in
theorem layApart_b (W D J S a y x b v z : Int) (w : World) (hm : may W D J S = true) (hy : (a < 0) ∨ (¬ a < 0 ∧ 5 < a) ∨ (¬ a < 0 ∧ ¬ 5 < a ∧ b < 0) ∨ (¬ a < 0 ∧ ¬ 5 < a ∧ ¬ b < 0 ∧ 5 < b) ∨ (¬ a < 0 ∧ ¬ 5 < a ∧ ¬ b < 0 ∧ ¬ 5 < b ∧ y < 0) ∨ (¬ a < 0 ∧ ¬ 5 < a ∧ ¬ b < 0 ∧ ¬ 5 < b ∧ ¬ y < 0 ∧ v < 0) ∨ (¬ a < 0 ∧ ¬ 5 < a ∧ ¬ b < 0 ∧ ¬ 5 < b ∧ ¬ y < 0 ∧ ¬ v < 0 ∧ W ≤ y) ∨ (¬ a < 0 ∧ ¬ 5 < a ∧ ¬ b < 0 ∧ ¬ 5 < b ∧ ¬ y < 0 ∧ ¬ v < 0 ∧ ¬ W ≤ y ∧ W ≤ v)) : Tells 4 #[cf W D J S, .int .i64 a, .int .i64 y, .int .u64 x, .int .i64 b, .int .i64 v, .int .u64 z] w (.bool true) := by
  have HM := Lib.hid hm
  obtain ⟨⟨w1', w2'⟩, ⟨d1, d2⟩, ⟨j1, j2⟩, ⟨s1, s2⟩⟩ := may_lim hm
  clear hm
  rcases hy with k0 | ⟨k0, k1⟩ | ⟨k0, k1, k2⟩ | ⟨k0, k1, k2, k3⟩ | ⟨k0, k1, k2, k3, k4⟩ | ⟨k0, k1, k2, k3, k4, k5⟩ | ⟨k0, k1, k2, k3, k4, k5, k6⟩ | ⟨k0, k1, k2, k3, k4, k5, k6, k7⟩
  all_goals
    go_enter Try.func4, Try.ntmps4
    go_wp2_with fail
    have Bc := Lib.hid (Bx.mk w W D J S 23)
    obtain ⟨g_c, c0_c, c1_c, c2_c, c3_c⟩ := Bc.out
    refine (awake_any _).mono ?_
    rintro _ w1 ⟨rfl, z1⟩
    have HZ := Lib.hid ((box_below w _).trans (z1.mono (by simp)))
    clear g_c c0_c c1_c c2_c c3_c
    replace Bc := Lib.hid (Bc.out.below z1)
    obtain ⟨g_c, c0_c, c1_c, c2_c, c3_c⟩ := Bc.out
    clear z1
    go_wp2_with fail
    refine (Tells.of (may_any W D J S _) (v' := .bool true) (by rw [HM.out])).mono ?_
    rintro _ w2 ⟨rfl, z2⟩
    replace HZ := Lib.hid (HZ.out.trans (z2.mono HZ.out.size))
    clear g_c c0_c c1_c c2_c c3_c
    replace Bc := Lib.hid (Bc.out.below z2)
    obtain ⟨g_c, c0_c, c1_c, c2_c, c3_c⟩ := Bc.out
    clear z2
    go_wp2
    go_ret
    exact ⟨rfl, HZ.out⟩
theorem below_dn {B : Nat} {a w : World} (h : Below B a w) (q : Nat) : Below B a (w.drewN q) := ⟨h.os, h.tape, h.output, h.size, h.block⟩
theorem mod_t {x n : Int} (h : 0 ≤ x) : x.tmod n = x % n := Int.tmod_eq_emod_of_nonneg h
set_option maxHeartbeats 1000000 in
theorem layApart_c (W D J S a y x b v z : Int) (w : World) (hx : U x) (hz : U z) (hm : may W D J S = true) (ha : 0 ≤ a ∧ a ≤ 5) (hb : 0 ≤ b ∧ b ≤ 5) (hy : 0 ≤ y ∧ y < W) (hv : 0 ≤ v ∧ v < W) (hne : ¬ a = b) (hpq : (ps D J a y x == ps D J b v z) = false) : Tells 4 #[cf W D J S, .int .i64 a, .int .i64 y, .int .u64 x, .int .i64 b, .int .i64 v, .int .u64 z] w (.bool true) := by
  have HM := Lib.hid hm
  obtain ⟨⟨w1', w2'⟩, ⟨d1, d2⟩, ⟨j1, j2⟩, ⟨s1, s2⟩⟩ := may_lim hm
  obtain ⟨p0, p1⟩ := ps_lim (x := x) d1 j1 ha hy
  obtain ⟨q0, q1⟩ := ps_lim (x := z) d1 j1 hb hv
  have CP := Lib.hid (fun w => spot_any W D J S a y x w hx hm ha hy)
  have CQ := Lib.hid (fun w => spot_any W D J S b v z w hz hm hb hv)
  have CS := Lib.hid (fun w => Tells.of (size_any W D J S w) (v' := .int .i64 (bg D J W)) (by unfold sz; rw [hm]; rfl))
  have HPQ := Lib.hid hpq
  have x0 : 0 ≤ x := hx.1
  have z0 : 0 ≤ z := hz.1
  have x1 : x < 18446744073709551616 := hx.2
  have z1 : z < 18446744073709551616 := hz.2
  clear hx hz hm hpq
  have k0 : ¬ a < 0 := by omega
  have k1 : ¬ 5 < a := by omega
  have k2 : ¬ b < 0 := by omega
  have k3 : ¬ 5 < b := by omega
  have k4 : ¬ y < 0 := by omega
  have k5 : ¬ v < 0 := by omega
  have k6 : ¬ W ≤ y := by omega
  have k7 : ¬ W ≤ v := by omega
  generalize ps D J a y x = p at *
  generalize ps D J b v z = q at *
  generalize bg D J W = N at *
  clear ha hb hy hv
  by_cases h2 : a < 2
  · have h5 : ¬ a = 5 := by omega
    have hab := Lib.hid hne
    clear hne
    go_enter Try.func4, Try.ntmps4
    go_wp2_with fail
    have Bc := Lib.hid (Bx.mk w W D J S 23)
    obtain ⟨g_c, c0_c, c1_c, c2_c, c3_c⟩ := Bc.out
    refine (awake_any _).mono ?_
    rintro _ w1 ⟨rfl, z1⟩
    have HZ := Lib.hid ((box_below w _).trans (z1.mono (by simp)))
    clear g_c c0_c c1_c c2_c c3_c
    replace Bc := Lib.hid (Bc.out.below z1)
    obtain ⟨g_c, c0_c, c1_c, c2_c, c3_c⟩ := Bc.out
    clear z1
    go_wp2_with fail
    refine (Tells.of (may_any W D J S _) (v' := .bool true) (by rw [HM.out])).mono ?_
    rintro _ w2 ⟨rfl, z2⟩
    replace HZ := Lib.hid (HZ.out.trans (z2.mono HZ.out.size))
    clear g_c c0_c c1_c c2_c c3_c
    replace Bc := Lib.hid (Bc.out.below z2)
    obtain ⟨g_c, c0_c, c1_c, c2_c, c3_c⟩ := Bc.out
    clear z2
    go_wp2_with fail
    refine (CP.out _).mono ?_
    rintro _ w3 ⟨rfl, z3⟩
    replace HZ := Lib.hid (HZ.out.trans (z3.mono HZ.out.size))
    clear g_c c0_c c1_c c2_c c3_c
    replace Bc := Lib.hid (Bc.out.below z3)
    obtain ⟨g_c, c0_c, c1_c, c2_c, c3_c⟩ := Bc.out
    clear z3
    go_wp2_with fail
    refine (CQ.out _).mono ?_
    rintro _ w4 ⟨rfl, z4⟩
    replace HZ := Lib.hid (HZ.out.trans (z4.mono HZ.out.size))
    clear g_c c0_c c1_c c2_c c3_c
    replace Bc := Lib.hid (Bc.out.below z4)
    obtain ⟨g_c, c0_c, c1_c, c2_c, c3_c⟩ := Bc.out
    clear z4
    go_wp2_with fail
    have e1 : (a == b) = false := by simp [hab.out]
    go_quiet (fail)
    have hpq := HPQ.out
    have l1 : decide (6 ≤ p) = true := by simp; omega
    have l2 : decide (6 ≤ q) = true := by simp; omega
    have l3 : decide (p < N) = true := by simp; omega
    have l4 : decide (q < N) = true := by simp; omega
    go_wp2_with fail
    refine (CS.out _).mono ?_
    rintro _ w5 ⟨rfl, z5⟩
    replace HZ := Lib.hid ((below_dn HZ.out _).trans (z5.mono HZ.out.size))
    clear g_c c0_c c1_c c2_c c3_c
    replace Bc := Lib.hid ((Bc.out.below (below_drewN _ _)).below z5)
    obtain ⟨g_c, c0_c, c1_c, c2_c, c3_c⟩ := Bc.out
    clear z5
    go_wp2_with fail
    refine (CS.out _).mono ?_
    rintro _ w6 ⟨rfl, z6⟩
    replace HZ := Lib.hid (HZ.out.trans (z6.mono HZ.out.size))
    clear g_c c0_c c1_c c2_c c3_c
    replace Bc := Lib.hid (Bc.out.below z6)
    obtain ⟨g_c, c0_c, c1_c, c2_c, c3_c⟩ := Bc.out
    clear z6
    go_wp2
    go_ret
    exact ⟨rfl, HZ.out⟩
  · by_cases h5 : a = 5
    · have hab := Lib.hid hne
      clear hne
      have H5 := Lib.hid h5
      subst h5
      go_enter Try.func4, Try.ntmps4
      go_wp2_with fail
      have Bc := Lib.hid (Bx.mk w W D J S 23)
      obtain ⟨g_c, c0_c, c1_c, c2_c, c3_c⟩ := Bc.out
      refine (awake_any _).mono ?_
      rintro _ w1 ⟨rfl, z1⟩
      have HZ := Lib.hid ((box_below w _).trans (z1.mono (by simp)))
      clear g_c c0_c c1_c c2_c c3_c
      replace Bc := Lib.hid (Bc.out.below z1)
      obtain ⟨g_c, c0_c, c1_c, c2_c, c3_c⟩ := Bc.out
      clear z1
      go_wp2_with fail
      refine (Tells.of (may_any W D J S _) (v' := .bool true) (by rw [HM.out])).mono ?_
      rintro _ w2 ⟨rfl, z2⟩
      replace HZ := Lib.hid (HZ.out.trans (z2.mono HZ.out.size))
      clear g_c c0_c c1_c c2_c c3_c
      replace Bc := Lib.hid (Bc.out.below z2)
      obtain ⟨g_c, c0_c, c1_c, c2_c, c3_c⟩ := Bc.out
      clear z2
      go_wp2_with fail
      refine (CP.out _).mono ?_
      rintro _ w3 ⟨rfl, z3⟩
      replace HZ := Lib.hid (HZ.out.trans (z3.mono HZ.out.size))
      clear g_c c0_c c1_c c2_c c3_c
      replace Bc := Lib.hid (Bc.out.below z3)
      obtain ⟨g_c, c0_c, c1_c, c2_c, c3_c⟩ := Bc.out
      clear z3
      go_wp2_with fail
      refine (CQ.out _).mono ?_
      rintro _ w4 ⟨rfl, z4⟩
      replace HZ := Lib.hid (HZ.out.trans (z4.mono HZ.out.size))
      clear g_c c0_c c1_c c2_c c3_c
      replace Bc := Lib.hid (Bc.out.below z4)
      obtain ⟨g_c, c0_c, c1_c, c2_c, c3_c⟩ := Bc.out
      clear z4
      go_wp2_with fail
      have e1 : ((5 : Int) == b) = false := by simpa using hab.out
      go_quiet (fail)
      have hpq := HPQ.out
      have l1 : decide (6 ≤ p) = true := by simp; omega
      have l2 : decide (6 ≤ q) = true := by simp; omega
      have l3 : decide (p < N) = true := by simp; omega
      have l4 : decide (q < N) = true := by simp; omega
      go_wp2_with fail
      refine (CS.out _).mono ?_
      rintro _ w5 ⟨rfl, z5⟩
      replace HZ := Lib.hid ((below_dn HZ.out _).trans (z5.mono HZ.out.size))
      clear g_c c0_c c1_c c2_c c3_c
      replace Bc := Lib.hid ((Bc.out.below (below_drewN _ _)).below z5)
      obtain ⟨g_c, c0_c, c1_c, c2_c, c3_c⟩ := Bc.out
      clear z5
      go_wp2_with fail
      refine (CS.out _).mono ?_
      rintro _ w6 ⟨rfl, z6⟩
      replace HZ := Lib.hid (HZ.out.trans (z6.mono HZ.out.size))
      clear g_c c0_c c1_c c2_c c3_c
      replace Bc := Lib.hid (Bc.out.below z6)
      obtain ⟨g_c, c0_c, c1_c, c2_c, c3_c⟩ := Bc.out
      clear z6
      go_wp2
      go_ret
      exact ⟨rfl, HZ.out⟩
    · have hab := Lib.hid hne
      clear hne
      go_enter Try.func4, Try.ntmps4
      go_wp2_with fail
      have Bc := Lib.hid (Bx.mk w W D J S 23)
      obtain ⟨g_c, c0_c, c1_c, c2_c, c3_c⟩ := Bc.out
      refine (awake_any _).mono ?_
      rintro _ w1 ⟨rfl, z1⟩
      have HZ := Lib.hid ((box_below w _).trans (z1.mono (by simp)))
      clear g_c c0_c c1_c c2_c c3_c
      replace Bc := Lib.hid (Bc.out.below z1)
      obtain ⟨g_c, c0_c, c1_c, c2_c, c3_c⟩ := Bc.out
      clear z1
      go_wp2_with fail
      refine (Tells.of (may_any W D J S _) (v' := .bool true) (by rw [HM.out])).mono ?_
      rintro _ w2 ⟨rfl, z2⟩
      replace HZ := Lib.hid (HZ.out.trans (z2.mono HZ.out.size))
      clear g_c c0_c c1_c c2_c c3_c
      replace Bc := Lib.hid (Bc.out.below z2)
      obtain ⟨g_c, c0_c, c1_c, c2_c, c3_c⟩ := Bc.out
      clear z2
      go_wp2_with fail
      refine (CP.out _).mono ?_
      rintro _ w3 ⟨rfl, z3⟩
      replace HZ := Lib.hid (HZ.out.trans (z3.mono HZ.out.size))
      clear g_c c0_c c1_c c2_c c3_c
      replace Bc := Lib.hid (Bc.out.below z3)
      obtain ⟨g_c, c0_c, c1_c, c2_c, c3_c⟩ := Bc.out
      clear z3
      go_wp2_with fail
      refine (CQ.out _).mono ?_
      rintro _ w4 ⟨rfl, z4⟩
      replace HZ := Lib.hid (HZ.out.trans (z4.mono HZ.out.size))
      clear g_c c0_c c1_c c2_c c3_c
      replace Bc := Lib.hid (Bc.out.below z4)
      obtain ⟨g_c, c0_c, c1_c, c2_c, c3_c⟩ := Bc.out
      clear z4
      go_wp2_with fail
      have e1 : (a == b) = false := by simp [hab.out]
      go_quiet (fail)
      have hpq := HPQ.out
      have l1 : decide (6 ≤ p) = true := by simp; omega
      have l2 : decide (6 ≤ q) = true := by simp; omega
      have l3 : decide (p < N) = true := by simp; omega
      have l4 : decide (q < N) = true := by simp; omega
      go_wp2_with fail
      refine (CS.out _).mono ?_
      rintro _ w5 ⟨rfl, z5⟩
      replace HZ := Lib.hid ((below_dn HZ.out _).trans (z5.mono HZ.out.size))
      clear g_c c0_c c1_c c2_c c3_c
      replace Bc := Lib.hid ((Bc.out.below (below_drewN _ _)).below z5)
      obtain ⟨g_c, c0_c, c1_c, c2_c, c3_c⟩ := Bc.out
      clear z5
      go_wp2_with fail
      refine (CS.out _).mono ?_
      rintro _ w6 ⟨rfl, z6⟩
      replace HZ := Lib.hid (HZ.out.trans (z6.mono HZ.out.size))
      clear g_c c0_c c1_c c2_c c3_c
      replace Bc := Lib.hid (Bc.out.below z6)
      obtain ⟨g_c, c0_c, c1_c, c2_c, c3_c⟩ := Bc.out
      clear z6
      go_wp2
      go_ret
      exact ⟨rfl, HZ.out⟩
set_option maxHeartbeats 1000000 in
theorem layApart_d (W D J S a y x v z : Int) (w : World) (hx : U x) (hz : U z) (hm : may W D J S = true) (ha : 0 ≤ a ∧ a ≤ 5) (hb : 0 ≤ a ∧ a ≤ 5) (hy : 0 ≤ y ∧ y < W) (hv : 0 ≤ v ∧ v < W) (h2 : a < 2) (hpq : (ps D J a y x == ps D J a v z) = (x % J == z % J)) : Tells 4 #[cf W D J S, .int .i64 a, .int .i64 y, .int .u64 x, .int .i64 a, .int .i64 v, .int .u64 z] w (.bool true) := by
  have HM := Lib.hid hm
  obtain ⟨⟨w1', w2'⟩, ⟨d1, d2⟩, ⟨j1, j2⟩, ⟨s1, s2⟩⟩ := may_lim hm
  obtain ⟨p0, p1⟩ := ps_lim (x := x) d1 j1 ha hy
  obtain ⟨q0, q1⟩ := ps_lim (x := z) d1 j1 hb hv
  have CP := Lib.hid (fun w => spot_any W D J S a y x w hx hm ha hy)
  have CQ := Lib.hid (fun w => spot_any W D J S a v z w hz hm hb hv)
  have CS := Lib.hid (fun w => Tells.of (size_any W D J S w) (v' := .int .i64 (bg D J W)) (by unfold sz; rw [hm]; rfl))
  have HPQ := Lib.hid hpq
  have x0 : 0 ≤ x := hx.1
  have z0 : 0 ≤ z := hz.1
  have x1 : x < 18446744073709551616 := hx.2
  have z1 : z < 18446744073709551616 := hz.2
  clear hx hz hm hpq
  have k0 : ¬ a < 0 := by omega
  have k1 : ¬ 5 < a := by omega
  have k4 : ¬ y < 0 := by omega
  have k5 : ¬ v < 0 := by omega
  have k6 : ¬ W ≤ y := by omega
  have k7 : ¬ W ≤ v := by omega
  generalize ps D J a y x = p at *
  generalize ps D J a v z = q at *
  generalize bg D J W = N at *
  clear ha hb hy hv
  have h5 : ¬ a = 5 := by omega
  go_enter Try.func4, Try.ntmps4
  go_wp2_with fail
  have Bc := Lib.hid (Bx.mk w W D J S 23)
  obtain ⟨g_c, c0_c, c1_c, c2_c, c3_c⟩ := Bc.out
  refine (awake_any _).mono ?_
  rintro _ w1 ⟨rfl, z1⟩
  have HZ := Lib.hid ((box_below w _).trans (z1.mono (by simp)))
  clear g_c c0_c c1_c c2_c c3_c
  replace Bc := Lib.hid (Bc.out.below z1)
  obtain ⟨g_c, c0_c, c1_c, c2_c, c3_c⟩ := Bc.out
  clear z1
  go_wp2_with fail
  refine (Tells.of (may_any W D J S _) (v' := .bool true) (by rw [HM.out])).mono ?_
  rintro _ w2 ⟨rfl, z2⟩
  replace HZ := Lib.hid (HZ.out.trans (z2.mono HZ.out.size))
  clear g_c c0_c c1_c c2_c c3_c
  replace Bc := Lib.hid (Bc.out.below z2)
  obtain ⟨g_c, c0_c, c1_c, c2_c, c3_c⟩ := Bc.out
  clear z2
  go_wp2_with fail
  refine (CP.out _).mono ?_
  rintro _ w3 ⟨rfl, z3⟩
  replace HZ := Lib.hid (HZ.out.trans (z3.mono HZ.out.size))
  clear g_c c0_c c1_c c2_c c3_c
  replace Bc := Lib.hid (Bc.out.below z3)
  obtain ⟨g_c, c0_c, c1_c, c2_c, c3_c⟩ := Bc.out
  clear z3
  go_wp2_with fail
  refine (CQ.out _).mono ?_
  rintro _ w4 ⟨rfl, z4⟩
  replace HZ := Lib.hid (HZ.out.trans (z4.mono HZ.out.size))
  clear g_c c0_c c1_c c2_c c3_c
  replace Bc := Lib.hid (Bc.out.below z4)
  obtain ⟨g_c, c0_c, c1_c, c2_c, c3_c⟩ := Bc.out
  clear z4
  go_wp2_with fail
  have e0 : (a == a) = true := by simp
  have d2 : decide (a < 2) = true := by simp; omega
  have t1 : x.tmod J = x % J := mod_t x0
  have t2 : z.tmod J = z % J := mod_t z0
  have t3 : ¬ J = 0 := by omega
  have t4 : (J == 0) = false := by simp; omega
  go_quiet (fail)
  have hpq := HPQ.out
  have l1 : decide (6 ≤ p) = true := by simp; omega
  have l2 : decide (6 ≤ q) = true := by simp; omega
  have l3 : decide (p < N) = true := by simp; omega
  have l4 : decide (q < N) = true := by simp; omega
  go_wp2_with fail
  refine (CS.out _).mono ?_
  rintro _ w5 ⟨rfl, z5⟩
  replace HZ := Lib.hid ((below_dn HZ.out _).trans (z5.mono HZ.out.size))
  clear g_c c0_c c1_c c2_c c3_c
  replace Bc := Lib.hid ((Bc.out.below (below_drewN _ _)).below z5)
  obtain ⟨g_c, c0_c, c1_c, c2_c, c3_c⟩ := Bc.out
  clear z5
  go_wp2_with fail
  refine (CS.out _).mono ?_
  rintro _ w6 ⟨rfl, z6⟩
  replace HZ := Lib.hid (HZ.out.trans (z6.mono HZ.out.size))
  clear g_c c0_c c1_c c2_c c3_c
  replace Bc := Lib.hid (Bc.out.below z6)
  obtain ⟨g_c, c0_c, c1_c, c2_c, c3_c⟩ := Bc.out
  clear z6
  go_wp2
  go_ret
  exact ⟨rfl, HZ.out⟩
set_option maxHeartbeats 1000000 in
theorem layApart_e (W D J S y x v z : Int) (w : World) (hx : U x) (hz : U z) (hm : may W D J S = true) (ha : (0 : Int) ≤ 5 ∧ (5 : Int) ≤ 5) (hb : (0 : Int) ≤ 5 ∧ (5 : Int) ≤ 5) (hy : 0 ≤ y ∧ y < W) (hv : 0 ≤ v ∧ v < W) (hne : ¬ y = v) (hpq : (ps D J 5 y x == ps D J 5 v z) = false) : Tells 4 #[cf W D J S, .int .i64 5, .int .i64 y, .int .u64 x, .int .i64 5, .int .i64 v, .int .u64 z] w (.bool true) := by
  have HM := Lib.hid hm
  obtain ⟨⟨w1', w2'⟩, ⟨d1, d2⟩, ⟨j1, j2⟩, ⟨s1, s2⟩⟩ := may_lim hm
  obtain ⟨p0, p1⟩ := ps_lim (x := x) d1 j1 ha hy
  obtain ⟨q0, q1⟩ := ps_lim (x := z) d1 j1 hb hv
  have CP := Lib.hid (fun w => spot_any W D J S 5 y x w hx hm ha hy)
  have CQ := Lib.hid (fun w => spot_any W D J S 5 v z w hz hm hb hv)
  have CS := Lib.hid (fun w => Tells.of (size_any W D J S w) (v' := .int .i64 (bg D J W)) (by unfold sz; rw [hm]; rfl))
  have HPQ := Lib.hid hpq
  have x0 : 0 ≤ x := hx.1
  have z0 : 0 ≤ z := hz.1
  have x1 : x < 18446744073709551616 := hx.2
  have z1 : z < 18446744073709551616 := hz.2
  clear hx hz hm hpq
  have k4 : ¬ y < 0 := by omega
  have k5 : ¬ v < 0 := by omega
  have k6 : ¬ W ≤ y := by omega
  have k7 : ¬ W ≤ v := by omega
  generalize ps D J 5 y x = p at *
  generalize ps D J 5 v z = q at *
  generalize bg D J W = N at *
  clear ha hb hy hv
  have HNE := Lib.hid hne
  clear hne
  go_enter Try.func4, Try.ntmps4
  go_wp2_with fail
  have Bc := Lib.hid (Bx.mk w W D J S 23)
  obtain ⟨g_c, c0_c, c1_c, c2_c, c3_c⟩ := Bc.out
  refine (awake_any _).mono ?_
  rintro _ w1 ⟨rfl, z1⟩
  have HZ := Lib.hid ((box_below w _).trans (z1.mono (by simp)))
  clear g_c c0_c c1_c c2_c c3_c
  replace Bc := Lib.hid (Bc.out.below z1)
  obtain ⟨g_c, c0_c, c1_c, c2_c, c3_c⟩ := Bc.out
  clear z1
  go_wp2_with fail
  refine (Tells.of (may_any W D J S _) (v' := .bool true) (by rw [HM.out])).mono ?_
  rintro _ w2 ⟨rfl, z2⟩
  replace HZ := Lib.hid (HZ.out.trans (z2.mono HZ.out.size))
  clear g_c c0_c c1_c c2_c c3_c
  replace Bc := Lib.hid (Bc.out.below z2)
  obtain ⟨g_c, c0_c, c1_c, c2_c, c3_c⟩ := Bc.out
  clear z2
  go_wp2_with fail
  refine (CP.out _).mono ?_
  rintro _ w3 ⟨rfl, z3⟩
  replace HZ := Lib.hid (HZ.out.trans (z3.mono HZ.out.size))
  clear g_c c0_c c1_c c2_c c3_c
  replace Bc := Lib.hid (Bc.out.below z3)
  obtain ⟨g_c, c0_c, c1_c, c2_c, c3_c⟩ := Bc.out
  clear z3
  go_wp2_with fail
  refine (CQ.out _).mono ?_
  rintro _ w4 ⟨rfl, z4⟩
  replace HZ := Lib.hid (HZ.out.trans (z4.mono HZ.out.size))
  clear g_c c0_c c1_c c2_c c3_c
  replace Bc := Lib.hid (Bc.out.below z4)
  obtain ⟨g_c, c0_c, c1_c, c2_c, c3_c⟩ := Bc.out
  clear z4
  go_wp2_with fail
  have e1 : (y == v) = false := by simp [HNE.out]
  go_quiet (fail)
  have hpq := HPQ.out
  have l1 : decide (6 ≤ p) = true := by simp; omega
  have l2 : decide (6 ≤ q) = true := by simp; omega
  have l3 : decide (p < N) = true := by simp; omega
  have l4 : decide (q < N) = true := by simp; omega
  go_wp2_with fail
  refine (CS.out _).mono ?_
  rintro _ w5 ⟨rfl, z5⟩
  replace HZ := Lib.hid ((below_dn HZ.out _).trans (z5.mono HZ.out.size))
  clear g_c c0_c c1_c c2_c c3_c
  replace Bc := Lib.hid ((Bc.out.below (below_drewN _ _)).below z5)
  obtain ⟨g_c, c0_c, c1_c, c2_c, c3_c⟩ := Bc.out
  clear z5
  go_wp2_with fail
  refine (CS.out _).mono ?_
  rintro _ w6 ⟨rfl, z6⟩
  replace HZ := Lib.hid (HZ.out.trans (z6.mono HZ.out.size))
  clear g_c c0_c c1_c c2_c c3_c
  replace Bc := Lib.hid (Bc.out.below z6)
  obtain ⟨g_c, c0_c, c1_c, c2_c, c3_c⟩ := Bc.out
  clear z6
  go_wp2
  go_ret
  exact ⟨rfl, HZ.out⟩
set_option maxHeartbeats 1000000 in
theorem layApart_f (W D J S y x z : Int) (w : World) (hx : U x) (hz : U z) (hm : may W D J S = true) (ha : (0 : Int) ≤ 5 ∧ (5 : Int) ≤ 5) (hb : (0 : Int) ≤ 5 ∧ (5 : Int) ≤ 5) (hy : 0 ≤ y ∧ y < W) (hpq : (ps D J 5 y x == ps D J 5 y z) = (x % D == z % D)) : Tells 4 #[cf W D J S, .int .i64 5, .int .i64 y, .int .u64 x, .int .i64 5, .int .i64 y, .int .u64 z] w (.bool true) := by
  have HM := Lib.hid hm
  obtain ⟨⟨w1', w2'⟩, ⟨d1, d2⟩, ⟨j1, j2⟩, ⟨s1, s2⟩⟩ := may_lim hm
  obtain ⟨p0, p1⟩ := ps_lim (x := x) d1 j1 ha hy
  obtain ⟨q0, q1⟩ := ps_lim (x := z) d1 j1 hb hy
  have CP := Lib.hid (fun w => spot_any W D J S 5 y x w hx hm ha hy)
  have CQ := Lib.hid (fun w => spot_any W D J S 5 y z w hz hm hb hy)
  have CS := Lib.hid (fun w => Tells.of (size_any W D J S w) (v' := .int .i64 (bg D J W)) (by unfold sz; rw [hm]; rfl))
  have HPQ := Lib.hid hpq
  have x0 : 0 ≤ x := hx.1
  have z0 : 0 ≤ z := hz.1
  have x1 : x < 18446744073709551616 := hx.2
  have z1 : z < 18446744073709551616 := hz.2
  clear hx hz hm hpq
  have k4 : ¬ y < 0 := by omega
  have k6 : ¬ W ≤ y := by omega
  generalize ps D J 5 y x = p at *
  generalize ps D J 5 y z = q at *
  generalize bg D J W = N at *
  clear ha hb hy
  go_enter Try.func4, Try.ntmps4
  go_wp2_with fail
  have Bc := Lib.hid (Bx.mk w W D J S 23)
  obtain ⟨g_c, c0_c, c1_c, c2_c, c3_c⟩ := Bc.out
  refine (awake_any _).mono ?_
  rintro _ w1 ⟨rfl, z1⟩
  have HZ := Lib.hid ((box_below w _).trans (z1.mono (by simp)))
  clear g_c c0_c c1_c c2_c c3_c
  replace Bc := Lib.hid (Bc.out.below z1)
  obtain ⟨g_c, c0_c, c1_c, c2_c, c3_c⟩ := Bc.out
  clear z1
  go_wp2_with fail
  refine (Tells.of (may_any W D J S _) (v' := .bool true) (by rw [HM.out])).mono ?_
  rintro _ w2 ⟨rfl, z2⟩
  replace HZ := Lib.hid (HZ.out.trans (z2.mono HZ.out.size))
  clear g_c c0_c c1_c c2_c c3_c
  replace Bc := Lib.hid (Bc.out.below z2)
  obtain ⟨g_c, c0_c, c1_c, c2_c, c3_c⟩ := Bc.out
  clear z2
  go_wp2_with fail
  refine (CP.out _).mono ?_
  rintro _ w3 ⟨rfl, z3⟩
  replace HZ := Lib.hid (HZ.out.trans (z3.mono HZ.out.size))
  clear g_c c0_c c1_c c2_c c3_c
  replace Bc := Lib.hid (Bc.out.below z3)
  obtain ⟨g_c, c0_c, c1_c, c2_c, c3_c⟩ := Bc.out
  clear z3
  go_wp2_with fail
  refine (CQ.out _).mono ?_
  rintro _ w4 ⟨rfl, z4⟩
  replace HZ := Lib.hid (HZ.out.trans (z4.mono HZ.out.size))
  clear g_c c0_c c1_c c2_c c3_c
  replace Bc := Lib.hid (Bc.out.below z4)
  obtain ⟨g_c, c0_c, c1_c, c2_c, c3_c⟩ := Bc.out
  clear z4
  go_wp2_with fail
  have t1 : x.tmod D = x % D := mod_t x0
  have t2 : z.tmod D = z % D := mod_t z0
  have t3 : ¬ D = 0 := by omega
  have t4 : (D == 0) = false := by simp; omega
  go_quiet (fail)
  have hpq := HPQ.out
  have l1 : decide (6 ≤ p) = true := by simp; omega
  have l2 : decide (6 ≤ q) = true := by simp; omega
  have l3 : decide (p < N) = true := by simp; omega
  have l4 : decide (q < N) = true := by simp; omega
  go_wp2_with fail
  refine (CS.out _).mono ?_
  rintro _ w5 ⟨rfl, z5⟩
  replace HZ := Lib.hid ((below_dn HZ.out _).trans (z5.mono HZ.out.size))
  clear g_c c0_c c1_c c2_c c3_c
  replace Bc := Lib.hid ((Bc.out.below (below_drewN _ _)).below z5)
  obtain ⟨g_c, c0_c, c1_c, c2_c, c3_c⟩ := Bc.out
  clear z5
  go_wp2_with fail
  refine (CS.out _).mono ?_
  rintro _ w6 ⟨rfl, z6⟩
  replace HZ := Lib.hid (HZ.out.trans (z6.mono HZ.out.size))
  clear g_c c0_c c1_c c2_c c3_c
  replace Bc := Lib.hid (Bc.out.below z6)
  obtain ⟨g_c, c0_c, c1_c, c2_c, c3_c⟩ := Bc.out
  clear z6
  go_wp2
  go_ret
  exact ⟨rfl, HZ.out⟩
set_option maxHeartbeats 1000000 in
theorem layApart_g (W D J S a y x v z : Int) (w : World) (hx : U x) (hz : U z) (hm : may W D J S = true) (ha : 0 ≤ a ∧ a ≤ 5) (hb : 0 ≤ a ∧ a ≤ 5) (hy : 0 ≤ y ∧ y < W) (hv : 0 ≤ v ∧ v < W) (h2 : ¬ a < 2) (h5 : ¬ a = 5) (hne : ¬ y = v) (hpq : (ps D J a y x == ps D J a v z) = false) : Tells 4 #[cf W D J S, .int .i64 a, .int .i64 y, .int .u64 x, .int .i64 a, .int .i64 v, .int .u64 z] w (.bool true) := by
  have HM := Lib.hid hm
  obtain ⟨⟨w1', w2'⟩, ⟨d1, d2⟩, ⟨j1, j2⟩, ⟨s1, s2⟩⟩ := may_lim hm
  obtain ⟨p0, p1⟩ := ps_lim (x := x) d1 j1 ha hy
  obtain ⟨q0, q1⟩ := ps_lim (x := z) d1 j1 hb hv
  have CP := Lib.hid (fun w => spot_any W D J S a y x w hx hm ha hy)
  have CQ := Lib.hid (fun w => spot_any W D J S a v z w hz hm hb hv)
  have CS := Lib.hid (fun w => Tells.of (size_any W D J S w) (v' := .int .i64 (bg D J W)) (by unfold sz; rw [hm]; rfl))
  have HPQ := Lib.hid hpq
  have x0 : 0 ≤ x := hx.1
  have z0 : 0 ≤ z := hz.1
  have x1 : x < 18446744073709551616 := hx.2
  have z1 : z < 18446744073709551616 := hz.2
  clear hx hz hm hpq
  have k0 : ¬ a < 0 := by omega
  have k1 : ¬ 5 < a := by omega
  have k4 : ¬ y < 0 := by omega
  have k5 : ¬ v < 0 := by omega
  have k6 : ¬ W ≤ y := by omega
  have k7 : ¬ W ≤ v := by omega
  generalize ps D J a y x = p at *
  generalize ps D J a v z = q at *
  generalize bg D J W = N at *
  clear ha hb hy hv
  have HNE := Lib.hid hne
  clear hne
  go_enter Try.func4, Try.ntmps4
  go_wp2_with fail
  have Bc := Lib.hid (Bx.mk w W D J S 23)
  obtain ⟨g_c, c0_c, c1_c, c2_c, c3_c⟩ := Bc.out
  refine (awake_any _).mono ?_
  rintro _ w1 ⟨rfl, z1⟩
  have HZ := Lib.hid ((box_below w _).trans (z1.mono (by simp)))
  clear g_c c0_c c1_c c2_c c3_c
  replace Bc := Lib.hid (Bc.out.below z1)
  obtain ⟨g_c, c0_c, c1_c, c2_c, c3_c⟩ := Bc.out
  clear z1
  go_wp2_with fail
  refine (Tells.of (may_any W D J S _) (v' := .bool true) (by rw [HM.out])).mono ?_
  rintro _ w2 ⟨rfl, z2⟩
  replace HZ := Lib.hid (HZ.out.trans (z2.mono HZ.out.size))
  clear g_c c0_c c1_c c2_c c3_c
  replace Bc := Lib.hid (Bc.out.below z2)
  obtain ⟨g_c, c0_c, c1_c, c2_c, c3_c⟩ := Bc.out
  clear z2
  go_wp2_with fail
  refine (CP.out _).mono ?_
  rintro _ w3 ⟨rfl, z3⟩
  replace HZ := Lib.hid (HZ.out.trans (z3.mono HZ.out.size))
  clear g_c c0_c c1_c c2_c c3_c
  replace Bc := Lib.hid (Bc.out.below z3)
  obtain ⟨g_c, c0_c, c1_c, c2_c, c3_c⟩ := Bc.out
  clear z3
  go_wp2_with fail
  refine (CQ.out _).mono ?_
  rintro _ w4 ⟨rfl, z4⟩
  replace HZ := Lib.hid (HZ.out.trans (z4.mono HZ.out.size))
  clear g_c c0_c c1_c c2_c c3_c
  replace Bc := Lib.hid (Bc.out.below z4)
  obtain ⟨g_c, c0_c, c1_c, c2_c, c3_c⟩ := Bc.out
  clear z4
  go_wp2_with fail
  have e0 : (a == a) = true := by simp
  have d2 : decide (a < 2) = false := by simp; omega
  have e1 : (y == v) = false := by simp [HNE.out]
  go_quiet (fail)
  have hpq := HPQ.out
  have l1 : decide (6 ≤ p) = true := by simp; omega
  have l2 : decide (6 ≤ q) = true := by simp; omega
  have l3 : decide (p < N) = true := by simp; omega
  have l4 : decide (q < N) = true := by simp; omega
  go_wp2_with fail
  refine (CS.out _).mono ?_
  rintro _ w5 ⟨rfl, z5⟩
  replace HZ := Lib.hid ((below_dn HZ.out _).trans (z5.mono HZ.out.size))
  clear g_c c0_c c1_c c2_c c3_c
  replace Bc := Lib.hid ((Bc.out.below (below_drewN _ _)).below z5)
  obtain ⟨g_c, c0_c, c1_c, c2_c, c3_c⟩ := Bc.out
  clear z5
  go_wp2_with fail
  refine (CS.out _).mono ?_
  rintro _ w6 ⟨rfl, z6⟩
  replace HZ := Lib.hid (HZ.out.trans (z6.mono HZ.out.size))
  clear g_c c0_c c1_c c2_c c3_c
  replace Bc := Lib.hid (Bc.out.below z6)
  obtain ⟨g_c, c0_c, c1_c, c2_c, c3_c⟩ := Bc.out
  clear z6
  go_wp2
  go_ret
  exact ⟨rfl, HZ.out⟩
set_option maxHeartbeats 1000000 in
theorem layApart_h (W D J S a y x z : Int) (w : World) (hx : U x) (hz : U z) (hm : may W D J S = true) (ha : 0 ≤ a ∧ a ≤ 5) (hb : 0 ≤ a ∧ a ≤ 5) (hy : 0 ≤ y ∧ y < W) (h2 : ¬ a < 2) (h5 : ¬ a = 5) (hpq : (ps D J a y x == ps D J a y z) = true) : Tells 4 #[cf W D J S, .int .i64 a, .int .i64 y, .int .u64 x, .int .i64 a, .int .i64 y, .int .u64 z] w (.bool true) := by
  have HM := Lib.hid hm
  obtain ⟨⟨w1', w2'⟩, ⟨d1, d2⟩, ⟨j1, j2⟩, ⟨s1, s2⟩⟩ := may_lim hm
  obtain ⟨p0, p1⟩ := ps_lim (x := x) d1 j1 ha hy
  obtain ⟨q0, q1⟩ := ps_lim (x := z) d1 j1 hb hy
  have CP := Lib.hid (fun w => spot_any W D J S a y x w hx hm ha hy)
  have CQ := Lib.hid (fun w => spot_any W D J S a y z w hz hm hb hy)
  have CS := Lib.hid (fun w => Tells.of (size_any W D J S w) (v' := .int .i64 (bg D J W)) (by unfold sz; rw [hm]; rfl))
  have HPQ := Lib.hid hpq
  have x0 : 0 ≤ x := hx.1
  have z0 : 0 ≤ z := hz.1
  have x1 : x < 18446744073709551616 := hx.2
  have z1 : z < 18446744073709551616 := hz.2
  clear hx hz hm hpq
  have k0 : ¬ a < 0 := by omega
  have k1 : ¬ 5 < a := by omega
  have k4 : ¬ y < 0 := by omega
  have k6 : ¬ W ≤ y := by omega
  generalize ps D J a y x = p at *
  generalize ps D J a y z = q at *
  generalize bg D J W = N at *
  clear ha hb hy
  go_enter Try.func4, Try.ntmps4
  go_wp2_with fail
  have Bc := Lib.hid (Bx.mk w W D J S 23)
  obtain ⟨g_c, c0_c, c1_c, c2_c, c3_c⟩ := Bc.out
  refine (awake_any _).mono ?_
  rintro _ w1 ⟨rfl, z1⟩
  have HZ := Lib.hid ((box_below w _).trans (z1.mono (by simp)))
  clear g_c c0_c c1_c c2_c c3_c
  replace Bc := Lib.hid (Bc.out.below z1)
  obtain ⟨g_c, c0_c, c1_c, c2_c, c3_c⟩ := Bc.out
  clear z1
  go_wp2_with fail
  refine (Tells.of (may_any W D J S _) (v' := .bool true) (by rw [HM.out])).mono ?_
  rintro _ w2 ⟨rfl, z2⟩
  replace HZ := Lib.hid (HZ.out.trans (z2.mono HZ.out.size))
  clear g_c c0_c c1_c c2_c c3_c
  replace Bc := Lib.hid (Bc.out.below z2)
  obtain ⟨g_c, c0_c, c1_c, c2_c, c3_c⟩ := Bc.out
  clear z2
  go_wp2_with fail
  refine (CP.out _).mono ?_
  rintro _ w3 ⟨rfl, z3⟩
  replace HZ := Lib.hid (HZ.out.trans (z3.mono HZ.out.size))
  clear g_c c0_c c1_c c2_c c3_c
  replace Bc := Lib.hid (Bc.out.below z3)
  obtain ⟨g_c, c0_c, c1_c, c2_c, c3_c⟩ := Bc.out
  clear z3
  go_wp2_with fail
  refine (CQ.out _).mono ?_
  rintro _ w4 ⟨rfl, z4⟩
  replace HZ := Lib.hid (HZ.out.trans (z4.mono HZ.out.size))
  clear g_c c0_c c1_c c2_c c3_c
  replace Bc := Lib.hid (Bc.out.below z4)
  obtain ⟨g_c, c0_c, c1_c, c2_c, c3_c⟩ := Bc.out
  clear z4
  go_wp2_with fail
  have e0 : (a == a) = true := by simp
  have d2 : decide (a < 2) = false := by simp; omega
  have e1 : (y == y) = true := by simp
  have t1 : x.tmod 1 = 0 := by rw [mod_t x0]; omega
  have t2 : z.tmod 1 = 0 := by rw [mod_t z0]; omega
  go_quiet (fail)
  have hpq := HPQ.out
  have l1 : decide (6 ≤ p) = true := by simp; omega
  have l2 : decide (6 ≤ q) = true := by simp; omega
  have l3 : decide (p < N) = true := by simp; omega
  have l4 : decide (q < N) = true := by simp; omega
  go_wp2_with fail
  refine (CS.out _).mono ?_
  rintro _ w5 ⟨rfl, z5⟩
  replace HZ := Lib.hid ((below_dn HZ.out _).trans (z5.mono HZ.out.size))
  clear g_c c0_c c1_c c2_c c3_c
  replace Bc := Lib.hid ((Bc.out.below (below_drewN _ _)).below z5)
  obtain ⟨g_c, c0_c, c1_c, c2_c, c3_c⟩ := Bc.out
  clear z5
  go_wp2_with fail
  refine (CS.out _).mono ?_
  rintro _ w6 ⟨rfl, z6⟩
  replace HZ := Lib.hid (HZ.out.trans (z6.mono HZ.out.size))
  clear g_c c0_c c1_c c2_c c3_c
  replace Bc := Lib.hid (Bc.out.below z6)
  obtain ⟨g_c, c0_c, c1_c, c2_c, c3_c⟩ := Bc.out
  clear z6
  go_wp2
  go_ret
  exact ⟨rfl, HZ.out⟩
theorem layApart_walk (W D J S a y x b v z : Int) (w : World) (hx : U x) (hz : U z) : Tells 4 #[cf W D J S, .int .i64 a, .int .i64 y, .int .u64 x, .int .i64 b, .int .i64 v, .int .u64 z] w (.bool true) := by
  cases hm : may W D J S
  · exact layApart_a W D J S a y x b v z w hm
  · by_cases hy : (0 ≤ a ∧ a ≤ 5) ∧ (0 ≤ b ∧ b ≤ 5) ∧ (0 ≤ y ∧ y < W) ∧ (0 ≤ v ∧ v < W)
    · obtain ⟨ha, hb, hy, hv⟩ := hy
      obtain ⟨_, ⟨d1, _⟩, ⟨j1, _⟩, _⟩ := may_lim hm
      by_cases hab : a = b
      · subst hab
        by_cases h2 : a < 2
        · exact layApart_d W D J S a y x v z w hx hz hm ha ha hy hv h2 (ps_low h2 ha.1)
        · by_cases h5 : a = 5
          · subst h5
            by_cases hyv : y = v
            · subst hyv
              exact layApart_f W D J S y x z w hx hz hm ha ha hy ps_slot
            · exact layApart_e W D J S y x v z w hx hz hm ha ha hy hv hyv (by simpa using ps_far d1 (by omega) hyv)
          · by_cases hyv : y = v
            · subst hyv
              exact layApart_h W D J S a y x z w hx hz hm ha ha hy h2 h5 (by simpa using ps_mid (by omega) (by omega))
            · exact layApart_g W D J S a y x v z w hx hz hm ha ha hy hv h2 h5 hyv (by simpa using ps_far d1 (by omega) hyv)
      · exact layApart_c W D J S a y x b v z w hx hz hm ha hb hy hv hab (by simpa using ps_ne d1 j1 ha hb hy.1 hv.1 hab)
    · exact layApart_b W D J S a y x b v z w hm (by omega)
end Go.Proofs.Ytmmojjpmnmjbkaa
