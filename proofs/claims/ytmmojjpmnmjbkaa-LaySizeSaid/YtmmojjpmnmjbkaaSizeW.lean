/- The walk of LaySize: what a worker more takes. -/
import Derived.Test.YtmmojjpmnmjbkaaLayE
namespace Go.Proofs.Ytmmojjpmnmjbkaa
open Go.RowKit Go.Deep
set_option maxHeartbeats 1000000 in
theorem laySize_a (W D J S y x : Int) (w : World) (hm : may W D J S = false) : Tells 8 #[cf W D J S, .int .i64 y, .int .u64 x] w (.bool true) := by
  have HM := Lib.hid hm
  clear hm
  go_enter Try.func8, Try.ntmps8
  go_wp2_with fail
  have Bc := Lib.hid (Bx.mk w W D J S 23)
  obtain ⟨g_c, c0_c, c1_c, c2_c, c3_c⟩ := Bc.out
  refine (awake_any _).mono ?_
  rintro _ w1 ⟨rfl, z1⟩
  have HZ := Lib.hid ((box_below w _).trans (z1.mono (by simp)))
  clear g_c c0_c c1_c c2_c c3_c
  replace Bc := Lib.hid (Bc.out.below z1)
  obtain ⟨g_c, c0_c, c1_c, c2_c, c3_c⟩ := Bc.out
  clear z1
  have gc1 : w.heap.size < w1.heap.size + 1 := by omega
  go_wp2_with fail
  replace HZ := Lib.hid (HZ.out.alloc HZ.out.size (.cells #[.int .i64 (wrap64 (W + 1)), .int .i64 D, .int .i64 J, .int .i64 S] 23))
  replace Bc := Lib.hid (Bc.out.alloc (.cells #[.int .i64 (wrap64 (W + 1)), .int .i64 D, .int .i64 J, .int .i64 S] 23))
  have Bm := Lib.hid (Bx.at w1 w1.heap.size (wrap64 (W + 1)) D J S 23 rfl)
  obtain ⟨g_m, c0_m, c1_m, c2_m, c3_m⟩ := Bm.out
  refine (Tells.of (may_any W D J S _) (v' := .bool false) (by rw [HM.out])).mono ?_
  rintro _ w2 ⟨rfl, z2⟩
  replace HZ := Lib.hid (HZ.out.trans (z2.mono HZ.out.size))
  clear g_c c0_c c1_c c2_c c3_c
  replace Bc := Lib.hid (Bc.out.below z2)
  obtain ⟨g_c, c0_c, c1_c, c2_c, c3_c⟩ := Bc.out
  clear g_m c0_m c1_m c2_m c3_m
  replace Bm := Lib.hid (Bm.out.below z2)
  obtain ⟨g_m, c0_m, c1_m, c2_m, c3_m⟩ := Bm.out
  clear z2
  go_wp2
  go_ret
  exact ⟨rfl, HZ.out⟩
set_option maxHeartbeats 1000000 in
theorem laySize_b (W D J S y x : Int) (w : World) (hm : may W D J S = true) (hn : may (W + 1) D J S = false) : Tells 8 #[cf W D J S, .int .i64 y, .int .u64 x] w (.bool true) := by
  have HM := Lib.hid hm
  obtain ⟨⟨w1', w2'⟩, ⟨d1, d2⟩, ⟨j1, j2⟩, ⟨s1, s2⟩⟩ := may_lim hm
  clear hm
  have HM2 := Lib.hid hn
  clear hn
  go_enter Try.func8, Try.ntmps8
  go_wp2_with fail
  have Bc := Lib.hid (Bx.mk w W D J S 23)
  obtain ⟨g_c, c0_c, c1_c, c2_c, c3_c⟩ := Bc.out
  refine (awake_any _).mono ?_
  rintro _ w1 ⟨rfl, z1⟩
  have HZ := Lib.hid ((box_below w _).trans (z1.mono (by simp)))
  clear g_c c0_c c1_c c2_c c3_c
  replace Bc := Lib.hid (Bc.out.below z1)
  obtain ⟨g_c, c0_c, c1_c, c2_c, c3_c⟩ := Bc.out
  clear z1
  have gc1 : w.heap.size < w1.heap.size + 1 := by omega
  go_wp2_with fail
  replace HZ := Lib.hid (HZ.out.alloc HZ.out.size (.cells #[.int .i64 (W + 1), .int .i64 D, .int .i64 J, .int .i64 S] 23))
  replace Bc := Lib.hid (Bc.out.alloc (.cells #[.int .i64 (W + 1), .int .i64 D, .int .i64 J, .int .i64 S] 23))
  have Bm := Lib.hid (Bx.at w1 w1.heap.size (W + 1) D J S 23 rfl)
  obtain ⟨g_m, c0_m, c1_m, c2_m, c3_m⟩ := Bm.out
  refine (Tells.of (may_any W D J S _) (v' := .bool true) (by rw [HM.out])).mono ?_
  rintro _ w2 ⟨rfl, z2⟩
  replace HZ := Lib.hid (HZ.out.trans (z2.mono HZ.out.size))
  clear g_c c0_c c1_c c2_c c3_c
  replace Bc := Lib.hid (Bc.out.below z2)
  obtain ⟨g_c, c0_c, c1_c, c2_c, c3_c⟩ := Bc.out
  clear g_m c0_m c1_m c2_m c3_m
  replace Bm := Lib.hid (Bm.out.below z2)
  obtain ⟨g_m, c0_m, c1_m, c2_m, c3_m⟩ := Bm.out
  clear z2
  go_wp2_with fail
  refine (Tells.of (may_any (W + 1) D J S _) (v' := .bool false) (by rw [HM2.out])).mono ?_
  rintro _ w3 ⟨rfl, z3⟩
  replace HZ := Lib.hid (HZ.out.trans (z3.mono HZ.out.size))
  clear g_c c0_c c1_c c2_c c3_c
  replace Bc := Lib.hid (Bc.out.below z3)
  obtain ⟨g_c, c0_c, c1_c, c2_c, c3_c⟩ := Bc.out
  clear g_m c0_m c1_m c2_m c3_m
  replace Bm := Lib.hid (Bm.out.below z3)
  obtain ⟨g_m, c0_m, c1_m, c2_m, c3_m⟩ := Bm.out
  clear z3
  go_wp2
  go_ret
  exact ⟨rfl, HZ.out⟩
set_option maxHeartbeats 1000000 in
theorem laySize_c (W D J S y x : Int) (w : World) (hm : may W D J S = true) (hn : may (W + 1) D J S = true) (hy : y < 0 ∨ (¬ y < 0 ∧ W ≤ y)) : Tells 8 #[cf W D J S, .int .i64 y, .int .u64 x] w (.bool true) := by
  have HM := Lib.hid hm
  obtain ⟨⟨w1', w2'⟩, ⟨d1, d2⟩, ⟨j1, j2⟩, ⟨s1, s2⟩⟩ := may_lim hm
  clear hm
  have HM2 := Lib.hid hn
  clear hn
  rcases hy with hy | ⟨hy0, hy⟩
  all_goals
    go_enter Try.func8, Try.ntmps8
    go_wp2_with fail
    have Bc := Lib.hid (Bx.mk w W D J S 23)
    obtain ⟨g_c, c0_c, c1_c, c2_c, c3_c⟩ := Bc.out
    refine (awake_any _).mono ?_
    rintro _ w1 ⟨rfl, z1⟩
    have HZ := Lib.hid ((box_below w _).trans (z1.mono (by simp)))
    clear g_c c0_c c1_c c2_c c3_c
    replace Bc := Lib.hid (Bc.out.below z1)
    obtain ⟨g_c, c0_c, c1_c, c2_c, c3_c⟩ := Bc.out
    clear z1
    have gc1 : w.heap.size < w1.heap.size + 1 := by omega
    go_wp2_with fail
    replace HZ := Lib.hid (HZ.out.alloc HZ.out.size (.cells #[.int .i64 (W + 1), .int .i64 D, .int .i64 J, .int .i64 S] 23))
    replace Bc := Lib.hid (Bc.out.alloc (.cells #[.int .i64 (W + 1), .int .i64 D, .int .i64 J, .int .i64 S] 23))
    have Bm := Lib.hid (Bx.at w1 w1.heap.size (W + 1) D J S 23 rfl)
    obtain ⟨g_m, c0_m, c1_m, c2_m, c3_m⟩ := Bm.out
    refine (Tells.of (may_any W D J S _) (v' := .bool true) (by rw [HM.out])).mono ?_
    rintro _ w2 ⟨rfl, z2⟩
    replace HZ := Lib.hid (HZ.out.trans (z2.mono HZ.out.size))
    clear g_c c0_c c1_c c2_c c3_c
    replace Bc := Lib.hid (Bc.out.below z2)
    obtain ⟨g_c, c0_c, c1_c, c2_c, c3_c⟩ := Bc.out
    clear g_m c0_m c1_m c2_m c3_m
    replace Bm := Lib.hid (Bm.out.below z2)
    obtain ⟨g_m, c0_m, c1_m, c2_m, c3_m⟩ := Bm.out
    clear z2
    go_wp2_with fail
    refine (Tells.of (may_any (W + 1) D J S _) (v' := .bool true) (by rw [HM2.out])).mono ?_
    rintro _ w3 ⟨rfl, z3⟩
    replace HZ := Lib.hid (HZ.out.trans (z3.mono HZ.out.size))
    clear g_c c0_c c1_c c2_c c3_c
    replace Bc := Lib.hid (Bc.out.below z3)
    obtain ⟨g_c, c0_c, c1_c, c2_c, c3_c⟩ := Bc.out
    clear g_m c0_m c1_m c2_m c3_m
    replace Bm := Lib.hid (Bm.out.below z3)
    obtain ⟨g_m, c0_m, c1_m, c2_m, c3_m⟩ := Bm.out
    clear z3
    go_wp2
    go_ret
    exact ⟨rfl, HZ.out⟩
set_option maxHeartbeats 1000000 in
theorem laySize_d (W D J S y x : Int) (w : World) (hx : U x) (hm : may W D J S = true) (hn : may (W + 1) D J S = true) (hy : 0 ≤ y ∧ y < W) : Tells 8 #[cf W D J S, .int .i64 y, .int .u64 x] w (.bool true) := by
  have HX := Lib.hid hx
  clear hx
  have HM := Lib.hid hm
  obtain ⟨⟨w1', w2'⟩, ⟨d1, d2⟩, ⟨j1, j2⟩, ⟨s1, s2⟩⟩ := may_lim hm
  clear hm
  have HM2 := Lib.hid hn
  obtain ⟨⟨v1, v2⟩, _⟩ := may_lim hn
  clear hn
  have hy0 : ¬ y < 0 := by omega
  have hy1 : ¬ W ≤ y := by omega
  obtain ⟨m1, m2⟩ := mod_lim x d1
  obtain ⟨b1, b2⟩ := bg_lim (D := D) (J := J) ⟨d1, d2⟩ ⟨j1, j2⟩ (x := W) ⟨by omega, by omega⟩
  obtain ⟨b3, b4⟩ := bg_lim (D := D) (J := J) ⟨d1, d2⟩ ⟨j1, j2⟩ (x := y) ⟨by omega, by omega⟩
  have wy : wi y 0 (W - 1) = true := wi_true.2 ⟨by omega, by omega⟩
  have wy2 : wi y 0 (W + 1 - 1) = true := wi_true.2 ⟨by omega, by omega⟩
  have C1 : ∀ w, Tells 15 #[cf (W + 1) D J S] w (.int .i64 (bg D J W + 3 + D)) := fun w => Tells.of (size_any _ _ _ _ w) (by unfold sz; rw [HM2.out, if_pos rfl]; unfold bg; congr 1; rw [Int.add_mul]; omega)
  have C2 : ∀ w, Tells 15 #[cf W D J S] w (.int .i64 (bg D J W)) := fun w => Tells.of (size_any _ _ _ _ w) (by unfold sz; rw [HM.out]; rfl)
  have C3 : ∀ w, Tells 21 #[cf (W + 1) D J S, .int .i64 W] w (.int .i64 (bg D J W)) := fun w => Tells.of (top_any _ _ _ _ _ w) (by unfold ow; rw [HM2.out, wi_true.2 ⟨by omega, by omega⟩, Bool.and_self, if_pos rfl, Int.add_zero])
  have C4 : ∀ w, Tells 27 #[cf (W + 1) D J S, .int .i64 y, .int .u64 x] w (.int .i64 (bg D J y + 3 + x % D)) := fun w => Tells.of (slot_any _ _ _ _ _ _ w HX.out) (by unfold sl; rw [HM2.out, wy2]; rfl)
  have C5 : ∀ w, Tells 27 #[cf W D J S, .int .i64 y, .int .u64 x] w (.int .i64 (bg D J y + 3 + x % D)) := fun w => Tells.of (slot_any _ _ _ _ _ _ w HX.out) (by unfold sl; rw [HM.out, wy]; rfl)
  have C6 : ∀ w, Tells 25 #[cf (W + 1) D J S, .int .i64 y] w (.int .i64 (bg D J y + 2)) := fun w => Tells.of (park_any _ _ _ _ _ w) (by unfold ow; rw [HM2.out, wy2]; rfl)
  have C7 : ∀ w, Tells 25 #[cf W D J S, .int .i64 y] w (.int .i64 (bg D J y + 2)) := fun w => Tells.of (park_any _ _ _ _ _ w) (by unfold ow; rw [HM.out, wy]; rfl)
  have C8 : ∀ w, Tells 21 #[cf W D J S, .int .i64 W] w (.int .i64 (-1)) := fun w => Tells.of (top_any _ _ _ _ _ w) (by unfold ow; rw [HM.out, wi_false.2 (.inr (by omega))]; rfl)
  have hgt : decide (bg D J y + 2 < bg D J y + 3 + x % D) = true := by simp; omega
  have HC1 := Lib.hid C1
  have HC2 := Lib.hid C2
  have HC3 := Lib.hid C3
  have HC4 := Lib.hid C4
  have HC5 := Lib.hid C5
  have HC6 := Lib.hid C6
  have HC7 := Lib.hid C7
  have HC8 := Lib.hid C8
  have HX2 := Lib.hid (And.intro wy wy2)
  clear C1 C2 C3 C4 C5 C6 C7 C8 wy wy2
  go_enter Try.func8, Try.ntmps8
  go_wp2_with fail
  have Bc := Lib.hid (Bx.mk w W D J S 23)
  obtain ⟨g_c, c0_c, c1_c, c2_c, c3_c⟩ := Bc.out
  refine (awake_any _).mono ?_
  rintro _ w1 ⟨rfl, z1⟩
  have HZ := Lib.hid ((box_below w _).trans (z1.mono (by simp)))
  clear g_c c0_c c1_c c2_c c3_c
  replace Bc := Lib.hid (Bc.out.below z1)
  obtain ⟨g_c, c0_c, c1_c, c2_c, c3_c⟩ := Bc.out
  clear z1
  have gc1 : w.heap.size < w1.heap.size + 1 := by omega
  go_wp2_with fail
  replace HZ := Lib.hid (HZ.out.alloc HZ.out.size (.cells #[.int .i64 (W + 1), .int .i64 D, .int .i64 J, .int .i64 S] 23))
  replace Bc := Lib.hid (Bc.out.alloc (.cells #[.int .i64 (W + 1), .int .i64 D, .int .i64 J, .int .i64 S] 23))
  have Bm := Lib.hid (Bx.at w1 w1.heap.size (W + 1) D J S 23 rfl)
  obtain ⟨g_m, c0_m, c1_m, c2_m, c3_m⟩ := Bm.out
  refine (Tells.of (may_any W D J S _) (v' := .bool true) (by rw [HM.out])).mono ?_
  rintro _ w2 ⟨rfl, z2⟩
  replace HZ := Lib.hid (HZ.out.trans (z2.mono HZ.out.size))
  clear g_c c0_c c1_c c2_c c3_c
  replace Bc := Lib.hid (Bc.out.below z2)
  obtain ⟨g_c, c0_c, c1_c, c2_c, c3_c⟩ := Bc.out
  clear g_m c0_m c1_m c2_m c3_m
  replace Bm := Lib.hid (Bm.out.below z2)
  obtain ⟨g_m, c0_m, c1_m, c2_m, c3_m⟩ := Bm.out
  clear z2
  go_wp2_with fail
  refine (Tells.of (may_any (W + 1) D J S _) (v' := .bool true) (by rw [HM2.out])).mono ?_
  rintro _ w3 ⟨rfl, z3⟩
  replace HZ := Lib.hid (HZ.out.trans (z3.mono HZ.out.size))
  clear g_c c0_c c1_c c2_c c3_c
  replace Bc := Lib.hid (Bc.out.below z3)
  obtain ⟨g_c, c0_c, c1_c, c2_c, c3_c⟩ := Bc.out
  clear g_m c0_m c1_m c2_m c3_m
  replace Bm := Lib.hid (Bm.out.below z3)
  obtain ⟨g_m, c0_m, c1_m, c2_m, c3_m⟩ := Bm.out
  clear z3
  go_wp2_with fail
  have q1 : IntKind.i64.wrap (bg D J W + 3) = bg D J W + 3 := IntWalk.i64_in _ ⟨by omega, by omega⟩
  have q2 : IntKind.i64.wrap (bg D J W + 3 + D) = bg D J W + 3 + D := IntWalk.i64_in _ ⟨by omega, by omega⟩
  have BW := Lib.hid (HZ.out)
  have K : ∀ w', Below w3.heap.size w3 w' → w'.cell? ⟨w.heap.size, 0, none⟩ = some (.int .i64 W) ∧ w'.cell? ⟨w.heap.size, 1, none⟩ = some (.int .i64 D) ∧ w'.cell? ⟨w.heap.size, 2, none⟩ = some (.int .i64 J) ∧ w'.cell? ⟨w.heap.size, 3, none⟩ = some (.int .i64 S) ∧ w'.cell? ⟨w1.heap.size, 0, none⟩ = some (.int .i64 (W + 1)) ∧ w'.cell? ⟨w1.heap.size, 1, none⟩ = some (.int .i64 D) ∧ w'.cell? ⟨w1.heap.size, 2, none⟩ = some (.int .i64 J) ∧ w'.cell? ⟨w1.heap.size, 3, none⟩ = some (.int .i64 S) ∧ Below w3.heap.size w3 w' := by
    intro w' hb
    obtain ⟨f00, f01, f02, f03⟩ := (Bx.below Bc.out hb).cells
    obtain ⟨f10, f11, f12, f13⟩ := (Bx.below Bm.out hb).cells
    exact ⟨f00, f01, f02, f03, f10, f11, f12, f13, hb⟩
  have HK := Lib.hid K
  clear K
  have HS0 := Lib.hid (HK.out w3 (Below.refl _ _))
  obtain ⟨f00, f01, f02, f03, f10, f11, f12, f13, hbb⟩ := HS0.out
  go_region_held3 (fun w' => w'.cell? ⟨w.heap.size, 0, none⟩ = some (.int .i64 W) ∧ w'.cell? ⟨w.heap.size, 1, none⟩ = some (.int .i64 D) ∧ w'.cell? ⟨w.heap.size, 2, none⟩ = some (.int .i64 J) ∧ w'.cell? ⟨w.heap.size, 3, none⟩ = some (.int .i64 S) ∧ w'.cell? ⟨w1.heap.size, 0, none⟩ = some (.int .i64 (W + 1)) ∧ w'.cell? ⟨w1.heap.size, 1, none⟩ = some (.int .i64 D) ∧ w'.cell? ⟨w1.heap.size, 2, none⟩ = some (.int .i64 J) ∧ w'.cell? ⟨w1.heap.size, 3, none⟩ = some (.int .i64 S) ∧ Below w3.heap.size w3 w') (first | exact held_drew HK.out (fun _ h => h.2.2.2.2.2.2.2.2) (by assumption) | exact held_call HK.out (fun _ h => h.2.2.2.2.2.2.2.2) (by assumption) (by assumption))
    (first
      | (go_at_call 15; ((with_reducible refine (HC1.out _).mono ?_); rintro e w' ⟨rfl, hb⟩))
      | (go_at_call 15; ((with_reducible refine (HC2.out _).mono ?_); rintro e w' ⟨rfl, hb⟩))
      | (go_at_call 21; ((with_reducible refine (HC3.out _).mono ?_); rintro e w' ⟨rfl, hb⟩))
      | (go_at_call 27; ((with_reducible refine (HC4.out _).mono ?_); rintro e w' ⟨rfl, hb⟩))
      | (go_at_call 27; ((with_reducible refine (HC5.out _).mono ?_); rintro e w' ⟨rfl, hb⟩))
      | (go_at_call 25; ((with_reducible refine (HC6.out _).mono ?_); rintro e w' ⟨rfl, hb⟩))
      | (go_at_call 25; ((with_reducible refine (HC7.out _).mono ?_); rintro e w' ⟨rfl, hb⟩))
      | (go_at_call 21; ((with_reducible refine (HC8.out _).mono ?_); rintro e w' ⟨rfl, hb⟩)))
  rename_i hS
  have HEND := Lib.hid (BW.out.trans ((hS.2.2.2.2.2.2.2.2).mono BW.out.size))
  go_wp2
  go_ret
  exact ⟨rfl, HEND.out⟩
theorem laySize_walk (W D J S y x : Int) (w : World) (hx : U x) : Tells 8 #[cf W D J S, .int .i64 y, .int .u64 x] w (.bool true) := by
  cases hm : may W D J S
  · exact laySize_a W D J S y x w hm
  · cases hn : may (W + 1) D J S
    · exact laySize_b W D J S y x w hm hn
    · by_cases hy : 0 ≤ y ∧ y < W
      · exact laySize_d W D J S y x w hx hm hn hy
      · exact laySize_c W D J S y x w hm hn (by omega)
end Go.Proofs.Ytmmojjpmnmjbkaa
