/- Contracts of package lay: Seq, Val, Top, Bottom, Park, Slot, New. -/
import Derived.Test.YtmmojjpmnmjbkaaLayB
import Derived.Test.YtmmojjpmnmjbkaaMem
namespace Go.Proofs.Ytmmojjpmnmjbkaa
open Go.RowKit Go.Deep

/-- The injector's cells, and a slot. -/
def sq (W D J S x : Int) : Int := if may W D J S then 6 + x % J else -1
def vl (W D J S x : Int) : Int := if may W D J S then 6 + J + x % J else -1
def sl (W D J S y x : Int) : Int := if may W D J S && wi y 0 (W - 1) then bg D J y + 3 + x % D else -1
theorem mod_lim (x : Int) {n : Int} (hn : 1 ≤ n) : 0 ≤ x % n ∧ x % n < n := ⟨Int.emod_nonneg x (by omega), Int.emod_lt_of_pos x (by omega)⟩
theorem seq_no (W D J S x : Int) (w : World) (h : may W D J S = false) : Tells 17 #[cf W D J S, .int .u64 x] w (.int .i64 (-1)) := by
  have HM := Lib.hid h
  clear h
  go_enter Try.func17, Try.ntmps17
  go_wp2_with fail
  refine (Tells.of (may_any W D J S _) (v' := .bool false) (by rw [HM.out])).mono ?_
  rintro _ w1 ⟨rfl, z1⟩
  have HZ := Lib.hid ((box_below w _).trans (z1.mono (by simp)))
  clear z1
  go_wp2
  go_ret
  exact ⟨rfl, HZ.out⟩
theorem seq_yes (W D J S x : Int) (w : World) (hx : U x) (h : may W D J S = true) : Tells 17 #[cf W D J S, .int .u64 x] w (.int .i64 (6 + x % J)) := by
  have HM := Lib.hid h
  have HX := Lib.hid hx
  obtain ⟨hW, hD, ⟨j1, j2⟩, hS⟩ := may_lim h
  obtain ⟨m1, m2⟩ := mod_lim x j1
  clear h hx
  go_enter Try.func17, Try.ntmps17
  go_wp2_with fail
  refine (Tells.of (may_any W D J S _) (v' := .bool true) (by rw [HM.out])).mono ?_
  rintro _ w1 ⟨rfl, z1⟩
  have HZ := Lib.hid ((box_below w _).trans (z1.mono (by simp)))
  obtain ⟨g0, c0, c1, c2, c3⟩ := (Bx.mk w W D J S 23).below z1
  clear z1
  go_wp2_with fail
  refine (modulo_any _ _ _ HX.out ⟨j1, j2⟩).mono ?_
  rintro _ _ ⟨rfl, rfl⟩
  go_wp2
  go_ret
  exact ⟨rfl, HZ.out⟩
theorem seq_any (W D J S x : Int) (w : World) (hx : U x) : Tells 17 #[cf W D J S, .int .u64 x] w (.int .i64 (sq W D J S x)) := by
  unfold sq
  cases h : may W D J S
  · exact seq_no W D J S x w h
  · exact seq_yes W D J S x w hx h
theorem val_no (W D J S x : Int) (w : World) (h : may W D J S = false) : Tells 19 #[cf W D J S, .int .u64 x] w (.int .i64 (-1)) := by
  have HM := Lib.hid h
  clear h
  go_enter Try.func19, Try.ntmps19
  go_wp2_with fail
  refine (Tells.of (may_any W D J S _) (v' := .bool false) (by rw [HM.out])).mono ?_
  rintro _ w1 ⟨rfl, z1⟩
  have HZ := Lib.hid ((box_below w _).trans (z1.mono (by simp)))
  clear z1
  go_wp2
  go_ret
  exact ⟨rfl, HZ.out⟩
theorem val_yes (W D J S x : Int) (w : World) (hx : U x) (h : may W D J S = true) : Tells 19 #[cf W D J S, .int .u64 x] w (.int .i64 (6 + J + x % J)) := by
  have HM := Lib.hid h
  have HX := Lib.hid hx
  obtain ⟨hW, hD, ⟨j1, j2⟩, hS⟩ := may_lim h
  obtain ⟨m1, m2⟩ := mod_lim x j1
  clear h hx
  go_enter Try.func19, Try.ntmps19
  go_wp2_with fail
  refine (Tells.of (may_any W D J S _) (v' := .bool true) (by rw [HM.out])).mono ?_
  rintro _ w1 ⟨rfl, z1⟩
  have HZ := Lib.hid ((box_below w _).trans (z1.mono (by simp)))
  obtain ⟨g0, c0, c1, c2, c3⟩ := (Bx.mk w W D J S 23).below z1
  clear z1
  go_wp2_with fail
  go_quiet ((go_at_call 33; exact Calls.quiet_of_same (modulo_any _ _ _ HX.out ⟨j1, j2⟩)))
  go_wp2
  go_ret
  exact ⟨rfl, HZ.out.trans ((below_drewN _ _).mono HZ.out.size)⟩
theorem val_any (W D J S x : Int) (w : World) (hx : U x) : Tells 19 #[cf W D J S, .int .u64 x] w (.int .i64 (vl W D J S x)) := by
  unfold vl
  cases h : may W D J S
  · exact val_no W D J S x w h
  · exact val_yes W D J S x w hx h
theorem top_any (W D J S x : Int) (w : World) : Tells 21 #[cf W D J S, .int .i64 x] w (.int .i64 (ow W D J S x 0)) := by
  go_enter Try.func21, Try.ntmps21
  go_wp2_with fail
  refine (own_any W D J S x 0 _ (by omega)).mono ?_
  rintro _ w1 ⟨rfl, z1⟩
  have HZ := Lib.hid ((box_below w _).trans (z1.mono (by simp)))
  clear z1
  go_wp2
  go_ret
  exact ⟨rfl, HZ.out⟩
theorem bottom_any (W D J S x : Int) (w : World) : Tells 23 #[cf W D J S, .int .i64 x] w (.int .i64 (ow W D J S x 1)) := by
  go_enter Try.func23, Try.ntmps23
  go_wp2_with fail
  refine (own_any W D J S x 1 _ (by omega)).mono ?_
  rintro _ w1 ⟨rfl, z1⟩
  have HZ := Lib.hid ((box_below w _).trans (z1.mono (by simp)))
  clear z1
  go_wp2
  go_ret
  exact ⟨rfl, HZ.out⟩
theorem park_any (W D J S x : Int) (w : World) : Tells 25 #[cf W D J S, .int .i64 x] w (.int .i64 (ow W D J S x 2)) := by
  go_enter Try.func25, Try.ntmps25
  go_wp2_with fail
  refine (own_any W D J S x 2 _ (by omega)).mono ?_
  rintro _ w1 ⟨rfl, z1⟩
  have HZ := Lib.hid ((box_below w _).trans (z1.mono (by simp)))
  clear z1
  go_wp2
  go_ret
  exact ⟨rfl, HZ.out⟩
theorem slot_no (W D J S y x : Int) (w : World) (h : (may W D J S && wi y 0 (W - 1)) = false) : Tells 27 #[cf W D J S, .int .i64 y, .int .u64 x] w (.int .i64 (-1)) := by
  have HM := Lib.hid h
  clear h
  go_enter Try.func27, Try.ntmps27
  go_wp2_with fail
  refine (Tells.of (own_any W D J S y 3 _ (by omega)) (v' := .int .i64 (-1)) (by unfold ow; rw [HM.out]; rfl)).mono ?_
  rintro _ w1 ⟨rfl, z1⟩
  have HZ := Lib.hid ((box_below w _).trans (z1.mono (by simp)))
  clear z1
  go_wp2
  go_ret
  exact ⟨rfl, HZ.out⟩
theorem slot_yes (W D J S y x : Int) (w : World) (hx : U x) (h : (may W D J S && wi y 0 (W - 1)) = true) : Tells 27 #[cf W D J S, .int .i64 y, .int .u64 x] w (.int .i64 (bg D J y + 3 + x % D)) := by
  have HM := Lib.hid h
  have HX := Lib.hid hx
  simp only [Bool.and_eq_true, wi_true] at h
  obtain ⟨⟨w1', w2'⟩, ⟨d1, d2⟩, hJ, hS⟩ := may_lim h.1
  obtain ⟨b1, b2⟩ := bg_lim (D := D) ⟨d1, d2⟩ hJ (x := y) ⟨h.2.1, by omega⟩
  obtain ⟨m1, m2⟩ := mod_lim x d1
  have hne : ¬ bg D J y + 3 = -1 := by omega
  clear h hx
  go_enter Try.func27, Try.ntmps27
  go_wp2_with fail
  refine (Tells.of (own_any W D J S y 3 _ (by omega)) (v' := .int .i64 (bg D J y + 3)) (by unfold ow; rw [HM.out]; rfl)).mono ?_
  rintro _ w1 ⟨rfl, z1⟩
  have HZ := Lib.hid ((box_below w _).trans (z1.mono (by simp)))
  obtain ⟨g0, c0, c1, c2, c3⟩ := (Bx.mk w W D J S 23).below z1
  clear z1
  go_wp2_with fail
  refine (modulo_any _ _ _ HX.out ⟨d1, d2⟩).mono ?_
  rintro _ _ ⟨rfl, rfl⟩
  go_wp2
  go_ret
  exact ⟨rfl, HZ.out⟩
theorem slot_any (W D J S y x : Int) (w : World) (hx : U x) : Tells 27 #[cf W D J S, .int .i64 y, .int .u64 x] w (.int .i64 (sl W D J S y x)) := by
  unfold sl
  cases h : may W D J S && wi y 0 (W - 1)
  · exact slot_no W D J S y x w h
  · exact slot_yes W D J S y x w hx h
end Go.Proofs.Ytmmojjpmnmjbkaa
