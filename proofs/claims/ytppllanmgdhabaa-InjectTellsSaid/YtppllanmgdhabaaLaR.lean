/- Merged: LayR, LayS. -/
import Derived.Test.YtppllanmgdhabaaLaC
namespace Go.Proofs.Ytppllanmgdhabaa
open Go.RowKit Go.Deep
set_option maxRecDepth 100000 in
theorem p2_no {D : Int} (h : p2 D = false) : ¬ D = 1 ∧ ¬ D = 2 ∧ ¬ D = 4 ∧ ¬ D = 8 ∧ ¬ D = 16 := by
  unfold p2 at h
  simp at h
  omega
set_option maxRecDepth 100000 in
theorem bool_is {b b' : Bool} (h : b' = b) : Ending.returned (.bool b) = .returned (.bool b') := by rw [h]
set_option maxHeartbeats 1000000 in
set_option maxRecDepth 100000 in
theorem rmay_any (W D J S : Int) (w : World) : Tells 40 #[cf W D J S] w (.bool (may W D J S)) := by
  go_enter Try.func40, Try.ntmps40
  go_wp2
  all_goals
    go_ret
    refine ⟨?_, box_below _ _⟩
    first
      | exact bool_is (b := true) (by simp only [may, wi, p2, Bool.and_eq_true, decide_eq_true_eq]; omega)
      | exact bool_is (b := false) (by simp only [may, wi, p2, ← Bool.not_eq_true, Bool.and_eq_true, decide_eq_true_eq]; omega)
      | exact bool_is (b := decide (S ≤ 4)) (by rw [Bool.eq_iff_iff]; simp only [may, wi, p2, Bool.and_eq_true, decide_eq_true_eq]; omega)
set_option maxRecDepth 100000 in
theorem rsize_may (W D J S : Int) (w : World) (h : may W D J S = false) : Tells 47 #[cf W D J S] w (.int .i64 (0)) := by
  have HM := Lib.hid h
  clear h
  go_enter Try.func47, Try.ntmps47
  go_wp2_with fail
  refine (Tells.of (rmay_any W D J S _) (v' := .bool false) (by rw [HM.out])).mono ?_
  rintro _ w1 ⟨rfl, z1⟩
  have HZ := Lib.hid ((box_below w _).trans (z1.mono (by simp)))
  clear z1
  go_wp2
  go_ret
  exact ⟨rfl, HZ.out⟩
set_option maxRecDepth 100000 in
theorem rsize_yes (W D J S : Int) (w : World) (h : may W D J S = true) : Tells 47 #[cf W D J S] w (.int .i64 (bg D J W)) := by
  have HM := Lib.hid h
  obtain ⟨hW, hD, hJ, hS⟩ := may_lim h
  obtain ⟨b1, b2⟩ := bg_lim hD hJ (x := W) ⟨by omega, by omega⟩
  unfold bg at b1 b2
  have m1 : 0 ≤ W * (3 + D) := Int.mul_nonneg (by omega) (by omega)
  obtain ⟨d1, d2⟩ := hD
  obtain ⟨j1, j2⟩ := hJ
  clear h
  go_enter Try.func47, Try.ntmps47
  go_wp2_with fail
  refine (Tells.of (rmay_any W D J S _) (v' := .bool true) (by rw [HM.out])).mono ?_
  rintro _ w1 ⟨rfl, z1⟩
  have HZ := Lib.hid ((box_below w _).trans (z1.mono (by simp)))
  obtain ⟨g0, c0, c1, c2, c3⟩ := (Bx.mk w W D J S 23).below z1
  clear z1
  go_wp2
  go_ret
  exact ⟨rfl, HZ.out⟩
set_option maxRecDepth 100000 in
theorem rsize_any (W D J S : Int) (w : World) : Tells 47 #[cf W D J S] w (.int .i64 (sz W D J S)) := by
  unfold sz
  cases h : may W D J S
  · exact rsize_may W D J S w h
  · exact rsize_yes W D J S w h
end Go.Proofs.Ytppllanmgdhabaa
namespace Go.Proofs.Ytppllanmgdhabaa
open Go.RowKit Go.Deep
set_option maxRecDepth 100000 in
theorem mod64 (x : Int) {n : Int} (hn : 1 ≤ n) (h2 : n ≤ 16) : wrap64 (x % n) = x % n := by
  obtain ⟨m1, m2⟩ := mod_lim x hn
  unfold wrap64; omega
set_option maxRecDepth 100000 in
theorem int_is {k : IntKind} {a b : Int} (h : a = b) : Ending.returned (.int k a) = .returned (.int k b) := by rw [h]
set_option maxRecDepth 100000 in
theorem rseq_may (W D J S x : Int) (w : World) (h : may W D J S = false) : Tells 63 #[cf W D J S, .int .u64 x] w (.int .i64 (-1)) := by
  have HM := Lib.hid h
  clear h
  go_enter Try.func63, Try.ntmps63
  go_wp2_with fail
  refine (Tells.of (rmay_any W D J S _) (v' := .bool false) (by rw [HM.out])).mono ?_
  rintro _ w1 ⟨rfl, z1⟩
  have HZ := Lib.hid ((box_below w _).trans (z1.mono (by simp)))
  clear z1
  go_wp2
  go_ret
  exact ⟨rfl, HZ.out⟩
set_option maxRecDepth 100000 in
theorem rseq_yes (W D J S x : Int) (w : World) (hx : U x) (h : may W D J S = true) : Tells 63 #[cf W D J S, .int .u64 x] w (.int .i64 (6 + x % J)) := by
  have HM := Lib.hid h
  obtain ⟨hW, hD, ⟨j1, j2⟩, hS⟩ := may_lim h
  obtain ⟨m1, m2⟩ := mod_lim x j1
  have HE := Lib.hid (mod64 x j1 j2)
  have hne : ¬ J = 0 := by omega
  obtain ⟨x1, x2⟩ := hx
  clear h
  go_enter Try.func63, Try.ntmps63
  go_wp2_with fail
  refine (Tells.of (rmay_any W D J S _) (v' := .bool true) (by rw [HM.out])).mono ?_
  rintro _ w1 ⟨rfl, z1⟩
  have HZ := Lib.hid ((box_below w _).trans (z1.mono (by simp)))
  obtain ⟨g0, c0, c1, c2, c3⟩ := (Bx.mk w W D J S 23).below z1
  clear z1
  go_wp2
  go_ret
  exact ⟨rfl, HZ.out⟩
set_option maxRecDepth 100000 in
theorem rseq_any (W D J S x : Int) (w : World) (hx : U x) : Tells 63 #[cf W D J S, .int .u64 x] w (.int .i64 (sq W D J S x)) := by
  unfold sq
  cases h : may W D J S
  · exact rseq_may W D J S x w h
  · exact rseq_yes W D J S x w hx h
set_option maxRecDepth 100000 in
theorem rval_may (W D J S x : Int) (w : World) (h : may W D J S = false) : Tells 68 #[cf W D J S, .int .u64 x] w (.int .i64 (-1)) := by
  have HM := Lib.hid h
  clear h
  go_enter Try.func68, Try.ntmps68
  go_wp2_with fail
  refine (Tells.of (rmay_any W D J S _) (v' := .bool false) (by rw [HM.out])).mono ?_
  rintro _ w1 ⟨rfl, z1⟩
  have HZ := Lib.hid ((box_below w _).trans (z1.mono (by simp)))
  clear z1
  go_wp2
  go_ret
  exact ⟨rfl, HZ.out⟩
set_option maxRecDepth 100000 in
theorem rval_yes (W D J S x : Int) (w : World) (hx : U x) (h : may W D J S = true) : Tells 68 #[cf W D J S, .int .u64 x] w (.int .i64 (6 + J + x % J)) := by
  have HM := Lib.hid h
  obtain ⟨hW, hD, ⟨j1, j2⟩, hS⟩ := may_lim h
  obtain ⟨m1, m2⟩ := mod_lim x j1
  have HE := Lib.hid (mod64 x j1 j2)
  have hne : ¬ J = 0 := by omega
  obtain ⟨x1, x2⟩ := hx
  clear h
  go_enter Try.func68, Try.ntmps68
  go_wp2_with fail
  refine (Tells.of (rmay_any W D J S _) (v' := .bool true) (by rw [HM.out])).mono ?_
  rintro _ w1 ⟨rfl, z1⟩
  have HZ := Lib.hid ((box_below w _).trans (z1.mono (by simp)))
  obtain ⟨g0, c0, c1, c2, c3⟩ := (Bx.mk w W D J S 23).below z1
  clear z1
  go_wp2_with fail
  go_quiet (fail)
  go_wp2
  go_ret
  exact ⟨rfl, HZ.out.trans ((below_drewN _ _).mono HZ.out.size)⟩
set_option maxRecDepth 100000 in
theorem rval_any (W D J S x : Int) (w : World) (hx : U x) : Tells 68 #[cf W D J S, .int .u64 x] w (.int .i64 (vl W D J S x)) := by
  unfold vl
  cases h : may W D J S
  · exact rval_may W D J S x w h
  · exact rval_yes W D J S x w hx h
set_option maxRecDepth 100000 in
theorem ow_cases (W D J S x : Int) : (∀ k, ow W D J S x k = -1) ∧ (may W D J S && wi x 0 (W - 1)) = false ∨ (∀ k, ow W D J S x k = bg D J x + k) ∧ (8 ≤ bg D J x ∧ bg D J x ≤ 190) ∧ (may W D J S && wi x 0 (W - 1)) = true := by
  cases h : may W D J S && wi x 0 (W - 1)
  · left; exact ⟨fun k => by unfold ow; rw [h]; rfl, rfl⟩
  · right
    refine ⟨fun k => by unfold ow; rw [h]; rfl, ?_, rfl⟩
    simp only [Bool.and_eq_true, wi_true] at h
    obtain ⟨hW, hD, hJ, hS⟩ := may_lim h.1
    exact bg_lim hD hJ ⟨by omega, by omega⟩
set_option maxRecDepth 100000 in
theorem rnew_any (W D J S : Int) (w : World) : Calls Try.prog 41 #[cf W D J S] w (RetR w (sz W D J S).toNat (List.replicate (sz W D J S).toNat 0)) := by
  obtain ⟨n, hn⟩ : ∃ n : Nat, sz W D J S = n := ⟨(sz W D J S).toNat, by have := sz_lim W D J S; omega⟩
  have hs : n ≤ 190 := by have := sz_lim W D J S; omega
  have hmk := run_make_row' (P := Try.prog) 25 26 (.int .u64 0) 8 Try.underlying25 Try.info26 rfl .i64 .i64 n (by omega) (by omega)
  rw [hn, Int.toNat_natCast]
  have HN := Lib.hid hn
  clear hn
  go_enter Try.func41, Try.ntmps41
  go_wp2_with fail
  refine (Tells.of (rsize_any W D J S _) (v' := .int .i64 n) (by rw [HN.out])).mono ?_
  rintro _ w1 ⟨rfl, z1⟩
  have HZ := Lib.hid ((box_below w _).trans (z1.mono (by simp)))
  clear z1
  go_wp2
  go_ret
  refine ⟨_, _, rfl, Bk.rd ?_, HZ.out.alloc HZ.out.size _⟩
  unfold Bk
  rw [heap_alloc_new]
  simp [← toList_madeCells_one]
end Go.Proofs.Ytppllanmgdhabaa
