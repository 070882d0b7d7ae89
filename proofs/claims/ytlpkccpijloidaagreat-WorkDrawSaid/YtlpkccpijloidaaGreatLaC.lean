/- Merged: LayC, LayD, LayE. -/
import Derived.Test.YtlpkccpijloidaaGreatLa0
import Derived.Test.YtlpkccpijloidaaGreatBaM
namespace Go.Proofs.YtlpkccpijloidaaGreat
set_option maxRecDepth 100000
open Go.RowKit Go.Deep
/-- The injector's cells, and a slot. -/
def sq (W D J S x : Int) : Int := if may W D J S then 6 + x % J else -1
def vl (W D J S x : Int) : Int := if may W D J S then 6 + J + x % J else -1
def sl (W D J S y x : Int) : Int := if may W D J S && wi y 0 (W - 1) then bg D J y + 3 + x % D else -1
theorem mod_lim (x : Int) {n : Int} (hn : 1 ≤ n) : 0 ≤ x % n ∧ x % n < n := ⟨Int.emod_nonneg x (by omega), Int.emod_lt_of_pos x (by omega)⟩
theorem seq_no (W D J S x : Int) (w : World) (h : may W D J S = false) : Tells 168 #[cf W D J S, .int .u64 x] w (.int .i64 (-1)) := by
  have HM := Lib.hid h
  clear h
  go_enter Tryz.func168, Tryz.ntmps168
  go_wp2_with fail
  refine (Tells.of (may_any W D J S _) (v' := .bool false) (by rw [HM.out])).mono ?_
  rintro _ w1 ⟨rfl, z1⟩
  have HZ := Lib.hid ((box_below w _).trans (z1.mono (by simp)))
  clear z1
  go_wp2
  go_ret
  exact ⟨rfl, HZ.out⟩
theorem seq_yes (W D J S x : Int) (w : World) (hx : U x) (h : may W D J S = true) : Tells 168 #[cf W D J S, .int .u64 x] w (.int .i64 (6 + x % J)) := by
  have HM := Lib.hid h
  have HX := Lib.hid hx
  obtain ⟨hW, hD, ⟨j1, j2⟩, hS⟩ := may_lim h
  obtain ⟨m1, m2⟩ := mod_lim x j1
  clear h hx
  go_enter Tryz.func168, Tryz.ntmps168
  go_wp2_with fail
  refine (Tells.of (may_any W D J S _) (v' := .bool true) (by rw [HM.out])).mono ?_
  rintro _ w1 ⟨rfl, z1⟩
  have HZ := Lib.hid ((box_below w _).trans (z1.mono (by simp)))
  obtain ⟨g0, c0, c1, c2, c3⟩ := (Bx.mk w W D J S 23).below z1
  clear z1
  go_wp2_with fail
  refine (modulo_any _ _ _ HX.out ⟨j1, j2⟩).mono ?_
  rintro _ _ ⟨rfl, rfl⟩
  go_wp2
  go_ret
  exact ⟨rfl, HZ.out⟩
theorem seq_any (W D J S x : Int) (w : World) (hx : U x) : Tells 168 #[cf W D J S, .int .u64 x] w (.int .i64 (sq W D J S x)) := by
  unfold sq
  cases h : may W D J S
  · exact seq_no W D J S x w h
  · exact seq_yes W D J S x w hx h
theorem val_no (W D J S x : Int) (w : World) (h : may W D J S = false) : Tells 171 #[cf W D J S, .int .u64 x] w (.int .i64 (-1)) := by
  have HM := Lib.hid h
  clear h
  go_enter Tryz.func171, Tryz.ntmps171
  go_wp2_with fail
  refine (Tells.of (may_any W D J S _) (v' := .bool false) (by rw [HM.out])).mono ?_
  rintro _ w1 ⟨rfl, z1⟩
  have HZ := Lib.hid ((box_below w _).trans (z1.mono (by simp)))
  clear z1
  go_wp2
  go_ret
  exact ⟨rfl, HZ.out⟩
theorem val_yes (W D J S x : Int) (w : World) (hx : U x) (h : may W D J S = true) : Tells 171 #[cf W D J S, .int .u64 x] w (.int .i64 (6 + J + x % J)) := by
  have HM := Lib.hid h
  have HX := Lib.hid hx
  obtain ⟨hW, hD, ⟨j1, j2⟩, hS⟩ := may_lim h
  obtain ⟨m1, m2⟩ := mod_lim x j1
  clear h hx
  go_enter Tryz.func171, Tryz.ntmps171
  go_wp2_with fail
  refine (Tells.of (may_any W D J S _) (v' := .bool true) (by rw [HM.out])).mono ?_
  rintro _ w1 ⟨rfl, z1⟩
  have HZ := Lib.hid ((box_below w _).trans (z1.mono (by simp)))
  obtain ⟨g0, c0, c1, c2, c3⟩ := (Bx.mk w W D J S 23).below z1
  clear z1
  go_wp2_with fail
  go_quiet ((go_at_call 167; exact Calls.quiet_of_same (modulo_any _ _ _ HX.out ⟨j1, j2⟩)))
  go_wp2
  go_ret
  exact ⟨rfl, HZ.out.trans ((below_drewN _ _).mono HZ.out.size)⟩
theorem val_any (W D J S x : Int) (w : World) (hx : U x) : Tells 171 #[cf W D J S, .int .u64 x] w (.int .i64 (vl W D J S x)) := by
  unfold vl
  cases h : may W D J S
  · exact val_no W D J S x w h
  · exact val_yes W D J S x w hx h
theorem top_any (W D J S x : Int) (w : World) : Tells 81 #[cf W D J S, .int .i64 x] w (.int .i64 (ow W D J S x 0)) := by
  go_enter Tryz.func81, Tryz.ntmps81
  go_wp2_with fail
  refine (own_any W D J S x 0 _ (by omega)).mono ?_
  rintro _ w1 ⟨rfl, z1⟩
  have HZ := Lib.hid ((box_below w _).trans (z1.mono (by simp)))
  clear z1
  go_wp2
  go_ret
  exact ⟨rfl, HZ.out⟩
theorem bottom_any (W D J S x : Int) (w : World) : Tells 82 #[cf W D J S, .int .i64 x] w (.int .i64 (ow W D J S x 1)) := by
  go_enter Tryz.func82, Tryz.ntmps82
  go_wp2_with fail
  refine (own_any W D J S x 1 _ (by omega)).mono ?_
  rintro _ w1 ⟨rfl, z1⟩
  have HZ := Lib.hid ((box_below w _).trans (z1.mono (by simp)))
  clear z1
  go_wp2
  go_ret
  exact ⟨rfl, HZ.out⟩
theorem park_any (W D J S x : Int) (w : World) : Tells 156 #[cf W D J S, .int .i64 x] w (.int .i64 (ow W D J S x 2)) := by
  go_enter Tryz.func156, Tryz.ntmps156
  go_wp2_with fail
  refine (own_any W D J S x 2 _ (by omega)).mono ?_
  rintro _ w1 ⟨rfl, z1⟩
  have HZ := Lib.hid ((box_below w _).trans (z1.mono (by simp)))
  clear z1
  go_wp2
  go_ret
  exact ⟨rfl, HZ.out⟩
theorem slot_no (W D J S y x : Int) (w : World) (h : (may W D J S && wi y 0 (W - 1)) = false) : Tells 132 #[cf W D J S, .int .i64 y, .int .u64 x] w (.int .i64 (-1)) := by
  have HM := Lib.hid h
  clear h
  go_enter Tryz.func132, Tryz.ntmps132
  go_wp2_with fail
  refine (Tells.of (own_any W D J S y 3 _ (by omega)) (v' := .int .i64 (-1)) (by unfold ow; rw [HM.out]; rfl)).mono ?_
  rintro _ w1 ⟨rfl, z1⟩
  have HZ := Lib.hid ((box_below w _).trans (z1.mono (by simp)))
  clear z1
  go_wp2
  go_ret
  exact ⟨rfl, HZ.out⟩
theorem slot_yes (W D J S y x : Int) (w : World) (hx : U x) (h : (may W D J S && wi y 0 (W - 1)) = true) : Tells 132 #[cf W D J S, .int .i64 y, .int .u64 x] w (.int .i64 (bg D J y + 3 + x % D)) := by
  have HM := Lib.hid h
  have HX := Lib.hid hx
  simp only [Bool.and_eq_true, wi_true] at h
  obtain ⟨⟨w1', w2'⟩, ⟨d1, d2⟩, hJ, hS⟩ := may_lim h.1
  obtain ⟨b1, b2⟩ := bg_lim (D := D) ⟨d1, d2⟩ hJ (x := y) ⟨h.2.1, by omega⟩
  obtain ⟨m1, m2⟩ := mod_lim x d1
  have hne : ¬ bg D J y + 3 = -1 := by omega
  clear h hx
  go_enter Tryz.func132, Tryz.ntmps132
  go_wp2_with fail
  refine (Tells.of (own_any W D J S y 3 _ (by omega)) (v' := .int .i64 (bg D J y + 3)) (by unfold ow; rw [HM.out]; rfl)).mono ?_
  rintro _ w1 ⟨rfl, z1⟩
  have HZ := Lib.hid ((box_below w _).trans (z1.mono (by simp)))
  obtain ⟨g0, c0, c1, c2, c3⟩ := (Bx.mk w W D J S 23).below z1
  clear z1
  go_wp2_with fail
  refine (modulo_any _ _ _ HX.out ⟨d1, d2⟩).mono ?_
  rintro _ _ ⟨rfl, rfl⟩
  go_wp2
  go_ret
  exact ⟨rfl, HZ.out⟩
theorem slot_any (W D J S y x : Int) (w : World) (hx : U x) : Tells 132 #[cf W D J S, .int .i64 y, .int .u64 x] w (.int .i64 (sl W D J S y x)) := by
  unfold sl
  cases h : may W D J S && wi y 0 (W - 1)
  · exact slot_no W D J S y x w h
  · exact slot_yes W D J S y x w hx h
end Go.Proofs.YtlpkccpijloidaaGreat
namespace Go.Proofs.YtlpkccpijloidaaGreat
set_option maxRecDepth 100000
open Go.RowKit Go.Deep
theorem new_at (W D J S : Int) (n : Nat) (w : World) (hn : sz W D J S = n) (hs : n ≤ 190) : Calls Tryz.prog 17 #[cf W D J S] w (RetR w n (List.replicate n 0)) := by
  have HN := Lib.hid hn
  clear hn
  go_enter Tryz.func17, Tryz.ntmps17
  go_wp2_with fail
  refine (Tells.of (size_any W D J S _) (v' := .int .i64 n) (by rw [HN.out])).mono ?_
  rintro _ w1 ⟨rfl, z1⟩
  have HZ := Lib.hid ((box_below w _).trans (z1.mono (by simp)))
  clear z1
  go_wp2
  go_loopw [3, 6] (fun m i wr => ∃ (A : Option Addr) (c k : Nat), m = .slice A k c ∧ i = .int .i64 k ∧ k ≤ n ∧ Hid (Own wr w.heap.size A k c (List.replicate k 0)) ∧ Hid (Below w.heap.size w wr)) (fun _ i _ => n - (intOf i).toNat)
  case atStart => exact ⟨none, 0, 0, rfl, rfl, by omega, Lib.hid (World.ownsRow_nil _ _ _ _), HZ⟩
  case round =>
    obtain ⟨A, c, k, rfl, rfl, hk, HO, HW⟩ := hrel
    clear HZ
    by_cases hlt : k < n
    · have hr : Rd (wr.alloc (.cells #[.int .u64 0] 28)) (some ⟨wr.heap.size, 0, none⟩) [0] := Bk.rd (show Bk _ _ [0] from heap_alloc_new _ _)
      obtain ⟨A', c', w2, hrun, hown, hb⟩ := run_app (m := 1) (HO.out.alloc (.cells #[.int .u64 0] 28)) 1 hr rfl (by omega) (by have := HW.out.size; simp; omega)
      have HB := Lib.hid ((HW.out.alloc HW.out.size _).trans hb)
      have HRUN := Lib.hid hrun
      have HO2 := Lib.hid hown
      clear hrun hown hb hr
      go_wp2_with (at_builtin; (with_reducible refine wpList_append_run HRUN.out ?_ ?_ ?_ ?_); exact ⟨_, _, rfl, rfl, rfl⟩; rfl; rfl)
      go_roundw
      case rel => exact ⟨A', c', k + 1, rfl, by go_num, by omega, Lib.hid (by rw [List.replicate_succ']; exact HO2.out), HB⟩
      case measure => simp [intOf]; omega
    · obtain rfl : k = n := by omega
      go_wp2
      go_ret
      exact ⟨A, c, rfl, HO.out.rd, HW.out⟩
theorem sz_lim (W D J S : Int) : 0 ≤ sz W D J S ∧ sz W D J S ≤ 190 := by
  unfold sz
  split
  · rename_i h
    obtain ⟨hW, hD, hJ, hS⟩ := may_lim h
    have := bg_lim hD hJ (x := W) ⟨by omega, by omega⟩
    omega
  · omega
theorem new_any (W D J S : Int) (w : World) : Calls Tryz.prog 17 #[cf W D J S] w (RetR w (sz W D J S).toNat (List.replicate (sz W D J S).toNat 0)) := by
  have := sz_lim W D J S
  exact new_at W D J S _ w (by omega) (by omega)
end Go.Proofs.YtlpkccpijloidaaGreat
namespace Go.Proofs.YtlpkccpijloidaaGreat
set_option maxRecDepth 100000
open Go.RowKit Go.Deep
theorem Bx.alloc {w : World} {g : Nat} {W D J S : Int} (h : Bx w g W D J S) (o : Obj) : Bx (w.alloc o) g W D J S := h.below (box_below w o)
theorem Bx.at (w : World) (g : Nat) (W D J S : Int) (t : TypeId) (hg : g = w.heap.size) : Bx (w.alloc (.cells #[.int .i64 W, .int .i64 D, .int .i64 J, .int .i64 S] t)) g W D J S := by subst hg; exact Bx.mk w W D J S t
theorem Bx.cells {w : World} {g : Nat} {W D J S : Int} (h : Bx w g W D J S) : w.cell? ⟨g, 0, none⟩ = some (.int .i64 W) ∧ w.cell? ⟨g, 1, none⟩ = some (.int .i64 D) ∧ w.cell? ⟨g, 2, none⟩ = some (.int .i64 J) ∧ w.cell? ⟨g, 3, none⟩ = some (.int .i64 S) := h.2
end Go.Proofs.YtlpkccpijloidaaGreat
