/- Contracts of package lay: New. -/
import Derived.Test.YtfeccpfkpbminaaLayC
namespace Go.Proofs.Ytfeccpfkpbminaa
open Go.RowKit Go.Deep
theorem new_at (W D J S : Int) (n : Nat) (w : World) (hn : sz W D J S = n) (hs : n ≤ 190) : Calls Try.prog 22 #[cf W D J S] w (RetR w n (List.replicate n 0)) := by
  have HN := Lib.hid hn
  clear hn
  go_enter Try.func22, Try.ntmps22
  go_wp2_with fail
  refine (Tells.of (size_any W D J S _) (v' := .int .i64 n) (by rw [HN.out])).mono ?_
  rintro _ w1 ⟨rfl, z1⟩
  have HZ := Lib.hid ((box_below w _).trans (z1.mono (by simp)))
  clear z1
  go_wp2
  go_loopw [3, 6] (fun m i wr => ∃ (A : Option Addr) (c k : Nat), m = .slice A k c ∧ i = .int .i64 k ∧ k ≤ n ∧ Hid (Own wr w.heap.size A k c (List.replicate k 0)) ∧ Hid (Below w.heap.size w wr)) (fun _ i _ => n - (intOf i).toNat)
  case atStart => exact ⟨none, 0, 0, rfl, rfl, by omega, Lib.hid (World.ownsRow_nil _ _ _ _), HZ⟩
  case round =>
    obtain ⟨A, c, k, rfl, rfl, hk, HO, HW⟩ := hrel
    clear HZ
    by_cases hlt : k < n
    · have hr : Rd (wr.alloc (.cells #[.int .u64 0] 26)) (some ⟨wr.heap.size, 0, none⟩) [0] := Bk.rd (show Bk _ _ [0] from heap_alloc_new _ _)
      obtain ⟨A', c', w2, hrun, hown, hb⟩ := run_app (m := 1) (HO.out.alloc (.cells #[.int .u64 0] 26)) 1 hr rfl (by omega) (by have := HW.out.size; simp; omega)
      have HB := Lib.hid ((HW.out.alloc HW.out.size _).trans hb)
      have HRUN := Lib.hid hrun
      have HO2 := Lib.hid hown
      clear hrun hown hb hr
      go_wp2_with (at_builtin; (with_reducible refine wpList_append_run HRUN.out ?_ ?_ ?_ ?_); exact ⟨_, _, rfl, rfl, rfl⟩; rfl; rfl)
      go_roundw
      case rel => exact ⟨A', c', k + 1, rfl, by go_num, by omega, Lib.hid (by rw [List.replicate_succ']; exact HO2.out), HB⟩
      case measure => simp [intOf]; omega
    · obtain rfl : k = n := by omega
      go_wp2
      go_ret
      exact ⟨A, c, rfl, HO.out.rd, HW.out⟩
theorem sz_lim (W D J S : Int) : 0 ≤ sz W D J S ∧ sz W D J S ≤ 190 := by
  unfold sz
  split
  · rename_i h
    obtain ⟨hW, hD, hJ, hS⟩ := may_lim h
    have := bg_lim hD hJ (x := W) ⟨by omega, by omega⟩
    omega
  · omega
theorem new_any (W D J S : Int) (w : World) : Calls Try.prog 22 #[cf W D J S] w (RetR w (sz W D J S).toNat (List.replicate (sz W D J S).toNat 0)) := by
  have := sz_lim W D J S
  exact new_at W D J S _ w (by omega) (by omega)
end Go.Proofs.Ytfeccpfkpbminaa
