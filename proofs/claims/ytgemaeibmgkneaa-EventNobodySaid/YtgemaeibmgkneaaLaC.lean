/- Merged: LayC, LayD, LayE. -/
import Derived.Test.YtgemaeibmgkneaaLayB
import Derived.Test.YtgemaeibmgkneaaBaM
namespace Go.Proofs.Ytgemaeibmgkneaa
open Go.RowKit Go.Deep
/-- The injector's cells, and a slot. -/
def sq (W D J S x : Int) : Int := if may W D J S then 6 + x % J else -1
def vl (W D J S x : Int) : Int := if may W D J S then 6 + J + x % J else -1
def sl (W D J S y x : Int) : Int := if may W D J S && wi y 0 (W - 1) then bg D J y + 3 + x % D else -1
set_option maxRecDepth 100000 in
theorem mod_lim (x : Int) {n : Int} (hn : 1 ≤ n) : 0 ≤ x % n ∧ x % n < n := ⟨Int.emod_nonneg x (by omega), Int.emod_lt_of_pos x (by omega)⟩
set_option maxRecDepth 100000 in
theorem park_any (W D J S x : Int) (w : World) : Tells 14 #[cf W D J S, .int .i64 x] w (.int .i64 (ow W D J S x 2)) := by
  go_enter Try.func14, Try.ntmps14
  go_wp2_with fail
  refine (own_any W D J S x 2 _ (by omega)).mono ?_
  rintro _ w1 ⟨rfl, z1⟩
  have HZ := Lib.hid ((box_below w _).trans (z1.mono (by simp)))
  clear z1
  go_wp2
  go_ret
  exact ⟨rfl, HZ.out⟩
end Go.Proofs.Ytgemaeibmgkneaa
namespace Go.Proofs.Ytgemaeibmgkneaa
open Go.RowKit Go.Deep
set_option maxRecDepth 100000 in
theorem new_at (W D J S : Int) (n : Nat) (w : World) (hn : sz W D J S = n) (hs : n ≤ 190) : Calls Try.prog 22 #[cf W D J S] w (RetR w n (List.replicate n 0)) := by
  have HN := Lib.hid hn
  clear hn
  go_enter Try.func22, Try.ntmps22
  go_wp2_with fail
  refine (Tells.of (size_any W D J S _) (v' := .int .i64 n) (by rw [HN.out])).mono ?_
  rintro _ w1 ⟨rfl, z1⟩
  have HZ := Lib.hid ((box_below w _).trans (z1.mono (by simp)))
  clear z1
  go_wp2
  go_loopw [3, 6] (fun m i wr => ∃ (A : Option Addr) (c k : Nat), m = .slice A k c ∧ i = .int .i64 k ∧ k ≤ n ∧ Hid (Own wr w.heap.size A k c (List.replicate k 0)) ∧ Hid (Below w.heap.size w wr)) (fun _ i _ => n - (intOf i).toNat)
  case atStart => exact ⟨none, 0, 0, rfl, rfl, by omega, Lib.hid (World.ownsRow_nil _ _ _ _), HZ⟩
  case round =>
    obtain ⟨A, c, k, rfl, rfl, hk, HO, HW⟩ := hrel
    clear HZ
    by_cases hlt : k < n
    · have hr : Rd (wr.alloc (.cells #[.int .u64 0] 32)) (some ⟨wr.heap.size, 0, none⟩) [0] := Bk.rd (show Bk _ _ [0] from heap_alloc_new _ _)
      obtain ⟨A', c', w2, hrun, hown, hb⟩ := run_app (m := 1) (HO.out.alloc (.cells #[.int .u64 0] 32)) 1 hr rfl (by omega) (by have := HW.out.size; simp; omega)
      have HB := Lib.hid ((HW.out.alloc HW.out.size _).trans hb)
      have HRUN := Lib.hid hrun
      have HO2 := Lib.hid hown
      clear hrun hown hb hr
      go_wp2_with (at_builtin; (with_reducible refine wpList_append_run HRUN.out ?_ ?_ ?_ ?_); exact ⟨_, _, rfl, rfl, rfl⟩; rfl; rfl)
      go_roundw
      case rel => exact ⟨A', c', k + 1, rfl, by go_num, by omega, Lib.hid (by rw [List.replicate_succ']; exact HO2.out), HB⟩
      case measure => simp [intOf]; omega
    · obtain rfl : k = n := by omega
      go_wp2
      go_ret
      exact ⟨A, c, rfl, HO.out.rd, HW.out⟩
set_option maxRecDepth 100000 in
theorem sz_lim (W D J S : Int) : 0 ≤ sz W D J S ∧ sz W D J S ≤ 190 := by
  unfold sz
  split
  · rename_i h
    obtain ⟨hW, hD, hJ, hS⟩ := may_lim h
    have := bg_lim hD hJ (x := W) ⟨by omega, by omega⟩
    omega
  · omega
set_option maxRecDepth 100000 in
theorem new_any (W D J S : Int) (w : World) : Calls Try.prog 22 #[cf W D J S] w (RetR w (sz W D J S).toNat (List.replicate (sz W D J S).toNat 0)) := by
  have := sz_lim W D J S
  exact new_at W D J S _ w (by omega) (by omega)
end Go.Proofs.Ytgemaeibmgkneaa
namespace Go.Proofs.Ytgemaeibmgkneaa
open Go.RowKit Go.Deep
set_option maxRecDepth 100000 in
theorem Bx.alloc {w : World} {g : Nat} {W D J S : Int} (h : Bx w g W D J S) (o : Obj) : Bx (w.alloc o) g W D J S := h.below (box_below w o)
set_option maxRecDepth 100000 in
theorem Bx.at (w : World) (g : Nat) (W D J S : Int) (t : TypeId) (hg : g = w.heap.size) : Bx (w.alloc (.cells #[.int .i64 W, .int .i64 D, .int .i64 J, .int .i64 S] t)) g W D J S := by subst hg; exact Bx.mk w W D J S t
set_option maxRecDepth 100000 in
theorem Bx.cells {w : World} {g : Nat} {W D J S : Int} (h : Bx w g W D J S) : w.cell? ⟨g, 0, none⟩ = some (.int .i64 W) ∧ w.cell? ⟨g, 1, none⟩ = some (.int .i64 D) ∧ w.cell? ⟨g, 2, none⟩ = some (.int .i64 J) ∧ w.cell? ⟨g, 3, none⟩ = some (.int .i64 S) := h.2
set_option maxRecDepth 100000 in
theorem held_call {S : World → Prop} {w2 w w' : World} (K : ∀ x, Below w2.heap.size w2 x → S x) (G : ∀ x, S x → Below w2.heap.size w2 x) (hc : Below w.heap.size w w') (h : S w) : S w' := K _ (keep_call hc (G _ h))
set_option maxRecDepth 100000 in
theorem held_drew {S : World → Prop} {w2 w : World} (K : ∀ x, Below w2.heap.size w2 x → S x) (G : ∀ x, S x → Below w2.heap.size w2 x) (h : S w) : S w.drew := K _ (keep_drew (G _ h))
end Go.Proofs.Ytgemaeibmgkneaa
