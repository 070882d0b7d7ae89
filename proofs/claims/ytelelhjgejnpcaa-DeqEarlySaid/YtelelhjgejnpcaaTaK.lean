/- Length and List where there is no injector, at however many cells. -/
import Derived.Test.YtelelhjgejnpcaaTaF
namespace Go.Proofs.Ytelelhjgejnpcaa
open Go.RowKit Go.Deep
theorem okm_big {W D J S : Int} {m : List Int} (h : 500 < m.length) : okm W D J S m = false := by
  cases e : okm W D J S m
  · rfl
  · exfalso
    obtain ⟨hm, hl⟩ := okm_iff.1 e
    obtain ⟨hW, hD, hJ, hS⟩ := may_lim hm
    have := bg_lim (x := W) hD hJ ⟨by omega, by omega⟩
    omega
theorem qlen_no (W D J S : Int) (A : Option Addr) (n c : Nat) (m : List Int) (w : World) (hk : okm W D J S m = false) (hn : m.length = n) : Tells 21 #[cf W D J S, .slice A n c] w (.int .i64 (-1)) := by
  have E1 := Lib.hid hk
  have HN := Lib.hid hn
  clear hk hn
  go_enter Try.func21, Try.ntmps21
  go_wp2_with fail
  refine (Tells.of (qthere_any W D J S A n c m _ HN.out) (v' := .bool false) (by rw [E1.out])).mono ?_
  rintro _ w1 ⟨rfl, z1⟩
  have HZ := Lib.hid ((box_below w _).trans (z1.mono (by simp)))
  clear z1
  go_wp2
  go_ret
  exact ⟨rfl, HZ.out⟩
theorem dlist_none (W D J S : Int) (A : Option Addr) (k c : Nat) (m : List Int) (w : World) (hk : okm W D J S m = false) (hn : m.length = k) : Calls Try.prog 12 #[cf W D J S, .slice A k c] w (RetL w none) := by
  have E1 := Lib.hid hk
  have HN := Lib.hid hn
  clear hk hn
  go_enter Try.func12, Try.ntmps12
  go_wp2
  go_step3
  go_wp2_with fail
  have hb := (((Below.refl w.heap.size w).alloc (Nat.le_refl _) (.cells #[.int .i64 W, .int .i64 D, .int .i64 J, .int .i64 S] 23)).alloc (by simp) (.cells #[.slice A k c] 25))
  have BX := Lib.hid ((Bx.mk w W D J S 23).below (bel_alloc _ (.cells #[.slice A k c] 25)))
  refine (qlen_no W D J S A k c m _ E1.out HN.out).mono ?_
  rintro _ w1 ⟨rfl, z1⟩
  have Z := Lib.hid (hb.trans (z1.mono (by simp; omega)))
  obtain ⟨gx, x0, x1, x2, x3⟩ := BX.out.below z1
  clear z1 hb
  go_wp2
  rw [Exit.noGoto_ret]
  refine bodyPost_ret (by simp [results, Try.results12, go_sem]; try rfl) rfl ?_
  exact ⟨none, 0, rfl, Nat.le_refl _, fun h => by simp at h, Z.out.alloc Z.out.size _⟩
end Go.Proofs.Ytelelhjgejnpcaa
