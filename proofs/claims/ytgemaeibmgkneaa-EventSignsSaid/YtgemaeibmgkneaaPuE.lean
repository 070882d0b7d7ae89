/- Contracts of within, there, Goes, Clone and steps. -/
import Derived.Test.YtgemaeibmgkneaaDqA
import Derived.Test.YtgemaeibmgkneaaFrH2
namespace Go.Proofs.Ytgemaeibmgkneaa
open Go.RowKit Go.Deep
set_option maxRecDepth 100000 in
theorem pwithin_any (n k : Int) (w : World) : Gives 56 #[.int .i64 n, .int .i64 k] w (.bool (decide (0 ≤ n) && decide (n < k))) := by
  by_cases h1 : 0 ≤ n
  · rw [show (decide (0 ≤ n) && decide (n < k)) = decide (n < k) by simp [h1]]
    go_enter Try.func56, Try.ntmps56
    go_wp2
    go_ret
    exact ⟨rfl, rfl⟩
  · rw [show (decide (0 ≤ n) && decide (n < k)) = false by simp [h1]]
    go_enter Try.func56, Try.ntmps56
    go_wp2
    go_ret
    exact ⟨rfl, rfl⟩
set_option maxRecDepth 100000 in
theorem there_any (W D J S x : Int) (A : Option Addr) (n c : Nat) (m : List Int) (w : World) (hn : m.length = n) : Tells 55 #[cf W D J S, .slice A n c, .int .i64 x] w (.bool (okw W D J S m x)) := by
  have hs : ((n : Int) == sz W D J S) = decide ((m.length : Int) = sz W D J S) := by rw [hn]; exact Bool.eq_iff_iff.2 (by simp)
  unfold okw
  cases h1 : may W D J S
  · have HM := Lib.hid h1
    rw [show (false && decide ((m.length : Int) = sz W D J S) && decide (0 ≤ x) && decide (x < W)) = false by simp]
    clear h1 hs hn
    go_enter Try.func55, Try.ntmps55
    go_wp2_with fail
    refine (Tells.of (may_any W D J S _) (v' := .bool false) (by rw [HM.out])).mono ?_
    rintro _ w1 ⟨rfl, z1⟩
    have HZ := Lib.hid ((box_below w _).trans (z1.mono (by simp)))
    clear z1
    go_wp2
    go_ret
    exact ⟨rfl, HZ.out⟩
  · have HM := Lib.hid h1
    have hz : sz W D J S = bg D J W := by unfold sz; rw [h1]; rfl
    rw [hz] at hs
    cases h2 : decide ((m.length : Int) = bg D J W)
    · rw [h2] at hs
      rw [hz, h2, show (true && false && decide (0 ≤ x) && decide (x < W)) = false by simp]
      have HZ0 := Lib.hid h1
      clear h1 h2 hz hn
      go_enter Try.func55, Try.ntmps55
      go_wp2_with fail
      refine (Tells.of (may_any W D J S _) (v' := .bool true) (by rw [HM.out])).mono ?_
      rintro _ w1 ⟨rfl, z1⟩
      have HZ := Lib.hid ((box_below w _).trans (z1.mono (by simp)))
      obtain ⟨g0, c0, c1, c2, c3⟩ := (Bx.mk w W D J S 36).below z1
      clear z1
      go_wp2_with fail
      refine (size_yes W D J S _ HZ0.out).mono ?_
      rintro _ w2 ⟨rfl, z2⟩
      have HZ2 := Lib.hid (HZ.out.trans (z2.mono HZ.out.size))
      clear z2
      go_wp2
      go_ret
      exact ⟨rfl, HZ2.out⟩
    · rw [h2] at hs
      rw [hz, h2, show (true && true && decide (0 ≤ x) && decide (x < W)) = (decide (0 ≤ x) && decide (x < W)) by simp]
      have HZ0 := Lib.hid h1
      clear h1 h2 hz hn
      go_enter Try.func55, Try.ntmps55
      go_wp2_with fail
      refine (Tells.of (may_any W D J S _) (v' := .bool true) (by rw [HM.out])).mono ?_
      rintro _ w1 ⟨rfl, z1⟩
      have HZ := Lib.hid ((box_below w _).trans (z1.mono (by simp)))
      have bx := (Bx.mk w W D J S 36).below z1
      obtain ⟨g0, c0, c1, c2, c3⟩ := bx
      go_wp2_with fail
      refine (size_yes W D J S _ HZ0.out).mono ?_
      rintro _ w2 ⟨rfl, z2⟩
      have HZ2 := Lib.hid (HZ.out.trans (z2.mono HZ.out.size))
      obtain ⟨g0, c0, c1, c2, c3⟩ := ((Bx.mk w W D J S 36).below z1).below z2
      clear z2 z1
      go_wp2_with fail
      refine (pwithin_any _ _ _).mono ?_
      rintro _ _ ⟨rfl, rfl⟩
      go_wp2
      go_ret
      exact ⟨rfl, HZ2.out⟩
set_option maxRecDepth 100000 in
theorem run_makeFunc (fn : Fn) (first cap : Array Value) (w : World) : (Instr.makeFunc fn first cap).run Try.prog w = .ok (.func fn first cap) w := rfl
attribute [local go_sem] run_store_func run_makeFunc
set_option maxRecDepth 100000 in
theorem own_made (w : World) (base : Nat) (hb : base ≤ w.heap.size) : Own (w.alloc (.cells #[] 32)) base (some ⟨w.heap.size, 0, none⟩) 0 0 [] := by
  refine ⟨rfl, .inr ⟨w.heap.size, 0, #[], rfl, hb, heap_alloc_new _ _, ?_⟩⟩
  exact ⟨by omega, by decide, rfl, rfl⟩
set_option maxRecDepth 100000 in
theorem eql_nil (w : World) (a : Option Addr) (n c : Nat) : (binOp .eql 27 (.slice a n c) (.slice none 0 0)).run Try.prog w = .ok (.bool a.isNone) w := Lib.run_eql_slice_nil w 27 32 a n c 0 0 Try.underlying27
attribute [local go_sem] eql_nil
set_option maxRecDepth 100000 in
theorem Own.rn {w : World} {base : Nat} {A : Option Addr} {n c : Nat} {l : List Int} (h : Own w base A n c l) : Rn base w A l := fun hp => by
  obtain ⟨ad, e, hlt, hc⟩ := h.rd hp
  refine ⟨ad, e, ?_, hlt, hc⟩
  rcases h.2 with ⟨hv, hx⟩ | ⟨g, cap, cur, hv, hb, hg, _⟩
  · have := h.len; omega
  · injection hv with hA _ _
    subst e
    injection hA with hA
    rw [hA]; exact hb
/-- What a call that hands a copy back leaves. -/
def RetN (w : World) (n : Nat) (l : List Int) (e : Ending) (w' : World) : Prop :=
  ∃ A c, e = .returned (.slice A n c) ∧ Rn w.heap.size w' A l ∧ Below w.heap.size w w'
set_option maxRecDepth 100000 in
theorem clone_any (A : Option Addr) (n c : Nat) (l : List Int) (w : World) (h : Rd w A l) (hn : l.length = n) (hs : n ≤ 500) : Calls Try.prog 34 #[.slice A n c] w (RetN w n l) := by
  have H := Lib.hid h
  have HN := Lib.hid hn
  rcases A with _ | a
  · obtain rfl : n = 0 := by
      rcases Nat.eq_zero_or_pos n with h0 | h0
      · exact h0
      · obtain ⟨_, e, _⟩ := h (by omega); cases e
    clear h hn
    go_enter Try.func34, Try.ntmps34
    go_wp2
    go_ret
    exact ⟨none, 0, rfl, by rw [List.eq_nil_of_length_eq_zero HN.out]; exact Rn.nil _ _ _, Below.refl _ _⟩
  · have hm : Below w.heap.size w (w.alloc (.cells #[] 32)) := (Below.refl _ _).alloc (Nat.le_refl _) _
    obtain ⟨A', c', w1, hrun, hown, hb⟩ := run_app (own_made w w.heap.size (Nat.le_refl _)) c (h.below hm) hn (by omega) (by simp)
    simp only [Nat.zero_add, List.nil_append] at hrun hown
    have HO := Lib.hid hown
    have HB := Lib.hid (hm.trans (hb.mono (by simp)))
    have HRUN := Lib.hid hrun
    clear hrun hown hb h hn hm
    go_enter Try.func34, Try.ntmps34
    go_wp2_with (at_builtin; (with_reducible refine wpList_append_run HRUN.out ?_ ?_ ?_ ?_); exact ⟨_, _, rfl, rfl, rfl⟩; rfl; rfl)
    go_ret
    exact ⟨_, _, rfl, HO.out.rn, HB.out⟩
end Go.Proofs.Ytgemaeibmgkneaa
