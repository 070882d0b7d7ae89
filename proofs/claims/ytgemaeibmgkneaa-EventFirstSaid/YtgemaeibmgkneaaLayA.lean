/- Contracts of package lay: its small helpers, May, and where a worker's cells begin. -/
import Derived.Test.YtgemaeibmgkneaaBaM
import Derived.Laws.BitsAllLaws
import Derived.Laws.BitsLemmas
namespace Go.Proofs.Ytgemaeibmgkneaa
open Go.RowKit Go.Deep
/-- A layout's value. -/
abbrev cf (W D J S : Int) : Value := .agg #[.int .i64 W, .int .i64 D, .int .i64 J, .int .i64 S]
def wi (n a b : Int) : Bool := decide (a ≤ n ∧ n ≤ b)
def p2 (n : Int) : Bool := decide (n = 1 ∨ n = 2 ∨ n = 4 ∨ n = 8 ∨ n = 16)
/-- A layout may be. -/
def may (W D J S : Int) : Bool := wi W 1 8 && wi D 1 16 && p2 D && wi J 1 16 && wi S 0 4
/-- Where a worker's cells begin. -/
def bg (D J w : Int) : Int := 6 + 2 * J + w * (3 + D)
set_option maxRecDepth 100000 in
theorem wi_true {n a b : Int} : wi n a b = true ↔ a ≤ n ∧ n ≤ b := by simp [wi]
set_option maxRecDepth 100000 in
theorem wi_false {n a b : Int} : wi n a b = false ↔ n < a ∨ b < n := by simp [wi]; omega
set_option maxRecDepth 100000 in
theorem within_any (n a b : Int) (w : World) : Gives 39 #[.int .i64 n, .int .i64 a, .int .i64 b] w (.bool (wi n a b)) := by
  by_cases h1 : a ≤ n
  · by_cases h2 : n ≤ b
    · rw [wi_true.2 ⟨h1, h2⟩]
      go_enter Try.func39, Try.ntmps39
      go_wp2
      go_ret
      exact ⟨rfl, rfl⟩
    · rw [wi_false.2 (.inr (by omega))]
      go_enter Try.func39, Try.ntmps39
      go_wp2
      go_ret
      exact ⟨rfl, rfl⟩
  · rw [wi_false.2 (.inl (by omega))]
    go_enter Try.func39, Try.ntmps39
    go_wp2
    go_ret
    exact ⟨rfl, rfl⟩
set_option maxRecDepth 100000 in
theorem pow_any (n : Int) (w : World) (h : 1 ≤ n ∧ n ≤ 16) : Gives 40 #[.int .i64 n] w (.bool (p2 n)) := by
  have hn : n = 1 ∨ n = 2 ∨ n = 3 ∨ n = 4 ∨ n = 5 ∨ n = 6 ∨ n = 7 ∨ n = 8 ∨ n = 9 ∨ n = 10 ∨ n = 11 ∨ n = 12 ∨ n = 13 ∨ n = 14 ∨ n = 15 ∨ n = 16 := by omega
  rcases hn with rfl | rfl | rfl | rfl | rfl | rfl | rfl | rfl | rfl | rfl | rfl | rfl | rfl | rfl | rfl | rfl
  all_goals
    go_enter Try.func40, Try.ntmps40
    go_wp2
    go_ret
    exact ⟨by rfl, rfl⟩
set_option maxRecDepth 100000 in
theorem box_below (w : World) (o : Obj) : Below w.heap.size w (w.alloc o) := (Below.refl _ _).alloc (Nat.le_refl _) o
set_option maxRecDepth 100000 in
theorem may_any (W D J S : Int) (w : World) : Tells 21 #[cf W D J S] w (.bool (may W D J S)) := by
  by_cases h1 : wi W 1 8 = true
  · by_cases h2 : wi D 1 16 = true
    · have HD := Lib.hid (wi_true.1 h2)
      cases h3 : p2 D
      · rw [show may W D J S = false by unfold may; rw [h3]; simp]
        go_enter Try.func21, Try.ntmps21
        go_wp2_with (first | (go_at_call 39; (with_reducible refine (within_any _ _ _ _).mono ?_); rintro _ _ ⟨rfl, rfl⟩) | (go_at_call 40; (with_reducible refine (pow_any _ _ HD.out).mono ?_); rintro _ _ ⟨rfl, rfl⟩))
        go_ret
        exact ⟨rfl, box_below _ _⟩
      · cases h4 : wi J 1 16
        · rw [show may W D J S = false by unfold may; rw [h4]; simp]
          go_enter Try.func21, Try.ntmps21
          go_wp2_with (first | (go_at_call 39; (with_reducible refine (within_any _ _ _ _).mono ?_); rintro _ _ ⟨rfl, rfl⟩) | (go_at_call 40; (with_reducible refine (pow_any _ _ HD.out).mono ?_); rintro _ _ ⟨rfl, rfl⟩))
          go_ret
          exact ⟨rfl, box_below _ _⟩
        · rw [show may W D J S = wi S 0 4 by unfold may; rw [h1, h2, h3, h4]; simp]
          go_enter Try.func21, Try.ntmps21
          go_wp2_with (first | (go_at_call 39; (with_reducible refine (within_any _ _ _ _).mono ?_); rintro _ _ ⟨rfl, rfl⟩) | (go_at_call 40; (with_reducible refine (pow_any _ _ HD.out).mono ?_); rintro _ _ ⟨rfl, rfl⟩))
          go_ret
          exact ⟨rfl, box_below _ _⟩
    · replace h2 : wi D 1 16 = false := by simpa using h2
      rw [show may W D J S = false by unfold may; rw [h2]; simp]
      go_enter Try.func21, Try.ntmps21
      go_wp2_with (go_at_call 39; (with_reducible refine (within_any _ _ _ _).mono ?_); rintro _ _ ⟨rfl, rfl⟩)
      go_ret
      exact ⟨rfl, box_below _ _⟩
  · replace h1 : wi W 1 8 = false := by simpa using h1
    rw [show may W D J S = false by unfold may; rw [h1]; simp]
    go_enter Try.func21, Try.ntmps21
    go_wp2_with (go_at_call 39; (with_reducible refine (within_any _ _ _ _).mono ?_); rintro _ _ ⟨rfl, rfl⟩)
    go_ret
    exact ⟨rfl, box_below _ _⟩
end Go.Proofs.Ytgemaeibmgkneaa
