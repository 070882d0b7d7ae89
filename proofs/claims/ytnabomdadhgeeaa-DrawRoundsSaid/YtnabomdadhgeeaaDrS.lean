/- Plain facts: rounds, one behind the other, and the same without somebody. -/
import Derived.Test.YtnabomdadhgeeaaDrM
namespace Go.Proofs.Ytnabomdadhgeeaa
open Go.RowKit Go.Deep
/-- The first n rounds. -/
def rds (m q n : Nat) : List Pk := (List.range n).flatMap fun i : Nat => rndN m (i : Int) (m + q)
/-- Does a pick not name worker k? -/
def nk (k : Nat) (x : Pk) : Bool := x.1 != 0 || x.2.1 != (k : Int)
/-- The first n rounds without worker k. -/
def les (m q n k : Nat) : List Pk := (rds m q n).filter (nk k)
def checks (m q n k : Nat) : Bool := decide ((rds m q n).length = n * (m + q)) && fairN (rds m q n) m q (2 * (m + q) - 1) && fairN (rds m q n) m q (m + q) && (decide (m + q = 1) || !fairN (les m q n k) m q 1) && decide ((les m q n k).length = n * (m + q - 1))
theorem all_checks : ((List.range 5).all fun m => (List.range 4).all fun q => (List.range 6).all fun n => (List.range 4).all fun k => decide (m < 1) || decide (n < 2) || decide (m ≤ k) || checks m q n k) = true := by decide +kernel
theorem checks_at {m q n k : Nat} (h1 : 1 ≤ m) (h4 : m ≤ 4) (hq : q ≤ 3) (h2 : 2 ≤ n) (h5 : n ≤ 5) (hk : k < m) : checks m q n k = true := by
  have h := all_checks
  rw [List.all_eq_true] at h
  have a := h m (List.mem_range.2 (by omega))
  rw [List.all_eq_true] at a
  have b := a q (List.mem_range.2 (by omega))
  rw [List.all_eq_true] at b
  have c := b n (List.mem_range.2 (by omega))
  rw [List.all_eq_true] at c
  have d := c k (List.mem_range.2 (by omega))
  rw [decide_eq_false (by omega), decide_eq_false (by omega), decide_eq_false (by omega)] at d
  simpa using d
theorem checks_parts {m q n k : Nat} (h : checks m q n k = true) : (rds m q n).length = n * (m + q) ∧ fairN (rds m q n) m q (2 * (m + q) - 1) = true ∧ fairN (rds m q n) m q (m + q) = true ∧ (m + q = 1 ∨ fairN (les m q n k) m q 1 = false) ∧ (les m q n k).length = n * (m + q - 1) := by
  unfold checks at h
  simp only [Bool.and_eq_true, Bool.or_eq_true, decide_eq_true_eq, Bool.not_eq_true'] at h
  obtain ⟨⟨⟨⟨a, b⟩, c⟩, d⟩, e⟩ := h
  exact ⟨a, b, c, d, e⟩
theorem rds_succ (m q n : Nat) : rds m q (n + 1) = rds m q n ++ rndN m n (m + q) := by simp [rds, List.range_succ]
theorem rds_len (m q n : Nat) : (rds m q n).length = n * (m + q) := by
  induction n with
  | zero => simp [rds]
  | succ n ih => rw [rds_succ, List.length_append, ih, rndN_len, Nat.succ_mul]
theorem les_succ (m q n k : Nat) : les m q (n + 1) k = les m q n k ++ (rndN m n (m + q)).filter (nk k) := by unfold les; rw [rds_succ, List.filter_append]
theorem les_le (m q n k : Nat) : (les m q n k).length ≤ n * (m + q) := by rw [← rds_len]; exact List.length_filter_le _ _
end Go.Proofs.Ytnabomdadhgeeaa
