/- Few tasks, of few kids; what is known of tasks that may be. -/
import Derived.Test.YtobcedlkmnmikaaFoM
import Derived.IntWalk
namespace Go.Proofs.Ytobcedlkmnmikaa.Fo
open Go.RowKit Go.Deep
theorem wk_at {T : List Tsk} (h : wk T = true) {j : Nat} (hj : j < T.length) : 0 ≤ T[j].1 ∧ T[j].1 ≤ 20 := by
  by_cases e : 0 ≤ T[j].1 ∧ T[j].1 ≤ 20
  · exact e
  · rw [wk_no hj e] at h; cases h
theorem may_parts {T : List Tsk} (h : may T = true) : T.length ≤ 30 ∧ wk T = true ∧ okP T.length (sp T) := by
  unfold may kd at h
  simpa using h
/-- Are there few tasks of few kids? -/
def few (T : List Tsk) : Bool := decide (T.length ≤ 40) && T.all fun x => decide (x.2.length ≤ 40)
theorem few_sm {T : List Tsk} (h : few T = true) : Sm T := by
  unfold few at h
  simp only [Bool.and_eq_true, decide_eq_true_eq, List.all_eq_true] at h
  exact ⟨by omega, fun x hx => by have := h.2 x hx; omega⟩
theorem few_no {T : List Tsk} {j : Nat} (h : j < T.length) (hx : 40 < T[j].2.length) : few T = false := by
  cases e : few T
  · rfl
  · unfold few at e
    simp only [Bool.and_eq_true, decide_eq_true_eq, List.all_eq_true] at e
    have := e.2 _ (List.getElem_mem h)
    omega
theorem few_yes {T : List Tsk} (hl : T.length ≤ 40) (h : ∀ j, (hj : j < T.length) → T[j].2.length ≤ 40) : few T = true := by
  unfold few
  simp only [Bool.and_eq_true, decide_eq_true_eq, List.all_eq_true]
  refine ⟨hl, fun x hx => ?_⟩
  obtain ⟨j, hj, rfl⟩ := List.getElem_of_mem hx
  exact h j hj
theorem few_len {T : List Tsk} (hl : 40 < T.length) : few T = false := by
  unfold few
  rw [decide_eq_false (by omega)]; rfl
set_option maxHeartbeats 400000 in
theorem few_any (A : Option Addr) (c n₀ : Nat) (T : List Tsk) (w : World) (hT : Tk n₀ w A T) (hl : T.length ≤ maxLen) (hk : ∀ x ∈ T, x.2.length ≤ maxLen) : Gives 10 #[.slice A T.length c] w (.bool (few T)) := by
  have HT := Lib.hid hT
  have HK := Lib.hid hk
  clear hT hk
  unfold maxLen at hl
  go_enter Try.func10, Try.ntmps10
  go_wp2
  go_loop [3] (fun i => ∃ j : Nat, j ≤ 41 ∧ j ≤ T.length ∧ i = .int .i64 j ∧ ∀ i, (hi : i < T.length) → i < j → T[i].2.length ≤ 40) (fun i => 41 - (intOf i).toNat)
  case atStart => exact ⟨0, by omega, by omega, rfl, fun i hi h => by omega⟩
  case round =>
    obtain ⟨j, hj, hjl, rfl, hall⟩ := hrel
    have HA := Lib.hid hall
    clear hall
    by_cases hlt : j < T.length
    · have hlt' : decide (j < T.length) = true := decide_eq_true hlt
      by_cases h4 : j ≤ 40
      · obtain ⟨b, off, K, c', rfl, hal, c0, c1, _⟩ := HT.out.at hlt
        have hm := HK.out _ (List.getElem_mem hlt)
        unfold maxLen at hm
        by_cases hx : T[j].2.length ≤ 40
        · go_wp2
          go_round
          case rel => exact ⟨j + 1, by omega, by omega, by go_num, fun i hi h => by
            by_cases e : i = j
            · subst e; exact hx
            · exact HA.out i hi (by omega)⟩
          case measure => simp [intOf]; omega
        · have E := Lib.hid (few_no hlt (by omega))
          go_wp2
          go_ret
          exact ⟨by rw [E.out]; rfl, rfl⟩
      · have E := Lib.hid (few_len (T := T) (by omega))
        go_wp2
        go_ret
        exact ⟨by rw [E.out]; show Ending.returned (.bool (decide ((T.length : Int) ≤ 40))) = _; rw [decide_eq_false (by omega)], rfl⟩
    · by_cases h4 : T.length ≤ 40
      · have E := Lib.hid (few_yes h4 (fun i hi => HA.out i hi (by omega)))
        go_wp2
        go_ret
        exact ⟨by rw [E.out]; show Ending.returned (.bool (decide ((T.length : Int) ≤ 40))) = _; rw [decide_eq_true (by omega)], rfl⟩
      · have E := Lib.hid (few_len (T := T) (by omega))
        go_wp2
        go_ret
        exact ⟨by rw [E.out]; show Ending.returned (.bool (decide ((T.length : Int) ≤ 40))) = _; rw [decide_eq_false (by omega)], rfl⟩
end Go.Proofs.Ytobcedlkmnmikaa.Fo
