/- Plain facts of forests: all tasks are under the roots, once; their work together; who comes ahead of whom. -/
import Derived.Test.YtajbnpjdhmeeiaaFoO
namespace Go.Proofs.Ytajbnpjdhmeeiaa

theorem und_yes {T : List Tsk} (h : may T = true) {r : Nat} (hr : r < T.length) : und T r = U1 T r := by
  unfold und; rw [if_pos ⟨h, by omega, by omega⟩, Int.toNat_natCast]; rfl
theorem mem_rtN {T : List Tsk} {j : Nat} {x : Int} : x ∈ rtN T j ↔ 0 ≤ x ∧ x < j ∧ pa T x = -1 := by
  unfold rtN
  simp only [List.mem_map, List.mem_filter, List.mem_range, decide_eq_true_eq]
  constructor
  · rintro ⟨a, ⟨h1, h2⟩, rfl⟩
    exact ⟨by omega, by omega, h2⟩
  · rintro ⟨h1, h2, h3⟩
    exact ⟨x.toNat, ⟨by omega, by rw [show ((x.toNat : Nat) : Int) = x by omega]; exact h3⟩, by omega⟩
theorem count_single (x k : Int) : [x].count k = if k = x then 1 else 0 := by
  by_cases e : k = x
  · subst e; simp
  · rw [if_neg e]; exact List.count_eq_zero_of_not_mem (by simpa using e)
theorem if_add (p q r : Prop) [Decidable p] [Decidable q] [Decidable r] (h1 : p → ¬ q) (h2 : r ↔ p ∨ q) : (if p then 1 else 0) + (if q then 1 else 0) = (if r then 1 else 0 : Nat) := by
  by_cases hp : p
  · have hq := h1 hp
    have hr := h2.2 (.inl hp)
    simp [hp, hq, hr]
  · by_cases hq : q
    · have hr := h2.2 (.inr hq)
      simp [hp, hq, hr]
    · have hr : ¬ r := fun h => (h2.1 h).elim hp hq
      simp [hp, hq, hr]
theorem count_rtN (T : List Tsk) (j : Nat) (k : Int) : (rtN T j).count k = if 0 ≤ k ∧ k < j ∧ pa T k = -1 then 1 else 0 := by
  induction j with
  | zero =>
    rw [if_neg (by omega)]; rfl
  | succ j ih =>
    by_cases h : pa T j = -1
    · rw [rtN_yes h, List.count_append, ih, count_single]
      refine if_add _ _ _ (by omega) ⟨fun h2 => ?_, fun h2 => ?_⟩
      · by_cases e : k = j
        · exact .inr e
        · exact .inl ⟨h2.1, by omega, h2.2.2⟩
      · rcases h2 with h2 | rfl
        · exact ⟨h2.1, by omega, h2.2.2⟩
        · exact ⟨by omega, by omega, h⟩
    · rw [rtN_no h, ih]
      by_cases h2 : 0 ≤ k ∧ k < j ∧ pa T k = -1
      · rw [if_pos h2, if_pos ⟨h2.1, by omega, h2.2.2⟩]
      · rw [if_neg h2, if_neg]
        rintro ⟨h3, h4, h5⟩
        by_cases e : k = j
        · subst e; exact h h5
        · exact h2 ⟨h3, by omega, h5⟩
/-- All that is under the roots. -/
def LL (T : List Tsk) : List Int := (rtN T T.length).flatMap fun r => U1 T r.toNat
theorem LL_mem {T : List Tsk} (h : okP T.length (sp T)) {x : Int} (hx : x ∈ LL T) : 0 ≤ x ∧ x < T.length := by
  obtain ⟨r, hr, hx⟩ := List.mem_flatMap.1 hx
  have h1 := mem_rtN.1 hr
  have := U1_in h (r := r.toNat) (by omega) hx
  omega
theorem count_LL_step {T : List Tsk} (h : okP T.length (sp T)) (k : Int) : (LL T).count k = (rtN T T.length).count k + if pa T k = -1 then 0 else (LL T).count (pa T k) := by
  have e1 : (LL T).count k = sumN (fun r => (if k = r then 1 else 0) + (if pa T k = -1 then 0 else (U1 T r.toNat).count (pa T k))) (rtN T T.length) := by
    unfold LL
    rw [count_flat]
    refine sumN_congr fun r hr => ?_
    have h1 := mem_rtN.1 hr
    have h2 := count_at h (r := r.toNat) (by omega) k
    rw [show ((r.toNat : Nat) : Int) = r by omega] at h2
    exact h2
  rw [e1, sumN_add, sumN_is]
  by_cases e : pa T k = -1
  · rw [if_pos e, sumN_congr (g := fun _ => 0) (fun x _ => if_pos e), sumN_zero]
  · rw [if_neg e, sumN_congr (g := fun r => (U1 T r.toNat).count (pa T k)) (fun x _ => if_neg e)]
    unfold LL
    rw [count_flat]
theorem count_LL {T : List Tsk} (h : okP T.length (sp T)) (m : Nat) : ∀ k : Int, 0 ≤ k → k < T.length → k < m → (LL T).count k = 1 := by
  induction m with
  | zero => intro k h1 _ h3; omega
  | succ m ih =>
    intro k h1 h2 h3
    rw [count_LL_step h k, count_rtN]
    by_cases e : pa T k = -1
    · rw [if_pos ⟨h1, h2, e⟩, if_pos e]
    · rw [if_neg (fun h => e h.2.2), if_neg e]
      have h4 := pa_lt h h1
      have h5 := pa_ge T k
      rw [ih (pa T k) (by omega) (by omega) (by omega)]
theorem LL_once {T : List Tsk} (h : okP T.length (sp T)) {k : Int} (h1 : 0 ≤ k) (h2 : k < T.length) : (LL T).count k = 1 := count_LL h (k.toNat + 1) k h1 h2 (by omega)
/-- The numbers from 0 on. -/
def nums (n : Nat) : List Int := (List.range n).map fun k : Nat => (k : Int)
theorem nums_succ (n : Nat) : nums (n + 1) = nums n ++ [(n : Int)] := by unfold nums; rw [List.range_succ, List.map_append]; rfl
theorem count_nums (n : Nat) (k : Int) : (nums n).count k = if 0 ≤ k ∧ k < n then 1 else 0 := by
  induction n with
  | zero => rw [if_neg (by omega)]; rfl
  | succ n ih =>
    rw [nums_succ, List.count_append, ih, count_single]
    exact if_add _ _ _ (by omega) (by omega)
theorem LL_perm {T : List Tsk} (h : okP T.length (sp T)) : (LL T).Perm (nums T.length) := by
  rw [List.perm_iff_count]
  intro k
  rw [count_nums]
  by_cases e : 0 ≤ k ∧ k < T.length
  · rw [if_pos e, LL_once h e.1 e.2]
  · rw [if_neg e]
    exact List.count_eq_zero_of_not_mem (fun hx => e (LL_mem h hx))
theorem nums_len (n : Nat) : (nums n).length = n := by simp [nums]
theorem LL_len {T : List Tsk} (h : okP T.length (sp T)) : (LL T).length = T.length := by rw [(LL_perm h).length_eq, nums_len]
/-- The work of those in l, together. -/
def wsm (T : List Tsk) : List Int → Int
  | [] => 0
  | x :: l => (T.getD x.toNat (0, [])).1 + wsm T l
theorem wsm_append (T : List Tsk) (l k : List Int) : wsm T (l ++ k) = wsm T l + wsm T k := by
  induction l with
  | nil => simp [wsm]
  | cons x l ih => rw [List.cons_append, wsm, wsm, ih]; omega
theorem wsm_perm {T : List Tsk} {l k : List Int} (h : l.Perm k) : wsm T l = wsm T k := by
  induction h with
  | nil => rfl
  | cons x _ ih => rw [wsm, wsm, ih]
  | swap x y l => simp only [wsm]; omega
  | trans _ _ ih1 ih2 => rw [ih1, ih2]
theorem wsm_nums (T : List Tsk) (n : Nat) : wsm T (nums n) = smN T n := by
  induction n with
  | zero => rfl
  | succ n ih => rw [nums_succ, wsm_append, ih, smN, wsm, wsm, Int.toNat_natCast]; omega
theorem wsm_LL {T : List Tsk} (h : okP T.length (sp T)) : wsm T (LL T) = smN T T.length := by rw [wsm_perm (LL_perm h), wsm_nums]
theorem wsm_one {T : List Tsk} (x : Nat) (hx : x < T.length) : wsm T [(x : Int)] = T[x].1 := by
  rw [wsm, wsm, Int.toNat_natCast, List.getD_eq_getElem?_getD, List.getElem?_eq_getElem hx]; simp
theorem wsm_le {T : List Tsk} (h : wk T = true) (l : List Int) (hl : ∀ x ∈ l, 0 ≤ x ∧ x < T.length) : 0 ≤ wsm T l ∧ wsm T l ≤ 20 * l.length := by
  induction l with
  | nil => simp [wsm]
  | cons x l ih =>
    have h1 := ih (fun y hy => hl y (by simp [hy]))
    have h2 := hl x (by simp)
    obtain ⟨q, rfl⟩ : ∃ q : Nat, x = q := ⟨x.toNat, by omega⟩
    have h3 := wk_at h (j := q) (by omega)
    rw [wsm, Int.toNat_natCast, List.getD_eq_getElem?_getD, List.getElem?_eq_getElem (show q < T.length by omega)]
    simp only [Option.getD_some, List.length_cons]
    omega
theorem count_take {l : List Int} {i : Nat} (h : i < l.length) (k : Int) : (l.take (i + 1)).count k = (l.take i).count k + if l[i] = k then 1 else 0 := by
  rw [List.take_succ_eq_append_getElem h, List.count_append, List.count_singleton]
  by_cases e : l[i] = k
  · simp [e]
  · simp [e]
theorem wsm_take {T : List Tsk} {l : List Int} {i : Nat} (h : i < l.length) : wsm T (l.take (i + 1)) = wsm T (l.take i) + wsm T [l[i]] := by
  rw [List.take_succ_eq_append_getElem h, wsm_append]
/-- What is under the first j roots. -/
def LJ (T : List Tsk) (j : Nat) : List Int := ((rtN T T.length).take j).flatMap fun r => U1 T r.toNat
theorem LJ_succ {T : List Tsk} {j : Nat} (h : j < (rtN T T.length).length) : LJ T (j + 1) = LJ T j ++ U1 T ((rtN T T.length)[j]).toNat := flat_succ h
theorem LJ_le {T : List Tsk} {j : Nat} (h : j < (rtN T T.length).length) : (LJ T j).length + (U1 T ((rtN T T.length)[j]).toNat).length ≤ (LL T).length := flat_le h
theorem LJ_end (T : List Tsk) : LJ T (rtN T T.length).length = LL T := by unfold LJ LL; rw [List.take_length]
theorem LJ_le' (T : List Tsk) (j : Nat) : (LJ T j).length ≤ (LL T).length := by
  have h2 := congrArg List.length (congrArg (List.flatMap fun r : Int => U1 T r.toNat) (List.take_append_drop j (rtN T T.length)))
  rw [List.flatMap_append, List.length_append] at h2
  unfold LJ LL
  omega
theorem rtN_at {T : List Tsk} {j : Nat} (h : j < (rtN T T.length).length) : ∃ q : Nat, (rtN T T.length)[j] = (q : Int) ∧ q < T.length ∧ pa T q = -1 := by
  have h1 := mem_rtN.1 (List.getElem_mem h)
  refine ⟨((rtN T T.length)[j]).toNat, by omega, by omega, ?_⟩
  rw [show ((((rtN T T.length)[j]).toNat : Nat) : Int) = (rtN T T.length)[j] by omega]
  exact h1.2.2
end Go.Proofs.Ytajbnpjdhmeeiaa
