/- Plain facts of forests: parents, what is under a task, and that each task is under one root. -/
import Derived.Test.YtajbnpjdhmeeiaaFoU
namespace Go.Proofs.Ytajbnpjdhmeeiaa

theorem mem_spN {T : List Tsk} {j p : Nat} {k : Int} : (p, k) ∈ spN T j ↔ p < j ∧ k ∈ kids T p := by
  induction j with
  | zero => simp [spN]
  | succ j ih =>
    rw [spN, List.mem_append, ih]
    simp only [List.mem_map, Prod.mk.injEq]
    constructor
    · rintro (⟨h1, h2⟩ | ⟨a, h1, h2, h3⟩)
      · exact ⟨by omega, h2⟩
      · subst h2 h3; exact ⟨by omega, h1⟩
    · rintro ⟨h1, h2⟩
      by_cases e : p = j
      · subst e; exact .inr ⟨k, h2, rfl, rfl⟩
      · exact .inl ⟨by omega, h2⟩
theorem mem_sp {T : List Tsk} {p : Nat} {k : Int} : (p, k) ∈ sp T ↔ p < T.length ∧ k ∈ kids T p := mem_spN
theorem okP_lt {n : Nat} {l : List (Nat × Int)} (h : okP n l) {p : Nat} {k : Int} (hp : (p, k) ∈ l) : (p : Int) < k ∧ k < n := h.1 (p, k) hp
theorem nodup_snd {l : List (Nat × Int)} (h : (l.map Prod.snd).Nodup) {p q : Nat} {k : Int} (hp : (p, k) ∈ l) (hq : (q, k) ∈ l) : p = q := by
  induction l with
  | nil => simp at hp
  | cons x l ih =>
    rw [List.map_cons, List.nodup_cons] at h
    rcases List.mem_cons.1 hp with rfl | hp'
    · rcases List.mem_cons.1 hq with e | hq'
      · exact (Prod.mk.inj e).1.symm
      · exact absurd (List.mem_map.2 ⟨(q, k), hq', rfl⟩) h.1
    · rcases List.mem_cons.1 hq with e | hq'
      · subst e; exact absurd (List.mem_map.2 ⟨(p, k), hp', rfl⟩) h.1
      · exact ih h.2 hp' hq'
theorem pa_of_mem {T : List Tsk} (h : okP T.length (sp T)) {p : Nat} {k : Int} (hp : (p, k) ∈ sp T) : pa T k = p := by
  unfold pa
  cases e : (sp T).find? (fun p => p.2 == k) with
  | none =>
    rw [List.find?_eq_none] at e
    exact absurd (by simp) (e (p, k) hp)
  | some q =>
    obtain ⟨q1, q2⟩ := q
    have h1 : q2 = k := by simpa using List.find?_some e
    have h2 := List.mem_of_find?_eq_some e
    subst h1
    rw [nodup_snd h.2 hp h2]
theorem mem_of_pa {T : List Tsk} {k : Int} (h : pa T k ≠ -1) : ∃ p : Nat, pa T k = p ∧ (p, k) ∈ sp T := by
  unfold pa at h ⊢
  cases e : (sp T).find? (fun p => p.2 == k) with
  | none => rw [e] at h; exact absurd rfl h
  | some q =>
    obtain ⟨q1, q2⟩ := q
    have h1 : q2 = k := by simpa using List.find?_some e
    subst h1
    exact ⟨q1, rfl, List.mem_of_find?_eq_some e⟩
theorem pa_root {T : List Tsk} {k : Int} (h : pa T k = -1) (p : Nat) : ¬ (p, k) ∈ sp T := by
  intro hp
  unfold pa at h
  cases e : (sp T).find? (fun p => p.2 == k) with
  | none =>
    rw [List.find?_eq_none] at e
    exact absurd (by simp) (e (p, k) hp)
  | some q => rw [e] at h; simp only at h; omega
theorem pa_ge (T : List Tsk) (k : Int) : -1 ≤ pa T k := by
  by_cases h : pa T k = -1
  · omega
  · obtain ⟨p, e, _⟩ := mem_of_pa h; omega
theorem pa_lt {T : List Tsk} (h : okP T.length (sp T)) {k : Int} (hk : 0 ≤ k) : pa T k < k := by
  by_cases e : pa T k = -1
  · omega
  · obtain ⟨p, e, hp⟩ := mem_of_pa e
    have := okP_lt h hp
    omega
theorem pa_out {T : List Tsk} (h : okP T.length (sp T)) {k : Int} (hk : k < 0 ∨ (T.length : Int) ≤ k) : pa T k = -1 := by
  by_cases e : pa T k = -1
  · exact e
  · obtain ⟨p, e, hp⟩ := mem_of_pa e
    have := okP_lt h hp
    omega
theorem kids_nodup {T : List Tsk} (h : okP T.length (sp T)) {p : Nat} (hp : p < T.length) : (kids T p).Nodup := by
  have h1 := okP_pre (spN_pre T (show p + 1 ≤ T.length from hp)) h
  have h2 := h1.2
  rw [spN, List.map_append, List.nodup_append] at h2
  have := h2.2.1
  rw [List.map_map] at this
  simpa [Function.comp_def] using this
theorem count_kids {T : List Tsk} (h : okP T.length (sp T)) {p : Nat} (hp : p < T.length) (k : Int) : (kids T p).count k = if pa T k = p then 1 else 0 := by
  by_cases hm : k ∈ kids T p
  · rw [if_pos (pa_of_mem h (mem_sp.2 ⟨hp, hm⟩)), (kids_nodup h hp).count, if_pos hm]
  · rw [List.count_eq_zero_of_not_mem hm, if_neg]
    intro e
    obtain ⟨q, e2, hq⟩ := mem_of_pa (T := T) (k := k) (by omega)
    have : q = p := by omega
    subst this
    exact hm (mem_sp.1 hq).2
theorem flat_congr {l : List Int} {f g : Int → List Int} (h : ∀ x ∈ l, f x = g x) : l.flatMap f = l.flatMap g := by
  induction l with
  | nil => rfl
  | cons x l ih => rw [List.flatMap_cons, List.flatMap_cons, h x (by simp), ih (fun y hy => h y (by simp [hy]))]
theorem kid_in {T : List Tsk} (h : okP T.length (sp T)) {p : Nat} (hp : p < T.length) {k : Int} (hk : k ∈ kids T p) : (p : Int) < k ∧ k < T.length := okP_lt h (mem_sp.2 ⟨hp, hk⟩)
theorem unf_fuel {T : List Tsk} (h : okP T.length (sp T)) (f : Nat) : ∀ (g r : Nat), r < T.length → T.length ≤ r + f → T.length ≤ r + g → unf T f r = unf T g r := by
  induction f with
  | zero => intro g r h1 h2; omega
  | succ f ih =>
    intro g r h1 h2 h3
    cases g with
    | zero => omega
    | succ g =>
      rw [unf, unf]
      congr 1
      refine flat_congr fun k hk => ?_
      have := kid_in h h1 hk
      exact ih g k.toNat (by omega) (by omega) (by omega)
/-- What is under r. -/
def U1 (T : List Tsk) (r : Nat) : List Int := unf T T.length r
theorem U1_eq {T : List Tsk} (h : okP T.length (sp T)) {r : Nat} (hr : r < T.length) : U1 T r = (r : Int) :: (kids T r).flatMap fun k => U1 T k.toNat := by
  have e : T.length = (T.length - 1) + 1 := by omega
  unfold U1
  rw [e, unf, ← e]
  congr 1
  refine flat_congr fun k hk => ?_
  have := kid_in h hr hk
  exact unf_fuel h _ _ _ (by omega) (by omega) (by omega)
theorem U1_mem {T : List Tsk} (h : okP T.length (sp T)) (m : Nat) : ∀ r, r < T.length → T.length - r ≤ m → ∀ x ∈ U1 T r, (r : Int) ≤ x ∧ x < T.length := by
  induction m with
  | zero => intro r h1 h2; omega
  | succ m ih =>
    intro r h1 h2 x hx
    rw [U1_eq h h1] at hx
    rcases List.mem_cons.1 hx with rfl | hx
    · omega
    · obtain ⟨k, hk, hx⟩ := List.mem_flatMap.1 hx
      have h3 := kid_in h h1 hk
      have := ih k.toNat (by omega) (by omega) x hx
      omega
theorem U1_in {T : List Tsk} (h : okP T.length (sp T)) {r : Nat} (hr : r < T.length) {x : Int} (hx : x ∈ U1 T r) : (r : Int) ≤ x ∧ x < T.length := U1_mem h _ r hr (Nat.le_refl _) x hx
/-- The sum of f over l. -/
def sumN (f : Int → Nat) : List Int → Nat
  | [] => 0
  | x :: l => f x + sumN f l
theorem count_flat (l : List Int) (g : Int → List Int) (k : Int) : (l.flatMap g).count k = sumN (fun x => (g x).count k) l := by
  induction l with
  | nil => rfl
  | cons x l ih => rw [List.flatMap_cons, List.count_append, ih, sumN]
theorem sumN_congr {l : List Int} {f g : Int → Nat} (h : ∀ x ∈ l, f x = g x) : sumN f l = sumN g l := by
  induction l with
  | nil => rfl
  | cons x l ih => rw [sumN, sumN, h x (by simp), ih (fun y hy => h y (by simp [hy]))]
theorem sumN_add (f g : Int → Nat) (l : List Int) : sumN (fun x => f x + g x) l = sumN f l + sumN g l := by
  induction l with
  | nil => rfl
  | cons x l ih => rw [sumN, sumN, sumN, ih]; omega
theorem sumN_zero (l : List Int) : sumN (fun _ => 0) l = 0 := by
  induction l with
  | nil => rfl
  | cons x l ih => rw [sumN, ih]
theorem sumN_is (k : Int) (l : List Int) : sumN (fun x => if k = x then 1 else 0) l = l.count k := by
  induction l with
  | nil => rfl
  | cons x l ih =>
    rw [sumN, ih, List.count_cons]
    by_cases e : k = x
    · subst e; simp; omega
    · have : ¬ x = k := fun h => e h.symm
      simp [e, this]
/-- Who is under r: r itself, and whose parent is. -/
theorem count_U1 {T : List Tsk} (h : okP T.length (sp T)) (m : Nat) : ∀ r, r < T.length → T.length - r ≤ m → ∀ k : Int, (U1 T r).count k = (if k = r then 1 else 0) + (if pa T k = -1 then 0 else (U1 T r).count (pa T k)) := by
  induction m with
  | zero => intro r h1 h2; omega
  | succ m ih =>
    intro r h1 h2 k
    have hk : ∀ x ∈ kids T r, (U1 T x.toNat).count k = (if k = x then 1 else 0) + (if pa T k = -1 then 0 else (U1 T x.toNat).count (pa T k)) := by
      intro x hx
      have h3 := kid_in h h1 hx
      have h4 := ih x.toNat (by omega) (by omega) k
      rw [show ((x.toNat : Nat) : Int) = x by omega] at h4
      exact h4
    have e1 : (U1 T r).count k = (if k = r then 1 else 0) + ((if pa T k = r then 1 else 0) + sumN (fun x => if pa T k = -1 then 0 else (U1 T x.toNat).count (pa T k)) (kids T r)) := by
      rw [U1_eq h h1, List.count_cons, count_flat, sumN_congr hk, sumN_add, sumN_is, count_kids h h1]
      by_cases e : k = r
      · subst e; simp; omega
      · have : ¬ (r : Int) = k := fun h => e h.symm
        simp [e, this]
    have e2 : (U1 T r).count (pa T k) = (if pa T k = r then 1 else 0) + sumN (fun x => (U1 T x.toNat).count (pa T k)) (kids T r) := by
      rw [U1_eq h h1, List.count_cons, count_flat]
      by_cases e : pa T k = r
      · rw [e]; simp; omega
      · have : ¬ (r : Int) = pa T k := fun h => e h.symm
        simp [e, this]
    rw [e1]
    by_cases e : pa T k = -1
    · have : ¬ pa T k = (r : Int) := by omega
      rw [if_neg this, if_pos e]
      have : sumN (fun x => if pa T k = -1 then 0 else (U1 T x.toNat).count (pa T k)) (kids T r) = 0 := by
        rw [sumN_congr (g := fun _ => 0) (fun x _ => if_pos e)]; exact sumN_zero _
      rw [this]
    · rw [if_neg e, e2, sumN_congr (g := fun x => (U1 T x.toNat).count (pa T k)) (fun x _ => if_neg e)]
theorem count_at {T : List Tsk} (h : okP T.length (sp T)) {r : Nat} (hr : r < T.length) (k : Int) : (U1 T r).count k = (if k = r then 1 else 0) + (if pa T k = -1 then 0 else (U1 T r).count (pa T k)) := count_U1 h _ r hr (Nat.le_refl _) k
theorem count_one {T : List Tsk} (h : okP T.length (sp T)) {r : Nat} (hr : r < T.length) (m : Nat) : ∀ k : Int, k < m → (U1 T r).count k ≤ 1 := by
  induction m with
  | zero =>
    intro k hk
    rw [List.count_eq_zero_of_not_mem (fun hx => by have := U1_in h hr hx; omega)]; omega
  | succ m ih =>
    intro k hk
    by_cases h0 : k < 0
    · rw [List.count_eq_zero_of_not_mem (fun hx => by have := U1_in h hr hx; omega)]; omega
    · have hl := pa_lt h (show 0 ≤ k by omega)
      rw [count_at h hr k]
      by_cases e : k = r
      · rw [if_pos e]
        have : (U1 T r).count (pa T k) = 0 := List.count_eq_zero_of_not_mem (fun hx => by have := U1_in h hr hx; omega)
        rw [this]; split <;> omega
      · rw [if_neg e]
        split
        · omega
        · have := ih (pa T k) (by omega); omega
theorem len_le {n : Nat} : ∀ (l : List Int), (∀ x ∈ l, 0 ≤ x ∧ x < n) → (∀ k, l.count k ≤ 1) → l.length ≤ n := by
  induction n with
  | zero =>
    intro l h1 _
    cases l with
    | nil => simp
    | cons x l => have := h1 x (by simp); omega
  | succ n ih =>
    intro l h1 h2
    have h3 := ih (l.filter fun x => decide (x ≠ (n : Int))) (fun x hx => by
      have h4 := h1 x (List.mem_filter.1 hx).1
      have h5 := (List.mem_filter.1 hx).2
      simp at h5
      omega) (fun k => Nat.le_trans (List.Sublist.count_le _ List.filter_sublist) (h2 k))
    have h4 := h2 n
    have h5 : l.length = (l.filter fun x => decide (x ≠ (n : Int))).length + l.count (n : Int) := by
      clear h1 h2 h3 h4
      induction l with
      | nil => rfl
      | cons x l ih2 =>
        rw [List.count_cons, List.length_cons, ih2, List.filter_cons]
        by_cases e : x = n
        · simp [e]; omega
        · simp [e]; omega
    omega
theorem U1_len {T : List Tsk} (h : okP T.length (sp T)) {r : Nat} (hr : r < T.length) : (U1 T r).length ≤ T.length :=
  len_le _ (fun x hx => by have := U1_in h hr hx; omega) (fun k => count_one h hr (k.toNat + 1) k (by omega))
end Go.Proofs.Ytajbnpjdhmeeiaa
