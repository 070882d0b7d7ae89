/- What the document says of tasks, as functions of lists. -/
import Derived.Test.YtobcedlkmnmikaaFoA
namespace Go.Proofs.Ytobcedlkmnmikaa.Fo
/-- Is the work of all right? -/
def wk (T : List Tsk) : Bool := T.all fun x => decide (0 ≤ x.1) && decide (x.1 ≤ 20)
/-- The kids of task j. -/
def kids (T : List Tsk) (j : Nat) : List Int := (T.getD j (0, [])).2
/-- Parents with their kids, of the first j tasks. -/
def spN (T : List Tsk) : Nat → List (Nat × Int)
  | 0 => []
  | j + 1 => spN T j ++ (kids T j).map fun k => (j, k)
def sp (T : List Tsk) : List (Nat × Int) := spN T T.length
/-- Kids stand behind their parents, are tasks, and no kid is twice. -/
def okP (n : Nat) (l : List (Nat × Int)) : Prop := (∀ p ∈ l, (p.1 : Int) < p.2 ∧ p.2 < (n : Int)) ∧ (l.map Prod.snd).Nodup
instance (n : Nat) (l : List (Nat × Int)) : Decidable (okP n l) := by unfold okP; infer_instance
def kd (T : List Tsk) : Bool := decide (okP T.length (sp T))
/-- May they be? -/
def may (T : List Tsk) : Bool := decide (T.length ≤ 30) && (wk T && kd T)
/-- Who has k among its kids. -/
def pa (T : List Tsk) (k : Int) : Int := match (sp T).find? (fun p => p.2 == k) with
  | some p => p.1
  | none => -1
def par (T : List Tsk) (k : Int) : Int := if may T then pa T k else -1
theorem kids_eq {T : List Tsk} {j : Nat} (h : j < T.length) : kids T j = T[j].2 := by
  unfold kids; rw [List.getD_eq_getElem?_getD, List.getElem?_eq_getElem h]; rfl
theorem okP_snoc {n : Nat} {l : List (Nat × Int)} {p : Nat} {k : Int} : okP n (l ++ [(p, k)]) ↔ okP n l ∧ (p : Int) < k ∧ k < (n : Int) ∧ ¬ k ∈ l.map Prod.snd := by
  unfold okP
  simp only [List.mem_append, List.mem_singleton, List.map_append, List.map_cons, List.map_nil, List.nodup_append]
  constructor
  · rintro ⟨h1, h2, _, h3⟩
    have h4 := h1 (p, k) (.inr rfl)
    exact ⟨⟨fun q hq => h1 q (.inl hq), h2⟩, h4.1, h4.2, fun hk => h3 k hk k (by simp) rfl⟩
  · rintro ⟨⟨h1, h2⟩, h3, h4, h5⟩
    refine ⟨?_, h2, by simp, ?_⟩
    · rintro q (hq | rfl)
      · exact h1 q hq
      · exact ⟨h3, h4⟩
    · intro a ha b hb e
      have hb' : b = k := by simpa using hb
      exact h5 (by rw [← hb', ← e]; exact ha)
theorem okP_nil (n : Nat) : okP n [] := by simp [okP]
theorem okP_pre {n : Nat} {l k : List (Nat × Int)} (h : l <+: k) (hk : okP n k) : okP n l := by
  obtain ⟨r, rfl⟩ := h
  unfold okP at hk ⊢
  simp only [List.mem_append, List.map_append, List.nodup_append] at hk
  exact ⟨fun p hp => hk.1 p (.inl hp), hk.2.1⟩
theorem spN_pre (T : List Tsk) {i j : Nat} (h : i ≤ j) : spN T i <+: spN T j := by
  induction j with
  | zero => obtain rfl : i = 0 := by omega
            exact List.prefix_refl _
  | succ j ih =>
    by_cases e : i = j + 1
    · subst e; exact List.prefix_refl _
    · exact (ih (by omega)).trans (List.prefix_append _ _)
theorem sp_pre (T : List Tsk) {i : Nat} (h : i ≤ T.length) : spN T i <+: sp T := spN_pre T h
/-- A part of a task's kids. -/
theorem sp_pre' (T : List Tsk) {i j : Nat} (h : i < T.length) : spN T i ++ (T[i].2.take j).map (fun k => (i, k)) <+: sp T := by
  refine List.IsPrefix.trans ?_ (spN_pre T (show i + 1 ≤ T.length from h))
  rw [spN, kids_eq h]
  refine (List.prefix_append_right_inj _).2 ?_
  rw [List.map_take]
  exact List.take_prefix _ _
theorem map_take_succ {i j : Nat} {l : List Int} (h : j < l.length) : (l.take (j + 1)).map (fun k => (i, k)) = (l.take j).map (fun k => (i, k)) ++ [(i, l[j])] := by
  rw [List.take_succ_eq_append_getElem h, List.map_append]; rfl
theorem wk_take {T : List Tsk} {j : Nat} (h : j < T.length) : wk (T.take (j + 1)) = (wk (T.take j) && (decide (0 ≤ T[j].1) && decide (T[j].1 ≤ 20))) := by
  rw [List.take_succ_eq_append_getElem h]; unfold wk; rw [List.all_append, List.all_cons, List.all_nil, Bool.and_true]
theorem wk_no {T : List Tsk} {j : Nat} (h : j < T.length) (hx : ¬ (0 ≤ T[j].1 ∧ T[j].1 ≤ 20)) : wk T = false := by
  cases e : wk T
  · rfl
  · unfold wk at e
    rw [List.all_eq_true] at e
    have := e T[j] (List.getElem_mem h)
    simp only [Bool.and_eq_true, decide_eq_true_eq] at this
    exact absurd this hx
end Go.Proofs.Ytobcedlkmnmikaa.Fo
