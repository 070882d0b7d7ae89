/- A stack of tasks that run, on lists (layer 17). -/
import Derived.Test.YtobcedlkmnmikaaFoF
namespace Go.Proofs.Ytobcedlkmnmikaa.Fo
open Go.RowKit Go.Deep
/-- A task that is run: which, how much of it is done, how many it has spawned. -/
abbrev Itm := Int × Int × Int
def wkA (T : List Tsk) (i : Int) : Int := (T.getD i.toNat (0, [])).1
def kdA (T : List Tsk) (i : Int) : List Int := (T.getD i.toNat (0, [])).2
/-- May an item be? -/
def okI (T : List Tsk) (x : Itm) : Bool := (decide (0 ≤ x.1) && decide (x.1 < T.length)) && (decide (0 ≤ x.2.1) && decide (x.2.1 ≤ wkA T x.1)) && (decide (0 ≤ x.2.2) && decide (x.2.2 ≤ (kdA T x.1).length)) && (decide (x.2.2 = 0) || decide (wkA T x.1 ≤ x.2.1))
/-- May a stack be? -/
def mayS (T : List Tsk) (s : List Itm) : Bool := may T && s.all (okI T)
/-- What an item does: a kind, and a task. -/
def actI (T : List Tsk) (x : Itm) : Int × Int := if x.2.1 < wkA T x.1 then (1, x.1) else if x.2.2 < (kdA T x.1).length then (2, (kdA T x.1).getD x.2.2.toNat 0) else (3, x.1)
/-- What is left of an item behind that. -/
def bumpI (T : List Tsk) (x : Itm) : List Itm := if x.2.1 < wkA T x.1 then [(x.1, x.2.1 + 1, x.2.2)] else if x.2.2 < (kdA T x.1).length then [(x.1, x.2.1, x.2.2 + 1)] else []
def nextS (T : List Tsk) (s : List Itm) : Int × Int := if mayS T s = true then (match s.getLast? with
  | some x => actI T x
  | none => (0, 0)) else (0, 0)
def doS (T : List Tsk) (s : List Itm) : List Itm := if mayS T s = true then (match s.getLast? with
  | some x => s.dropLast ++ bumpI T x
  | none => s) else s
def startS (T : List Tsk) (s : List Itm) (k : Int) : List Itm := if mayS T s = true ∧ 0 ≤ k ∧ k < T.length then s ++ [(k, 0, 0)] else s
def leftI (T : List Tsk) (x : Itm) : Int := wkA T x.1 - x.2.1 + ((kdA T x.1).length - x.2.2) + 1
def leftN (T : List Tsk) : List Itm → Int
  | [] => 0
  | x :: s => leftI T x + leftN T s
def leftS (T : List Tsk) (s : List Itm) : Int := if mayS T s = true then leftN T s else 0
section
variable {T : List Tsk}
theorem okI_iff {x : Itm} : okI T x = true ↔ (0 ≤ x.1 ∧ x.1 < T.length) ∧ (0 ≤ x.2.1 ∧ x.2.1 ≤ wkA T x.1) ∧ (0 ≤ x.2.2 ∧ x.2.2 ≤ (kdA T x.1).length) ∧ (x.2.2 = 0 ∨ wkA T x.1 ≤ x.2.1) := by
  unfold okI
  simp only [Bool.and_eq_true, Bool.or_eq_true, decide_eq_true_eq, and_assoc]
theorem mayS_snoc (p : List Itm) (x : Itm) : mayS T (p ++ [x]) = (mayS T p && okI T x) := by
  unfold mayS
  rw [List.all_append, Bool.and_assoc]
  simp
theorem mayS_nil : mayS T [] = may T := by unfold mayS; simp
theorem mayS_app (p q : List Itm) : mayS T (p ++ q) = (mayS T p && q.all (okI T)) := by
  unfold mayS
  rw [List.all_append, Bool.and_assoc]
theorem leftN_app (p q : List Itm) : leftN T (p ++ q) = leftN T p + leftN T q := by
  induction p with
  | nil => simp [leftN]
  | cons x p ih => simp only [List.cons_append, leftN, ih]; omega
theorem leftI_pos {x : Itm} (h : okI T x = true) : 1 ≤ leftI T x := by
  have := okI_iff.1 h
  unfold leftI; omega
theorem leftN_ge : ∀ {s : List Itm}, s.all (okI T) = true → (s.length : Int) ≤ leftN T s
  | [], _ => by simp [leftN]
  | x :: s, h => by
    rw [List.all_cons, Bool.and_eq_true] at h
    have h1 := leftI_pos h.1
    have h2 := leftN_ge h.2
    simp only [leftN, List.length_cons]; omega
theorem mayS_all {s : List Itm} (h : mayS T s = true) : may T = true ∧ s.all (okI T) = true := by
  unfold mayS at h
  exact Bool.and_eq_true_iff.1 h
/-- What the last item does. -/
theorem nextS_snoc {p : List Itm} {x : Itm} (h : mayS T (p ++ [x]) = true) : nextS T (p ++ [x]) = actI T x := by
  unfold nextS
  rw [if_pos h]
  simp
theorem doS_snoc {p : List Itm} {x : Itm} (h : mayS T (p ++ [x]) = true) : doS T (p ++ [x]) = p ++ bumpI T x := by
  unfold doS
  rw [if_pos h]
  simp
theorem nextS_no {s : List Itm} (h : mayS T s = false) : nextS T s = (0, 0) := by unfold nextS; rw [if_neg (by rw [h]; simp)]
theorem doS_no {s : List Itm} (h : mayS T s = false) : doS T s = s := by unfold doS; rw [if_neg (by rw [h]; simp)]
theorem startS_no {s : List Itm} {k : Int} (h : mayS T s = false) : startS T s k = s := by unfold startS; rw [if_neg (by rw [h]; simp)]
theorem leftS_no {s : List Itm} (h : mayS T s = false) : leftS T s = 0 := by unfold leftS; rw [if_neg (by rw [h]; simp)]
theorem nextS_nil : nextS T [] = (0, 0) := by unfold nextS; split <;> rfl
theorem doS_nil : doS T [] = [] := by unfold doS; split <;> rfl
/-- What is behind an item may be, and has one less. -/
theorem bumpI_ok {x : Itm} (h : okI T x = true) : (bumpI T x).all (okI T) = true ∧ leftN T (bumpI T x) = leftI T x - 1 ∧ (bumpI T x).length ≤ 1 := by
  have h1 := okI_iff.1 h
  unfold bumpI
  split
  · rename_i c
    refine ⟨?_, ?_, by simp⟩
    · rw [List.all_cons, List.all_nil, Bool.and_true, okI_iff]
      simp only
      refine ⟨h1.1, ⟨by omega, by omega⟩, h1.2.2.1, ?_⟩
      left; omega
    · simp only [leftN, leftI]; omega
  split
  · rename_i c c2
    refine ⟨?_, ?_, by simp⟩
    · rw [List.all_cons, List.all_nil, Bool.and_true, okI_iff]
      simp only
      refine ⟨h1.1, h1.2.1, ⟨by omega, by omega⟩, ?_⟩
      right; omega
    · simp only [leftN, leftI]; omega
  · rename_i c c2
    refine ⟨rfl, ?_, by simp⟩
    simp only [leftN, leftI]; omega
theorem snoc_of {s : List Itm} (h : s ≠ []) : ∃ p x, s = p ++ [x] := ⟨s.dropLast, s.getLast h, (List.dropLast_concat_getLast h).symm⟩
/-- Each Do leaves one less. -/
theorem less_S {s : List Itm} (h : mayS T s = true) (hs : s ≠ []) : mayS T (doS T s) = true ∧ leftS T (doS T s) = leftS T s - 1 ∧ (doS T s).length ≤ s.length ∧ s.length ≤ (doS T s).length + 1 ∧ 1 ≤ leftS T s := by
  obtain ⟨p, x, rfl⟩ := snoc_of hs
  have h2 := h
  rw [mayS_snoc, Bool.and_eq_true] at h2
  obtain ⟨b1, b2, b3⟩ := bumpI_ok h2.2
  have hm : mayS T (p ++ bumpI T x) = true := by rw [mayS_app, h2.1, b1]; rfl
  have hg := leftN_ge (mayS_all h).2
  rw [doS_snoc h]
  unfold leftS
  rw [if_pos hm, if_pos h, leftN_app, leftN_app, b2]
  simp only [leftN, List.length_append, List.length_singleton] at hg ⊢
  rw [leftN_app] at hg
  simp only [leftN] at hg
  exact ⟨hm, by omega, by omega, by omega, by omega⟩
theorem leftS_nil : leftS T [] = 0 := by unfold leftS; split <;> rfl
/-- A task that is started. -/
theorem start_S {s : List Itm} (h : mayS T s = true) {k : Int} (h0 : 0 ≤ k) (h1 : k < T.length) : startS T s k = s ++ [(k, 0, 0)] ∧ mayS T (s ++ [(k, 0, 0)]) = true ∧ leftS T (s ++ [(k, 0, 0)]) = leftS T s + wkA T k + (kdA T k).length + 1 := by
  have hw : 0 ≤ wkA T k := by
    obtain ⟨n, rfl⟩ := Int.eq_ofNat_of_zero_le h0
    have hn : n < T.length := by omega
    have := (wk_at (may_parts (mayS_all h).1).2.1 hn).1
    unfold wkA
    rw [Int.toNat_natCast, List.getD_eq_getElem?_getD, List.getElem?_eq_getElem hn]
    exact this
  have ho : okI T (k, 0, 0) = true := okI_iff.2 ⟨⟨h0, h1⟩, ⟨Int.le_refl _, hw⟩, ⟨Int.le_refl _, by simp only; omega⟩, .inl rfl⟩
  have hm : mayS T (s ++ [(k, 0, 0)]) = true := by rw [mayS_snoc, h, ho]; rfl
  refine ⟨by unfold startS; rw [if_pos ⟨h, h0, h1⟩], hm, ?_⟩
  unfold leftS
  rw [if_pos hm, if_pos h, leftN_app]
  simp only [leftN, leftI]
  omega
/-- What a task that was started does: its work, then its kids, then it is done. -/
theorem tick_S {s : List Itm} {k i : Int} (h : mayS T (s ++ [(k, i, 0)]) = true) (hi : i < wkA T k) : nextS T (s ++ [(k, i, 0)]) = (1, k) ∧ doS T (s ++ [(k, i, 0)]) = s ++ [(k, i + 1, 0)] ∧ mayS T (s ++ [(k, i + 1, 0)]) = true := by
  have h2 := h
  rw [mayS_snoc, Bool.and_eq_true] at h2
  have h3 := okI_iff.1 h2.2
  simp only at h3
  have e1 : actI T (k, i, 0) = (1, k) := by unfold actI; rw [if_pos hi]
  have e2 : bumpI T (k, i, 0) = [(k, i + 1, 0)] := by unfold bumpI; rw [if_pos hi]
  refine ⟨by rw [nextS_snoc h, e1], by rw [doS_snoc h, e2], ?_⟩
  rw [mayS_snoc, h2.1, Bool.true_and, okI_iff]
  exact ⟨h3.1, ⟨by simp only; omega, by simp only; omega⟩, h3.2.2.1, .inl rfl⟩
theorem spawn_S {s : List Itm} {k i j : Int} (h : mayS T (s ++ [(k, i, j)]) = true) (hi : ¬ i < wkA T k) (hj : j < (kdA T k).length) : nextS T (s ++ [(k, i, j)]) = (2, (kdA T k).getD j.toNat 0) ∧ doS T (s ++ [(k, i, j)]) = s ++ [(k, i, j + 1)] ∧ mayS T (s ++ [(k, i, j + 1)]) = true := by
  have h2 := h
  rw [mayS_snoc, Bool.and_eq_true] at h2
  have h3 := okI_iff.1 h2.2
  simp only at h3
  have e1 : actI T (k, i, j) = (2, (kdA T k).getD j.toNat 0) := by unfold actI; rw [if_neg hi, if_pos hj]
  have e2 : bumpI T (k, i, j) = [(k, i, j + 1)] := by unfold bumpI; rw [if_neg hi, if_pos hj]
  refine ⟨by rw [nextS_snoc h, e1], by rw [doS_snoc h, e2], ?_⟩
  rw [mayS_snoc, h2.1, Bool.true_and, okI_iff]
  exact ⟨h3.1, h3.2.1, ⟨by simp only; omega, by simp only; omega⟩, .inr (by simp only; omega)⟩
theorem done_S {s : List Itm} {k i j : Int} (h : mayS T (s ++ [(k, i, j)]) = true) (hi : ¬ i < wkA T k) (hj : ¬ j < (kdA T k).length) : nextS T (s ++ [(k, i, j)]) = (3, k) ∧ doS T (s ++ [(k, i, j)]) = s := by
  have e1 : actI T (k, i, j) = (3, k) := by unfold actI; rw [if_neg hi, if_neg hj]
  have e2 : bumpI T (k, i, j) = [] := by unfold bumpI; rw [if_neg hi, if_neg hj]
  exact ⟨by rw [nextS_snoc h, e1], by rw [doS_snoc h, e2, List.append_nil]⟩
/-- What is done is the last one's alone. -/
theorem last_S {p : List Itm} {x : Itm} (h : mayS T (p ++ [x]) = true) : nextS T (p ++ [x]) = nextS T [x] ∧ doS T (p ++ [x]) = p ++ doS T [x] := by
  have h2 := h
  rw [mayS_snoc, Bool.and_eq_true] at h2
  have h3 : mayS T ([] ++ [x]) = true := by rw [mayS_snoc, mayS_nil, (mayS_all h).1, h2.2]; rfl
  have e1 := nextS_snoc h3
  have e2 := doS_snoc h3
  rw [List.nil_append] at e1 e2
  exact ⟨by rw [nextS_snoc h, e1], by rw [doS_snoc h, e2]; rfl⟩
/-- It does nothing just if it is empty, or may not be. -/
theorem none_S {s : List Itm} (h : mayS T s = true) : (nextS T s = (0, 0) ∧ doS T s = s) ↔ s = [] := by
  constructor
  · intro ⟨h1, _⟩
    rcases Classical.em (s = []) with e | e
    · exact e
    · obtain ⟨p, x, rfl⟩ := snoc_of e
      rw [nextS_snoc h] at h1
      unfold actI at h1
      split at h1
      · cases h1
      · split at h1 <;> cases h1
  · rintro rfl
    exact ⟨nextS_nil, doS_nil⟩
end
end Go.Proofs.Ytobcedlkmnmikaa.Fo
