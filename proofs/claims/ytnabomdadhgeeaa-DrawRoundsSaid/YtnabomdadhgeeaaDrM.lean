/- Plain facts on stretches: where each of a round had its last pick, and whom a stretch names. -/
import Derived.Test.YtnabomdadhgeeaaDrF
namespace Go.Proofs.Ytnabomdadhgeeaa
open Go.RowKit Go.Deep
/-- Whose turn pick i is. -/
def ta (l : List Pk) (m q i : Nat) : Int := match l[i]? with
  | some x => tn x m q
  | none => -1
theorem ta_at {l : List Pk} {m q i : Nat} (h : i < l.length) : ta l m q i = tn l[i] m q := by unfold ta; rw [List.getElem?_eq_getElem h]
/-- Where, ahead of j, the one of place k had its last pick. -/
def li (l : List Pk) (m q k : Nat) : Nat → Int
  | 0 => -1
  | j + 1 => if ta l m q j = k then j else li l m q k j
def lv (l : List Pk) (m q j : Nat) : List Int := (List.range (m + q)).map fun k => li l m q k j
theorem lv_len (l : List Pk) (m q j : Nat) : (lv l m q j).length = m + q := by simp [lv]
theorem lv_at (l : List Pk) (m q j k : Nat) (h : k < m + q) : (lv l m q j)[k]? = some (li l m q k j) := by simp [lv, h]
theorem lv_zero (l : List Pk) (m q : Nat) : lv l m q 0 = List.replicate (m + q) (-1) := by
  apply List.ext_getElem?
  intro k
  by_cases h : k < m + q
  · rw [lv_at _ _ _ _ _ h, List.getElem?_replicate, if_pos h]; rfl
  · rw [List.getElem?_eq_none (by rw [lv_len]; omega), List.getElem?_eq_none (by simp; omega)]
theorem lv_set {l : List Pk} {m q j t : Nat} (h : ta l m q j = t) : (lv l m q j).set t (j : Int) = lv l m q (j + 1) := by
  apply List.ext_getElem?
  intro k
  by_cases hk : k < m + q
  · rw [lv_at _ _ _ _ _ hk, List.getElem?_set, li, h]
    by_cases e : t = k
    · subst e
      rw [if_pos rfl, if_pos (by rw [lv_len]; exact hk), if_pos rfl]
    · rw [if_neg e, lv_at _ _ _ _ _ hk, if_neg (by omega)]
  · rw [List.getElem?_eq_none (by simp [lv_len]; omega), List.getElem?_eq_none (by rw [lv_len]; omega)]
theorem lv_same {l : List Pk} {m q j : Nat} (h : ta l m q j = -1) : lv l m q j = lv l m q (j + 1) := by
  unfold lv
  apply List.map_congr_left
  intro k _
  rw [li, h, if_neg (by omega)]
theorem li_ge (l : List Pk) (m q k c j : Nat) : (c : Int) ≤ li l m q k j ↔ ∃ i, c ≤ i ∧ i < j ∧ ta l m q i = k := by
  induction j with
  | zero => simp only [li]; constructor; intro h; omega; rintro ⟨i, _, h, _⟩; omega
  | succ j ih =>
    rw [li]
    by_cases e : ta l m q j = k
    · rw [if_pos e]
      constructor
      · intro h; exact ⟨j, by omega, by omega, e⟩
      · rintro ⟨i, h1, h2, _⟩; omega
    · rw [if_neg e, ih]
      constructor
      · rintro ⟨i, h1, h2, h3⟩; exact ⟨i, h1, by omega, h3⟩
      · rintro ⟨i, h1, h2, h3⟩
        refine ⟨i, h1, ?_, h3⟩
        by_cases e' : i = j
        · subst e'; exact absurd h3 e
        · omega
theorem li_lt (l : List Pk) (m q k j : Nat) : -1 ≤ li l m q k j ∧ li l m q k j < j := by
  induction j with
  | zero => simp [li]
  | succ j ih => rw [li]; split <;> omega
theorem tn_iff {x : Pk} {m q k : Nat} (hk : k < m + q) : tn x m q = k ↔ if k < m then x.1 = 0 ∧ x.2.1 = k else x.1 = 1 ∧ x.2.1 = (k : Int) - m := by
  unfold tn
  by_cases h1 : x.1 = 0 ∧ be x.2.1 m = true
  · rw [if_pos h1]
    have := be_iff.1 h1.2
    by_cases hm : k < m
    · rw [if_pos hm]; exact ⟨fun h => ⟨h1.1, h⟩, fun h => h.2⟩
    · rw [if_neg hm]; constructor
      · intro h; omega
      · intro h; omega
  · rw [if_neg h1]
    by_cases h2 : x.1 = 1 ∧ be x.2.1 q = true
    · rw [if_pos h2]
      have := be_iff.1 h2.2
      by_cases hm : k < m
      · rw [if_pos hm]; constructor
        · intro h; omega
        · intro h; omega
      · rw [if_neg hm]; constructor
        · intro h; exact ⟨h2.1, by omega⟩
        · intro h; omega
    · rw [if_neg h2]
      by_cases hm : k < m
      · rw [if_pos hm]; constructor
        · intro h; omega
        · intro h; exact absurd ⟨h.1, be_iff.2 (by omega)⟩ h1
      · rw [if_neg hm]; constructor
        · intro h; omega
        · intro h; exact absurd ⟨h.1, be_iff.2 (by omega)⟩ h2
theorem nm_iff {l : List Pk} {k who : Int} : nm l k who = true ↔ ∃ (i : Nat) (x : Pk), l[i]? = some x ∧ x.1 = k ∧ x.2.1 = who := by
  unfold nm
  rw [List.any_eq_true]
  constructor
  · rintro ⟨x, hx, h⟩
    obtain ⟨i, hi, rfl⟩ := List.getElem_of_mem hx
    exact ⟨i, _, List.getElem?_eq_getElem hi, of_decide_eq_true h⟩
  · rintro ⟨i, x, h, h'⟩
    exact ⟨x, List.mem_of_getElem? h, decide_eq_true h'⟩
theorem seen_iff {l : List Pk} {m q k c f : Nat} (hk : k < m + q) : seen ((l.drop c).take f) m k = true ↔ ∃ i, c ≤ i ∧ i < c + f ∧ ta l m q i = k := by
  have key : ∀ kind who : Int, (∀ x : Pk, tn x m q = k ↔ x.1 = kind ∧ x.2.1 = who) → (nm ((l.drop c).take f) kind who = true ↔ ∃ i, c ≤ i ∧ i < c + f ∧ ta l m q i = k) := by
    intro kind who hx
    rw [nm_iff]
    constructor
    · rintro ⟨i, x, h, h'⟩
      rw [List.getElem?_take] at h
      split at h
      · rw [List.getElem?_drop] at h
        refine ⟨c + i, by omega, by omega, ?_⟩
        unfold ta
        rw [h]
        exact (hx x).2 h'
      · cases h
    · rintro ⟨i, h1, h2, h3⟩
      unfold ta at h3
      split at h3
      · rename_i x h
        refine ⟨i - c, x, ?_, (hx x).1 h3⟩
        rw [List.getElem?_take, if_pos (by omega), List.getElem?_drop, show c + (i - c) = i by omega, h]
      · omega
  unfold seen
  by_cases hm : k < m
  · rw [if_pos hm]
    exact key 0 k (fun x => by rw [tn_iff hk, if_pos hm])
  · rw [if_neg hm]
    exact key 1 ((k : Int) - m) (fun x => by rw [tn_iff hk, if_neg hm])
theorem okAt_li {l : List Pk} {m q f c : Nat} : okAt l m q f c = true ↔ ∀ k, k < m + q → (c : Int) ≤ li l m q k (c + f) := by
  rw [okAt_iff]
  constructor
  · intro h k hk; rw [li_ge]; exact (seen_iff hk).1 (h k hk)
  · intro h k hk; exact (seen_iff hk).2 ((li_ge l m q k c (c + f)).1 (h k hk))
theorem tn_range {x : Pk} {m q : Nat} : tn x m q = -1 ∨ (0 ≤ tn x m q ∧ tn x m q < m + q) := by
  unfold tn
  split
  · rename_i h
    have := be_iff.1 h.2
    omega
  · split
    · rename_i h
      have := be_iff.1 h.2
      omega
    · exact .inl rfl
end Go.Proofs.Ytnabomdadhgeeaa
