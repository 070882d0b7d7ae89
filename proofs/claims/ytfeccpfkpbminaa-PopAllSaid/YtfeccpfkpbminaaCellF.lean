/- Plain laws of numbers in a row: what is put and what is read. -/
import Derived.Test.YtfeccpfkpbminaaCellE
import Derived.Deep.RegionHeld3
import Derived.IntWalk
namespace Go.Proofs.Ytfeccpfkpbminaa
open Go.RowKit Go.Deep
theorem len_put (l : List Int) (i v : Int) : (put l i v).length = l.length := by unfold put; split <;> simp
theorem put_put (l : List Int) (i v u : Int) : put (put l i v) i u = put l i u := by unfold put; split <;> simp
theorem put_out {l : List Int} {i : Int} (v : Int) (h : i < 0 ∨ (l.length : Int) ≤ i) : put l i v = l := by
  unfold put
  split
  · rw [List.set_eq_of_length_le (by omega)]
  · rfl
theorem at0_out {l : List Int} {i : Int} (h : i < 0 ∨ (l.length : Int) ≤ i) : at0 l i = 0 := by
  unfold at0
  split
  · rw [List.getD_eq_getElem?_getD, List.getElem?_eq_none (by omega)]; rfl
  · rfl
theorem at0_in {l : List Int} {i : Int} (h0 : 0 ≤ i) (h : i < (l.length : Int)) : at0 l i = l[i.toNat]'(by omega) := by
  unfold at0
  rw [if_pos h0, List.getD_eq_getElem?_getD, List.getElem?_eq_getElem (by omega)]; rfl
theorem at0_put {l : List Int} {i : Int} (v : Int) (h0 : 0 ≤ i) (h : i < (l.length : Int)) : at0 (put l i v) i = v := by
  rw [at0_in h0 (by rw [len_put]; exact h)]
  simp [put, h0]
theorem at0_put_ne (l : List Int) {i k : Int} (v : Int) (h : ¬ i = k) : at0 (put l i v) k = at0 l k := by
  unfold at0 put
  split
  · split
    · rw [List.getD_eq_getElem?_getD, List.getElem?_set_ne (by omega), List.getD_eq_getElem?_getD]
    · rfl
  · rfl
theorem put_at0 (l : List Int) (i : Int) : put l i (at0 l i) = l := by
  by_cases h : 0 ≤ i ∧ i < (l.length : Int)
  · rw [at0_in h.1 h.2]; simp [put, h.1]
  · exact put_out _ (by omega)
theorem put_comm (l : List Int) {i k : Int} (v u : Int) (h : ¬ i = k) : put (put l i v) k u = put (put l k u) i v := by
  unfold put
  split
  · split
    · rw [List.set_comm _ _ (by omega)]
    · rfl
  · split <;> rfl
theorem put_ne {l : List Int} {i v : Int} (h0 : 0 ≤ i) (h : i < (l.length : Int)) : put l i v = l ↔ v = at0 l i := by
  constructor
  · intro e
    rw [← at0_put v h0 h, e]
  · rintro rfl
    exact put_at0 l i
theorem isAt_iff (l : List Int) (i u : Int) : isAt l i u = true ↔ (0 ≤ i ∧ i < (l.length : Int)) ∧ at0 l i = u := by
  unfold isAt
  constructor
  · intro h
    simp only [Bool.and_eq_true, decide_eq_true_eq, beq_iff_eq] at h
    obtain ⟨h0, h1⟩ := h
    obtain ⟨hl, h2⟩ := List.getElem?_eq_some_iff.1 h1
    have hi : i < (l.length : Int) := by omega
    exact ⟨⟨h0, hi⟩, by rw [at0_in h0 hi]; exact h2⟩
  · rintro ⟨⟨h0, hi⟩, rfl⟩
    rw [at0_in h0 hi]
    simp [h0, List.getElem?_eq_getElem (show i.toNat < l.length by omega)]
end Go.Proofs.Ytfeccpfkpbminaa
