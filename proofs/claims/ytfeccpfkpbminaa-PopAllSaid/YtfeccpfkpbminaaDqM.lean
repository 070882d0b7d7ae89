/- A deque in its cells, on lists: where its cells lie, the list that it has, and a push, step by step. -/
import Derived.Test.YtfeccpfkpbminaaLayC
import Derived.Test.YtfeccpfkpbminaaCellF
import Derived.Test.YtfeccpfkpbminaaWordM
import Derived.Test.YtfeccpfkpbminaaFrG
namespace Go.Proofs.Ytfeccpfkpbminaa
open Go.RowKit Go.Deep
/-- All numbers of 64 bits. -/
def UM (m : List Int) : Prop := ∀ u ∈ m, U u
/-- A call's numbers are of 64 bits. -/
def UF (f : Fr) : Prop := U f.val ∧ U f.x ∧ U f.y
theorem at0_U {m : List Int} (h : UM m) (i : Int) : U (at0 m i) := by
  unfold at0
  split
  · rw [List.getD_eq_getElem?_getD]
    cases e : m[i.toNat]? with
    | none => unfold U; simp
    | some u => exact h u (List.mem_of_getElem? e)
  · unfold U; simp
theorem put_U {m : List Int} (h : UM m) (i : Int) {v : Int} (hv : U v) : UM (put m i v) := by
  unfold put
  split
  · intro u hu
    rcases List.mem_or_eq_of_mem_set hu with hu | rfl
    · exact h u hu
    · exact hv
  · exact h
theorem mod_U (x : Int) : U (x % 18446744073709551616) := by unfold U; omega
/-- A row of cells is the layout's, and w is a worker of it. -/
def okw (W D J S : Int) (m : List Int) (w : Int) : Bool := may W D J S && decide ((m.length : Int) = sz W D J S) && decide (0 ≤ w) && decide (w < W)
/-- Where a slot lies. -/
def sI (D J w x : Int) : Int := bg D J w + 3 + x % D
theorem okw_iff {W D J S : Int} {m : List Int} {w : Int} : okw W D J S m w = true ↔ may W D J S = true ∧ (m.length : Int) = bg D J W ∧ 0 ≤ w ∧ w < W := by
  unfold okw
  simp only [Bool.and_eq_true, decide_eq_true_eq]
  constructor
  · rintro ⟨⟨⟨a, b⟩, c⟩, d⟩
    exact ⟨a, by rw [b, sz, if_pos a], c, d⟩
  · rintro ⟨a, b, c, d⟩
    exact ⟨⟨⟨a, by rw [b, sz, if_pos a]⟩, c⟩, d⟩
theorem okw_len {W D J S : Int} {m m' : List Int} {w : Int} (h : m'.length = m.length) : okw W D J S m' w = okw W D J S m w := by unfold okw; rw [h]
/-- Where the cells of a worker lie among all. -/
theorem bg_step {D J w W : Int} (hD : 1 ≤ D) (h : w < W) : bg D J w + (3 + D) ≤ bg D J W := by
  unfold bg
  have : (w + 1) * (3 + D) ≤ W * (3 + D) := Int.mul_le_mul_of_nonneg_right (by omega) (by omega)
  have e : (w + 1) * (3 + D) = w * (3 + D) + (3 + D) := by rw [Int.add_mul, Int.one_mul]
  omega
theorem bg_ge {D J w : Int} (hD : 1 ≤ D) (hJ : 1 ≤ J) (h : 0 ≤ w) : 8 ≤ bg D J w := by
  unfold bg
  have : 0 ≤ w * (3 + D) := Int.mul_nonneg h (by omega)
  omega
/-- Cells of two workers are not the same. -/
theorem bg_apart {D J w k a b : Int} (hD : 1 ≤ D) (h : ¬ k = w) (ha : 0 ≤ a ∧ a < 3 + D) (hb : 0 ≤ b ∧ b < 3 + D) : ¬ bg D J w + a = bg D J k + b := by
  rcases Int.lt_or_gt_of_ne h with h | h
  · have := bg_step (J := J) hD h; omega
  · have := bg_step (J := J) hD h; omega
theorem sI_lim {D J w : Int} (hD : 1 ≤ D) (x : Int) : bg D J w + 3 ≤ sI D J w x ∧ sI D J w x < bg D J w + (3 + D) := by
  have := mod_lim x hD
  unfold sI; omega
/-- Numbers that are fewer than D apart have slots of their own. -/
theorem sI_inj {D J w x y : Int} (hD : 1 ≤ D) (h : sI D J w x = sI D J w y) (h1 : x - y < D) (h2 : y - x < D) : x = y := by
  unfold sI at h
  have h3 : x % D = y % D := by omega
  have e1 := Int.emod_add_mul_ediv x D
  have e2 := Int.emod_add_mul_ediv y D
  have h4 : x - y = D * (x / D - y / D) := by rw [Int.mul_sub]; omega
  rcases Int.lt_trichotomy (x / D - y / D) 0 with h5 | h5 | h5
  · have : D * (x / D - y / D) ≤ D * (-1) := Int.mul_le_mul_of_nonneg_left (by omega) (by omega)
    omega
  · rw [h5] at h4; omega
  · have : D * 1 ≤ D * (x / D - y / D) := Int.mul_le_mul_of_nonneg_left (by omega) (by omega)
    omega
theorem p2_dvd {D : Int} (h : p2 D = true) (x : Int) : x % 18446744073709551616 % D = x % D := by
  unfold p2 at h
  simp only [decide_eq_true_eq] at h
  rcases h with rfl | rfl | rfl | rfl | rfl <;> omega
theorem may_p2 {W D J S : Int} (h : may W D J S = true) : p2 D = true := by
  unfold may at h
  simp only [Bool.and_eq_true] at h
  exact h.1.1.2
theorem sI_mod {W D J S : Int} (h : may W D J S = true) (w x : Int) : sI D J w (x % 18446744073709551616) = sI D J w x := by
  unfold sI; rw [p2_dvd (may_p2 h)]
/-- The list of a deque, or none. -/
def lst (W D J S : Int) (m : List Int) (w : Int) : Option (List Int) :=
  if okw W D J S m w = true ∧ 0 ≤ far (at0 m (bg D J w + 1)) (at0 m (bg D J w)) ∧ far (at0 m (bg D J w + 1)) (at0 m (bg D J w)) ≤ D then
    some ((List.range (far (at0 m (bg D J w + 1)) (at0 m (bg D J w))).toNat).map fun i : Nat => at0 m (sI D J w (at0 m (bg D J w) + i)))
  else none
/-- A deque from t on has the numbers l. -/
structure Vw (D J : Int) (m : List Int) (w t : Int) (l : List Int) : Prop where
  top : at0 m (bg D J w) = t
  bot : at0 m (bg D J w + 1) = (t + l.length) % 18446744073709551616
  len : (l.length : Int) ≤ D
  at_ : ∀ (i : Nat) u, l[i]? = some u → at0 m (sI D J w (t + i)) = u
theorem far_eq {t n : Int} (hn : 0 ≤ n ∧ n ≤ 16) : far ((t + n) % 18446744073709551616) t = n := by
  unfold far wrap64
  omega
theorem far_inv {b t n : Int} (hb : U b) (h : far b t = n) : b = (t + n) % 18446744073709551616 := by
  unfold U at hb
  unfold far wrap64 at h
  omega
theorem lst_some {W D J S : Int} {m : List Int} {w : Int} {l : List Int} (hu : UM m) (h : lst W D J S m w = some l) : okw W D J S m w = true ∧ Vw D J m w (at0 m (bg D J w)) l := by
  unfold lst at h
  split at h
  · rename_i hk
    obtain ⟨h1, h2, h3⟩ := hk
    obtain ⟨hW, hD, hJ, hS⟩ := may_lim (okw_iff.1 h1).1
    injection h with h
    subst h
    have e : ((List.range (far (at0 m (bg D J w + 1)) (at0 m (bg D J w))).toNat).map fun i : Nat => at0 m (sI D J w (at0 m (bg D J w) + i))).length = (far (at0 m (bg D J w + 1)) (at0 m (bg D J w))).toNat := by simp
    refine ⟨h1, rfl, ?_, ?_, fun i u hi => ?_⟩
    · rw [e]
      have := far_inv (at0_U hu (bg D J w + 1)) (t := at0 m (bg D J w)) rfl
      rw [Int.toNat_of_nonneg h2]
      exact this
    · rw [e]; omega
    · simp only [List.getElem?_map, Option.map_eq_some_iff] at hi
      obtain ⟨j, hj, rfl⟩ := hi
      have := (List.getElem?_eq_some_iff.1 hj).2
      simp at this
      subst this
      rfl
  · cases h
theorem lst_of {W D J S : Int} {m : List Int} {w t : Int} {l : List Int} (h1 : okw W D J S m w = true) (h : Vw D J m w t l) : lst W D J S m w = some l := by
  obtain ⟨hW, hD, hJ, hS⟩ := may_lim (okw_iff.1 h1).1
  have hl := h.len
  have e : far (at0 m (bg D J w + 1)) (at0 m (bg D J w)) = l.length := by rw [h.top, h.bot]; exact far_eq (by omega)
  unfold lst
  rw [if_pos ⟨h1, by rw [e]; omega, by rw [e]; exact hl⟩, e, h.top]
  congr 1
  apply List.ext_getElem?
  intro i
  simp only [List.getElem?_map]
  rcases Nat.lt_or_ge i l.length with hi | hi
  · rw [List.getElem?_range (by simpa using hi), List.getElem?_eq_getElem hi]
    simp only [Option.map_some]
    rw [h.at_ i _ (List.getElem?_eq_getElem hi)]
  · rw [List.getElem?_eq_none hi, List.getElem?_eq_none (by simpa using hi)]
    rfl
end Go.Proofs.Ytfeccpfkpbminaa
