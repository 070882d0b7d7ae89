/- The Steps of the deque, the injector and the event, on lists: what a step changes. -/
import Derived.Test.YtlpkccpijloidaaGreatDqB2
import Derived.Test.YtlpkccpijloidaaGreatWtX
namespace Go.Proofs.YtlpkccpijloidaaGreat
set_option maxRecDepth 100000
open Go.RowKit Go.Deep
/-- A step of package deque, on lists. -/
def dqS (W D J S : Int) (m : List Int) (f : Fr) : List Int × Fr := if f.op = 0 then pushS W D J S m f else if f.op = 1 then popS W D J S m f else if f.op = 2 then stealS W D J S m f else (m, f)
theorem dqS_len (W D J S : Int) (m : List Int) (f : Fr) : (dqS W D J S m f).1.length = m.length := by
  unfold dqS
  split
  · exact pushS_len _ _ _ _ _ _
  split
  · exact popS_len _ _ _ _ _ _
  split
  · exact stealS_len _ _ _ _ _ _
  rfl
/-- A step of package inject, on lists. -/
def ijS (W D J S : Int) (m : List Int) (f : Fr) : List Int × Fr := if f.op = 3 then enqS W D J S m f else if f.op = 4 then outS W D J S m f else (m, f)
theorem ijS_len (W D J S : Int) (m : List Int) (f : Fr) : (ijS W D J S m f).1.length = m.length := by
  unfold ijS
  split
  · exact enqS_len _ _ _ _ _ _
  split
  · exact outS_len _ _ _ _ _ _
  rfl
/-- A call does one step. -/
def callS (W D J S : Int) (m : List Int) (f : Fr) : List Int × Fr :=
  if f.op = 0 ∨ f.op = 1 ∨ f.op = 2 then dqS W D J S m f else if f.op = 3 ∨ f.op = 4 then ijS W D J S m f else evS W D J S m f
theorem callS_len (W D J S : Int) (m : List Int) (f : Fr) : (callS W D J S m f).1.length = m.length := by
  unfold callS
  split
  · exact dqS_len _ _ _ _ _ _
  split
  · exact ijS_len _ _ _ _ _ _
  · exact evS_len _ _ _ _ _ _
/-- One cell at most, and none of the first two. -/
def Put1 (m m' : List Int) : Prop := m' = m ∨ ∃ i v, (i < 0 ∨ 2 ≤ i) ∧ m' = put m i v
theorem Put1.same (m : List Int) : Put1 m m := .inl rfl
theorem Put1.of {m : List Int} {i v : Int} (h : 2 ≤ i) : Put1 m (put m i v) := .inr ⟨i, v, .inr h, rfl⟩
theorem Put1.cells {m m' : List Int} (h : Put1 m m') : at0 m' 0 = at0 m 0 ∧ at0 m' 1 = at0 m 1 := by
  rcases h with rfl | ⟨i, v, hi, rfl⟩
  · exact ⟨rfl, rfl⟩
  · exact ⟨at0_put_ne _ _ (by omega), at0_put_ne _ _ (by omega)⟩
theorem Put1.dif {m m' : List Int} (h : Put1 m m') : ∃ d : Int, ∀ k : Nat, ¬ at0 m' k = at0 m k → (k : Int) = d := by
  rcases h with rfl | ⟨i, v, hi, rfl⟩
  · exact ⟨0, fun _ hk => absurd rfl hk⟩
  · refine ⟨i, fun k hk => ?_⟩
    by_cases e : i = k
    · exact e.symm
    · exact absurd (at0_put_ne _ _ e) hk
theorem bg_two {W D J S w : Int} {m : List Int} (h : okw W D J S m w = true) : 8 ≤ bg D J w ∧ 1 ≤ D := by
  obtain ⟨h1, _, h3, _⟩ := okw_iff.1 h
  have := may_lim h1
  exact ⟨bg_ge (by omega) (by omega) h3, by omega⟩
theorem pushS_one (W D J S : Int) (m : List Int) (f : Fr) : Put1 m (pushS W D J S m f).1 := by
  unfold pushS
  split
  · rename_i h
    obtain ⟨hb, hD⟩ := bg_two (goes_iff.1 h).1
    have hs := sI_lim (J := J) (w := f.who) hD f.x
    repeat' split
    all_goals (try dsimp only)
    all_goals first | exact .inl rfl | (refine Put1.of ?_; omega)
  · exact .inl rfl
theorem popS_one (W D J S : Int) (m : List Int) (f : Fr) : Put1 m (popS W D J S m f).1 := by
  unfold popS
  split
  · rename_i h
    obtain ⟨hb, hD⟩ := bg_two (goes_iff.1 h).1
    repeat' split
    all_goals (try dsimp only)
    all_goals first | exact .inl rfl | (refine Put1.of ?_; omega)
  · exact .inl rfl
theorem stealS_one (W D J S : Int) (m : List Int) (f : Fr) : Put1 m (stealS W D J S m f).1 := by
  unfold stealS
  split
  · rename_i h
    obtain ⟨hb, hD⟩ := bg_two (goes_iff.1 h).1
    repeat' split
    all_goals (try dsimp only)
    all_goals first | exact .inl rfl | (refine Put1.of ?_; omega)
  · exact .inl rfl
theorem inj_two {W D J S : Int} {m : List Int} (h : okm W D J S m = true) (x : Int) : 2 ≤ sqI J x ∧ 2 ≤ vlI J x := by
  have h1 := may_lim (okm_iff.1 h).1
  have := Int.emod_nonneg x (show J ≠ 0 by omega)
  unfold sqI vlI
  omega
theorem enqS_one (W D J S : Int) (m : List Int) (f : Fr) : Put1 m (enqS W D J S m f).1 := by
  unfold enqS
  split
  · rename_i h
    have hs := inj_two (goesE_iff.1 h).1 f.x
    repeat' split
    all_goals (try dsimp only)
    all_goals first | exact .inl rfl | (refine Put1.of ?_; omega)
  · exact .inl rfl
theorem outS_one (W D J S : Int) (m : List Int) (f : Fr) : Put1 m (outS W D J S m f).1 := by
  unfold outS
  split
  · rename_i h
    have hs := inj_two (goesE_iff.1 h).1 f.x
    repeat' split
    all_goals (try dsimp only)
    all_goals first | exact .inl rfl | (refine Put1.of ?_; omega)
  · exact .inl rfl
theorem waitS_one (W D J S : Int) (m : List Int) (f : Fr) : Put1 m (waitS W D J S m f).1 := by
  unfold waitS
  split
  · rename_i h
    obtain ⟨hb, hD⟩ := bg_two (goes_iff.1 h).1
    have hp : 2 ≤ pkI D J f.who := by unfold pkI; omega
    repeat' split
    all_goals (try dsimp only)
    all_goals first | exact .inl rfl | (refine Put1.of ?_; omega)
  · exact .inl rfl
theorem noteS_one (W D J S : Int) (m : List Int) (f : Fr) : Put1 m (noteS W D J S m f).1 := by
  have ho : ∀ x : Int, ow W D J S x 2 < 0 ∨ 2 ≤ ow W D J S x 2 := by
    intro x
    unfold ow
    split
    · rename_i h
      rw [Bool.and_eq_true] at h
      have h1 := may_lim h.1
      have h2 := wi_true.1 h.2
      have := bg_ge (D := D) (J := J) (w := x) (by omega) (by omega) h2.1
      right; omega
    · left; omega
  unfold noteS
  split
  · by_cases h0 : f.pc = 0
    · rw [if_pos h0]; exact .inl rfl
    rw [if_neg h0]
    by_cases h1 : f.pc = 1
    · rw [if_pos h1]
      by_cases h2 : at0 m 2 = f.x
      · rw [if_pos h2]; exact .inr ⟨2, _, .inr (by omega), rfl⟩
      · rw [if_neg h2]; exact .inl rfl
    rw [if_neg h1]
    by_cases h6 : f.op = 6
    · rw [if_pos h6]; exact .inr ⟨_, _, ho (wrap64 f.y), rfl⟩
    · rw [if_neg h6]; exact .inr ⟨_, _, ho (lw f.y), rfl⟩
  · exact .inl rfl
theorem dqS_one (W D J S : Int) (m : List Int) (f : Fr) : Put1 m (dqS W D J S m f).1 := by
  unfold dqS
  by_cases h0 : f.op = 0
  · rw [if_pos h0]; exact pushS_one _ _ _ _ _ _
  rw [if_neg h0]
  by_cases h1 : f.op = 1
  · rw [if_pos h1]; exact popS_one _ _ _ _ _ _
  rw [if_neg h1]
  by_cases h2 : f.op = 2
  · rw [if_pos h2]; exact stealS_one _ _ _ _ _ _
  rw [if_neg h2]
  exact .inl rfl
theorem ijS_one (W D J S : Int) (m : List Int) (f : Fr) : Put1 m (ijS W D J S m f).1 := by
  unfold ijS
  by_cases h3 : f.op = 3
  · rw [if_pos h3]; exact enqS_one _ _ _ _ _ _
  rw [if_neg h3]
  by_cases h4 : f.op = 4
  · rw [if_pos h4]; exact outS_one _ _ _ _ _ _
  rw [if_neg h4]
  exact .inl rfl
theorem evS_one (W D J S : Int) (m : List Int) (f : Fr) : Put1 m (evS W D J S m f).1 := by
  unfold evS
  by_cases h5 : f.op = 5
  · rw [if_pos h5]; exact waitS_one _ _ _ _ _ _
  rw [if_neg h5]
  exact noteS_one _ _ _ _ _ _
theorem callS_one (W D J S : Int) (m : List Int) (f : Fr) : Put1 m (callS W D J S m f).1 := by
  unfold callS
  split
  · exact dqS_one _ _ _ _ _ _
  split
  · exact ijS_one _ _ _ _ _ _
  · exact evS_one _ _ _ _ _ _
end Go.Proofs.YtlpkccpijloidaaGreat
