/- Two who take out at once, in turn, on lists. -/
import Derived.Test.YtelelhjgejnpcaaInA
import Derived.Test.YtelelhjgejnpcaaDqT
namespace Go.Proofs.Ytelelhjgejnpcaa
open Go.RowKit Go.Deep
/-- The steps of taking out, behind the first one, where there is something. -/
theorem out_steps {W D J S : Int} {m : List Int} {w v h u y : Int} {l : List Int} (hk : okm W D J S m = true) (hv : Vi J m h (u :: l)) (hh : h < 4611686018427387903) :
    outS W D J S m ⟨4, 1, w, v, h, y, 0⟩ = (m, ⟨4, 2, w, v, h, tw J h + 1, 0⟩)
    ∧ outS W D J S m ⟨4, 2, w, v, h, tw J h + 1, 0⟩ = (put m 4 (h + 1), ⟨4, 3, w, v, h, tw J h + 1, 0⟩)
    ∧ outS W D J S (put m 4 (h + 1)) ⟨4, 3, w, v, h, tw J h + 1, 0⟩ = (put m 4 (h + 1), ⟨4, 4, w, u, h, tw J h + 1, 0⟩)
    ∧ outS W D J S (put m 4 (h + 1)) ⟨4, 4, w, u, h, tw J h + 1, 0⟩ = (put (put m 4 (h + 1)) (sqI J h) (tw J h + 2), ⟨4, 0, w, u, 0, 0, 1⟩)
    ∧ okm W D J S (put (put m 4 (h + 1)) (sqI J h) (tw J h + 2)) = true ∧ Vi J (put (put m 4 (h + 1)) (sqI J h) (tw J h + 2)) (h + 1) l := by
  obtain ⟨hm, hlen⟩ := okm_iff.1 hk
  obtain ⟨hW, hD, hJ, hS⟩ := may_lim hm
  have hlong := okm_long hk
  have h0 := hv.h0
  have hlim := hv.lim
  have hl := hv.len
  simp only [List.length_cons] at hl
  have t := tw_lim (J := J) (x := h) hJ.1 (by omega)
  have hseq : at0 m (sqI J h) = tw J h + 1 := by
    have := hv.sq_ 0 (by omega)
    rw [if_pos (by simp)] at this
    simpa using this
  have hval : at0 m (vlI J h) = u := by simpa using hv.at_ 0 u rfl
  have hk2 := okm_put hk 4 (h + 1)
  have q1 := sq_lim hJ.1 h
  have q2 := vl_lim hJ.1 h
  have s1 : outS W D J S m ⟨4, 1, w, v, h, y, 0⟩ = (m, ⟨4, 2, w, v, h, tw J h + 1, 0⟩) := by
    rw [outS_1 hk, if_pos (by rw [hseq]; omega), hseq]
  have s2 : outS W D J S m ⟨4, 2, w, v, h, tw J h + 1, 0⟩ = (put m 4 (h + 1), ⟨4, 3, w, v, h, tw J h + 1, 0⟩) := by
    rw [outS_2 hk, if_pos hv.head, show (h + 1) % 18446744073709551616 = h + 1 by omega]
  have s3 : outS W D J S (put m 4 (h + 1)) ⟨4, 3, w, v, h, tw J h + 1, 0⟩ = (put m 4 (h + 1), ⟨4, 4, w, u, h, tw J h + 1, 0⟩) := by
    rw [outS_3 hk2, at0_put_ne _ _ (by omega), hval]
  have s4 : outS W D J S (put m 4 (h + 1)) ⟨4, 4, w, u, h, tw J h + 1, 0⟩ = (put (put m 4 (h + 1)) (sqI J h) (tw J h + 2), ⟨4, 0, w, u, 0, 0, 1⟩) := by
    rw [outS_4 hk2, show (tw J h + 2) % 18446744073709551616 = tw J h + 2 by omega]
  refine ⟨s1, s2, s3, s4, okm_put hk2 _ _, ?_⟩
  obtain ⟨m5, e5, _, hv5⟩ := out_first (w := w) (v := v) hk hv hh
  have a0 : itN (outS W D J S) 1 (m, fbg 4 w v) = (m, ⟨4, 1, w, v, h, 0, 0⟩) := by
    rw [← hv.head]; exact outS_0 (v := v) (x := 0) (y := 0) hk
  have s1' : outS W D J S m ⟨4, 1, w, v, h, 0, 0⟩ = (m, ⟨4, 2, w, v, h, tw J h + 1, 0⟩) := by
    rw [outS_1 hk, if_pos (by rw [hseq]; omega), hseq]
  have a1 := itN_one a0
  simp only at a1
  rw [s1'] at a1
  have a2 := itN_one a1
  simp only at a2
  rw [s2] at a2
  have a3 := itN_one a2
  simp only at a3
  rw [s3] at a3
  have a4 := itN_one a3
  simp only at a4
  rw [s4, e5] at a4
  have : m5 = put (put m 4 (h + 1)) (sqI J h) (tw J h + 2) := congrArg Prod.fst a4
  rw [← this]
  exact hv5
theorem duo_stay {s1 s2 : List Int → Fr → List Int × Fr} (h1 : ∀ m f, f.res ≠ 0 → s1 m f = (m, f)) (h2 : ∀ m f, f.res ≠ 0 → s2 m f = (m, f)) {k : Nat} {s : List Int × Fr × Fr} {m : List Int} {f g : Fr} (h : duo s1 s2 k s = (m, f, g)) (hf : f.res ≠ 0) (hg : g.res ≠ 0) (j : Nat) : duo s1 s2 (k + j) s = (m, f, g) := by
  induction j with
  | zero => exact h
  | succ j ih => exact duo_one ih (h1 _ _ hf) (h2 _ _ hg)
/-- DeqTwo, on lists. -/
theorem deq_two {W D J S : Int} {m : List Int} {h u : Int} {l : List Int} (hk : okm W D J S m = true) (hv : Vi J m h (u :: l)) (hh : h < 4611686018427387902) :
    ∃ m' g, duo (outS W D J S) (outS W D J S) 12 (m, fbg 4 0 0, fbg 4 1 0) = (m', ⟨4, 0, 0, u, 0, 0, 1⟩, g)
      ∧ ((l = [] ∧ g.res = 3 ∧ ilen W D J S m' = 0) ∨ (∃ u' l', l = u' :: l' ∧ g.res = 1 ∧ g.val = u' ∧ ilen W D J S m' = l'.length)) := by
  obtain ⟨hm, hlen⟩ := okm_iff.1 hk
  obtain ⟨hW, hD, hJ, hS⟩ := may_lim hm
  have hlong := okm_long hk
  have h0 := hv.h0
  have t := tw_lim (J := J) (x := h) hJ.1 (by omega)
  obtain ⟨s1, s2, s3, s4, hk5, hv5⟩ := out_steps (w := 0) (v := 0) (y := 0) hk hv (by omega)
  obtain ⟨r1, _, _, _, _, _⟩ := out_steps (w := 1) (v := 0) (y := 0) hk hv (by omega)
  have a0 : ∀ w, outS W D J S m (fbg 4 w 0) = (m, ⟨4, 1, w, 0, h, 0, 0⟩) := fun w => by rw [← hv.head]; exact outS_0 (v := 0) (x := 0) (y := 0) hk
  have hk1 := okm_put hk 4 (h + 1)
  have h41 : at0 (put m 4 (h + 1)) 4 = h + 1 := at0_put _ (by omega) (by omega)
  have g2 : outS W D J S (put m 4 (h + 1)) ⟨4, 2, 1, 0, h, tw J h + 1, 0⟩ = (put m 4 (h + 1), ⟨4, 0, 1, 0, h, tw J h + 1, 0⟩) := by
    rw [outS_2 hk1, if_neg (by rw [h41]; omega)]
  have g3 : outS W D J S (put m 4 (h + 1)) ⟨4, 0, 1, 0, h, tw J h + 1, 0⟩ = (put m 4 (h + 1), ⟨4, 1, 1, 0, h + 1, tw J h + 1, 0⟩) := by
    rw [outS_0 hk1, h41]
  have e1 := duo_one (s1 := outS W D J S) (s2 := outS W D J S) (k := 0) (s := (m, fbg 4 0 0, fbg 4 1 0)) rfl (a0 0) (a0 1)
  have e2 := duo_one e1 s1 r1
  have e3 := duo_one e2 s2 g2
  have e4 := duo_one e3 s3 g3
  rcases l with _ | ⟨u', l'⟩
  · have t1 := tw_lim (J := J) (x := h + 1) hJ.1 (by omega)
    have hseq : at0 (put (put m 4 (h + 1)) (sqI J h) (tw J h + 2)) (sqI J (h + 1)) = tw J (h + 1) := by
      have := hv5.sq_ 0 (by omega)
      rw [if_neg (by simp)] at this
      simpa using this
    have g4 : outS W D J S (put (put m 4 (h + 1)) (sqI J h) (tw J h + 2)) ⟨4, 1, 1, 0, h + 1, tw J h + 1, 0⟩ = (put (put m 4 (h + 1)) (sqI J h) (tw J h + 2), ⟨4, 0, 1, 0, 0, 0, 3⟩) := by
      rw [outS_1 hk5, if_neg (by rw [hseq]; omega), if_pos (by rw [hseq]; unfold far wrap64; omega)]
    have e5 := duo_one e4 s4 g4
    exact ⟨_, _, duo_stay outS_over outS_over e5 (by simp) (by simp) 7, .inl ⟨rfl, rfl, (ilst_of hk5 hv5).2⟩⟩
  · obtain ⟨q1, q2, q3, q4, hk9, hv9⟩ := out_steps (w := 1) (v := 0) (y := tw J h + 1) hk5 hv5 (by omega)
    have e5 := duo_one e4 s4 q1
    have e6 := duo_one e5 (outS_over _ _ (by simp)) q2
    have e7 := duo_one e6 (outS_over _ _ (by simp)) q3
    have e8 := duo_one e7 (outS_over _ _ (by simp)) q4
    exact ⟨_, _, duo_stay outS_over outS_over e8 (by simp) (by simp) 4, .inr ⟨u', l', rfl, rfl, rfl, (ilst_of hk9 hv9).2⟩⟩
end Go.Proofs.Ytelelhjgejnpcaa
