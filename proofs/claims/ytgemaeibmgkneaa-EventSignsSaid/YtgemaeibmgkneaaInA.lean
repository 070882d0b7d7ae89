/- The injector, alone: putting in and taking out, on lists. -/
import Derived.Test.YtgemaeibmgkneaaInM
namespace Go.Proofs.Ytgemaeibmgkneaa
open Go.RowKit Go.Deep
set_option maxRecDepth 100000 in
/-- Places that are fewer than J apart have slots of their own. -/
theorem mod_inj {J x y : Int} (hJ : 1 ≤ J) (h : x % J = y % J) (h1 : x - y < J) (h2 : y - x < J) : x = y := by
  have e1 := Int.emod_add_mul_ediv x J
  have e2 := Int.emod_add_mul_ediv y J
  have h4 : x - y = J * (x / J - y / J) := by rw [Int.mul_sub]; omega
  rcases Int.lt_trichotomy (x / J - y / J) 0 with h5 | h5 | h5
  · have : J * (x / J - y / J) ≤ J * (-1) := Int.mul_le_mul_of_nonneg_left (by omega) (by omega)
    omega
  · rw [h5] at h4; omega
  · have : J * 1 ≤ J * (x / J - y / J) := Int.mul_le_mul_of_nonneg_left (by omega) (by omega)
    omega
set_option maxRecDepth 100000 in
theorem sq_lim {J : Int} (hJ : 1 ≤ J) (x : Int) : 6 ≤ sqI J x ∧ sqI J x < 6 + J := by have := mod_lim x hJ; unfold sqI; omega
set_option maxRecDepth 100000 in
theorem vl_lim {J : Int} (hJ : 1 ≤ J) (x : Int) : 6 + J ≤ vlI J x ∧ vlI J x < 6 + 2 * J := by have := mod_lim x hJ; unfold vlI; omega
set_option maxRecDepth 100000 in
theorem sq_ne {J x y : Int} (hJ : 1 ≤ J) (h : ¬ x = y) (h1 : x - y < J) (h2 : y - x < J) : ¬ sqI J x = sqI J y := fun e => h (mod_inj hJ (by unfold sqI at e; omega) h1 h2)
set_option maxRecDepth 100000 in
theorem vl_ne {J x y : Int} (hJ : 1 ≤ J) (h : ¬ x = y) (h1 : x - y < J) (h2 : y - x < J) : ¬ vlI J x = vlI J y := fun e => h (mod_inj hJ (by unfold vlI at e; omega) h1 h2)
set_option maxRecDepth 100000 in
theorem tw_next {J : Int} (hJ : 1 ≤ J) (x : Int) : tw J (x + J) = tw J x + 2 := by
  unfold tw
  rw [Int.add_ediv_of_dvd_right (Int.dvd_refl J), Int.ediv_self (by omega)]
  omega
set_option maxRecDepth 100000 in
theorem sq_next {J : Int} (x : Int) : sqI J (x + J) = sqI J x := by unfold sqI; rw [Int.add_emod_right]
set_option maxRecDepth 100000 in
theorem okm_long {W D J S : Int} {m : List Int} (hk : okm W D J S m = true) : 6 + 2 * J + 4 ≤ (m.length : Int) := by
  obtain ⟨hm, hlen⟩ := okm_iff.1 hk
  obtain ⟨hW, hD, hJ, hS⟩ := may_lim hm
  have h1 := bg_step (J := J) (w := 0) (W := W) hD.1 (by omega)
  have h2 : bg D J 0 = 6 + 2 * J := by unfold bg; omega
  omega
set_option maxRecDepth 100000 in
/-- Putting in, alone, where there is room. -/
theorem enq_room {W D J S : Int} {m : List Int} {w v h : Int} {l : List Int} (hk : okm W D J S m = true) (hv : Vi J m h l) (hl : (l.length : Int) < J) :
    ∃ m4, itN (enqS W D J S) 4 (m, fbg 3 w v) = (m4, ⟨3, 4, w, v, h + l.length, tw J (h + l.length), 0⟩) ∧ at0 m4 4 = h ∧ at0 m4 5 = h + l.length + 1 ∧ at0 m4 (sqI J h) = at0 m (sqI J h) ∧ okm W D J S m4 = true
      ∧ ∃ m5, enqS W D J S m4 ⟨3, 4, w, v, h + l.length, tw J (h + l.length), 0⟩ = (m5, ⟨3, 0, w, v, 0, 0, 1⟩) ∧ okm W D J S m5 = true ∧ Vi J m5 h (l ++ [v]) := by
  obtain ⟨hm, hlen⟩ := okm_iff.1 hk
  obtain ⟨hW, hD, hJ, hS⟩ := may_lim hm
  have hlong := okm_long hk
  have h0 := hv.h0
  have hlim := hv.lim
  have t := tw_lim (J := J) (x := h + l.length) hJ.1 (by omega)
  have hseq : at0 m (sqI J (h + l.length)) = tw J (h + l.length) := by
    have := hv.sq_ l.length hl
    rw [if_neg (by omega)] at this
    omega
  have a0 : itN (enqS W D J S) 1 (m, fbg 3 w v) = (m, ⟨3, 1, w, v, h + l.length, 0, 0⟩) := by
    rw [← hv.tail]; exact enqS_0 (v := v) (x := 0) (y := 0) hk
  have a1 := itN_one a0
  simp only at a1
  rw [enqS_1 hk, if_pos (by rw [hseq]; omega), hseq] at a1
  have a2 := itN_one a1
  simp only at a2
  rw [enqS_2 hk, if_pos hv.tail, show (h + (l.length : Int) + 1) % 18446744073709551616 = h + l.length + 1 by omega] at a2
  have a3 := itN_one a2
  simp only at a3
  have hk2 := okm_put hk 5 (h + l.length + 1)
  rw [enqS_3 hk2] at a3
  have hk3 := okm_put hk2 (vlI J (h + l.length)) v
  have q1 := sq_lim hJ.1 (h + l.length)
  have q2 := vl_lim hJ.1 (h + l.length)
  have q3 := sq_lim hJ.1 h
  refine ⟨_, a3, ?_, ?_, ?_, hk3, _, enqS_4 hk3, okm_put hk3 _ _, ?_⟩
  · rw [at0_put_ne _ _ (by omega), at0_put_ne _ _ (by omega)]; exact hv.head
  · rw [at0_put_ne _ _ (by omega), at0_put _ (by omega) (by omega)]
  · rw [at0_put_ne _ _ (by omega), at0_put_ne _ _ (by omega)]
  · rw [show (tw J (h + (l.length : Int)) + 1) % 18446744073709551616 = tw J (h + l.length) + 1 by omega]
    refine ⟨?_, ?_, by simp; omega, h0, hlim, fun i hi => ?_, fun i u hu => ?_⟩
    · rw [at0_put_ne _ _ (by omega), at0_put_ne _ _ (by omega), at0_put_ne _ _ (by omega)]; exact hv.head
    · rw [at0_put_ne _ _ (by omega), at0_put_ne _ _ (by omega), at0_put _ (by omega) (by omega)]; simp; omega
    · have qi := sq_lim hJ.1 (h + i)
      simp only [List.length_append, List.length_singleton]
      by_cases e : i = l.length
      · subst e
        rw [at0_put _ (by omega) (by rw [len_put, len_put]; omega), if_pos (by omega)]
      · rw [at0_put_ne _ _ (sq_ne hJ.1 (by omega) (by omega) (by omega)), at0_put_ne _ _ (by omega), at0_put_ne _ _ (by omega), hv.sq_ i hi]
        split <;> split <;> omega
    · have qi := vl_lim hJ.1 (h + i)
      have hil := (List.getElem?_eq_some_iff.1 hu).1
      simp only [List.length_append, List.length_singleton] at hil
      rw [at0_put_ne _ _ (by omega)]
      by_cases e : i = l.length
      · subst e
        rw [at0_put _ (by omega) (by rw [len_put]; omega)]
        simpa using hu
      · rw [at0_put_ne _ _ (vl_ne hJ.1 (by omega) (by omega) (by omega)), at0_put_ne _ _ (by omega)]
        exact hv.at_ i u (by rw [List.getElem?_append_left (by omega)] at hu; exact hu)
set_option maxRecDepth 100000 in
/-- Putting in, alone, where there is none. -/
theorem enq_full {W D J S : Int} {m : List Int} {w v h : Int} {l : List Int} (hk : okm W D J S m = true) (hv : Vi J m h l) (hl : (l.length : Int) = J) : itN (enqS W D J S) 2 (m, fbg 3 w v) = (m, ⟨3, 0, w, v, 0, 0, 2⟩) := by
  obtain ⟨hm, hlen⟩ := okm_iff.1 hk
  obtain ⟨hW, hD, hJ, hS⟩ := may_lim hm
  have h0 := hv.h0
  have hlim := hv.lim
  have t := tw_lim (J := J) (x := h) hJ.1 (by omega)
  have hseq : at0 m (sqI J (h + l.length)) = tw J h + 1 := by
    have := hv.sq_ 0 (by omega)
    rw [if_pos (by omega)] at this
    rw [hl, sq_next]
    simpa using this
  have htw : tw J (h + l.length) = tw J h + 2 := by rw [hl]; exact tw_next hJ.1 h
  have a0 : itN (enqS W D J S) 1 (m, fbg 3 w v) = (m, ⟨3, 1, w, v, h + l.length, 0, 0⟩) := by
    rw [← hv.tail]; exact enqS_0 (v := v) (x := 0) (y := 0) hk
  have a1 := itN_one a0
  simp only at a1
  rw [enqS_1 hk, if_neg (by rw [hseq, htw]; omega), if_pos (by rw [hseq, htw]; unfold far wrap64; omega)] at a1
  exact a1
set_option maxRecDepth 100000 in
/-- Taking out, alone, where there is something. -/
theorem out_first {W D J S : Int} {m : List Int} {w v h u : Int} {l : List Int} (hk : okm W D J S m = true) (hv : Vi J m h (u :: l)) (hh : h < 4611686018427387903) :
    ∃ m5, itN (outS W D J S) 5 (m, fbg 4 w v) = (m5, ⟨4, 0, w, u, 0, 0, 1⟩) ∧ okm W D J S m5 = true ∧ Vi J m5 (h + 1) l := by
  obtain ⟨hm, hlen⟩ := okm_iff.1 hk
  obtain ⟨hW, hD, hJ, hS⟩ := may_lim hm
  have hlong := okm_long hk
  have h0 := hv.h0
  have hlim := hv.lim
  have hl := hv.len
  simp only [List.length_cons] at hl
  have t := tw_lim (J := J) (x := h) hJ.1 (by omega)
  have hseq : at0 m (sqI J h) = tw J h + 1 := by
    have := hv.sq_ 0 (by omega)
    rw [if_pos (by simp)] at this
    simpa using this
  have hval : at0 m (vlI J h) = u := by simpa using hv.at_ 0 u rfl
  have a0 : itN (outS W D J S) 1 (m, fbg 4 w v) = (m, ⟨4, 1, w, v, h, 0, 0⟩) := by
    rw [← hv.head]; exact outS_0 (v := v) (x := 0) (y := 0) hk
  have a1 := itN_one a0
  simp only at a1
  rw [outS_1 hk, if_pos (by rw [hseq]; omega), hseq] at a1
  have a2 := itN_one a1
  simp only at a2
  rw [outS_2 hk, if_pos hv.head, show (h + 1) % 18446744073709551616 = h + 1 by omega] at a2
  have hk2 := okm_put hk 4 (h + 1)
  have q1 := sq_lim hJ.1 h
  have q2 := vl_lim hJ.1 h
  have a3 := itN_one a2
  simp only at a3
  rw [outS_3 hk2, at0_put_ne _ _ (by omega), hval] at a3
  have a4 := itN_one a3
  simp only at a4
  rw [outS_4 hk2, show (tw J h + 2) % 18446744073709551616 = tw J h + 2 by omega] at a4
  refine ⟨_, a4, okm_put hk2 _ _, ?_, ?_, by omega, by omega, by omega, fun i hi => ?_, fun i z hz => ?_⟩
  · rw [at0_put_ne _ _ (by omega), at0_put _ (by omega) (by omega)]
  · rw [at0_put_ne _ _ (by omega), at0_put_ne _ _ (by omega), hv.tail]; simp only [List.length_cons]; omega
  · by_cases e : (i : Int) = J - 1
    · rw [show h + 1 + (i : Int) = h + J by omega, sq_next, at0_put _ (by omega) (by rw [len_put]; omega), tw_next hJ.1, if_neg (by omega)]; omega
    · have qi := sq_lim hJ.1 (h + 1 + i)
      rw [at0_put_ne _ _ (sq_ne hJ.1 (by omega) (by omega) (by omega)), at0_put_ne _ _ (by omega)]
      have := hv.sq_ (i + 1) (by omega)
      rw [show h + ((i + 1 : Nat) : Int) = h + 1 + i by omega] at this
      rw [this]
      simp only [List.length_cons]
      split <;> split <;> omega
  · have qi := vl_lim hJ.1 (h + 1 + i)
    rw [at0_put_ne _ _ (by omega), at0_put_ne _ _ (by omega)]
    have := hv.at_ (i + 1) z (by simpa using hz)
    rw [show h + ((i + 1 : Nat) : Int) = h + 1 + i by omega] at this
    exact this
set_option maxRecDepth 100000 in
/-- Taking out, alone, where there is nothing. -/
theorem out_nil {W D J S : Int} {m : List Int} {w v h : Int} (hk : okm W D J S m = true) (hv : Vi J m h []) : itN (outS W D J S) 2 (m, fbg 4 w v) = (m, ⟨4, 0, w, 0, 0, 0, 3⟩) := by
  obtain ⟨hm, hlen⟩ := okm_iff.1 hk
  obtain ⟨hW, hD, hJ, hS⟩ := may_lim hm
  have h0 := hv.h0
  have hlim := hv.lim
  have t := tw_lim (J := J) (x := h) hJ.1 (by omega)
  have hseq : at0 m (sqI J h) = tw J h := by
    have := hv.sq_ 0 (by omega)
    rw [if_neg (by simp)] at this
    simpa using this
  have a0 : itN (outS W D J S) 1 (m, fbg 4 w v) = (m, ⟨4, 1, w, v, h, 0, 0⟩) := by
    rw [← hv.head]; exact outS_0 (v := v) (x := 0) (y := 0) hk
  have a1 := itN_one a0
  simp only at a1
  rw [outS_1 hk, if_neg (by rw [hseq]; omega), if_pos (by rw [hseq]; unfold far wrap64; omega)] at a1
  exact a1
set_option maxRecDepth 100000 in
/-- DeqAlone, on lists: putting in. -/
theorem enq_alone {W D J S : Int} {m : List Int} {w v h : Int} {l : List Int} (hk : okm W D J S m = true) (hv : Vi J m h l) :
    ∃ m', itN (enqS W D J S) 9 (m, fbg 3 w v) = (m', (on l J (fbg 3 w v)).2) ∧ okm W D J S m' = true ∧ Vi J m' h (on l J (fbg 3 w v)).1 := by
  have eo : on l J (fbg 3 w v) = onPut l J (fbg 3 w v) := by simp [on, fbg]
  have hl := hv.len
  rw [eo]
  by_cases hr : (l.length : Int) < J
  · obtain ⟨m4, e4, _, _, _, _, m5, e5, hk5, hv5⟩ := enq_room (w := w) (v := v) hk hv hr
    have e6 := itN_one e4
    simp only at e6
    rw [e5] at e6
    rw [onPut, if_neg (by omega)]
    exact ⟨m5, by rw [show (9 : Nat) = 5 + 4 from rfl, itN_stay enqS_over (by rw [e6]; simp), e6]; rfl, hk5, hv5⟩
  · have e2 := enq_full (w := w) (v := v) hk hv (by omega)
    rw [onPut, if_pos (by omega)]
    exact ⟨m, by rw [show (9 : Nat) = 2 + 7 from rfl, itN_stay enqS_over (by rw [e2]; simp), e2]; rfl, hk, hv⟩
set_option maxRecDepth 100000 in
/-- DeqAlone, on lists: taking out. -/
theorem out_alone {W D J S : Int} {m : List Int} {w v h : Int} {l : List Int} (hk : okm W D J S m = true) (hv : Vi J m h l) (hh : h < 4611686018427387903) :
    ∃ m' h', itN (outS W D J S) 9 (m, fbg 4 w v) = (m', (on l J (fbg 4 w v)).2) ∧ okm W D J S m' = true ∧ Vi J m' h' (on l J (fbg 4 w v)).1 ∧ h' ≤ h + 1 := by
  have eo : on l J (fbg 4 w v) = onFirst l (fbg 4 w v) := by simp [on, fbg]
  rw [eo]
  rcases l with _ | ⟨u, l⟩
  · have e2 := out_nil (w := w) (v := v) hk hv
    exact ⟨m, h, by rw [show (9 : Nat) = 2 + 7 from rfl, itN_stay outS_over (by rw [e2]; simp), e2]; rfl, hk, hv, by omega⟩
  · obtain ⟨m5, e5, hk5, hv5⟩ := out_first (w := w) (v := v) hk hv hh
    exact ⟨m5, h + 1, by rw [show (9 : Nat) = 5 + 4 from rfl, itN_stay outS_over (by rw [e5]; simp), e5]; rfl, hk5, hv5, by omega⟩
set_option maxRecDepth 100000 in
/-- A new injector. -/
theorem Vi.new {W D J S : Int} (hm : may W D J S = true) (n : Nat) : Vi J (List.replicate n 0) 0 [] := by
  obtain ⟨hW, hD, hJ, hS⟩ := may_lim hm
  have z : ∀ i, at0 (List.replicate n 0) i = 0 := fun i => by
    unfold at0
    split
    · rw [List.getD_eq_getElem?_getD, List.getElem?_replicate]; split <;> rfl
    · rfl
  refine ⟨z _, by rw [z]; rfl, by simp; omega, by omega, by omega, fun i hi => ?_, fun i u hi => by simp at hi⟩
  rw [z, if_neg (by simp)]
  unfold tw
  rw [Int.ediv_eq_zero_of_lt (by omega) (by omega)]; rfl
set_option maxRecDepth 100000 in
/-- DeqEarly, on lists. -/
theorem deq_early {W D J S : Int} {m : List Int} {w v w' : Int} (hk : okm W D J S m = true) (hv : Vi J m 0 []) :
    ∃ m4 f4 m5 m6, itN (enqS W D J S) 4 (m, fbg 3 w v) = (m4, f4) ∧ f4.res = 0 ∧ itN (outS W D J S) 9 (m4, fbg 4 w' 0) = (m4, ⟨4, 0, w', 0, 0, 0, 3⟩) ∧ ilen W D J S m4 = 1
      ∧ enqS W D J S m4 f4 = (m5, ⟨3, 0, w, v, 0, 0, 1⟩) ∧ itN (outS W D J S) 9 (m5, fbg 4 w' 0) = (m6, ⟨4, 0, w', v, 0, 0, 1⟩) := by
  obtain ⟨hm, hlen⟩ := okm_iff.1 hk
  obtain ⟨hW, hD, hJ, hS⟩ := may_lim hm
  obtain ⟨m4, e4, b1, b2, b3, hk4, m5, e5, hk5, hv5⟩ := enq_room (w := w) (v := v) hk hv (by simp; omega)
  have hseq : at0 m4 (sqI J 0) = tw J 0 := by
    rw [b3]
    have := hv.sq_ 0 (by omega)
    rw [if_neg (by simp)] at this
    simpa using this
  have t0 : tw J 0 = 0 := by unfold tw; simp
  have a0 : itN (outS W D J S) 1 (m4, fbg 4 w' 0) = (m4, ⟨4, 1, w', 0, 0, 0, 0⟩) := by
    have := outS_0 (w := w') (v := 0) (x := 0) (y := 0) hk4
    rw [b1] at this
    exact this
  have a1 := itN_one a0
  simp only at a1
  rw [outS_1 hk4, if_neg (by rw [hseq, t0]; omega), if_pos (by rw [hseq, t0]; unfold far wrap64; omega)] at a1
  obtain ⟨m6, e6, _, _⟩ := out_first (w := w') (v := 0) hk5 hv5 (by omega)
  refine ⟨m4, _, m5, m6, e4, rfl, by rw [show (9 : Nat) = 2 + 7 from rfl, itN_stay outS_over (by rw [a1]; simp), a1], ?_, e5, by rw [show (9 : Nat) = 5 + 4 from rfl, itN_stay outS_over (by rw [e6]; simp), e6]⟩
  unfold ilen
  rw [if_pos hk4, b1, b2]
  unfold far wrap64
  simp
end Go.Proofs.Ytgemaeibmgkneaa
