/- Two who wait at once, step by step in turn, on lists. -/
import Derived.Test.YtpnmgpmmaiinmaaWtM
import Derived.Test.YtpnmgpmmaiinmaaDqT
namespace Go.Proofs.Ytpnmgpmmaiinmaa
open Go.RowKit Go.Deep
theorem duo_fix {s1 s2 : List Int → Fr → List Int × Fr} {k : Nat} {s : List Int × Fr × Fr} {m : List Int} {f g : Fr} (h : duo s1 s2 k s = (m, f, g)) (h1 : s1 m f = (m, f)) (h2 : s2 m g = (m, g)) (j : Nat) : duo s1 s2 (k + j) s = (m, f, g) := by
  induction j with
  | zero => exact h
  | succ j ih => exact duo_one ih h1 h2
/-- Both are parked in the end, each with its bit, and the epoch is what it was. -/
theorem wait_two {W D J S : Int} {m : List Int} {q r : Int} (hk : okw W D J S m q = true) (hl : okw W D J S m r = true) (hq : at0 m (pkI D J q) = 0) (hr : at0 m (pkI D J r) = 0) (hu : U (at0 m 2)) :
    ∃ m' x y, duo (waitS W D J S) (waitS W D J S) 12 (m, fbg 5 q 0, fbg 5 r 0) = (m', ⟨5, 3, q, 0, x, 0, 0⟩, ⟨5, 3, r, 0, y, 0, 0⟩) ∧ wts W D J S m' q = true ∧ wts W D J S m' r = true ∧ at0 m' 2 / 65536 = at0 m 2 / 65536 := by
  have hlong := okw_long hk
  have pq := pkI_lim hk
  have pr := pkI_lim hl
  have wq := okw_who hk
  have wr := okw_who hl
  generalize hE : at0 m 2 = E at hu
  have a1 : duo (waitS W D J S) (waitS W D J S) 1 (m, fbg 5 q 0, fbg 5 r 0) = (m, ⟨5, 1, q, 0, at0 m 2, 0, 0⟩, ⟨5, 1, r, 0, at0 m 2, 0, 0⟩) :=
    duo_one (k := 0) rfl (waitS_0 (v := 0) (x := 0) (y := 0) hk) (waitS_0 (v := 0) (x := 0) (y := 0) hl)
  rw [hE] at a1
  have f1 := waitS_1 (v := 0) (x := E) (y := 0) hk
  have g1 := waitS_1 (v := 0) (x := E) (y := 0) hl
  rw [hE, if_pos rfl] at f1 g1
  have a2 := duo_one a1 f1 g1
  have f2 := waitS_2 (v := 0) (x := E) (y := E) hk
  rw [hE, if_pos rfl] at f2
  obtain ⟨m1, hm1⟩ : ∃ m1, m1 = put m 2 (st E q) := ⟨_, rfl⟩
  rw [← hm1] at f2
  have hk1 : okw W D J S m1 q = true := by rw [hm1]; exact okw_put hk _ _
  have hl1 : okw W D J S m1 r = true := by rw [hm1]; exact okw_put hl _ _
  have t1 : at0 m1 2 = st E q := by rw [hm1]; exact at0_put _ (by omega) (by omega)
  have q1 : at0 m1 (pkI D J q) = 0 := by rw [hm1, at0_put_ne _ _ (by omega)]; exact hq
  have r1 : at0 m1 (pkI D J r) = 0 := by rw [hm1, at0_put_ne _ _ (by omega)]; exact hr
  have n1 : m1.length = m.length := by rw [hm1, len_put]
  have us : U (st E q) := st_u _ _ hu
  -- what the last one leaves
  have done : ∀ m2 : List Int, m2 = put m1 2 (st (st E q) r) → wts W D J S m2 q = true ∧ wts W D J S m2 r = true ∧ at0 m2 2 / 65536 = E / 65536 ∧ at0 m2 (pkI D J q) = 0 ∧ at0 m2 (pkI D J r) = 0 ∧ okw W D J S m2 q = true ∧ okw W D J S m2 r = true := fun m2 e => by
    have t2 : at0 m2 2 = st (st E q) r := by rw [e]; exact at0_put _ (by omega) (by omega)
    have k2 : okw W D J S m2 q = true := by rw [e]; exact okw_put hk1 _ _
    have l2 : okw W D J S m2 r = true := by rw [e]; exact okw_put hl1 _ _
    refine ⟨?_, ?_, ?_, ?_, ?_, k2, l2⟩
    · unfold wts
      rw [k2, t2, ← st_comm us.1 wq.1 (by omega) wr.1 (by omega), st_idem hu.1 wq.1 (by omega)]
      simp
    · unfold wts
      rw [l2, t2, st_idem us.1 wr.1 (by omega)]
      simp
    · rw [t2, st_epoch, st_epoch]
    · rw [e, at0_put_ne _ _ (by omega)]; exact q1
    · rw [e, at0_put_ne _ _ (by omega)]; exact r1
  have g2 := waitS_2 (v := 0) (x := E) (y := E) hl1
  rw [t1] at g2
  by_cases hs : st E q = E
  · rw [if_pos hs] at g2
    obtain ⟨m2, hm2⟩ : ∃ m2, m2 = put m1 2 (st E r) := ⟨_, rfl⟩
    rw [← hm2] at g2
    obtain ⟨d1, d2, d3, d4, d5, d6, d7⟩ := done m2 (by rw [hs]; exact hm2)
    have a3 := duo_one a2 f2 g2
    have f3 := fun y => waitS_3 (v := 0) (x := E) (y := y) d6
    have g3 := fun y => waitS_3 (v := 0) (x := E) (y := y) d7
    rw [d4] at f3
    rw [d5] at g3
    have a4 := duo_one a3 (f3 E) (g3 E)
    exact ⟨m2, E, E, duo_fix a4 (f3 0) (g3 0) 8, d1, d2, d3⟩
  · rw [if_neg hs] at g2
    have a3 := duo_one a2 f2 g2
    have f3 := waitS_3 (v := 0) (x := E) (y := E) hk1
    rw [if_pos q1] at f3
    have g3 := waitS_1 (v := 0) (x := E) (y := E) hl1
    rw [t1, if_pos (st_epoch _ _)] at g3
    have a4 := duo_one a3 f3 g3
    have f4 := waitS_3 (v := 0) (x := E) (y := 0) hk1
    rw [if_pos q1] at f4
    have g4 := waitS_2 (v := 0) (x := E) (y := st E q) hl1
    rw [if_pos t1] at g4
    obtain ⟨m2, hm2⟩ : ∃ m2, m2 = put m1 2 (st (st E q) r) := ⟨_, rfl⟩
    rw [← hm2] at g4
    obtain ⟨d1, d2, d3, d4, d5, d6, d7⟩ := done m2 hm2
    have a5 := duo_one a4 f4 g4
    have f5 := waitS_3 (v := 0) (x := E) (y := 0) d6
    rw [if_pos d4] at f5
    have g5 := fun y => waitS_3 (v := 0) (x := E) (y := y) d7
    rw [d5] at g5
    have a6 := duo_one a5 f5 (g5 (st E q))
    exact ⟨m2, E, E, duo_fix a6 f5 (g5 0) 6, d1, d2, d3⟩
end Go.Proofs.Ytpnmgpmmaiinmaa
