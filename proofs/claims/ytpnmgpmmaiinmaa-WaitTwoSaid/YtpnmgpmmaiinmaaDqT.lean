/- Two at one deque, step by step in turn, on lists. -/
import Derived.Test.YtpnmgpmmaiinmaaDqA
namespace Go.Proofs.Ytpnmgpmmaiinmaa
open Go.RowKit Go.Deep
/-- Two calls, in turn, so many times each. -/
def duo (s1 s2 : List Int → Fr → List Int × Fr) : Nat → List Int × Fr × Fr → List Int × Fr × Fr
  | 0, s => s
  | k + 1, s => ((s2 (s1 (duo s1 s2 k s).1 (duo s1 s2 k s).2.1).1 (duo s1 s2 k s).2.2).1, (s1 (duo s1 s2 k s).1 (duo s1 s2 k s).2.1).2, (s2 (s1 (duo s1 s2 k s).1 (duo s1 s2 k s).2.1).1 (duo s1 s2 k s).2.2).2)
theorem duo_one {s1 s2 : List Int → Fr → List Int × Fr} {k : Nat} {s : List Int × Fr × Fr} {m m' m'' : List Int} {f f' g g' : Fr} (h : duo s1 s2 k s = (m, f, g)) (h1 : s1 m f = (m', f')) (h2 : s2 m' g = (m'', g')) : duo s1 s2 (k + 1) s = (m'', f', g') := by
  show ((s2 (s1 (duo s1 s2 k s).1 (duo s1 s2 k s).2.1).1 (duo s1 s2 k s).2.2).1, _, _) = _
  rw [h]
  simp only
  rw [h1]
  simp only
  rw [h2]
/-- StealAbort, on lists. -/
theorem steal_abort {W D J S : Int} {m : List Int} {w : Int} {u : Int} {l : List Int} (hu : UM m) (h : lst W D J S m w = some (u :: l)) :
    ∃ m', duo (stealS W D J S) (stealS W D J S) 4 (m, fbg 2 w 0, fbg 2 w 0) = (m', ⟨2, 0, w, u, 0, 0, 1⟩, ⟨2, 0, w, 0, 0, 0, 4⟩) ∧ lst W D J S m' w = some l := by
  obtain ⟨hk, hv⟩ := lst_some hu h
  have hU : U (at0 m (bg D J w)) := at0_U hu _
  generalize at0 m (bg D J w) = t at hv hU
  obtain ⟨hm, hlen, hw0, hw1⟩ := okw_iff.1 hk
  obtain ⟨hW, hD, hJ, hS⟩ := may_lim hm
  have hst := bg_step (J := J) hD.1 hw1
  have hg := bg_ge (J := J) (w := w) hD.1 hJ.1 hw0
  have hl := hv.len
  have a0 : stealS W D J S m (fbg 2 w 0) = (m, ⟨2, 1, w, 0, 0, t, 0⟩) := by rw [← hv.top]; exact stealS_0 (v := 0) (x := 0) (y := 0) hk
  have a1 : stealS W D J S m ⟨2, 1, w, 0, 0, t, 0⟩ = (m, ⟨2, 2, w, 0, at0 m (bg D J w + 1), t, 0⟩) := by
    rw [stealS_1 hk, if_neg]
    rw [hv.bot, far_eq (by omega)]; simp only [List.length_cons]; omega
  have a2 : stealS W D J S m ⟨2, 2, w, 0, at0 m (bg D J w + 1), t, 0⟩ = (m, ⟨2, 3, w, u, at0 m (bg D J w + 1), t, 0⟩) := by
    rw [stealS_2 hk, show at0 m (sI D J w t) = u by simpa using hv.at_ 0 u rfl]
  have a3 : stealS W D J S m ⟨2, 3, w, u, at0 m (bg D J w + 1), t, 0⟩ = (put m (bg D J w) ((t + 1) % 18446744073709551616), ⟨2, 0, w, u, 0, 0, 1⟩) := by
    rw [stealS_3 hk, if_pos hv.top]
  have b3 : stealS W D J S (put m (bg D J w) ((t + 1) % 18446744073709551616)) ⟨2, 3, w, u, at0 m (bg D J w + 1), t, 0⟩ = (put m (bg D J w) ((t + 1) % 18446744073709551616), ⟨2, 0, w, 0, 0, 0, 4⟩) := by
    rw [stealS_3 (by rw [okw_len (m := m) (len_put _ _ _)]; exact hk), if_neg]
    rw [at0_put _ (by omega) (by omega)]
    unfold U at hU
    omega
  have e1 := duo_one (s1 := stealS W D J S) (s2 := stealS W D J S) (k := 0) (s := (m, fbg 2 w 0, fbg 2 w 0)) rfl a0 a0
  have e2 := duo_one e1 a1 a1
  have e3 := duo_one e2 a2 a2
  exact ⟨_, duo_one e3 a3 b3, lst_of (by rw [okw_len (m := m) (len_put _ _ _)]; exact hk) (hv.tail hk)⟩
/-- StealLate, on lists. -/
theorem steal_late {W D J S : Int} {m : List Int} {w d : Int} {u : Int} {l : List Int} (hu : UM m) (hd : U d) (hd0 : ¬ d = 0) (h : lst W D J S m w = some (u :: l)) :
    ∃ f, itN (stealS W D J S) 3 (m, fbg 2 w 0) = (m, f) ∧ f.pc = 3 ∧ stealS W D J S (put m (bg D J w) ((at0 m (bg D J w) + d) % 18446744073709551616)) f = (put m (bg D J w) ((at0 m (bg D J w) + d) % 18446744073709551616), ⟨2, 0, w, 0, 0, 0, 4⟩) := by
  obtain ⟨hk, hv⟩ := lst_some hu h
  have hU : U (at0 m (bg D J w)) := at0_U hu _
  obtain ⟨hm, hlen, hw0, hw1⟩ := okw_iff.1 hk
  obtain ⟨hW, hD, hJ, hS⟩ := may_lim hm
  have hst := bg_step (J := J) hD.1 hw1
  have hg := bg_ge (J := J) (w := w) hD.1 hJ.1 hw0
  obtain ⟨_, _, e3⟩ := steal_three (v := 0) hk hv
  refine ⟨_, e3, rfl, ?_⟩
  rw [stealS_3 (by rw [okw_len (m := m) (len_put _ _ _)]; exact hk), if_neg]
  rw [at0_put _ (by omega) (by omega)]
  unfold U at hU hd
  omega
/-- StealPush, on lists. -/
theorem steal_push {W D J S : Int} {m : List Int} {w v : Int} {u : Int} {l : List Int} (hu : UM m) (h : lst W D J S m w = some (u :: l)) :
    ∃ m' g, duo (stealS W D J S) (pushS W D J S) 4 (m, fbg 2 w 0, fbg 0 w v) = (m', ⟨2, 0, w, u, 0, 0, 1⟩, g)
      ∧ ((((u :: l).length : Int) < D ∧ g.res = 1 ∧ lst W D J S m' w = some (l ++ [v])) ∨ (((u :: l).length : Int) = D ∧ g.res = 2 ∧ lst W D J S m' w = some l)) := by
  obtain ⟨hk, hv⟩ := lst_some hu h
  have hU : U (at0 m (bg D J w)) := at0_U hu _
  generalize at0 m (bg D J w) = t at hv hU
  obtain ⟨hm, hlen, hw0, hw1⟩ := okw_iff.1 hk
  obtain ⟨hW, hD, hJ, hS⟩ := may_lim hm
  have hst := bg_step (J := J) hD.1 hw1
  have hg := bg_ge (J := J) (w := w) hD.1 hJ.1 hw0
  have hl := hv.len
  have a0 : stealS W D J S m (fbg 2 w 0) = (m, ⟨2, 1, w, 0, 0, t, 0⟩) := by rw [← hv.top]; exact stealS_0 (v := 0) (x := 0) (y := 0) hk
  have a1 : stealS W D J S m ⟨2, 1, w, 0, 0, t, 0⟩ = (m, ⟨2, 2, w, 0, at0 m (bg D J w + 1), t, 0⟩) := by
    rw [stealS_1 hk, if_neg]
    rw [hv.bot, far_eq (by omega)]; simp only [List.length_cons]; omega
  have a2 : stealS W D J S m ⟨2, 2, w, 0, at0 m (bg D J w + 1), t, 0⟩ = (m, ⟨2, 3, w, u, at0 m (bg D J w + 1), t, 0⟩) := by
    rw [stealS_2 hk, show at0 m (sI D J w t) = u by simpa using hv.at_ 0 u rfl]
  have p0 : pushS W D J S m (fbg 0 w v) = (m, ⟨0, 1, w, v, (t + (u :: l).length) % 18446744073709551616, 0, 0⟩) := by rw [← hv.bot]; exact pushS_0 (x := 0) (y := 0) hk
  have e1 := duo_one (s1 := stealS W D J S) (s2 := pushS W D J S) (k := 0) (s := (m, fbg 2 w 0, fbg 0 w v)) rfl a0 p0
  by_cases hr : ((u :: l).length : Int) < D
  · have p1 : pushS W D J S m ⟨0, 1, w, v, (t + (u :: l).length) % 18446744073709551616, 0, 0⟩ = (m, ⟨0, 2, w, v, (t + (u :: l).length) % 18446744073709551616, t, 0⟩) := by
      have := pushS_1 (v := v) (x := (t + (u :: l).length) % 18446744073709551616) (y := 0) hk (by rw [hv.top]; omega)
      rw [hv.top] at this
      exact this
    have e2 := duo_one e1 a1 p1
    have p2 : pushS W D J S m ⟨0, 2, w, v, (t + (u :: l).length) % 18446744073709551616, t, 0⟩ = _ := pushS_2 hk
    have e3 := duo_one e2 a2 p2
    have hv2 := hv.slot hk hr v
    have hk2 : okw W D J S (put m (sI D J w ((t + (u :: l).length) % 18446744073709551616)) v) w = true := by rw [okw_len (m := m) (len_put _ _ _)]; exact hk
    have a3 : stealS W D J S (put m (sI D J w ((t + (u :: l).length) % 18446744073709551616)) v) ⟨2, 3, w, u, at0 m (bg D J w + 1), t, 0⟩ = (put (put m (sI D J w ((t + (u :: l).length) % 18446744073709551616)) v) (bg D J w) ((t + 1) % 18446744073709551616), ⟨2, 0, w, u, 0, 0, 1⟩) := by
      rw [stealS_3 hk2, if_pos hv2.top]
    have p3 : pushS W D J S (put (put m (sI D J w ((t + (u :: l).length) % 18446744073709551616)) v) (bg D J w) ((t + 1) % 18446744073709551616)) ⟨0, 3, w, v, (t + (u :: l).length) % 18446744073709551616, t, 0⟩ = _ := pushS_3 (by rw [okw_len (m := m) (by rw [len_put, len_put])]; exact hk)
    refine ⟨_, _, duo_one e3 a3 p3, .inl ⟨hr, rfl, ?_⟩⟩
    -- the slot was written ahead of the top
    have hs := sI_lim (J := J) (w := w) hD.1 ((t + (u :: l).length) % 18446744073709551616)
    rw [put_comm _ _ _ (show ¬ sI D J w ((t + (u :: l).length) % 18446744073709551616) = bg D J w by omega)]
    have hk3 : okw W D J S (put m (bg D J w) ((t + 1) % 18446744073709551616)) w = true := by rw [okw_len (m := m) (len_put _ _ _)]; exact hk
    have e : ((t + 1) % 18446744073709551616 + (l.length : Int)) % 18446744073709551616 = (t + ((u :: l).length : Int)) % 18446744073709551616 := by simp only [List.length_cons]; omega
    have hmore := (hv.tail hk).more hk3 (by simp only [List.length_cons] at hr; omega) v
    rw [e] at hmore
    exact lst_of (by rw [okw_len (m := m) (by rw [len_put, len_put, len_put])]; exact hk) hmore
  · have p1 : pushS W D J S m ⟨0, 1, w, v, (t + (u :: l).length) % 18446744073709551616, 0, 0⟩ = (m, ⟨0, 0, w, v, 0, 0, 2⟩) := pushS_1f hk (by rw [hv.top]; omega)
    have e2 := duo_one e1 a1 p1
    have e3 := duo_one e2 a2 (pushS_over (by simp))
    have a3 : stealS W D J S m ⟨2, 3, w, u, at0 m (bg D J w + 1), t, 0⟩ = (put m (bg D J w) ((t + 1) % 18446744073709551616), ⟨2, 0, w, u, 0, 0, 1⟩) := by
      rw [stealS_3 hk, if_pos hv.top]
    refine ⟨_, _, duo_one e3 a3 (pushS_over (by simp)), .inr ⟨by omega, rfl, ?_⟩⟩
    exact lst_of (by rw [okw_len (m := m) (len_put _ _ _)]; exact hk) (hv.tail hk)
/-- PopBack, on lists. -/
theorem pop_back {W D J S : Int} {m : List Int} {w v : Int} {l : List Int} (hu : UM m) (hv : U v) (h : lst W D J S m w = some l) (hl : (l.length : Int) < D) :
    (pushN W D J S 4 (m, fbg 0 w v)).2.res = 1 ∧ (itN (popS W D J S) 7 ((pushN W D J S 4 (m, fbg 0 w v)).1, fbg 1 w 0)).2 = ⟨1, 0, w, v, 0, 0, 1⟩ ∧ lst W D J S (itN (popS W D J S) 7 ((pushN W D J S 4 (m, fbg 0 w v)).1, fbg 1 w 0)).1 w = some l := by
  obtain ⟨_, h2, h3⟩ := push_seen (v := v) hu h hl
  have z : U 0 := by unfold U; omega
  have hu2 := (pushN_U (W := W) (D := D) (J := J) (S := S) (s := (m, fbg 0 w v)) hu ⟨hv, z, z⟩ 4).1
  obtain ⟨p1, p2⟩ := pop_alone (v := 0) hu2 h2
  have e : on (l ++ [v]) D (fbg 1 w 0) = (l, ⟨1, 0, w, v, 0, 0, 1⟩) := by simp [on, fbg, onLast, ed]
  rw [e] at p1 p2
  exact ⟨h3, p1, p2⟩
end Go.Proofs.Ytpnmgpmmaiinmaa
