/- Merged: DqI, DqT, DqJ, DqG, DqH, DqK. -/
import Derived.Test.YtpeaahihjeplmaaDqA
namespace Go.Proofs.Ytpeaahihjeplmaa
open Go.RowKit Go.Deep
/-- A step, by the call's Op. -/
def deqS (W D J S : Int) (m : List Int) (f : Fr) : List Int × Fr :=
  if f.op = 0 then pushS W D J S m f else if f.op = 1 then popS W D J S m f else if f.op = 2 then stealS W D J S m f else (m, f)
/-- Nobody's call. -/
def fno : Fr := ⟨-1, 0, 0, 0, 0, 0, 0⟩
/-- A deque from t on has the numbers l, in its slots. -/
structure Sl (D J : Int) (m : List Int) (w t : Int) (l : List Int) : Prop where
  top : at0 m (bg D J w) = t
  len : (l.length : Int) ≤ D
  at_ : ∀ (i : Nat) u, l[i]? = some u → at0 m (sI D J w (t + i)) = u
/-- What the owner's call is at: L is what there is, R what it has taken already, and b what lies in the bottom. -/
inductive OS (D J : Int) (m : List Int) (w t b : Int) (L : List Int) : List Int → Fr → Prop
  | idle (h : b = t + L.length) : OS D J m w t b L [] fno
  | push0 (v x y : Int) (h : b = t + L.length) : OS D J m w t b L [] ⟨0, 0, w, v, x, y, 0⟩
  | push1 (v y : Int) (h : b = t + L.length) : OS D J m w t b L [] ⟨0, 1, w, v, b, y, 0⟩
  | push2 (v y : Int) (h : b = t + L.length) (hr : (L.length : Int) < D) : OS D J m w t b L [] ⟨0, 2, w, v, b, y, 0⟩
  | push3 (v y : Int) (h : b = t + L.length) (hr : (L.length : Int) < D) (hv : at0 m (sI D J w b) = v) : OS D J m w t b L [] ⟨0, 3, w, v, b, y, 0⟩
  | pop0 (v x y : Int) (h : b = t + L.length) : OS D J m w t b L [] ⟨1, 0, w, v, x, y, 0⟩
  | pop1 (v x y : Int) (h : b = t + L.length) (hx : x = (b - 1) % 18446744073709551616) : OS D J m w t b L [] ⟨1, 1, w, v, x, y, 0⟩
  | pop2 (v y : Int) (h : b = (t + L.length - 1) % 18446744073709551616) : OS D J m w t b L [] ⟨1, 2, w, v, b, y, 0⟩
  | pop3a (v y r : Int) (h : b = t + L.length) (hy : ¬ b = y) (hr : (L.length : Int) < D) (hv : at0 m (sI D J w b) = r) : OS D J m w t b L [r] ⟨1, 3, w, v, b, y, 0⟩
  | pop3b (v : Int) (h : (∃ u, L = [u] ∧ t = b) ∨ (L = [] ∧ t = b + 1)) : OS D J m w t b L [] ⟨1, 3, w, v, b, b, 0⟩
  | pop4 (v : Int) (h : (L = [v] ∧ t = b) ∨ (L = [] ∧ t = b + 1)) : OS D J m w t b L [] ⟨1, 4, w, v, b, b, 0⟩
  | pop5 (v y : Int) (h : L = [] ∧ t = b + 1) : OS D J m w t b L [v] ⟨1, 5, w, v, b, y, 0⟩
  | pop6 (v y : Int) (h : L = [] ∧ t = (b + 1) % 18446744073709551616) : OS D J m w t b L [] ⟨1, 6, w, v, b, y, 0⟩
/-- What the call of one who steals is at. -/
inductive TS (w t : Int) (L : List Int) : Fr → Prop
  | idle : TS w t L fno
  | s0 (v x y : Int) : TS w t L ⟨2, 0, w, v, x, y, 0⟩
  | s1 (v x y : Int) (h : 0 ≤ y ∧ y ≤ t) : TS w t L ⟨2, 1, w, v, x, y, 0⟩
  | s2 (v x y : Int) (h : 0 ≤ y ∧ y ≤ t) (hl : y = t → L ≠ []) : TS w t L ⟨2, 2, w, v, x, y, 0⟩
  | s3 (v x y : Int) (h : 0 ≤ y ∧ y ≤ t) (hl : y = t → L.head? = some v) : TS w t L ⟨2, 3, w, v, x, y, 0⟩
set_option maxRecDepth 100000 in
theorem TS.later {w t t' : Int} {L L' : List Int} {f : Fr} (h : TS w t L f) (ht : t < t') : TS w t' L' f := by
  cases h with
  | idle => exact .idle
  | s0 v x y => exact .s0 v x y
  | s1 v x y h => exact .s1 v x y ⟨h.1, by omega⟩
  | s2 v x y h hl => exact .s2 v x y ⟨h.1, by omega⟩ (fun e => by omega)
  | s3 v x y h hl => exact .s3 v x y ⟨h.1, by omega⟩ (fun e => by omega)
set_option maxRecDepth 100000 in
theorem TS.same {w t : Int} {L L' : List Int} {f : Fr} (h : TS w t L f) (hl : ∀ u, L.head? = some u → L'.head? = some u) : TS w t L' f := by
  cases h with
  | idle => exact .idle
  | s0 v x y => exact .s0 v x y
  | s1 v x y h => exact .s1 v x y h
  | s2 v x y h hl' =>
    refine .s2 v x y h (fun e => ?_)
    have := hl' e
    match L, this with
    | u :: _, _ =>
      have h2 := hl u rfl
      intro e2
      rw [e2] at h2
      cases h2
  | s3 v x y h hl' => exact .s3 v x y h (fun e => hl v (hl' e))
/-- What holds of the cells and the owner's call. -/
structure Iv (W D J S : Int) (m : List Int) (w t : Int) (L R : List Int) (f : Fr) : Prop where
  ok : okw W D J S m w = true
  sl : Sl D J m w t L
  t0 : 0 ≤ t
  big : t + L.length ≤ 1000
  os : OS D J m w t (at0 m (bg D J w + 1)) L R f
/-- What a step of the owner comes to. -/
inductive Out (W D J S : Int) (w t : Int) (L R : List Int) (f : Fr) (m' : List Int) (g : Fr) : Prop
  /-- Nothing is taken or put in. -/
  | goon (h : Iv W D J S m' w t L R g) (hr : g.res = 0) (ho : g.op = f.op) (hv : f.op = 0 → g.val = f.val)
  /-- The last number is taken; it is not the only one. -/
  | take (L' : List Int) (r : Int) (hL : L = L' ++ [r]) (hn : L' ≠ []) (hR : R = []) (h : Iv W D J S m' w t L' [r] g) (hr : g.res = 0) (ho : g.op = f.op) (h1 : f.op = 1)
  /-- The only number is taken. -/
  | only (r : Int) (hL : L = [r]) (hR : R = []) (h : Iv W D J S m' w (t + 1) [] [r] g) (hr : g.res = 0) (ho : g.op = f.op) (h1 : f.op = 1)
  /-- A push is over. -/
  | pushed (h : Iv W D J S m' w t (L ++ [f.val]) [] fno) (hR : R = []) (hg : g = ⟨0, 0, w, f.val, 0, 0, 1⟩) (h1 : f.op = 0) (hl : (L.length : Int) < D)
  /-- There was no room. -/
  | full (h : Iv W D J S m' w t L [] fno) (hR : R = []) (hg : g = ⟨0, 0, w, f.val, 0, 0, 2⟩) (h1 : f.op = 0) (hl : (L.length : Int) = D)
  /-- A pop is over. -/
  | popped (r : Int) (h : Iv W D J S m' w t L [] fno) (hR : R = [r]) (hg : g = ⟨1, 0, w, r, 0, 0, 1⟩) (h1 : f.op = 1)
  /-- There was nothing. -/
  | empty (h : Iv W D J S m' w t L [] fno) (hR : R = []) (hg : g = ⟨1, 0, w, 0, 0, 0, 3⟩) (h1 : f.op = 1) (hL : L = [])
  /-- There is no call. -/
  | none_ (h : Iv W D J S m' w t L R g) (hf : f = fno) (hg : g = fno)
set_option maxRecDepth 100000 in
theorem bot_ne {D J w : Int} (x : Int) (hD : 1 ≤ D) : ¬ bg D J w + 1 = sI D J w x := by have := sI_lim (J := J) (w := w) hD x; omega
set_option maxRecDepth 100000 in
theorem top_ne {D J w : Int} (x : Int) (hD : 1 ≤ D) : ¬ bg D J w = sI D J w x := by have := sI_lim (J := J) (w := w) hD x; omega
set_option maxRecDepth 100000 in
/-- What is stored in the bottom does not matter to the slots. -/
theorem Sl.bot {D J : Int} {m : List Int} {w t : Int} {L : List Int} (h : Sl D J m w t L) (hD : 1 ≤ D) (u : Int) : Sl D J (put m (bg D J w + 1) u) w t L :=
  ⟨by rw [at0_put_ne _ _ (by omega)]; exact h.top, h.len, fun i z hi => by rw [at0_put_ne _ _ (bot_ne _ hD)]; exact h.at_ i z hi⟩
set_option maxRecDepth 100000 in
theorem Sl.init {D J : Int} {m : List Int} {w t : Int} {L : List Int} {r : Int} (h : Sl D J m w t (L ++ [r])) : Sl D J m w t L ∧ at0 m (sI D J w (t + L.length)) = r ∧ (L.length : Int) < D := by
  have := h.len
  simp only [List.length_append, List.length_singleton] at this
  exact ⟨⟨h.top, by omega, fun i z hi => h.at_ i z (by rw [List.getElem?_append_left (List.getElem?_eq_some_iff.1 hi).1]; exact hi)⟩, h.at_ L.length r (by simp), by omega⟩
set_option maxRecDepth 100000 in
theorem Sl.slot {D J : Int} {m : List Int} {w t : Int} {L : List Int} (h : Sl D J m w t L) (hD : 1 ≤ D) (hl : (L.length : Int) < D) (v : Int) : Sl D J (put m (sI D J w (t + L.length)) v) w t L :=
  ⟨by rw [at0_put_ne _ _ (fun e => top_ne _ hD e.symm)]; exact h.top, h.len, fun i z hi => by
    have hil := (List.getElem?_eq_some_iff.1 hi).1
    rw [at0_put_ne _ _ (fun e => by have := sI_inj hD e (by omega) (by omega); omega)]
    exact h.at_ i z hi⟩
set_option maxRecDepth 100000 in
theorem Sl.snoc {D J : Int} {m : List Int} {w t : Int} {L : List Int} {v : Int} (h : Sl D J m w t L) (hl : (L.length : Int) < D) (hv : at0 m (sI D J w (t + L.length)) = v) : Sl D J m w t (L ++ [v]) :=
  ⟨h.top, by simp only [List.length_append, List.length_singleton]; omega, fun i z hi => by
    rcases Nat.lt_or_ge i L.length with hil | hil
    · rw [List.getElem?_append_left hil] at hi; exact h.at_ i z hi
    · have hil2 := (List.getElem?_eq_some_iff.1 hi).1
      simp at hil2
      obtain rfl : i = L.length := by omega
      simp at hi
      rw [hv, hi]⟩
set_option maxRecDepth 100000 in
theorem Sl.tail {W D J S : Int} {m : List Int} {w t : Int} {L : List Int} {u : Int} (hk : okw W D J S m w = true) (h : Sl D J m w t (u :: L)) : Sl D J (put m (bg D J w) (t + 1)) w (t + 1) L := by
  obtain ⟨hm, hlen, h0, h1⟩ := okw_iff.1 hk
  obtain ⟨hW, hD, hJ, hS⟩ := may_lim hm
  have hb := bg_step (J := J) hD.1 h1
  have hg := bg_ge (J := J) (w := w) hD.1 hJ.1 h0
  have hl := h.len
  simp only [List.length_cons] at hl
  refine ⟨by rw [at0_put _ (by omega) (by omega)], by omega, fun i z hi => ?_⟩
  rw [at0_put_ne _ _ (top_ne _ hD.1), show t + 1 + (i : Int) = t + ((i + 1 : Nat) : Int) by omega]
  exact h.at_ (i + 1) z (by simpa using hi)
end Go.Proofs.Ytpeaahihjeplmaa
namespace Go.Proofs.Ytpeaahihjeplmaa
open Go.RowKit Go.Deep
/-- Two calls, in turn, so many times each. -/
def duo (s1 s2 : List Int → Fr → List Int × Fr) : Nat → List Int × Fr × Fr → List Int × Fr × Fr
  | 0, s => s
  | k + 1, s => ((s2 (s1 (duo s1 s2 k s).1 (duo s1 s2 k s).2.1).1 (duo s1 s2 k s).2.2).1, (s1 (duo s1 s2 k s).1 (duo s1 s2 k s).2.1).2, (s2 (s1 (duo s1 s2 k s).1 (duo s1 s2 k s).2.1).1 (duo s1 s2 k s).2.2).2)
set_option maxRecDepth 100000 in
theorem duo_one {s1 s2 : List Int → Fr → List Int × Fr} {k : Nat} {s : List Int × Fr × Fr} {m m' m'' : List Int} {f f' g g' : Fr} (h : duo s1 s2 k s = (m, f, g)) (h1 : s1 m f = (m', f')) (h2 : s2 m' g = (m'', g')) : duo s1 s2 (k + 1) s = (m'', f', g') := by
  show ((s2 (s1 (duo s1 s2 k s).1 (duo s1 s2 k s).2.1).1 (duo s1 s2 k s).2.2).1, _, _) = _
  rw [h]
  simp only
  rw [h1]
  simp only
  rw [h2]
set_option maxRecDepth 100000 in
/-- StealAbort, on lists. -/
theorem steal_abort {W D J S : Int} {m : List Int} {w : Int} {u : Int} {l : List Int} (hu : UM m) (h : lst W D J S m w = some (u :: l)) :
    ∃ m', duo (stealS W D J S) (stealS W D J S) 4 (m, fbg 2 w 0, fbg 2 w 0) = (m', ⟨2, 0, w, u, 0, 0, 1⟩, ⟨2, 0, w, 0, 0, 0, 4⟩) ∧ lst W D J S m' w = some l := by
  obtain ⟨hk, hv⟩ := lst_some hu h
  have hU : U (at0 m (bg D J w)) := at0_U hu _
  generalize at0 m (bg D J w) = t at hv hU
  obtain ⟨hm, hlen, hw0, hw1⟩ := okw_iff.1 hk
  obtain ⟨hW, hD, hJ, hS⟩ := may_lim hm
  have hst := bg_step (J := J) hD.1 hw1
  have hg := bg_ge (J := J) (w := w) hD.1 hJ.1 hw0
  have hl := hv.len
  have a0 : stealS W D J S m (fbg 2 w 0) = (m, ⟨2, 1, w, 0, 0, t, 0⟩) := by rw [← hv.top]; exact stealS_0 (v := 0) (x := 0) (y := 0) hk
  have a1 : stealS W D J S m ⟨2, 1, w, 0, 0, t, 0⟩ = (m, ⟨2, 2, w, 0, at0 m (bg D J w + 1), t, 0⟩) := by
    rw [stealS_1 hk, if_neg]
    rw [hv.bot, far_eq (by omega)]; simp only [List.length_cons]; omega
  have a2 : stealS W D J S m ⟨2, 2, w, 0, at0 m (bg D J w + 1), t, 0⟩ = (m, ⟨2, 3, w, u, at0 m (bg D J w + 1), t, 0⟩) := by
    rw [stealS_2 hk, show at0 m (sI D J w t) = u by simpa using hv.at_ 0 u rfl]
  have a3 : stealS W D J S m ⟨2, 3, w, u, at0 m (bg D J w + 1), t, 0⟩ = (put m (bg D J w) ((t + 1) % 18446744073709551616), ⟨2, 0, w, u, 0, 0, 1⟩) := by
    rw [stealS_3 hk, if_pos hv.top]
  have b3 : stealS W D J S (put m (bg D J w) ((t + 1) % 18446744073709551616)) ⟨2, 3, w, u, at0 m (bg D J w + 1), t, 0⟩ = (put m (bg D J w) ((t + 1) % 18446744073709551616), ⟨2, 0, w, 0, 0, 0, 4⟩) := by
    rw [stealS_3 (by rw [okw_len (m := m) (len_put _ _ _)]; exact hk), if_neg]
    rw [at0_put _ (by omega) (by omega)]
    unfold U at hU
    omega
  have e1 := duo_one (s1 := stealS W D J S) (s2 := stealS W D J S) (k := 0) (s := (m, fbg 2 w 0, fbg 2 w 0)) rfl a0 a0
  have e2 := duo_one e1 a1 a1
  have e3 := duo_one e2 a2 a2
  exact ⟨_, duo_one e3 a3 b3, lst_of (by rw [okw_len (m := m) (len_put _ _ _)]; exact hk) (hv.tail hk)⟩
set_option maxRecDepth 100000 in
/-- StealLate, on lists. -/
theorem steal_late {W D J S : Int} {m : List Int} {w d : Int} {u : Int} {l : List Int} (hu : UM m) (hd : U d) (hd0 : ¬ d = 0) (h : lst W D J S m w = some (u :: l)) :
    ∃ f, itN (stealS W D J S) 3 (m, fbg 2 w 0) = (m, f) ∧ f.pc = 3 ∧ stealS W D J S (put m (bg D J w) ((at0 m (bg D J w) + d) % 18446744073709551616)) f = (put m (bg D J w) ((at0 m (bg D J w) + d) % 18446744073709551616), ⟨2, 0, w, 0, 0, 0, 4⟩) := by
  obtain ⟨hk, hv⟩ := lst_some hu h
  have hU : U (at0 m (bg D J w)) := at0_U hu _
  obtain ⟨hm, hlen, hw0, hw1⟩ := okw_iff.1 hk
  obtain ⟨hW, hD, hJ, hS⟩ := may_lim hm
  have hst := bg_step (J := J) hD.1 hw1
  have hg := bg_ge (J := J) (w := w) hD.1 hJ.1 hw0
  obtain ⟨_, _, e3⟩ := steal_three (v := 0) hk hv
  refine ⟨_, e3, rfl, ?_⟩
  rw [stealS_3 (by rw [okw_len (m := m) (len_put _ _ _)]; exact hk), if_neg]
  rw [at0_put _ (by omega) (by omega)]
  unfold U at hU hd
  omega
set_option maxRecDepth 100000 in
/-- StealPush, on lists. -/
theorem steal_push {W D J S : Int} {m : List Int} {w v : Int} {u : Int} {l : List Int} (hu : UM m) (h : lst W D J S m w = some (u :: l)) :
    ∃ m' g, duo (stealS W D J S) (pushS W D J S) 4 (m, fbg 2 w 0, fbg 0 w v) = (m', ⟨2, 0, w, u, 0, 0, 1⟩, g)
      ∧ ((((u :: l).length : Int) < D ∧ g.res = 1 ∧ lst W D J S m' w = some (l ++ [v])) ∨ (((u :: l).length : Int) = D ∧ g.res = 2 ∧ lst W D J S m' w = some l)) := by
  obtain ⟨hk, hv⟩ := lst_some hu h
  have hU : U (at0 m (bg D J w)) := at0_U hu _
  generalize at0 m (bg D J w) = t at hv hU
  obtain ⟨hm, hlen, hw0, hw1⟩ := okw_iff.1 hk
  obtain ⟨hW, hD, hJ, hS⟩ := may_lim hm
  have hst := bg_step (J := J) hD.1 hw1
  have hg := bg_ge (J := J) (w := w) hD.1 hJ.1 hw0
  have hl := hv.len
  have a0 : stealS W D J S m (fbg 2 w 0) = (m, ⟨2, 1, w, 0, 0, t, 0⟩) := by rw [← hv.top]; exact stealS_0 (v := 0) (x := 0) (y := 0) hk
  have a1 : stealS W D J S m ⟨2, 1, w, 0, 0, t, 0⟩ = (m, ⟨2, 2, w, 0, at0 m (bg D J w + 1), t, 0⟩) := by
    rw [stealS_1 hk, if_neg]
    rw [hv.bot, far_eq (by omega)]; simp only [List.length_cons]; omega
  have a2 : stealS W D J S m ⟨2, 2, w, 0, at0 m (bg D J w + 1), t, 0⟩ = (m, ⟨2, 3, w, u, at0 m (bg D J w + 1), t, 0⟩) := by
    rw [stealS_2 hk, show at0 m (sI D J w t) = u by simpa using hv.at_ 0 u rfl]
  have p0 : pushS W D J S m (fbg 0 w v) = (m, ⟨0, 1, w, v, (t + (u :: l).length) % 18446744073709551616, 0, 0⟩) := by rw [← hv.bot]; exact pushS_0 (x := 0) (y := 0) hk
  have e1 := duo_one (s1 := stealS W D J S) (s2 := pushS W D J S) (k := 0) (s := (m, fbg 2 w 0, fbg 0 w v)) rfl a0 p0
  by_cases hr : ((u :: l).length : Int) < D
  · have p1 : pushS W D J S m ⟨0, 1, w, v, (t + (u :: l).length) % 18446744073709551616, 0, 0⟩ = (m, ⟨0, 2, w, v, (t + (u :: l).length) % 18446744073709551616, t, 0⟩) := by
      have := pushS_1 (v := v) (x := (t + (u :: l).length) % 18446744073709551616) (y := 0) hk (by rw [hv.top]; omega)
      rw [hv.top] at this
      exact this
    have e2 := duo_one e1 a1 p1
    have p2 : pushS W D J S m ⟨0, 2, w, v, (t + (u :: l).length) % 18446744073709551616, t, 0⟩ = _ := pushS_2 hk
    have e3 := duo_one e2 a2 p2
    have hv2 := hv.slot hk hr v
    have hk2 : okw W D J S (put m (sI D J w ((t + (u :: l).length) % 18446744073709551616)) v) w = true := by rw [okw_len (m := m) (len_put _ _ _)]; exact hk
    have a3 : stealS W D J S (put m (sI D J w ((t + (u :: l).length) % 18446744073709551616)) v) ⟨2, 3, w, u, at0 m (bg D J w + 1), t, 0⟩ = (put (put m (sI D J w ((t + (u :: l).length) % 18446744073709551616)) v) (bg D J w) ((t + 1) % 18446744073709551616), ⟨2, 0, w, u, 0, 0, 1⟩) := by
      rw [stealS_3 hk2, if_pos hv2.top]
    have p3 : pushS W D J S (put (put m (sI D J w ((t + (u :: l).length) % 18446744073709551616)) v) (bg D J w) ((t + 1) % 18446744073709551616)) ⟨0, 3, w, v, (t + (u :: l).length) % 18446744073709551616, t, 0⟩ = _ := pushS_3 (by rw [okw_len (m := m) (by rw [len_put, len_put])]; exact hk)
    refine ⟨_, _, duo_one e3 a3 p3, .inl ⟨hr, rfl, ?_⟩⟩
    -- the slot was written ahead of the top
    have hs := sI_lim (J := J) (w := w) hD.1 ((t + (u :: l).length) % 18446744073709551616)
    rw [put_comm _ _ _ (show ¬ sI D J w ((t + (u :: l).length) % 18446744073709551616) = bg D J w by omega)]
    have hk3 : okw W D J S (put m (bg D J w) ((t + 1) % 18446744073709551616)) w = true := by rw [okw_len (m := m) (len_put _ _ _)]; exact hk
    have e : ((t + 1) % 18446744073709551616 + (l.length : Int)) % 18446744073709551616 = (t + ((u :: l).length : Int)) % 18446744073709551616 := by simp only [List.length_cons]; omega
    have hmore := (hv.tail hk).more hk3 (by simp only [List.length_cons] at hr; omega) v
    rw [e] at hmore
    exact lst_of (by rw [okw_len (m := m) (by rw [len_put, len_put, len_put])]; exact hk) hmore
  · have p1 : pushS W D J S m ⟨0, 1, w, v, (t + (u :: l).length) % 18446744073709551616, 0, 0⟩ = (m, ⟨0, 0, w, v, 0, 0, 2⟩) := pushS_1f hk (by rw [hv.top]; omega)
    have e2 := duo_one e1 a1 p1
    have e3 := duo_one e2 a2 (pushS_over (by simp))
    have a3 : stealS W D J S m ⟨2, 3, w, u, at0 m (bg D J w + 1), t, 0⟩ = (put m (bg D J w) ((t + 1) % 18446744073709551616), ⟨2, 0, w, u, 0, 0, 1⟩) := by
      rw [stealS_3 hk, if_pos hv.top]
    refine ⟨_, _, duo_one e3 a3 (pushS_over (by simp)), .inr ⟨by omega, rfl, ?_⟩⟩
    exact lst_of (by rw [okw_len (m := m) (len_put _ _ _)]; exact hk) (hv.tail hk)
set_option maxRecDepth 100000 in
/-- PopBack, on lists. -/
theorem pop_back {W D J S : Int} {m : List Int} {w v : Int} {l : List Int} (hu : UM m) (hv : U v) (h : lst W D J S m w = some l) (hl : (l.length : Int) < D) :
    (pushN W D J S 4 (m, fbg 0 w v)).2.res = 1 ∧ (itN (popS W D J S) 7 ((pushN W D J S 4 (m, fbg 0 w v)).1, fbg 1 w 0)).2 = ⟨1, 0, w, v, 0, 0, 1⟩ ∧ lst W D J S (itN (popS W D J S) 7 ((pushN W D J S 4 (m, fbg 0 w v)).1, fbg 1 w 0)).1 w = some l := by
  obtain ⟨_, h2, h3⟩ := push_seen (v := v) hu h hl
  have z : U 0 := by unfold U; omega
  have hu2 := (pushN_U (W := W) (D := D) (J := J) (S := S) (s := (m, fbg 0 w v)) hu ⟨hv, z, z⟩ 4).1
  obtain ⟨p1, p2⟩ := pop_alone (v := 0) hu2 h2
  have e : on (l ++ [v]) D (fbg 1 w 0) = (l, ⟨1, 0, w, v, 0, 0, 1⟩) := by simp [on, fbg, onLast, ed]
  rw [e] at p1 p2
  exact ⟨h3, p1, p2⟩
end Go.Proofs.Ytpeaahihjeplmaa
namespace Go.Proofs.Ytpeaahihjeplmaa
open Go.RowKit Go.Deep
set_option maxRecDepth 100000 in
theorem okw_put {W D J S : Int} {m : List Int} {w : Int} (h : okw W D J S m w = true) (i u : Int) : okw W D J S (put m i u) w = true := by rw [okw_len (m := m) (len_put _ _ _)]; exact h
set_option maxRecDepth 100000 in
theorem at_bot {W D J S : Int} {m : List Int} {w : Int} (hk : okw W D J S m w = true) (u : Int) : at0 (put m (bg D J w + 1) u) (bg D J w + 1) = u := by
  obtain ⟨hm, hlen, h0, h1⟩ := okw_iff.1 hk
  obtain ⟨hW, hD, hJ, hS⟩ := may_lim hm
  have hb := bg_step (J := J) hD.1 h1
  have hg := bg_ge (J := J) (w := w) hD.1 hJ.1 h0
  exact at0_put _ (by omega) (by omega)
set_option maxRecDepth 100000 in
theorem owner_step {W D J S : Int} {m : List Int} {w t : Int} {L R : List Int} {f : Fr} (h : Iv W D J S m w t L R f) (hb : t + L.length < 1000) : Out W D J S w t L R f (deqS W D J S m f).1 (deqS W D J S m f).2 := by
  obtain ⟨hk, hs, h0, hbig, ho⟩ := h
  obtain ⟨hm, hlen, hw0, hw1⟩ := okw_iff.1 hk
  obtain ⟨hW, hD, hJ, hS⟩ := may_lim hm
  have hl := hs.len
  have htop := hs.top
  generalize eb : at0 m (bg D J w + 1) = b at ho
  have ho' := ho
  cases ho with
  | idle hb0 =>
    exact .none_ ⟨hk, hs, h0, hbig, by rw [show (deqS W D J S m fno).1 = m from rfl, eb]; exact .idle hb0⟩ rfl rfl
  | push0 v x y hb0 =>
    have e : deqS W D J S m ⟨0, 0, w, v, x, y, 0⟩ = (m, ⟨0, 1, w, v, b, y, 0⟩) := by rw [← eb]; exact pushS_0 hk
    rw [e]
    exact .goon ⟨hk, hs, h0, hbig, by rw [eb]; exact .push1 v y hb0⟩ rfl rfl (fun _ => rfl)
  | push1 v y hb0 =>
    by_cases hr : (L.length : Int) < D
    · have e : deqS W D J S m ⟨0, 1, w, v, b, y, 0⟩ = (m, ⟨0, 2, w, v, b, t, 0⟩) := by rw [← htop]; exact pushS_1 hk (by rw [htop]; omega)
      rw [e]
      exact .goon ⟨hk, hs, h0, hbig, by rw [eb]; exact .push2 v t hb0 hr⟩ rfl rfl (fun _ => rfl)
    · have e : deqS W D J S m ⟨0, 1, w, v, b, y, 0⟩ = (m, ⟨0, 0, w, v, 0, 0, 2⟩) := pushS_1f hk (by rw [htop]; omega)
      rw [e]
      exact .full ⟨hk, hs, h0, hbig, by rw [eb]; exact .idle hb0⟩ rfl rfl rfl (by omega)
  | push2 v y hb0 hr =>
    have e : deqS W D J S m ⟨0, 2, w, v, b, y, 0⟩ = (put m (sI D J w b) v, ⟨0, 3, w, v, b, y, 0⟩) := pushS_2 hk
    rw [e]
    have hsl := sI_lim (J := J) (w := w) hD.1 b
    have hst := bg_step (J := J) hD.1 hw1
    have hg := bg_ge (J := J) (w := w) hD.1 hJ.1 hw0
    refine .goon ⟨okw_put hk _ _, by rw [hb0]; exact hs.slot hD.1 hr v, h0, hbig, ?_⟩ rfl rfl (fun _ => rfl)
    simp only
    rw [at0_put_ne _ _ (fun e => bot_ne _ hD.1 e.symm), eb]
    exact .push3 v y hb0 hr (at0_put _ (by omega) (by omega))
  | push3 v y hb0 hr hv =>
    have e : deqS W D J S m ⟨0, 3, w, v, b, y, 0⟩ = (put m (bg D J w + 1) ((b + 1) % 18446744073709551616), ⟨0, 0, w, v, 0, 0, 1⟩) := pushS_3 hk
    rw [e]
    have e2 : (b + 1) % 18446744073709551616 = b + 1 := by omega
    rw [e2]
    refine .pushed ⟨okw_put hk _ _, (hs.snoc hr (by rw [← hb0]; exact hv)).bot hD.1 _, h0, by simp; omega, ?_⟩ rfl rfl rfl hr
    simp only
    rw [at_bot hk]
    exact .idle (by simp; omega)
  | pop0 v x y hb0 =>
    have e : deqS W D J S m ⟨1, 0, w, v, x, y, 0⟩ = (m, ⟨1, 1, w, v, (b - 1) % 18446744073709551616, y, 0⟩) := by rw [← eb]; exact popS_0 hk
    rw [e]
    exact .goon ⟨hk, hs, h0, hbig, by rw [eb]; exact .pop1 v _ y hb0 rfl⟩ rfl rfl (fun e => by simp at e)
  | pop1 v x y hb0 hx =>
    have e : deqS W D J S m ⟨1, 1, w, v, x, y, 0⟩ = (put m (bg D J w + 1) x, ⟨1, 2, w, v, x, y, 0⟩) := popS_1 hk
    rw [e]
    refine .goon ⟨okw_put hk _ _, hs.bot hD.1 _, h0, hbig, ?_⟩ rfl rfl (fun e => by simp at e)
    simp only
    rw [at_bot hk]
    exact .pop2 v y (by rw [hx, hb0])
  | pop2 v y hb0 =>
    have e : deqS W D J S m ⟨1, 2, w, v, b, y, 0⟩ = (m, ⟨1, if far b t < 0 then 6 else 3, w, v, b, t, 0⟩) := by rw [← htop]; exact popS_2 hk
    rw [e]
    rcases List.eq_nil_or_concat L with rfl | ⟨L', r, rfl⟩
    · simp only [List.length_nil] at hb0
      rw [if_pos (by unfold far wrap64; omega)]
      exact .goon ⟨hk, hs, h0, hbig, by rw [eb]; exact .pop6 v t ⟨rfl, by omega⟩⟩ rfl rfl (fun e => by simp at e)
    · rw [List.concat_eq_append] at *
      simp only [List.length_append, List.length_singleton] at hb0 hb hbig
      have hb1 : b = t + L'.length := by omega
      rw [if_neg (by unfold far wrap64; omega)]
      by_cases hn : L' = []
      · subst hn
        simp only [List.length_nil] at hb1
        obtain rfl : b = t := by omega
        exact .goon ⟨hk, hs, h0, by simp; omega, by rw [eb]; exact .pop3b v (.inl ⟨r, rfl, rfl⟩)⟩ rfl rfl (fun e => by simp at e)
      · have hp : 0 < L'.length := List.length_pos_iff.2 hn
        obtain ⟨s1, s2, s3⟩ := hs.init
        exact .take L' r rfl hn rfl ⟨hk, s1, h0, by omega, by rw [eb]; exact .pop3a v t r hb1 (by omega) s3 (by rw [hb1]; exact s2)⟩ rfl rfl rfl
  | pop3a v y r hb0 hy hr hv =>
    have e : deqS W D J S m ⟨1, 3, w, v, b, y, 0⟩ = (m, ⟨1, 0, w, r, 0, 0, 1⟩) := by
      show popS W D J S m _ = _
      rw [popS_3 hk, if_neg hy, hv]
    rw [e]
    exact .popped r ⟨hk, hs, h0, hbig, by rw [eb]; exact .idle hb0⟩ rfl rfl rfl
  | pop3b v hh =>
    have e : deqS W D J S m ⟨1, 3, w, v, b, b, 0⟩ = (m, ⟨1, 4, w, at0 m (sI D J w b), b, b, 0⟩) := by
      show popS W D J S m _ = _
      rw [popS_3 hk, if_pos rfl]
    rw [e]
    refine .goon ⟨hk, hs, h0, hbig, ?_⟩ rfl rfl (fun e => by simp at e)
    rw [eb]
    rcases hh with ⟨u, hL, htb⟩ | hL
    · refine .pop4 _ (.inl ⟨?_, htb⟩)
      have : at0 m (sI D J w t) = u := by simpa using hs.at_ 0 u (by rw [hL]; rfl)
      rw [hL, ← htb, this]
    · exact .pop4 _ (.inr hL)
  | pop4 v hh =>
    rcases hh with ⟨hL, htb⟩ | ⟨hL, htb⟩
    · have e : deqS W D J S m ⟨1, 4, w, v, b, b, 0⟩ = (put m (bg D J w) ((b + 1) % 18446744073709551616), ⟨1, 5, w, v, b, b, 0⟩) := by
        show popS W D J S m _ = _
        rw [popS_4 hk, if_pos (by rw [htop, htb])]
      rw [e]
      have e2 : (b + 1) % 18446744073709551616 = t + 1 := by rw [hL] at hb; simp at hb; omega
      rw [e2]
      refine .only v hL rfl ⟨okw_put hk _ _, ?_, by omega, by rw [hL] at hb; simp at hb ⊢; omega, ?_⟩ rfl rfl rfl
      · exact Sl.tail hk (by rw [← hL]; exact hs)
      · simp only
        rw [at0_put_ne _ _ (by omega), eb]
        exact .pop5 v b ⟨rfl, by omega⟩
    · have e : deqS W D J S m ⟨1, 4, w, v, b, b, 0⟩ = (m, ⟨1, 6, w, v, b, b, 0⟩) := by
        show popS W D J S m _ = _
        rw [popS_4 hk, if_neg (by rw [htop]; omega)]
      rw [e]
      refine .goon ⟨hk, hs, h0, hbig, ?_⟩ rfl rfl (fun e => by simp at e)
      rw [eb]
      exact .pop6 v b ⟨hL, by omega⟩
  | pop5 v y hh =>
    have e : deqS W D J S m ⟨1, 5, w, v, b, y, 0⟩ = (put m (bg D J w + 1) ((b + 1) % 18446744073709551616), ⟨1, 0, w, v, 0, 0, 1⟩) := popS_5 hk
    rw [e]
    have e2 : (b + 1) % 18446744073709551616 = t := by omega
    rw [e2]
    refine .popped v ⟨okw_put hk _ _, hs.bot hD.1 _, h0, hbig, ?_⟩ rfl rfl rfl
    simp only
    rw [at_bot hk]
    exact .idle (by rw [hh.1]; simp)
  | pop6 v y hh =>
    have e : deqS W D J S m ⟨1, 6, w, v, b, y, 0⟩ = (put m (bg D J w + 1) ((b + 1) % 18446744073709551616), ⟨1, 0, w, 0, 0, 0, 3⟩) := popS_6 hk
    rw [e]
    rw [← hh.2]
    refine .empty ⟨okw_put hk _ _, hs.bot hD.1 _, h0, hbig, ?_⟩ rfl rfl rfl hh.1
    simp only
    rw [at_bot hk]
    exact .idle (by rw [hh.1]; simp)
/-- What a step of one who steals comes to. -/
inductive OutT (W D J S : Int) (w t : Int) (L R : List Int) (f : Fr) (f' : Fr) (m m' : List Int) (g : Fr) : Prop
  | goon (hm : m' = m) (h : TS w t L g) (hr : g.res = 0) (ho : g.op = f'.op)
  | stole (u : Int) (L' : List Int) (hL : L = u :: L') (h : Iv W D J S m' w (t + 1) L' R f) (hg : g = ⟨2, 0, w, u, 0, 0, 1⟩) (ho : f'.op = 2)
  | late (hm : m' = m) (hg : g = ⟨2, 0, w, 0, 0, 0, 3⟩ ∨ g = ⟨2, 0, w, 0, 0, 0, 4⟩) (ho : f'.op = 2)
set_option maxRecDepth 100000 in
theorem thief_step {W D J S : Int} {m : List Int} {w t : Int} {L R : List Int} {f f' : Fr} (h : Iv W D J S m w t L R f) (hf : TS w t L f') : OutT W D J S w t L R f f' m (deqS W D J S m f').1 (deqS W D J S m f').2 := by
  have hI := h
  obtain ⟨hk, hs, h0, hbig, ho⟩ := h
  obtain ⟨hm, hlen, hw0, hw1⟩ := okw_iff.1 hk
  obtain ⟨hW, hD, hJ, hS⟩ := may_lim hm
  have hl := hs.len
  have htop := hs.top
  cases hf with
  | idle => exact .goon rfl .idle rfl rfl
  | s0 v x y =>
    have e : deqS W D J S m ⟨2, 0, w, v, x, y, 0⟩ = (m, ⟨2, 1, w, v, x, t, 0⟩) := by rw [← htop]; exact stealS_0 hk
    rw [e]
    exact .goon rfl (.s1 v x t ⟨h0, Int.le_refl _⟩) rfl rfl
  | s1 v x y hy =>
    have e : deqS W D J S m ⟨2, 1, w, v, x, y, 0⟩ = _ := stealS_1 hk
    rw [e]
    split
    · exact .late rfl (.inl rfl) rfl
    · rename_i hfar
      refine .goon rfl (.s2 v _ y hy (fun eyt => ?_)) rfl rfl
      intro hL
      subst hL
      simp only [List.length_nil] at hbig
      generalize eb : at0 m (bg D J w + 1) = b at ho hfar
      apply hfar
      cases ho with
      | idle hb0 => simp only [List.length_nil] at hb0; unfold far wrap64; omega
      | push0 v x y hb0 => simp only [List.length_nil] at hb0; unfold far wrap64; omega
      | push1 v y hb0 => simp only [List.length_nil] at hb0; unfold far wrap64; omega
      | push2 v y hb0 hr => simp only [List.length_nil] at hb0; unfold far wrap64; omega
      | push3 v y hb0 hr hv => simp only [List.length_nil] at hb0; unfold far wrap64; omega
      | pop0 v x y hb0 => simp only [List.length_nil] at hb0; unfold far wrap64; omega
      | pop1 v x y hb0 hx => simp only [List.length_nil] at hb0; unfold far wrap64; omega
      | pop2 v y hb0 => simp only [List.length_nil] at hb0; unfold far wrap64; omega
      | pop3a v y r hb0 hy hr hv => simp only [List.length_nil] at hb0; unfold far wrap64; omega
      | pop3b v hh =>
        rcases hh with ⟨u, hL, htb⟩ | ⟨_, htb⟩
        · cases hL
        · unfold far wrap64; omega
      | pop4 v hh =>
        rcases hh with ⟨hL, htb⟩ | ⟨_, htb⟩
        · cases hL
        · unfold far wrap64; omega
      | pop5 v y hh => unfold far wrap64; omega
      | pop6 v y hh => unfold far wrap64; omega
  | s2 v x y hy hL =>
    have e : deqS W D J S m ⟨2, 2, w, v, x, y, 0⟩ = (m, ⟨2, 3, w, at0 m (sI D J w y), x, y, 0⟩) := stealS_2 hk
    rw [e]
    refine .goon rfl (.s3 _ x y hy (fun eyt => ?_)) rfl rfl
    have := hL eyt
    match L, this, hs with
    | u :: L', _, hs =>
      have h2 : at0 m (sI D J w t) = u := by simpa using hs.at_ 0 u rfl
      rw [eyt, h2]; rfl
  | s3 v x y hy hL =>
    have e : deqS W D J S m ⟨2, 3, w, v, x, y, 0⟩ = _ := stealS_3 hk
    rw [e, htop]
    split
    · rename_i eyt
      have hh := hL eyt.symm
      match L, hh, hs, hI, hbig, hl with
      | u :: L', hh, hs, hI, hbig, hl =>
        obtain rfl : u = v := by simpa using hh
        simp only [List.length_cons] at hbig hl
        have e2 : (y + 1) % 18446744073709551616 = t + 1 := by omega
        rw [e2]
        refine .stole u L' rfl ⟨okw_put hk _ _, hs.tail hk, by omega, by omega, ?_⟩ rfl rfl
        simp only
        rw [at0_put_ne _ _ (by omega)]
        have hos := hI.os
        generalize at0 m (bg D J w + 1) = b at hos
        have hp : ∀ z, at0 (put m (bg D J w) (t + 1)) (sI D J w z) = at0 m (sI D J w z) := fun z => at0_put_ne _ _ (top_ne _ hD.1)
        cases hos with
        | idle hb0 => exact .idle (by simp only [List.length_cons] at hb0; omega)
        | push0 v x y hb0 => exact .push0 v x y (by simp only [List.length_cons] at hb0; omega)
        | push1 v y hb0 => exact .push1 v y (by simp only [List.length_cons] at hb0; omega)
        | push2 v y hb0 hr => exact .push2 v y (by simp only [List.length_cons] at hb0; omega) (by simp only [List.length_cons] at hr; omega)
        | push3 v y hb0 hr hv => exact .push3 v y (by simp only [List.length_cons] at hb0; omega) (by simp only [List.length_cons] at hr; omega) (by rw [hp]; exact hv)
        | pop0 v x y hb0 => exact .pop0 v x y (by simp only [List.length_cons] at hb0; omega)
        | pop1 v x y hb0 hx => exact .pop1 v x y (by simp only [List.length_cons] at hb0; omega) hx
        | pop2 v y hb0 => exact .pop2 v y (by simp only [List.length_cons] at hb0; rw [hb0]; congr 1; omega)
        | pop3a v y r hb0 hy hr hv => exact .pop3a v y r (by simp only [List.length_cons] at hb0; omega) hy (by simp only [List.length_cons] at hr; omega) (by rw [hp]; exact hv)
        | pop3b v hh =>
          rcases hh with ⟨u', hL', htb⟩ | ⟨hL', _⟩
          · injection hL' with _ hL'
            exact .pop3b v (.inr ⟨hL', by omega⟩)
          · cases hL'
        | pop4 v hh =>
          rcases hh with ⟨hL', htb⟩ | ⟨hL', _⟩
          · injection hL' with _ hL'
            exact .pop4 v (.inr ⟨hL', by omega⟩)
          · cases hL'
        | pop5 v y hh => cases hh.1
        | pop6 v y hh => cases hh.1
    · exact .late rfl (.inr rfl) rfl
end Go.Proofs.Ytpeaahihjeplmaa
namespace Go.Proofs.Ytpeaahihjeplmaa
open Go.RowKit Go.Deep
/-- Where a play is: the cells, the calls at hand, the calls that are over, and how many of the owner's calls have been looked at. -/
structure PS where
  m : List Int
  a : List Fr
  over : List Fr
  nx : Nat
/-- One step of one who is at it. -/
def stepAt (W D J S : Int) (s : PS) (i : Nat) : PS :=
  if (deqS W D J S s.m (s.a.getD i fno)).2.res = 0 then ⟨(deqS W D J S s.m (s.a.getD i fno)).1, s.a.set i (deqS W D J S s.m (s.a.getD i fno)).2, s.over, s.nx⟩
  else ⟨(deqS W D J S s.m (s.a.getD i fno)).1, s.a.set i fno, s.over ++ [{ (deqS W D J S s.m (s.a.getD i fno)).2 with who := i }], s.nx⟩
/-- The owner's next call. -/
def nxt : List Fr → Nat → Fr × Nat
  | [], k => (fno, k)
  | f :: r, k => if f.op = 0 ∨ f.op = 1 then (fbg f.op 0 f.val, k + 1) else nxt r (k + 1)
/-- A call begins, if none is at hand. -/
def beg (own : List Fr) (s : PS) (i : Nat) : PS :=
  if (s.a.getD i fno).op < 0 then
    if 0 < i then { s with a := s.a.set i (fbg 2 0 0) } else { s with a := s.a.set i (nxt (own.drop s.nx) s.nx).1, nx := (nxt (own.drop s.nx) s.nx).2 }
  else s
/-- One step, as one number of 'who' tells. -/
def play1 (D : Int) (th : Int) (own : List Fr) (s : PS) (i : Int) : PS := if 0 ≤ i ∧ i ≤ th then stepAt 1 D 1 0 (beg own s i.toNat) i.toNat else s
/-- Ahead of all. -/
def start (D : Int) (th : Int) : PS := ⟨List.replicate (sz 1 D 1 0).toNat 0, List.replicate (th.toNat + 1) fno, [], 0⟩
def play (D th : Int) (own : List Fr) (who : List Int) : PS := who.foldl (play1 D th own) (start D th)
/-- Calls of an owner that push 1, 2, 3, .. and pop. -/
def cs (pops : List Bool) : List Fr := pops.mapIdx fun i b => if b then ⟨1, 0, 0, 0, 0, 0, 0⟩ else ⟨0, 0, 0, (i : Int) + 1, 0, 0, 0⟩
/-- Values of the calls of a kind. -/
def ob (p : Fr → Bool) (o : List Fr) : List Int := (o.filter p).map (·.val)
def isPO (f : Fr) : Bool := decide (f.op = 0) && decide (f.res = 1)
def isTK (f : Fr) : Bool := decide (f.op ≠ 0) && decide (f.res = 1)
def isST (f : Fr) : Bool := decide (f.op = 2) && decide (f.res = 1)
set_option maxRecDepth 100000 in
theorem ob_snoc (p : Fr → Bool) (o : List Fr) (g : Fr) : ob p (o ++ [g]) = ob p o ++ (if p g then [g.val] else []) := by
  unfold ob
  rw [List.filter_append, List.map_append]
  cases h : p g <;> simp [h]
set_option maxRecDepth 100000 in
theorem st_tk (o : List Fr) (v : Int) : (ob isST o).count v ≤ (ob isTK o).count v := by
  induction o with
  | nil => simp [ob]
  | cons f o ih =>
    have e : ∀ p, ob p (f :: o) = (if p f then [f.val] else []) ++ ob p o := fun p => by unfold ob; cases h : p f <;> simp [h]
    rw [e, e, List.count_append, List.count_append]
    have : (if isST f then [f.val] else []).count v ≤ (if isTK f then [f.val] else []).count v := by
      cases h : isST f
      · simp
      · have h2 : isTK f = true := by
          unfold isST at h; unfold isTK
          simp only [Bool.and_eq_true, decide_eq_true_eq] at h ⊢
          exact ⟨by rw [h.1]; decide, h.2⟩
        simp [h2]
    omega
set_option maxRecDepth 100000 in
theorem getD_set_eq {a : List Fr} {i : Nat} (h : i < a.length) (x d : Fr) : (a.set i x).getD i d = x := by
  rw [List.getD_eq_getElem?_getD, List.getElem?_set_self h]; rfl
set_option maxRecDepth 100000 in
theorem getD_set_ne {a : List Fr} {i j : Nat} (h : i ≠ j) (x d : Fr) : (a.set i x).getD j d = a.getD j d := by
  rw [List.getD_eq_getElem?_getD, List.getElem?_set_ne h, ← List.getD_eq_getElem?_getD]
/-- What holds behind each step of a play of an owner's calls 'cs pops'. -/
structure GI (D : Int) (th : Nat) (pops : List Bool) (s : PS) (t : Int) (L R : List Int) : Prop where
  iv : Iv 1 D 1 0 s.m 0 t L R (s.a.getD 0 fno)
  ts : ∀ i, 0 < i → TS 0 t L (s.a.getD i fno)
  len : s.a.length = th + 1
  nx : s.nx ≤ pops.length
  room : t + L.length + (if (s.a.getD 0 fno).op = 0 then 1 else 0) ≤ s.nx
  pv : (s.a.getD 0 fno).op = 0 → (s.a.getD 0 fno).val = s.nx ∧ 1 ≤ s.nx ∧ pops[s.nx - 1]? = some false
  ch : (ob isST s.over ++ (L ++ R)).Pairwise (· < ·)
  lim : ∀ u ∈ ob isPO s.over, 1 ≤ u ∧ u ≤ s.nx ∧ ((s.a.getD 0 fno).op = 0 → u < s.nx) ∧ pops[(u - 1).toNat]? = some false
  inc : (ob isPO s.over).Pairwise (· < ·)
  cnt : ∀ v, (ob isPO s.over).count v = (ob isTK s.over).count v + (L.count v + R.count v)
set_option maxRecDepth 100000 in
theorem GI.mem {D : Int} {th : Nat} {pops : List Bool} {s : PS} {t : Int} {L R : List Int} (h : GI D th pops s t L R) {u : Int} (hu : u ∈ ob isST s.over ++ (L ++ R)) : u ∈ ob isPO s.over := by
  rw [← List.count_pos_iff]
  have h1 := h.cnt u
  have h2 := st_tk s.over u
  have h3 := List.count_pos_iff.2 hu
  rw [List.count_append, List.count_append] at h3
  omega
/-- The calls one behind the other, each at once, at a list: do they come to what they are? -/
def seqOk (D : Int) : List Int → List Fr → Option (List Int)
  | l, [] => some l
  | l, g :: r => if (on l D (fbg g.op 0 (if g.op = 0 then g.val else 0))).2.res = g.res ∧ (on l D (fbg g.op 0 (if g.op = 0 then g.val else 0))).2.val = g.val ∧ ((on l D (fbg g.op 0 (if g.op = 0 then g.val else 0))).1.length : Int) ≤ D then seqOk D (on l D (fbg g.op 0 (if g.op = 0 then g.val else 0))).1 r else none
set_option maxRecDepth 100000 in
theorem seq_push {D : Int} {l : List Int} {c w v x y : Int} (h : (l.length : Int) < D) : seqOk D (l ++ []) [⟨0, c, w, v, x, y, 1⟩] = some (l ++ [v] ++ []) := by
  have e : on l D (fbg 0 0 v) = (l ++ [v], ⟨0, 0, 0, v, 0, 0, 1⟩) := by
    simp only [on, fbg, onPut, ed]; rw [if_neg (by simp), if_pos (by simp), if_neg (by omega)]
  simp [seqOk, e]; omega
set_option maxRecDepth 100000 in
theorem seq_full {D : Int} {l : List Int} {c w v x y : Int} (h : (l.length : Int) = D) : seqOk D (l ++ []) [⟨0, c, w, v, x, y, 2⟩] = some (l ++ []) := by
  have e : on l D (fbg 0 0 v) = (l, ⟨0, 0, 0, v, 0, 0, 2⟩) := by
    simp only [on, fbg, onPut, ed]; rw [if_neg (by simp), if_pos (by simp), if_pos (by omega)]
  simp [seqOk, e]; omega
set_option maxRecDepth 100000 in
theorem seq_pop {D : Int} {l : List Int} {c w r x y : Int} (h : (l.length : Int) ≤ D) : seqOk D (l ++ [r]) [⟨1, c, w, r, x, y, 1⟩] = some (l ++ []) := by
  have e : on (l ++ [r]) D (fbg 1 0 0) = (l, ⟨1, 0, 0, r, 0, 0, 1⟩) := by simp [on, fbg, onLast, ed]
  simp [seqOk, e]; omega
set_option maxRecDepth 100000 in
theorem seq_none {D : Int} {c w x y : Int} (h : 0 ≤ D) : seqOk D ([] ++ []) [⟨1, c, w, 0, x, y, 3⟩] = some ([] ++ []) := by
  have e : on [] D (fbg 1 0 0) = ([], ⟨1, 0, 0, 0, 0, 0, 3⟩) := by simp [on, fbg, onLast, ed]
  simp [seqOk, e]; omega
/-- What a step of the owner does to what there is, taken or not. -/
def Rl (D : Int) (A : List Int) (o : List Fr) (A' : List Int) (o' : List Fr) : Prop := (o' = o ∧ A' = A) ∨ ∃ g, o' = o ++ [g] ∧ seqOk D A [g] = some A'
set_option maxRecDepth 100000 in
theorem GI.owner2 {D : Int} {th : Nat} {pops : List Bool} {s : PS} {t : Int} {L R : List Int} (h : GI D th pops s t L R) (hp : pops.length ≤ 60) : ∃ t' L' R', Rl D (L ++ R) s.over (L' ++ R') (stepAt 1 D 1 0 s 0).over ∧ GI D th pops (stepAt 1 D 1 0 s 0) t' L' R' := by
  have hl : 0 < s.a.length := by rw [h.len]; omega
  have hroom := h.room
  have hb : t + L.length < 1000 := by
    have := h.nx
    split at hroom <;> omega
  have ho := owner_step h.iv hb
  have hmem : ∀ u, u ∈ ob isST s.over ++ (L ++ R) → u ∈ ob isPO s.over := fun u hu => h.mem hu
  unfold stepAt
  generalize (deqS 1 D 1 0 s.m (s.a.getD 0 fno)).1 = m' at ho ⊢
  generalize (deqS 1 D 1 0 s.m (s.a.getD 0 fno)).2 = g at ho ⊢
  have e0 : ∀ x : Fr, (s.a.set 0 x).getD 0 fno = x := fun x => getD_set_eq hl x fno
  have ei : ∀ (x : Fr) (i : Nat), 0 < i → (s.a.set 0 x).getD i fno = s.a.getD i fno := fun x i hi => getD_set_ne (by omega) x fno
  have fo : fno.op = -1 := rfl
  cases ho with
  | goon hI hr hop hv =>
    rw [if_pos hr]
    refine ⟨t, L, R, .inl ⟨rfl, rfl⟩, by rw [e0]; exact hI, fun i hi => by rw [ei _ i hi]; exact h.ts i hi, by simp [h.len], h.nx, by simp only [e0]; rw [hop]; exact hroom, ?_, h.ch, ?_, h.inc, h.cnt⟩
    · simp only [e0]
      intro e
      rw [hop] at e
      rw [hv e]
      exact h.pv e
    · simp only [e0]
      rw [hop]
      exact h.lim
  | take L' r hL hn hR hI hr hop h1 =>
    rw [if_pos hr]
    subst hL hR
    refine ⟨t, L', [r], .inl ⟨rfl, by simp⟩, by rw [e0]; exact hI, fun i hi => by rw [ei _ i hi]; exact (h.ts i hi).same (fun u hu => by match L', hn, hu with | a :: b, _, hu => simpa using hu), by simp [h.len], h.nx, ?_, ?_, ?_, ?_, h.inc, ?_⟩
    · simp only [e0]; rw [hop, h1]
      rw [h1] at hroom
      simp at hroom ⊢
      omega
    · simp only [e0]; rw [hop, h1]; intro e; simp at e
    · have := h.ch
      simpa using this
    · simp only [e0]; rw [hop]; exact h.lim
    · intro v
      have := h.cnt v
      rw [List.count_append] at this
      simpa using this
  | only r hL hR hI hr hop h1 =>
    rw [if_pos hr]
    subst hL hR
    refine ⟨t + 1, [], [r], .inl ⟨rfl, by simp⟩, by rw [e0]; exact hI, fun i hi => by rw [ei _ i hi]; exact (h.ts i hi).later (by omega), by simp [h.len], h.nx, ?_, ?_, ?_, ?_, h.inc, ?_⟩
    · simp only [e0]; rw [hop, h1]
      rw [h1] at hroom
      simp at hroom ⊢
      omega
    · simp only [e0]; rw [hop, h1]; intro e; simp at e
    · have := h.ch
      simpa using this
    · simp only [e0]; rw [hop]; exact h.lim
    · intro v
      have := h.cnt v
      simpa using this
  | pushed hI hR hg h1 hl2 =>
    obtain ⟨p1, p2, p3⟩ := h.pv h1
    subst hR
    rw [if_neg (by rw [hg]; simp)]
    rw [h1] at hroom
    simp only [if_true] at hroom
    have epo : ob isPO (s.over ++ [{ g with who := ((0 : Nat) : Int) }]) = ob isPO s.over ++ [(s.nx : Int)] := by rw [ob_snoc, hg, p1]; simp [isPO]
    have etk : ob isTK (s.over ++ [{ g with who := ((0 : Nat) : Int) }]) = ob isTK s.over := by rw [ob_snoc, hg]; simp [isTK]
    have est : ob isST (s.over ++ [{ g with who := ((0 : Nat) : Int) }]) = ob isST s.over := by rw [ob_snoc, hg]; simp [isST]
    refine ⟨t, L ++ [(s.nx : Int)], [], .inr ⟨_, rfl, by rw [hg, p1]; exact seq_push hl2⟩, by rw [e0, ← p1]; exact hI, fun i hi => by rw [ei _ i hi]; exact (h.ts i hi).same (fun u hu => by cases L with | nil => simp at hu | cons a b => simpa using hu), by simp [h.len], h.nx, ?_, ?_, ?_, ?_, ?_, ?_⟩
    · simp only [e0]; rw [fo]; simp; omega
    · simp only [e0]; rw [fo]; intro e; simp at e
    · rw [est]
      have hc := h.ch
      rw [List.append_nil] at hc ⊢
      rw [← List.append_assoc, List.pairwise_append]
      refine ⟨hc, List.pairwise_singleton _ _, fun a ha b hb' => ?_⟩
      simp at hb'
      subst hb'
      exact (h.lim a (hmem a (by rw [List.append_nil]; exact ha))).2.2.1 h1
    · rw [epo]
      intro u hu
      simp only [e0]; rw [fo]
      rcases List.mem_append.1 hu with hu | hu
      · obtain ⟨a1, a2, a3, a4⟩ := h.lim u hu
        exact ⟨a1, a2, fun e => by simp at e, a4⟩
      · simp at hu
        subst hu
        refine ⟨by omega, Int.le_refl _, fun e => by simp at e, ?_⟩
        rw [show ((s.nx : Int) - 1).toNat = s.nx - 1 by omega]; exact p3
    · rw [epo, List.pairwise_append]
      refine ⟨h.inc, List.pairwise_singleton _ _, fun a ha b hb' => ?_⟩
      simp at hb'
      subst hb'
      exact (h.lim a ha).2.2.1 h1
    · intro v
      rw [epo, etk]
      have := h.cnt v
      simp only [List.count_append, List.count_nil] at this ⊢
      omega
  | full hI hR hg h1 hl2 =>
    subst hR
    rw [if_neg (by rw [hg]; simp)]
    rw [h1] at hroom
    simp only [if_true] at hroom
    have epo : ob isPO (s.over ++ [{ g with who := ((0 : Nat) : Int) }]) = ob isPO s.over := by rw [ob_snoc, hg]; simp [isPO]
    have etk : ob isTK (s.over ++ [{ g with who := ((0 : Nat) : Int) }]) = ob isTK s.over := by rw [ob_snoc, hg]; simp [isTK]
    have est : ob isST (s.over ++ [{ g with who := ((0 : Nat) : Int) }]) = ob isST s.over := by rw [ob_snoc, hg]; simp [isST]
    refine ⟨t, L, [], .inr ⟨_, rfl, by rw [hg]; exact seq_full hl2⟩, by rw [e0]; exact hI, fun i hi => by rw [ei _ i hi]; exact h.ts i hi, by simp [h.len], h.nx, ?_, ?_, by rw [est]; exact h.ch, ?_, by rw [epo]; exact h.inc, fun v => by rw [epo, etk]; exact h.cnt v⟩
    · simp only [e0]; rw [fo]; simp; omega
    · simp only [e0]; rw [fo]; intro e; simp at e
    · rw [epo]
      intro u hu
      obtain ⟨a1, a2, a3, a4⟩ := h.lim u hu
      exact ⟨a1, a2, fun e => by rw [e0, fo] at e; simp at e, a4⟩
  | popped r hI hR hg h1 =>
    subst hR
    rw [if_neg (by rw [hg]; simp)]
    rw [h1] at hroom
    have epo : ob isPO (s.over ++ [{ g with who := ((0 : Nat) : Int) }]) = ob isPO s.over := by rw [ob_snoc, hg]; simp [isPO]
    have etk : ob isTK (s.over ++ [{ g with who := ((0 : Nat) : Int) }]) = ob isTK s.over ++ [r] := by rw [ob_snoc, hg]; simp [isTK]
    have est : ob isST (s.over ++ [{ g with who := ((0 : Nat) : Int) }]) = ob isST s.over := by rw [ob_snoc, hg]; simp [isST]
    refine ⟨t, L, [], .inr ⟨_, rfl, by rw [hg]; exact seq_pop hI.sl.len⟩, by rw [e0]; exact hI, fun i hi => by rw [ei _ i hi]; exact h.ts i hi, by simp [h.len], h.nx, ?_, ?_, ?_, ?_, by rw [epo]; exact h.inc, fun v => ?_⟩
    · simp only [e0]; rw [fo]; simp at hroom ⊢; omega
    · simp only [e0]; rw [fo]; intro e; simp at e
    · rw [est]
      have hc := h.ch
      rw [← List.append_assoc] at hc
      rw [List.append_nil]
      exact (List.pairwise_append.1 hc).1
    · rw [epo]
      intro u hu
      obtain ⟨a1, a2, a3, a4⟩ := h.lim u hu
      exact ⟨a1, a2, fun e => by rw [e0, fo] at e; simp at e, a4⟩
    · rw [epo, etk]
      have := h.cnt v
      simp only [List.count_append, List.count_nil] at this ⊢
      omega
  | empty hI hR hg h1 hL =>
    subst hR
    rw [if_neg (by rw [hg]; simp)]
    rw [h1] at hroom
    have epo : ob isPO (s.over ++ [{ g with who := ((0 : Nat) : Int) }]) = ob isPO s.over := by rw [ob_snoc, hg]; simp [isPO]
    have etk : ob isTK (s.over ++ [{ g with who := ((0 : Nat) : Int) }]) = ob isTK s.over := by rw [ob_snoc, hg]; simp [isTK]
    have est : ob isST (s.over ++ [{ g with who := ((0 : Nat) : Int) }]) = ob isST s.over := by rw [ob_snoc, hg]; simp [isST]
    refine ⟨t, L, [], .inr ⟨_, rfl, by rw [hg, hL]; exact seq_none (by have := hI.sl.len; omega)⟩, by rw [e0]; exact hI, fun i hi => by rw [ei _ i hi]; exact h.ts i hi, by simp [h.len], h.nx, ?_, ?_, by rw [est]; exact h.ch, ?_, by rw [epo]; exact h.inc, fun v => by rw [epo, etk]; exact h.cnt v⟩
    · simp only [e0]; rw [fo]; simp at hroom ⊢; omega
    · simp only [e0]; rw [fo]; intro e; simp at e
    · rw [epo]
      intro u hu
      obtain ⟨a1, a2, a3, a4⟩ := h.lim u hu
      exact ⟨a1, a2, fun e => by rw [e0, fo] at e; simp at e, a4⟩
  | none_ hI hf hg =>
    rw [if_pos (by rw [hg]; rfl)]
    have eg : g = s.a.getD 0 fno := by rw [hg, hf]
    have hroom' := h.room
    have hpv := h.pv
    have hlim := h.lim
    rw [← eg] at hroom' hpv hlim
    exact ⟨t, L, R, .inl ⟨rfl, rfl⟩, by rw [e0]; exact hI, fun i hi => by rw [ei _ i hi]; exact h.ts i hi, by simp [h.len], h.nx, by simp only [e0]; exact hroom', by simp only [e0]; exact hpv, h.ch, by simp only [e0]; exact hlim, h.inc, h.cnt⟩
set_option maxRecDepth 100000 in
theorem GI.owner {D : Int} {th : Nat} {pops : List Bool} {s : PS} {t : Int} {L R : List Int} (h : GI D th pops s t L R) (hp : pops.length ≤ 60) : ∃ t' L' R', GI D th pops (stepAt 1 D 1 0 s 0) t' L' R' := by
  obtain ⟨t', L', R', _, h'⟩ := h.owner2 hp
  exact ⟨t', L', R', h'⟩
/-- What a step of one who steals does to what there is. -/
def Rt (A : List Int) (o : List Fr) (A' : List Int) (o' : List Fr) : Prop := (o' = o ∧ A' = A) ∨ ∃ g, o' = o ++ [g] ∧ g.op = 2 ∧ (A' = A ∨ ∃ u, A = u :: A')
set_option maxRecDepth 100000 in
theorem GI.thief2 {D : Int} {th : Nat} {pops : List Bool} {s : PS} {t : Int} {L R : List Int} (h : GI D th pops s t L R) {i : Nat} (hi : 0 < i) (hit : i ≤ th) : ∃ t' L' R', Rt (L ++ R) s.over (L' ++ R') (stepAt 1 D 1 0 s i).over ∧ GI D th pops (stepAt 1 D 1 0 s i) t' L' R' := by
  have hl : i < s.a.length := by rw [h.len]; omega
  have ho := thief_step h.iv (h.ts i hi)
  unfold stepAt
  generalize (deqS 1 D 1 0 s.m (s.a.getD i fno)).1 = m' at ho ⊢
  generalize (deqS 1 D 1 0 s.m (s.a.getD i fno)).2 = g at ho ⊢
  have e0 : ∀ x : Fr, (s.a.set i x).getD 0 fno = s.a.getD 0 fno := fun x => getD_set_ne (by omega) x fno
  have ts' : ∀ (x : Fr) (t' : Int) (L' : List Int), TS 0 t' L' x → (∀ k, 0 < k → TS 0 t' L' (s.a.getD k fno)) → ∀ k, 0 < k → TS 0 t' L' ((s.a.set i x).getD k fno) := fun x t' L' hx hr k hk => by
    by_cases e : i = k
    · subst e; rw [getD_set_eq hl]; exact hx
    · rw [getD_set_ne e]; exact hr k hk
  cases ho with
  | goon hm hT hr hop =>
    rw [if_pos hr, hm]
    exact ⟨t, L, R, .inl ⟨rfl, rfl⟩, by rw [e0]; exact h.iv, ts' _ _ _ hT h.ts, by simp [h.len], h.nx, by simp only [e0]; exact h.room, by simp only [e0]; exact h.pv, h.ch, by simp only [e0]; exact h.lim, h.inc, h.cnt⟩
  | stole u L' hL hI hg hop =>
    rw [if_neg (by rw [hg]; simp)]
    subst hL
    have epo : ob isPO (s.over ++ [{ g with who := ((i : Nat) : Int) }]) = ob isPO s.over := by rw [ob_snoc, hg]; simp [isPO]
    have etk : ob isTK (s.over ++ [{ g with who := ((i : Nat) : Int) }]) = ob isTK s.over ++ [u] := by rw [ob_snoc, hg]; simp [isTK]
    have est : ob isST (s.over ++ [{ g with who := ((i : Nat) : Int) }]) = ob isST s.over ++ [u] := by rw [ob_snoc, hg]; simp [isST]
    refine ⟨t + 1, L', R, .inr ⟨_, rfl, by rw [hg], .inr ⟨u, rfl⟩⟩, by rw [e0]; exact hI, ts' _ _ _ .idle (fun k hk => (h.ts k hk).later (by omega)), by simp [h.len], h.nx, ?_, by simp only [e0]; exact h.pv, ?_, by simp only [e0, epo]; exact h.lim, by rw [epo]; exact h.inc, fun v => ?_⟩
    · simp only [e0]
      have := h.room
      simp only [List.length_cons] at this
      omega
    · rw [est]
      have := h.ch
      simpa using this
    · rw [epo, etk]
      have := h.cnt v
      simp only [List.count_append, List.count_cons, List.count_nil] at this ⊢
      omega
  | late hm hg hop =>
    have hr : g.res ≠ 0 ∧ ¬ g.res = 1 := by rcases hg with rfl | rfl <;> simp
    rw [if_neg hr.1, hm]
    have en : ∀ p : Fr → Bool, (∀ f, p f = true → f.res = 1) → ob p (s.over ++ [{ g with who := ((i : Nat) : Int) }]) = ob p s.over := fun p hp => by
      rw [ob_snoc]
      have : p { g with who := ((i : Nat) : Int) } = false := by
        cases e : p { g with who := ((i : Nat) : Int) }
        · rfl
        · exact absurd (hp _ e) hr.2
      rw [this]; simp
    have epo := en isPO (fun f hf => by unfold isPO at hf; simp at hf; exact hf.2)
    have etk := en isTK (fun f hf => by unfold isTK at hf; simp at hf; exact hf.2)
    have est := en isST (fun f hf => by unfold isST at hf; simp at hf; exact hf.2)
    exact ⟨t, L, R, .inr ⟨_, rfl, by rcases hg with rfl | rfl <;> rfl, .inl rfl⟩, by rw [e0]; exact h.iv, ts' _ _ _ .idle h.ts, by simp [h.len], h.nx, by simp only [e0]; exact h.room, by simp only [e0]; exact h.pv, by rw [est]; exact h.ch, by simp only [e0, epo]; exact h.lim, by rw [epo]; exact h.inc, fun v => by rw [epo, etk]; exact h.cnt v⟩
set_option maxRecDepth 100000 in
theorem GI.thief {D : Int} {th : Nat} {pops : List Bool} {s : PS} {t : Int} {L R : List Int} (h : GI D th pops s t L R) {i : Nat} (hi : 0 < i) (hit : i ≤ th) : ∃ t' L' R', GI D th pops (stepAt 1 D 1 0 s i) t' L' R' := by
  obtain ⟨t', L', R', _, h'⟩ := h.thief2 hi hit
  exact ⟨t', L', R', h'⟩
set_option maxRecDepth 100000 in
theorem GI.step {D : Int} {th : Nat} {pops : List Bool} {s : PS} {t : Int} {L R : List Int} (h : GI D th pops s t L R) (hp : pops.length ≤ 60) {i : Nat} (hit : i ≤ th) : ∃ t' L' R', GI D th pops (stepAt 1 D 1 0 s i) t' L' R' := by
  rcases Nat.eq_zero_or_pos i with rfl | hi
  · exact h.owner hp
  · exact h.thief hi hit
set_option maxRecDepth 100000 in
theorem OS.free {D J : Int} {m : List Int} {w t b : Int} {L R : List Int} {f : Fr} (h : OS D J m w t b L R f) (hf : f.op < 0) : b = t + L.length ∧ R = [] := by
  cases h <;> first | exact ⟨by assumption, rfl⟩ | (simp at hf)
set_option maxRecDepth 100000 in
theorem cs_len (pops : List Bool) : (cs pops).length = pops.length := by simp [cs]
set_option maxRecDepth 100000 in
theorem cs_at {pops : List Bool} {k : Nat} (h : k < pops.length) : (cs pops)[k]? = some (if pops[k] then ⟨1, 0, 0, 0, 0, 0, 0⟩ else ⟨0, 0, 0, (k : Int) + 1, 0, 0, 0⟩) := by
  simp [cs, h]
set_option maxRecDepth 100000 in
theorem nxt_cs {pops : List Bool} {k : Nat} (h : k < pops.length) : nxt ((cs pops).drop k) k = (if pops[k] then fbg 1 0 0 else fbg 0 0 ((k : Int) + 1), k + 1) := by
  have h1 : k < (cs pops).length := by rw [cs_len]; exact h
  have h2 := cs_at h
  rw [List.getElem?_eq_getElem h1] at h2
  injection h2 with h2
  rw [List.drop_eq_getElem_cons h1, h2]
  unfold nxt
  cases pops[k] <;> simp
set_option maxRecDepth 100000 in
theorem nxt_end {pops : List Bool} {k : Nat} (h : pops.length ≤ k) : nxt ((cs pops).drop k) k = (fno, k) := by
  rw [List.drop_eq_nil_of_le (by rw [cs_len]; exact h)]; rfl
set_option maxRecDepth 100000 in
theorem GI.beg {D : Int} {th : Nat} {pops : List Bool} {s : PS} {t : Int} {L R : List Int} (h : GI D th pops s t L R) {i : Nat} (hit : i ≤ th) : GI D th pops (beg (cs pops) s i) t L R := by
  have hl : i < s.a.length := by rw [h.len]; omega
  unfold Ytpeaahihjeplmaa.beg
  split
  · rename_i hop
    split
    · rename_i hi
      have e0 : ∀ x : Fr, (s.a.set i x).getD 0 fno = s.a.getD 0 fno := fun x => getD_set_ne (by omega) x fno
      refine ⟨by rw [e0]; exact h.iv, fun k hk => ?_, by simp [h.len], h.nx, by simp only [e0]; exact h.room, by simp only [e0]; exact h.pv, h.ch, by simp only [e0]; exact h.lim, h.inc, h.cnt⟩
      by_cases e : i = k
      · subst e; simp only; rw [getD_set_eq hl]; exact .s0 0 0 0
      · simp only; rw [getD_set_ne e]; exact h.ts k hk
    · rename_i hi
      obtain rfl : i = 0 := by omega
      have e0 : ∀ x : Fr, (s.a.set 0 x).getD 0 fno = x := fun x => getD_set_eq hl x fno
      have ei : ∀ (x : Fr) (k : Nat), 0 < k → (s.a.set 0 x).getD k fno = s.a.getD k fno := fun x k hk => getD_set_ne (by omega) x fno
      obtain ⟨hb, hR⟩ := h.iv.os.free hop
      have hroom := h.room
      rw [if_neg (by omega)] at hroom
      have hnx := h.nx
      rcases Nat.lt_or_ge s.nx pops.length with hk | hk
      · rw [nxt_cs hk]
        cases hb' : pops[s.nx]
        · refine ⟨?_, fun k hk' => by simp only; rw [ei _ k hk']; exact h.ts k hk', by simp [h.len], hk, ?_, ?_, h.ch, ?_, h.inc, h.cnt⟩
          · simp only [e0]
            exact ⟨h.iv.ok, h.iv.sl, h.iv.t0, h.iv.big, by subst hR; exact .push0 _ 0 0 hb⟩
          · simp only [e0]
            simp [fbg]; omega
          · simp only [e0]
            intro _
            refine ⟨by simp [fbg], by omega, ?_⟩
            rw [Nat.add_sub_cancel, List.getElem?_eq_getElem hk, hb']
          · intro u hu
            obtain ⟨a1, a2, a3, a4⟩ := h.lim u hu
            exact ⟨a1, by simp only; omega, fun _ => by simp only; omega, a4⟩
        · refine ⟨?_, fun k hk' => by simp only; rw [ei _ k hk']; exact h.ts k hk', by simp [h.len], hk, ?_, ?_, h.ch, ?_, h.inc, h.cnt⟩
          · simp only [e0]
            exact ⟨h.iv.ok, h.iv.sl, h.iv.t0, h.iv.big, by subst hR; exact .pop0 _ 0 0 hb⟩
          · simp only [e0]
            simp [fbg]; omega
          · simp only [e0]
            intro e
            simp [fbg] at e
          · intro u hu
            obtain ⟨a1, a2, a3, a4⟩ := h.lim u hu
            exact ⟨a1, by simp only; omega, fun _ => by simp only; omega, a4⟩
      · rw [nxt_end hk]
        refine ⟨?_, fun k hk' => by simp only; rw [ei _ k hk']; exact h.ts k hk', by simp [h.len], hnx, ?_, ?_, h.ch, ?_, h.inc, h.cnt⟩
        · simp only [e0]
          exact ⟨h.iv.ok, h.iv.sl, h.iv.t0, h.iv.big, by subst hR; exact .idle hb⟩
        · simp only [e0]
          simp [fno]; omega
        · simp only [e0]
          intro e
          simp [fno] at e
        · intro u hu
          obtain ⟨a1, a2, a3, a4⟩ := h.lim u hu
          exact ⟨a1, a2, fun e => by simp only [e0] at e; simp [fno] at e, a4⟩
  · exact h
set_option maxRecDepth 100000 in
theorem sz_lim' {W D J S : Int} (h : may W D J S = true) : 0 ≤ sz W D J S := by
  obtain ⟨hW, hD, hJ, hS⟩ := may_lim h
  rw [sz, if_pos h]
  have := bg_ge (J := J) (w := W) hD.1 hJ.1 (by omega)
  omega
set_option maxRecDepth 100000 in
theorem at0_noughts (n : Nat) (i : Int) : at0 (List.replicate n 0) i = 0 := by
  unfold at0
  split
  · rw [List.getD_eq_getElem?_getD, List.getElem?_replicate]; split <;> rfl
  · rfl
set_option maxRecDepth 100000 in
theorem GI.start {D : Int} {th : Int} (pops : List Bool) (hm : may 1 D 1 0 = true) : GI D th.toNat pops (start D th) 0 [] [] := by
  have hD := (may_lim hm).2.1
  have hz := sz_lim' hm
  have hk : okw 1 D 1 0 (Ytpeaahihjeplmaa.start D th).m 0 = true := by
    refine okw_iff.2 ⟨hm, ?_, by omega, by omega⟩
    unfold Ytpeaahihjeplmaa.start
    simp only [List.length_replicate]
    rw [sz, if_pos hm] at hz ⊢
    omega
  have ea : ∀ i, (Ytpeaahihjeplmaa.start D th).a.getD i fno = fno := fun i => by
    unfold Ytpeaahihjeplmaa.start
    simp only
    rw [List.getD_eq_getElem?_getD, List.getElem?_replicate]; split <;> rfl
  refine ⟨⟨hk, ⟨?_, by simp; omega, fun i u hi => by simp at hi⟩, by omega, by simp, ?_⟩, fun i _ => by rw [ea]; exact .idle, by simp [Ytpeaahihjeplmaa.start], by simp [Ytpeaahihjeplmaa.start], ?_, ?_, by simp [Ytpeaahihjeplmaa.start, ob], by simp [Ytpeaahihjeplmaa.start, ob], by simp [Ytpeaahihjeplmaa.start, ob], by simp [Ytpeaahihjeplmaa.start, ob]⟩
  · unfold Ytpeaahihjeplmaa.start; exact at0_noughts _ _
  · rw [ea, show at0 (Ytpeaahihjeplmaa.start D th).m (bg D 1 0 + 1) = 0 from at0_noughts _ _]
    exact .idle (by simp)
  · rw [ea]; simp [fno, Ytpeaahihjeplmaa.start]
  · rw [ea]; intro e; simp [fno] at e
set_option maxRecDepth 100000 in
theorem GI.play1 {D : Int} {th : Int} {pops : List Bool} {s : PS} {t : Int} {L R : List Int} (h : GI D th.toNat pops s t L R) (hp : pops.length ≤ 60) (i : Int) : ∃ t' L' R', GI D th.toNat pops (play1 D th (cs pops) s i) t' L' R' := by
  unfold Ytpeaahihjeplmaa.play1
  split
  · exact (h.beg (i := i.toNat) (by omega)).step hp (by omega)
  · exact ⟨t, L, R, h⟩
set_option maxRecDepth 100000 in
theorem GI.play {D : Int} {th : Int} {pops : List Bool} (hm : may 1 D 1 0 = true) (hp : pops.length ≤ 60) (who : List Int) : ∃ t L R, GI D th.toNat pops (play D th (cs pops) who) t L R := by
  unfold Ytpeaahihjeplmaa.play
  have key : ∀ (who : List Int) (s : PS), (∃ t L R, GI D th.toNat pops s t L R) → ∃ t L R, GI D th.toNat pops (who.foldl (Ytpeaahihjeplmaa.play1 D th (cs pops)) s) t L R := by
    intro who
    induction who with
    | nil => exact fun s h => h
    | cons i who ih =>
      rintro s ⟨t, L, R, h⟩
      exact ih _ (h.play1 hp i)
  exact key who _ ⟨_, _, _, GI.start pops hm⟩
end Go.Proofs.Ytpeaahihjeplmaa
namespace Go.Proofs.Ytpeaahihjeplmaa
open Go.RowKit Go.Deep
/-- A call at hand does its steps until it is over, but so many at most. -/
def restOne (W D J S : Int) : Nat → List Int → Fr → List Int × Fr
  | 0, m, f => (m, f)
  | n + 1, m, f => if f.op = -1 ∨ f.res ≠ 0 then (m, f) else restOne W D J S n (deqS W D J S m f).1 (deqS W D J S m f).2
/-- All of them, in order. -/
def restL (W D J S : Int) : List Int → List Fr → List Int × List Fr
  | m, [] => (m, [])
  | m, f :: r => ((restL W D J S (restOne W D J S 20 m f).1 r).1, (restOne W D J S 20 m f).2 :: (restL W D J S (restOne W D J S 20 m f).1 r).2)
set_option maxRecDepth 100000 in
theorem restOne_over (W D J S : Int) (n : Nat) (m : List Int) (f : Fr) (h : f.op = -1 ∨ f.res ≠ 0) : restOne W D J S n m f = (m, f) := by
  cases n with
  | zero => rfl
  | succ n => unfold restOne; rw [if_pos h]
/-- Where a call may be at. -/
def at_hand (w : Int) (f : Fr) : Prop := f.who = w ∧ f.res = 0 ∧ 0 ≤ f.pc ∧ (f.op = 0 ∧ f.pc < 4 ∨ f.op = 1 ∧ f.pc < 7 ∨ f.op = 2 ∧ f.pc < 4)
set_option maxRecDepth 100000 in
theorem OS.hand {D J : Int} {m : List Int} {w t b : Int} {L R : List Int} {f : Fr} (h : OS D J m w t b L R f) : f = fno ∨ at_hand w f := by
  cases h <;> first | exact .inl rfl | (right; unfold at_hand; simp)
set_option maxRecDepth 100000 in
theorem TS.hand {w t : Int} {L : List Int} {f : Fr} (h : TS w t L f) : f = fno ∨ at_hand w f := by
  cases h <;> first | exact .inl rfl | (right; unfold at_hand; simp)
set_option maxRecDepth 100000 in
theorem deqS_adv {W D J S : Int} {m : List Int} {w : Int} {f : Fr} (hk : okw W D J S m w = true) (h : at_hand w f) : (deqS W D J S m f).2.res ≠ 0 ∨ (f.pc < (deqS W D J S m f).2.pc ∧ (deqS W D J S m f).2.op = f.op) := by
  obtain ⟨hw, hr, h0, h⟩ := h
  subst hw
  unfold deqS
  rcases h with ⟨ho, hp⟩ | ⟨ho, hp⟩ | ⟨ho, hp⟩
  · rw [if_pos ho]
    unfold pushS
    rw [if_pos (goes_iff.2 ⟨hk, hr, ho, h0, hp⟩)]
    split
    · right; exact ⟨by simp only; omega, rfl⟩
    split
    · split
      · left; simp [ed]
      · right; exact ⟨by simp only; omega, rfl⟩
    split
    · right; exact ⟨by simp only; omega, rfl⟩
    · left; simp [ed]
  · rw [if_neg (by omega), if_pos ho]
    unfold popS
    rw [if_pos (goes_iff.2 ⟨hk, hr, ho, h0, hp⟩)]
    split
    · right; exact ⟨by simp only; omega, rfl⟩
    split
    · right; exact ⟨by simp only; omega, rfl⟩
    split
    · right; refine ⟨?_, rfl⟩
      simp only
      split <;> omega
    split
    · split
      · right; exact ⟨by simp only; omega, rfl⟩
      · left; simp [ed]
    split
    · split
      · right; exact ⟨by simp only; omega, rfl⟩
      · right; exact ⟨by simp only; omega, rfl⟩
    split
    · left; simp [ed]
    · left; simp [ed]
  · rw [if_neg (by omega), if_neg (by omega), if_pos ho]
    unfold stealS
    rw [if_pos (goes_iff.2 ⟨hk, hr, ho, h0, hp⟩)]
    split
    · right; exact ⟨by simp only; omega, rfl⟩
    split
    · split
      · left; simp [ed]
      · right; exact ⟨by simp only; omega, rfl⟩
    split
    · right; exact ⟨by simp only; omega, rfl⟩
    split
    · left; simp [ed]
    · left; simp [ed]
set_option maxRecDepth 100000 in
theorem GI.hand {D : Int} {th : Nat} {pops : List Bool} {s : PS} {t : Int} {L R : List Int} (h : GI D th pops s t L R) (i : Nat) : s.a.getD i fno = fno ∨ at_hand 0 (s.a.getD i fno) := by
  rcases Nat.eq_zero_or_pos i with rfl | hi
  · exact h.iv.os.hand
  · exact (h.ts i hi).hand
set_option maxRecDepth 100000 in
theorem rest_run {D : Int} {th : Nat} {pops : List Bool} {I : PS → Prop} (hI : ∀ s, I s → ∃ t L R, GI D th pops s t L R) (hS : ∀ s i, I s → i ≤ th → I (stepAt 1 D 1 0 s i)) {i : Nat} (hit : i ≤ th) : ∀ (n : Nat) (s : PS), I s → at_hand 0 (s.a.getD i fno) → 7 - (s.a.getD i fno).pc ≤ n →
    ∃ s', I s' ∧ s'.m = (restOne 1 D 1 0 n s.m (s.a.getD i fno)).1 ∧ s'.a = s.a.set i fno ∧ s'.over = s.over ++ [{ (restOne 1 D 1 0 n s.m (s.a.getD i fno)).2 with who := i }] ∧ (restOne 1 D 1 0 n s.m (s.a.getD i fno)).2.res ≠ 0 := by
  intro n
  induction n with
  | zero =>
    rintro s _ ⟨_, _, _, h⟩ hn
    omega
  | succ n ih =>
    rintro s hs0 hh hn
    obtain ⟨t, L, R, hG⟩ := hI s hs0
    have hl : i < s.a.length := by rw [hG.len]; omega
    have hk := hG.iv.ok
    have hadv := deqS_adv hk hh
    have hstep := hS s i hs0 hit
    obtain ⟨hw, hr, h0, ho⟩ := hh
    have e : restOne 1 D 1 0 (n + 1) s.m (s.a.getD i fno) = restOne 1 D 1 0 n (deqS 1 D 1 0 s.m (s.a.getD i fno)).1 (deqS 1 D 1 0 s.m (s.a.getD i fno)).2 := by
      show (if _ then _ else _) = _
      rw [if_neg (by omega)]
    rw [e]
    by_cases hz : (deqS 1 D 1 0 s.m (s.a.getD i fno)).2.res = 0
    · have hs : stepAt 1 D 1 0 s i = ⟨(deqS 1 D 1 0 s.m (s.a.getD i fno)).1, s.a.set i (deqS 1 D 1 0 s.m (s.a.getD i fno)).2, s.over, s.nx⟩ := by unfold stepAt; rw [if_pos hz]
      have hadv' : (s.a.getD i fno).pc < (deqS 1 D 1 0 s.m (s.a.getD i fno)).2.pc ∧ (deqS 1 D 1 0 s.m (s.a.getD i fno)).2.op = (s.a.getD i fno).op := by
        rcases hadv with hadv | hadv
        · exact absurd hz hadv
        · exact hadv
      rw [hs] at hstep
      have hget : (s.a.set i (deqS 1 D 1 0 s.m (s.a.getD i fno)).2).getD i fno = (deqS 1 D 1 0 s.m (s.a.getD i fno)).2 := getD_set_eq hl _ _
      have hstep' := hstep
      obtain ⟨t', L', R', hG'⟩ := hI _ hstep
      have hhand := hG'.hand i
      simp only at hhand
      rw [hget] at hhand
      have hh' : at_hand 0 (deqS 1 D 1 0 s.m (s.a.getD i fno)).2 := by
        rcases hhand with hf | hf
        · rw [hf] at hadv'
          have : fno.op = -1 := rfl
          omega
        · exact hf
      obtain ⟨s', h1, h2, h3, h4, h5⟩ := ih ⟨(deqS 1 D 1 0 s.m (s.a.getD i fno)).1, s.a.set i (deqS 1 D 1 0 s.m (s.a.getD i fno)).2, s.over, s.nx⟩ hstep' (by simp only; rw [hget]; exact hh') (by simp only; rw [hget]; omega)
      simp only at h2 h3 h4 h5
      rw [hget] at h2 h4 h5
      refine ⟨s', h1, h2, ?_, h4, h5⟩
      rw [h3, List.set_set]
    · have hs : stepAt 1 D 1 0 s i = ⟨(deqS 1 D 1 0 s.m (s.a.getD i fno)).1, s.a.set i fno, s.over ++ [{ (deqS 1 D 1 0 s.m (s.a.getD i fno)).2 with who := i }], s.nx⟩ := by unfold stepAt; rw [if_neg hz]
      rw [restOne_over _ _ _ _ _ _ _ (.inr hz)]
      exact ⟨_, hstep, by rw [hs], by rw [hs], by rw [hs], hz⟩
/-- Calls of a kind that hangs on Op and Res alone. -/
def Kd (p : Fr → Bool) : Prop := (∀ f : Fr, ∀ i : Int, p { f with who := i } = p f) ∧ (∀ f : Fr, f.res = 0 → p f = false)
set_option maxRecDepth 100000 in
theorem kd_po : Kd isPO := ⟨fun _ _ => rfl, fun f h => by simp [isPO, h]⟩
set_option maxRecDepth 100000 in
theorem kd_tk : Kd isTK := ⟨fun _ _ => rfl, fun f h => by simp [isTK, h]⟩
set_option maxRecDepth 100000 in
theorem kd_st : Kd isST := ⟨fun _ _ => rfl, fun f h => by simp [isST, h]⟩
set_option maxRecDepth 100000 in
theorem ob_cons (p : Fr → Bool) (f : Fr) (o : List Fr) : ob p (f :: o) = (if p f then [f.val] else []) ++ ob p o := by unfold ob; cases h : p f <;> simp [h]
set_option maxRecDepth 100000 in
theorem ob_append (p : Fr → Bool) (o o' : List Fr) : ob p (o ++ o') = ob p o ++ ob p o' := by unfold ob; simp
set_option maxRecDepth 100000 in
theorem rest_all {D : Int} {th : Nat} {pops : List Bool} {I : PS → Prop} (hI : ∀ s, I s → ∃ t L R, GI D th pops s t L R) (hS : ∀ s i, I s → i ≤ th → I (stepAt 1 D 1 0 s i)) : ∀ (k i : Nat) (s : PS), i + k = th + 1 → I s → (∀ j, j < i → s.a.getD j fno = fno) →
    ∃ s', I s' ∧ s'.m = (restL 1 D 1 0 s.m (s.a.drop i)).1 ∧ (∀ j, s'.a.getD j fno = fno) ∧ (∀ p, Kd p → ob p s'.over = ob p s.over ++ ob p (restL 1 D 1 0 s.m (s.a.drop i)).2)
      ∧ (∀ g ∈ (restL 1 D 1 0 s.m (s.a.drop i)).2, g = fno ∨ g.res ≠ 0) := by
  intro k
  induction k with
  | zero =>
    rintro i s hi hs0 hj
    obtain ⟨t, L, R, hG⟩ := hI s hs0
    have hl := hG.len
    rw [List.drop_eq_nil_of_le (by omega)]
    refine ⟨s, hs0, rfl, fun j => ?_, fun p _ => by simp [restL, ob], by simp [restL]⟩
    rcases Nat.lt_or_ge j i with h | h
    · exact hj j h
    · rw [List.getD_eq_getElem?_getD, List.getElem?_eq_none (by omega)]; rfl
  | succ k ih =>
    rintro i s hi hs0 hj
    obtain ⟨t, L, R, hG⟩ := hI s hs0
    have hl := hG.len
    have hil : i < s.a.length := by omega
    have hget : s.a[i] = s.a.getD i fno := by rw [List.getD_eq_getElem?_getD, List.getElem?_eq_getElem hil]; rfl
    rw [List.drop_eq_getElem_cons hil, hget]
    rcases hG.hand i with hf | hf
    · have e : restOne 1 D 1 0 20 s.m (s.a.getD i fno) = (s.m, s.a.getD i fno) := restOne_over _ _ _ _ _ _ _ (.inl (by rw [hf]; rfl))
      obtain ⟨s', h1, h2, h3, h4, h5⟩ := ih (i + 1) s (by omega) hs0 (fun j hji => by
        rcases Nat.lt_or_ge j i with h | h
        · exact hj j h
        · obtain rfl : j = i := by omega
          exact hf)
      refine ⟨s', h1, ?_, h3, fun p hk => ?_, ?_⟩
      · simp only [restL]; rw [e]; exact h2
      · simp only [restL]; rw [e, ob_cons, hf, hk.2 fno rfl]
        have := h4 p hk
        simpa using this
      · simp only [restL]; rw [e]
        intro g hg
        rcases List.mem_cons.1 hg with rfl | hg
        · exact .inl hf
        · exact h5 g hg
    · obtain ⟨s1, g1, g2, g3, g4, g5⟩ := rest_run hI hS (i := i) (by omega) 20 s hs0 hf (by have := hf.2.2.1; omega)
      obtain ⟨s', h1, h2, h3, h4, h5⟩ := ih (i + 1) s1 (by omega) g1 (fun j hji => by
        rw [g3]
        rcases Nat.lt_or_ge j i with h | h
        · rw [getD_set_ne (by omega)]; exact hj j h
        · obtain rfl : j = i := by omega
          exact getD_set_eq hil _ _)
      have ed : s1.a.drop (i + 1) = s.a.drop (i + 1) := by rw [g3, List.drop_set_of_lt (by omega)]
      rw [ed, g2] at h2 h4 h5
      refine ⟨s', h1, ?_, h3, fun p hk => ?_, ?_⟩
      · simp only [restL]; exact h2
      · simp only [restL]
        rw [h4 p hk, g4, ob_snoc, ob_cons, hk.1, List.append_assoc]
      · simp only [restL]
        intro g hg
        rcases List.mem_cons.1 hg with rfl | hg
        · exact .inr g5
        · exact h5 g hg
end Go.Proofs.Ytpeaahihjeplmaa
namespace Go.Proofs.Ytpeaahihjeplmaa
open Go.RowKit Go.Deep
/-- A call that is over, with Who as who did it. -/
def okO (th : Nat) (g : Fr) : Prop := g.res ≠ 0 ∧ (g.who = 0 ∧ (g.op = 0 ∨ g.op = 1) ∨ (1 ≤ g.who ∧ g.who ≤ th ∧ g.op = 2)) ∧ (g.res = 4 → g.op = 2) ∧ (g.res = 2 → g.op = 0)
set_option maxRecDepth 100000 in
theorem step_over {D : Int} {th : Nat} {pops : List Bool} {s : PS} {t : Int} {L R : List Int} (h : GI D th pops s t L R) (hp : pops.length ≤ 60) {i : Nat} (hit : i ≤ th) : (stepAt 1 D 1 0 s i).over = s.over ∨ ∃ g, okO th g ∧ (stepAt 1 D 1 0 s i).over = s.over ++ [g] := by
  unfold stepAt
  split
  · exact .inl rfl
  · rename_i hr
    refine .inr ⟨_, ?_, rfl⟩
    rcases Nat.eq_zero_or_pos i with rfl | hi
    · have hroom := h.room
      have hb : t + L.length < 1000 := by
        have := h.nx
        split at hroom <;> omega
      have ho := owner_step h.iv hb
      generalize (deqS 1 D 1 0 s.m (s.a.getD 0 fno)).2 = g at ho hr ⊢
      cases ho with
      | goon _ h0 => exact absurd h0 hr
      | take _ _ _ _ _ _ h0 => exact absurd h0 hr
      | only _ _ _ _ h0 => exact absurd h0 hr
      | pushed _ _ hg => subst hg; unfold okO; simp
      | full _ _ hg => subst hg; unfold okO; simp
      | popped _ _ _ hg => subst hg; unfold okO; simp
      | empty _ _ hg => subst hg; unfold okO; simp
      | none_ _ _ hg => subst hg; exact absurd rfl hr
    · have ho := thief_step h.iv (h.ts i hi)
      generalize (deqS 1 D 1 0 s.m (s.a.getD i fno)).2 = g at ho hr ⊢
      cases ho with
      | goon _ _ h0 => exact absurd h0 hr
      | stole _ _ _ _ hg => subst hg; unfold okO; simp; omega
      | late _ hg => rcases hg with rfl | rfl <;> (unfold okO; simp; omega)
set_option maxRecDepth 100000 in
theorem beg_over (own : List Fr) (s : PS) (i : Nat) : (beg own s i).over = s.over := by
  unfold beg
  split
  · split <;> rfl
  · rfl
set_option maxRecDepth 100000 in
theorem play1_over {D th : Int} {pops : List Bool} {s : PS} {t : Int} {L R : List Int} (h : GI D th.toNat pops s t L R) (hp : pops.length ≤ 60) (i : Int) : (play1 D th (cs pops) s i).over = s.over ∨ ∃ g, okO th.toNat g ∧ (play1 D th (cs pops) s i).over = s.over ++ [g] := by
  unfold play1
  split
  · have := step_over (h.beg (i := i.toNat) (by omega)) hp (i := i.toNat) (by omega)
    rw [beg_over] at this
    exact this
  · exact .inl rfl
set_option maxRecDepth 100000 in
/-- More steps behind: the calls that were over are the first ones. -/
theorem fold_over {D th : Int} {pops : List Bool} (hp : pops.length ≤ 60) : ∀ (who : List Int) (s : PS), (∃ t L R, GI D th.toNat pops s t L R) → ∃ o, (who.foldl (play1 D th (cs pops)) s).over = s.over ++ o ∧ o.length ≤ who.length ∧ ∀ g ∈ o, okO th.toNat g := by
  intro who
  induction who with
  | nil => exact fun s _ => ⟨[], by simp, by simp, by simp⟩
  | cons i who ih =>
    rintro s ⟨t, L, R, h⟩
    obtain ⟨o, h1, h2, h3⟩ := ih _ (h.play1 hp i)
    rcases play1_over h hp i with e | ⟨g, hg, e⟩
    · refine ⟨o, ?_, by simp; omega, h3⟩
      rw [List.foldl_cons, h1, e]
    · refine ⟨g :: o, ?_, by simp; omega, fun g' hg' => ?_⟩
      · rw [List.foldl_cons, h1, e]; simp
      · rcases List.mem_cons.1 hg' with rfl | hg'
        · exact hg
        · exact h3 g' hg'
set_option maxRecDepth 100000 in
theorem play_over {D th : Int} {pops : List Bool} (hm : may 1 D 1 0 = true) (hp : pops.length ≤ 60) (who : List Int) : (play D th (cs pops) who).over.length ≤ who.length ∧ ∀ g ∈ (play D th (cs pops) who).over, okO th.toNat g := by
  obtain ⟨o, h1, h2, h3⟩ := fold_over hp who (start D th) ⟨_, _, _, GI.start pops hm⟩
  unfold play
  rw [h1]
  exact ⟨by simpa [start] using h2, fun g hg => h3 g (by simpa [start] using hg)⟩
set_option maxRecDepth 100000 in
/-- DequeFirst, on lists. -/
theorem play_first {D th : Int} {pops : List Bool} (hm : may 1 D 1 0 = true) (hp : pops.length ≤ 60) (who who' : List Int) : ∃ o, (play D th (cs pops) (who ++ who')).over = (play D th (cs pops) who).over ++ o ∧ o.length ≤ who'.length := by
  obtain ⟨o, h1, h2, _⟩ := fold_over hp who' (play D th (cs pops) who) (GI.play hm hp who)
  refine ⟨o, ?_, h2⟩
  unfold play at h1 ⊢
  rw [List.foldl_append]
  exact h1
set_option maxRecDepth 100000 in
/-- The calls at hand. -/
theorem play_hand {D th : Int} {pops : List Bool} (hm : may 1 D 1 0 = true) (hp : pops.length ≤ 60) (who : List Int) : (play D th (cs pops) who).a.length = th.toNat + 1 ∧ ∀ i, ((play D th (cs pops) who).a.getD i fno).res = 0 ∧ (((play D th (cs pops) who).a.getD i fno).op = -1 ∨ (i = 0 ∧ (((play D th (cs pops) who).a.getD i fno).op = 0 ∨ ((play D th (cs pops) who).a.getD i fno).op = 1)) ∨ (0 < i ∧ ((play D th (cs pops) who).a.getD i fno).op = 2)) := by
  obtain ⟨t, L, R, h⟩ := GI.play (th := th) hm hp who
  refine ⟨h.len, fun i => ?_⟩
  rcases Nat.eq_zero_or_pos i with rfl | hi
  · have := h.iv.os
    generalize (play D th (cs pops) who).a.getD 0 fno = f at this
    cases this <;> simp [fno]
  · have := h.ts i hi
    generalize (play D th (cs pops) who).a.getD i fno = f at this
    cases this <;> simp [fno, hi]
set_option maxRecDepth 100000 in
/-- DequeOrder, on lists. -/
theorem play_order {D th : Int} {pops : List Bool} (hm : may 1 D 1 0 = true) (hp : pops.length ≤ 60) (who : List Int) : (ob isST (play D th (cs pops) who).over).Pairwise (· < ·) ∧ ∀ u ∈ ob isST (play D th (cs pops) who).over, 1 ≤ u := by
  obtain ⟨t, L, R, h⟩ := GI.play (th := th) hm hp who
  refine ⟨(List.pairwise_append.1 h.ch).1, fun u hu => ?_⟩
  exact (h.lim u (h.mem (List.mem_append_left _ hu))).1
set_option maxRecDepth 100000 in
theorem count_le_one {l : List Int} (h : l.Pairwise (· < ·)) (v : Int) : l.count v ≤ 1 := by
  induction l with
  | nil => simp
  | cons a l ih =>
    rw [List.pairwise_cons] at h
    rw [List.count_cons]
    split
    · rename_i e
      have e' : a = v := by simpa using e
      have : l.count v = 0 := by
        rw [List.count_eq_zero]
        intro hv
        have := h.1 v hv
        omega
      omega
    · have := ih h.2
      omega
set_option maxRecDepth 100000 in
/-- DequeOnce, on lists. -/
theorem play_once {D th : Int} {pops : List Bool} (hm : may 1 D 1 0 = true) (hp : pops.length ≤ 60) (who : List Int) {n : List Int} {k : List Fr} (hr : restL 1 D 1 0 (play D th (cs pops) who).m (play D th (cs pops) who).a = (n, k)) :
    (∀ g ∈ k, g = fno ∨ g.res ≠ 0) ∧ ∃ L, lst 1 D 1 0 n 0 = some L
      ∧ (∀ v, (ob isPO ((play D th (cs pops) who).over ++ k)).count v = (ob isTK ((play D th (cs pops) who).over ++ k)).count v + L.count v)
      ∧ (∀ v, (ob isPO ((play D th (cs pops) who).over ++ k)).count v ≤ 1)
      ∧ (∀ u ∈ ob isPO ((play D th (cs pops) who).over ++ k), 1 ≤ u ∧ u ≤ pops.length ∧ pops[(u - 1).toNat]? = some false) := by
  obtain ⟨s', ⟨t, L, R, h⟩, h2, h3, h4, h5⟩ := rest_all (I := fun s => ∃ t L R, GI D th.toNat pops s t L R) (fun _ h => h) (fun _ _ ⟨_, _, _, h⟩ hi => h.step hp hi) (th.toNat + 1) 0 (play D th (cs pops) who) (by omega) (GI.play hm hp who) (fun j hj => by omega)
  rw [List.drop_zero, hr] at h2 h4 h5
  simp only at h2 h4 h5
  have e : ∀ p, Kd p → ob p ((play D th (cs pops) who).over ++ k) = ob p s'.over := fun p hk => by rw [ob_append, h4 p hk]
  refine ⟨h5, L, ?_, fun v => ?_, fun v => ?_, fun u hu => ?_⟩
  · obtain ⟨hb, hR⟩ := h.iv.os.free (by rw [h3]; decide)
    rw [← h2]
    have hbig := h.iv.big
    have ht := h.iv.t0
    have hD := (may_lim hm).2.1
    refine lst_of h.iv.ok (t := t) ⟨h.iv.sl.top, ?_, h.iv.sl.len, h.iv.sl.at_⟩
    rw [hb]
    omega
  · obtain ⟨hb, hR⟩ := h.iv.os.free (by rw [h3]; decide)
    have := h.cnt v
    rw [hR] at this
    rw [e _ kd_po, e _ kd_tk]
    simpa using this
  · rw [e _ kd_po]; exact count_le_one h.inc v
  · rw [e _ kd_po] at hu
    obtain ⟨a1, a2, _, a4⟩ := h.lim u hu
    have := h.nx
    exact ⟨a1, by omega, a4⟩
set_option maxRecDepth 100000 in
theorem seq_snoc (D : Int) (o : List Fr) (g : Fr) : ∀ l : List Int, seqOk D l (o ++ [g]) = (seqOk D l o).bind fun l' => seqOk D l' [g] := by
  induction o with
  | nil => intro l; rfl
  | cons f o ih =>
    intro l
    rw [List.cons_append]
    simp only [seqOk]
    generalize (if f.op = 0 then f.val else 0) = z
    by_cases hc : (on l D (fbg f.op 0 z)).2.res = f.res ∧ (on l D (fbg f.op 0 z)).2.val = f.val ∧ ((on l D (fbg f.op 0 z)).1.length : Int) ≤ D
    · rw [if_pos hc, if_pos hc]
      have := ih (on l D (fbg f.op 0 z)).1
      simpa only [seqOk] using this
    · rw [if_neg hc, if_neg hc]; rfl
set_option maxRecDepth 100000 in
theorem seq_one {D : Int} {A A' : List Int} {g : Fr} (h : seqOk D A [g] = some A') : A' = (on A D (fbg g.op 0 (if g.op = 0 then g.val else 0))).1 := by
  simp only [seqOk] at h
  generalize (if g.op = 0 then g.val else 0) = z at h ⊢
  by_cases hc : (on A D (fbg g.op 0 z)).2.res = g.res ∧ (on A D (fbg g.op 0 z)).2.val = g.val ∧ ((on A D (fbg g.op 0 z)).1.length : Int) ≤ D
  · rw [if_pos hc] at h
    injection h with h
    exact h.symm
  · rw [if_neg hc] at h; cases h
set_option maxRecDepth 100000 in
/-- DequeRoom, on lists. -/
theorem play_room {D : Int} {pops : List Bool} (hm : may 1 D 1 0 = true) (hp : pops.length ≤ 60) (who : List Int) : ∃ l, seqOk D [] (play D 0 (cs pops) who).over = some l := by
  have key : ∀ (who : List Int) (s : PS), (∃ t L R, GI D (0 : Int).toNat pops s t L R ∧ seqOk D [] s.over = some (L ++ R)) → ∃ t L R, GI D (0 : Int).toNat pops (who.foldl (play1 D 0 (cs pops)) s) t L R ∧ seqOk D [] (who.foldl (play1 D 0 (cs pops)) s).over = some (L ++ R) := by
    intro who
    induction who with
    | nil => exact fun s h => h
    | cons i who ih =>
      rintro s ⟨t, L, R, h, hs⟩
      refine ih _ ?_
      unfold play1
      split
      · rename_i hi
        obtain rfl : i = 0 := by omega
        obtain ⟨t', L', R', hr, h'⟩ := (h.beg (i := 0) (by omega)).owner2 hp
        refine ⟨t', L', R', h', ?_⟩
        rw [beg_over] at hr
        change seqOk D [] (stepAt 1 D 1 0 (beg (cs pops) s 0) 0).over = _
        rcases hr with ⟨e1, e2⟩ | ⟨g, e1, e2⟩
        · rw [e1, e2]; exact hs
        · rw [e1, seq_snoc, hs]; exact e2
      · exact ⟨t, L, R, h, hs⟩
  obtain ⟨t, L, R, _, h⟩ := key who (start D 0) ⟨0, [], [], GI.start pops hm, rfl⟩
  exact ⟨_, h⟩
set_option maxRecDepth 100000 in
theorem deqS_op (W D J S : Int) (m : List Int) (f : Fr) : (deqS W D J S m f).2.op = f.op := by
  unfold deqS pushS popS stealS
  repeat' split
  all_goals rfl
/-- Of a push of 1 and a pop: what holds besides. -/
def Bo (s : PS) (A : List Int) : Prop := ((s.a.getD 0 fno).op = 1 → s.nx = 2) ∧ ((∃ g ∈ s.over, g.op = 1) → A = [] ∧ s.nx = 2)
set_option maxRecDepth 100000 in
theorem small {D : Int} {th : Nat} {s : PS} {t : Int} {L R : List Int} (h : GI D th [false, true] s t L R) : (L ++ R).length ≤ 1 := by
  have h1 : ∀ u ∈ L ++ R, u = 1 := fun u hu => by
    obtain ⟨a1, a2, _, a4⟩ := h.lim u (h.mem (List.mem_append_right _ hu))
    have h2 : (u - 1).toNat = 0 := by
      match hn : (u - 1).toNat with
      | 0 => rfl
      | 1 => rw [hn] at a4; simp at a4
      | n + 2 => rw [hn] at a4; simp at a4
    omega
  have h2 := (List.pairwise_append.1 h.ch).2.1
  match hA : L ++ R, h1, h2 with
  | [], _, _ => simp
  | [_], _, _ => simp
  | a :: b :: _, h1, h2 =>
    have e1 := h1 a (by simp)
    have e2 := h1 b (by simp)
    have := (List.pairwise_cons.1 h2).1 b (by simp)
    omega
set_option maxRecDepth 100000 in
theorem on_nil_keep {D o : Int} (h0 : ¬ o = 0) (h3 : ¬ o = 3) : (on [] D (fbg o 0 0)).1 = [] := by
  unfold on
  split
  · rfl
  split
  · rename_i h
    rcases h with h | h
    · exact absurd h h0
    · exact absurd h h3
  split
  · simp [onLast]
  split
  · simp [onFirst]
  · rfl
set_option maxRecDepth 100000 in
theorem Bo.step {D : Int} {th : Nat} {s : PS} {t : Int} {L R : List Int} (h : GI D th [false, true] s t L R) (hb : Bo s (L ++ R)) {i : Nat} (hit : i ≤ th) : ∃ t' L' R', GI D th [false, true] (stepAt 1 D 1 0 s i) t' L' R' ∧ Bo (stepAt 1 D 1 0 s i) (L' ++ R') := by
  have hnx : (stepAt 1 D 1 0 s i).nx = s.nx := by unfold stepAt; split <;> rfl
  have hsm := small h
  rcases Nat.eq_zero_or_pos i with rfl | hi
  · obtain ⟨t', L', R', hr, h'⟩ := h.owner2 (by simp)
    refine ⟨t', L', R', h', ?_, ?_⟩
    · intro e
      rw [hnx]
      apply hb.1
      have hl : 0 < s.a.length := by rw [h.len]; omega
      unfold stepAt at e
      split at e
      · simp only at e; rw [getD_set_eq hl, deqS_op] at e; exact e
      · simp only at e; rw [getD_set_eq hl] at e; simp [fno] at e
    · rintro ⟨g, hg, hop⟩
      rw [hnx]
      rcases hr with ⟨e1, e2⟩ | ⟨g', e1, e2⟩
      · rw [e1] at hg; rw [e2]; exact hb.2 ⟨g, hg, hop⟩
      · have hg'op : g'.op = (s.a.getD 0 fno).op := by
          unfold stepAt at e1
          split at e1
          · have := congrArg List.length e1; simp at this
          · have e3 := List.append_cancel_left e1
            injection e3 with e3 _
            rw [← e3]; exact deqS_op _ _ _ _ _ _
        have hcase : g'.op = 1 ∨ (∃ g ∈ s.over, g.op = 1) := by
          rw [e1] at hg
          rcases List.mem_append.1 hg with hg | hg
          · exact .inr ⟨g, hg, hop⟩
          · simp at hg; subst hg; exact .inl hop
        by_cases h1 : g'.op = 1
        · refine ⟨?_, hb.1 (by rw [← hg'op]; exact h1)⟩
          rw [seq_one e2, h1]
          generalize L ++ R = A at hsm
          match A, hsm with
          | [], _ => simp [on, fbg, onLast]
          | [a], _ => simp [on, fbg, onLast]
        · have hpo : ∃ g ∈ s.over, g.op = 1 := hcase.resolve_left h1
          obtain ⟨hA, hn2⟩ := hb.2 hpo
          -- the owner's call is no push any more
          have h0 : ¬ (s.a.getD 0 fno).op = 0 := fun e => by
            have := (h.pv e).2.2
            rw [hn2] at this
            simp at this
          rw [hA] at e2
          refine ⟨?_, hn2⟩
          rw [seq_one e2]
          rw [← hg'op] at h0
          rw [if_neg h0]
          refine on_nil_keep h0 (fun h3 => ?_)
          have hos := h.iv.os
          rw [hg'op] at h3
          generalize s.a.getD 0 fno = f at hos h3
          cases hos <;> simp [fno] at h3
  · obtain ⟨t', L', R', hr, h'⟩ := h.thief2 hi hit
    have ha0 : (stepAt 1 D 1 0 s i).a.getD 0 fno = s.a.getD 0 fno := by
      unfold stepAt
      split
      · simp only; rw [getD_set_ne (by omega)]
      · simp only; rw [getD_set_ne (by omega)]
    refine ⟨t', L', R', h', by rw [ha0, hnx]; exact hb.1, ?_⟩
    rintro ⟨g, hg, hop⟩
    rw [hnx]
    rcases hr with ⟨e1, e2⟩ | ⟨g', e1, e2, e3⟩
    · rw [e1] at hg; rw [e2]; exact hb.2 ⟨g, hg, hop⟩
    · rw [e1] at hg
      have hg2 : g ∈ s.over := by
        rcases List.mem_append.1 hg with hg | hg
        · exact hg
        · simp at hg; subst hg; omega
      obtain ⟨hA, hn2⟩ := hb.2 ⟨g, hg2, hop⟩
      refine ⟨?_, hn2⟩
      rcases e3 with e3 | ⟨u, e3⟩
      · rw [e3]; exact hA
      · rw [hA] at e3; cases e3
set_option maxRecDepth 100000 in
theorem Bo.beg {s : PS} {A : List Int} (hl : 0 < s.a.length) (hx : s.nx ≤ 2) (hb : Bo s A) (i : Nat) : Bo (beg (cs [false, true]) s i) A := by
  unfold Ytpeaahihjeplmaa.beg
  split
  · split
    · refine ⟨fun e => ?_, hb.2⟩
      simp only at e ⊢
      rw [getD_set_ne (by omega)] at e
      exact hb.1 e
    · rename_i hi
      obtain rfl : i = 0 := by omega
      match hn : s.nx, hx with
      | 0, _ =>
        refine ⟨fun e => ?_, fun e => ?_⟩
        · simp only at e; rw [getD_set_eq hl] at e; simp [cs, nxt, fbg] at e
        · have := (hb.2 e).2; omega
      | 1, _ =>
        refine ⟨fun _ => by simp [cs, nxt], fun e => ?_⟩
        have := (hb.2 e).2; omega
      | 2, _ =>
        refine ⟨fun e => ?_, fun e => ?_⟩
        · simp only at e; rw [getD_set_eq hl] at e; simp [cs, nxt, fno] at e
        · exact ⟨(hb.2 e).1, by simp [cs, nxt]⟩
  · exact hb
set_option maxRecDepth 100000 in
/-- DequeBoth, on lists. -/
theorem play_both {D th : Int} (hm : may 1 D 1 0 = true) (hth : 0 ≤ th) (who : List Int) {n : List Int} {k : List Fr} (hr : restL 1 D 1 0 (play D th (cs [false, true]) ([0, 0, 0, 0] ++ who)).m (play D th (cs [false, true]) ([0, 0, 0, 0] ++ who)).a = (n, k))
    (hq : ∃ g ∈ (play D th (cs [false, true]) ([0, 0, 0, 0] ++ who)).over ++ k, g.op = 1 ∧ g.res ≠ 0) : (ob isTK ((play D th (cs [false, true]) ([0, 0, 0, 0] ++ who)).over ++ k)).count 1 = (ob isPO ((play D th (cs [false, true]) ([0, 0, 0, 0] ++ who)).over ++ k)).count 1 := by
  have hI : ∀ s : PS, (∃ t L R, GI D th.toNat [false, true] s t L R ∧ Bo s (L ++ R)) → ∃ t L R, GI D th.toNat [false, true] s t L R := fun s ⟨t, L, R, h, _⟩ => ⟨t, L, R, h⟩
  have hS : ∀ (s : PS) (i : Nat), (∃ t L R, GI D th.toNat [false, true] s t L R ∧ Bo s (L ++ R)) → i ≤ th.toNat → ∃ t L R, GI D th.toNat [false, true] (stepAt 1 D 1 0 s i) t L R ∧ Bo (stepAt 1 D 1 0 s i) (L ++ R) := fun s i ⟨t, L, R, h, hb⟩ hi => Bo.step h hb hi
  have key : ∀ (who : List Int) (s : PS), (∃ t L R, GI D th.toNat [false, true] s t L R ∧ Bo s (L ++ R)) → ∃ t L R, GI D th.toNat [false, true] (who.foldl (play1 D th (cs [false, true])) s) t L R ∧ Bo (who.foldl (play1 D th (cs [false, true])) s) (L ++ R) := by
    intro who
    induction who with
    | nil => exact fun s h => h
    | cons i who ih =>
      rintro s ⟨t, L, R, h, hb⟩
      refine ih _ ?_
      unfold play1
      split
      · exact Bo.step (h.beg (i := i.toNat) (by omega)) (hb.beg (by rw [h.len]; omega) (by have := h.nx; simpa using this) _) (by omega)
      · exact ⟨t, L, R, h, hb⟩
  have h0 : ∃ t L R, GI D th.toNat [false, true] (start D th) t L R ∧ Bo (start D th) (L ++ R) := by
    refine ⟨_, _, _, GI.start _ hm, fun e => ?_, fun ⟨g, hg, _⟩ => by simp [start] at hg⟩
    exfalso
    revert e
    unfold start
    simp only
    rw [List.getD_eq_getElem?_getD, List.getElem?_replicate, if_pos (by omega)]
    simp [fno]
  obtain ⟨s', ⟨t, L, R, h, hb⟩, h2, h3, h4, h5⟩ := rest_all (I := fun s => ∃ t L R, GI D th.toNat [false, true] s t L R ∧ Bo s (L ++ R)) hI hS (th.toNat + 1) 0 (play D th (cs [false, true]) ([0, 0, 0, 0] ++ who)) (by omega) (key _ _ h0) (fun j hj => by omega)
  rw [List.drop_zero, hr] at h2 h4 h5
  simp only at h2 h4 h5
  -- a pop that is over is told of by its kind alone
  have kp : Kd (fun f => decide (f.op = 1) && decide (f.res ≠ 0)) := ⟨fun _ _ => rfl, fun f hf => by simp [hf]⟩
  have hov : ∃ g ∈ s'.over, g.op = 1 := by
    have e := h4 _ kp
    rw [← ob_append] at e
    obtain ⟨g, hg, ho, hz⟩ := hq
    have hne : ob (fun f => decide (f.op = 1) && decide (f.res ≠ 0)) ((play D th (cs [false, true]) ([0, 0, 0, 0] ++ who)).over ++ k) ≠ [] := by
      unfold ob
      intro e2
      rw [List.map_eq_nil_iff, List.filter_eq_nil_iff] at e2
      exact e2 g hg (by simp [ho, hz])
    rw [← e] at hne
    unfold ob at hne
    rw [Ne, List.map_eq_nil_iff, List.filter_eq_nil_iff] at hne
    apply Classical.byContradiction
    intro hx
    apply hne
    intro f hf hfp
    simp at hfp
    exact hx ⟨f, hf, hfp.1⟩
  have hA := (hb.2 hov).1
  have e : ∀ p, Kd p → ob p ((play D th (cs [false, true]) ([0, 0, 0, 0] ++ who)).over ++ k) = ob p s'.over := fun p hk => by rw [ob_append, h4 p hk]
  rw [e _ kd_tk, e _ kd_po]
  have hc := h.cnt 1
  rw [← List.count_append, hA] at hc
  simpa using hc.symm
set_option maxRecDepth 100000 in
/-- The first four steps: the push is over. -/
theorem play_four {D th : Int} (hm : may 1 D 1 0 = true) (hth : 0 ≤ th) : (play D th (cs [false, true]) [0, 0, 0, 0]).over = [⟨0, 0, 0, 1, 0, 0, 1⟩] := by
  have hD := (may_lim hm).2.1
  have hs := GI.start (th := th) [false, true] hm
  have hk := hs.iv.ok
  have hl := hs.len
  have hl0 : ∀ x : Fr, ((start D th).a.set 0 x).getD 0 fno = x := fun x => getD_set_eq (by omega) x fno
  have z : ∀ i, at0 (start D th).m i = 0 := fun i => at0_noughts _ i
  have e1 : deqS 1 D 1 0 (start D th).m (fbg 0 0 1) = ((start D th).m, ⟨0, 1, 0, 1, 0, 0, 0⟩) := by
    have := pushS_0 (v := 1) (x := 0) (y := 0) hk
    rw [z] at this
    exact this
  have e2 : deqS 1 D 1 0 (start D th).m ⟨0, 1, 0, 1, 0, 0, 0⟩ = ((start D th).m, ⟨0, 2, 0, 1, 0, 0, 0⟩) := by
    have := pushS_1 (v := 1) (x := 0) (y := 0) hk (by rw [z]; omega)
    rw [z] at this
    exact this
  have e3 : deqS 1 D 1 0 (start D th).m ⟨0, 2, 0, 1, 0, 0, 0⟩ = (put (start D th).m (sI D 1 0 0) 1, ⟨0, 3, 0, 1, 0, 0, 0⟩) := pushS_2 hk
  have e4 : deqS 1 D 1 0 (put (start D th).m (sI D 1 0 0) 1) ⟨0, 3, 0, 1, 0, 0, 0⟩ = (put (put (start D th).m (sI D 1 0 0) 1) (bg D 1 0 + 1) ((0 + 1) % 18446744073709551616), ⟨0, 0, 0, 1, 0, 0, 1⟩) := pushS_3 (okw_put hk _ _)
  have ha : (start D th).a.getD 0 fno = fno := by
    unfold start; simp only; rw [List.getD_eq_getElem?_getD, List.getElem?_replicate, if_pos (by omega)]; rfl
  have b1 : play1 D th (cs [false, true]) (start D th) 0 = ⟨(start D th).m, (start D th).a.set 0 ⟨0, 1, 0, 1, 0, 0, 0⟩, [], 1⟩ := by
    unfold play1
    rw [if_pos ⟨by omega, hth⟩]
    have hb : beg (cs [false, true]) (start D th) 0 = ⟨(start D th).m, (start D th).a.set 0 (fbg 0 0 1), [], 1⟩ := by
      unfold beg
      rw [ha, if_pos (by decide), if_neg (by omega)]
      rfl
    change stepAt 1 D 1 0 (beg (cs [false, true]) (start D th) 0) 0 = _
    rw [hb]
    unfold stepAt
    simp only
    rw [hl0]
    rw [e1]
    simp
  have nb : ∀ (m : List Int) (f : Fr) (o : List Fr) (x : Nat), 0 ≤ f.op → beg (cs [false, true]) ⟨m, (start D th).a.set 0 f, o, x⟩ 0 = ⟨m, (start D th).a.set 0 f, o, x⟩ := fun m f o x hf => by
    unfold beg; simp only; rw [hl0, if_neg (by omega)]
  have st : ∀ (m m' : List Int) (f g : Fr) (o : List Fr) (x : Nat), 0 ≤ f.op → deqS 1 D 1 0 m f = (m', g) → play1 D th (cs [false, true]) ⟨m, (start D th).a.set 0 f, o, x⟩ 0 = if g.res = 0 then ⟨m', (start D th).a.set 0 g, o, x⟩ else ⟨m', (start D th).a.set 0 fno, o ++ [{ g with who := 0 }], x⟩ := fun m m' f g o x hf hd => by
    unfold play1
    rw [if_pos ⟨by omega, hth⟩]
    change stepAt 1 D 1 0 (beg (cs [false, true]) _ 0) 0 = _
    rw [nb _ _ _ _ hf]
    unfold stepAt
    simp only
    rw [hl0, hd]
    simp
  unfold play
  simp only [List.foldl_cons, List.foldl_nil]
  rw [b1, st _ _ _ _ _ _ (by simp) e2, if_pos rfl, st _ _ _ _ _ _ (by simp) e3, if_pos rfl, st _ _ _ _ _ _ (by simp) e4, if_neg (by simp)]
  rfl
end Go.Proofs.Ytpeaahihjeplmaa
