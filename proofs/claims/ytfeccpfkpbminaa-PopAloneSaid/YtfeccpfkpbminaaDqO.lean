/- A pop and a steal, step by step, on lists. -/
import Derived.Test.YtfeccpfkpbminaaDqP
namespace Go.Proofs.Ytfeccpfkpbminaa
open Go.RowKit Go.Deep
/-- So many steps. -/
def itN (g : List Int → Fr → List Int × Fr) : Nat → List Int × Fr → List Int × Fr
  | 0, s => s
  | k + 1, s => g (itN g k s).1 (itN g k s).2
theorem itN_stay {g : List Int → Fr → List Int × Fr} (hg : ∀ m f, f.res ≠ 0 → g m f = (m, f)) {k : Nat} {s : List Int × Fr} (h : (itN g k s).2.res ≠ 0) (j : Nat) : itN g (k + j) s = itN g k s := by
  induction j with
  | zero => rfl
  | succ j ih => show g (itN g (k + j) s).1 (itN g (k + j) s).2 = _; rw [ih, hg _ _ h]
theorem itN_inv {g : List Int → Fr → List Int × Fr} {P : List Int → Fr → Prop} (hg : ∀ m f, P m f → P (g m f).1 (g m f).2) {s : List Int × Fr} (h : P s.1 s.2) (k : Nat) : P (itN g k s).1 (itN g k s).2 := by
  induction k with
  | zero => exact h
  | succ k ih => exact hg _ _ ih
theorem itN_one {g : List Int → Fr → List Int × Fr} {k : Nat} {s t : List Int × Fr} (h : itN g k s = t) : itN g (k + 1) s = g t.1 t.2 := by rw [← h]; rfl
/-- One step of a pop. -/
def popS (W D J S : Int) (m : List Int) (f : Fr) : List Int × Fr :=
  if goes W D J S m f 1 7 = true then
    if f.pc = 0 then (m, { f with x := (at0 m (bg D J f.who + 1) - 1) % 18446744073709551616, pc := 1 })
    else if f.pc = 1 then (put m (bg D J f.who + 1) f.x, { f with pc := 2 })
    else if f.pc = 2 then (m, { f with y := at0 m (bg D J f.who), pc := if far f.x (at0 m (bg D J f.who)) < 0 then 6 else 3 })
    else if f.pc = 3 then
      if f.x = f.y then (m, { f with val := at0 m (sI D J f.who f.x), pc := 4 }) else (m, ed f 1 (at0 m (sI D J f.who f.x)))
    else if f.pc = 4 then
      if at0 m (bg D J f.who) = f.y then (put m (bg D J f.who) ((f.y + 1) % 18446744073709551616), { f with pc := 5 }) else (m, { f with pc := 6 })
    else if f.pc = 5 then (put m (bg D J f.who + 1) ((f.x + 1) % 18446744073709551616), ed f 1 f.val)
    else (put m (bg D J f.who + 1) ((f.x + 1) % 18446744073709551616), ed f 3 0)
  else (m, f)
theorem popS_len (W D J S : Int) (m : List Int) (f : Fr) : (popS W D J S m f).1.length = m.length := by
  unfold popS
  repeat' split
  all_goals simp [len_put]
theorem popS_U {W D J S : Int} {m : List Int} {f : Fr} (hm : UM m) (hf : UF f) : UM (popS W D J S m f).1 ∧ UF (popS W D J S m f).2 := by
  obtain ⟨h1, h2, h3⟩ := hf
  have z : U 0 := by unfold U; omega
  unfold popS
  split
  · split
    · exact ⟨hm, h1, mod_U _, h3⟩
    split
    · exact ⟨put_U hm _ h2, h1, h2, h3⟩
    split
    · exact ⟨hm, h1, h2, at0_U hm _⟩
    split
    · split
      · exact ⟨hm, at0_U hm _, h2, h3⟩
      · exact ⟨hm, at0_U hm _, z, z⟩
    split
    · split
      · exact ⟨put_U hm _ (mod_U _), h1, h2, h3⟩
      · exact ⟨hm, h1, h2, h3⟩
    split
    · exact ⟨put_U hm _ (mod_U _), h1, z, z⟩
    · exact ⟨put_U hm _ (mod_U _), z, z, z⟩
  · exact ⟨hm, h1, h2, h3⟩
theorem popS_over {W D J S : Int} (m : List Int) (f : Fr) (h : f.res ≠ 0) : popS W D J S m f = (m, f) := by
  unfold popS
  rw [if_neg]
  intro h'
  exact h (goes_iff.1 h').2.1
section
variable {W D J S : Int} {m : List Int} {w v x y : Int}
theorem popS_0 (h : okw W D J S m w = true) : popS W D J S m ⟨1, 0, w, v, x, y, 0⟩ = (m, ⟨1, 1, w, v, (at0 m (bg D J w + 1) - 1) % 18446744073709551616, y, 0⟩) := by
  unfold popS
  rw [if_pos (goes_iff.2 ⟨h, rfl, rfl, by simp, by simp⟩)]
  simp
theorem popS_1 (h : okw W D J S m w = true) : popS W D J S m ⟨1, 1, w, v, x, y, 0⟩ = (put m (bg D J w + 1) x, ⟨1, 2, w, v, x, y, 0⟩) := by
  unfold popS
  rw [if_pos (goes_iff.2 ⟨h, rfl, rfl, by simp, by simp⟩)]
  simp
theorem popS_2 (h : okw W D J S m w = true) : popS W D J S m ⟨1, 2, w, v, x, y, 0⟩ = (m, ⟨1, if far x (at0 m (bg D J w)) < 0 then 6 else 3, w, v, x, at0 m (bg D J w), 0⟩) := by
  unfold popS
  rw [if_pos (goes_iff.2 ⟨h, rfl, rfl, by simp, by simp⟩)]
  simp
theorem popS_3 (h : okw W D J S m w = true) : popS W D J S m ⟨1, 3, w, v, x, y, 0⟩ = if x = y then (m, ⟨1, 4, w, at0 m (sI D J w x), x, y, 0⟩) else (m, ⟨1, 0, w, at0 m (sI D J w x), 0, 0, 1⟩) := by
  unfold popS
  rw [if_pos (goes_iff.2 ⟨h, rfl, rfl, by simp, by simp⟩)]
  simp [ed]
theorem popS_4 (h : okw W D J S m w = true) : popS W D J S m ⟨1, 4, w, v, x, y, 0⟩ = if at0 m (bg D J w) = y then (put m (bg D J w) ((y + 1) % 18446744073709551616), ⟨1, 5, w, v, x, y, 0⟩) else (m, ⟨1, 6, w, v, x, y, 0⟩) := by
  unfold popS
  rw [if_pos (goes_iff.2 ⟨h, rfl, rfl, by simp, by simp⟩)]
  simp
theorem popS_5 (h : okw W D J S m w = true) : popS W D J S m ⟨1, 5, w, v, x, y, 0⟩ = (put m (bg D J w + 1) ((x + 1) % 18446744073709551616), ⟨1, 0, w, v, 0, 0, 1⟩) := by
  unfold popS
  rw [if_pos (goes_iff.2 ⟨h, rfl, rfl, by simp, by simp⟩)]
  simp [ed]
theorem popS_6 (h : okw W D J S m w = true) : popS W D J S m ⟨1, 6, w, v, x, y, 0⟩ = (put m (bg D J w + 1) ((x + 1) % 18446744073709551616), ⟨1, 0, w, 0, 0, 0, 3⟩) := by
  unfold popS
  rw [if_pos (goes_iff.2 ⟨h, rfl, rfl, by simp, by simp⟩)]
  simp [ed]
end
/-- The first three steps of a pop. -/
theorem pop_three {W D J S : Int} {m : List Int} {w v : Int} (hk : okw W D J S m w = true) :
    itN (popS W D J S) 3 (m, fbg 1 w v) = (put m (bg D J w + 1) ((at0 m (bg D J w + 1) - 1) % 18446744073709551616), ⟨1, if far ((at0 m (bg D J w + 1) - 1) % 18446744073709551616) (at0 m (bg D J w)) < 0 then 6 else 3, w, v, (at0 m (bg D J w + 1) - 1) % 18446744073709551616, at0 m (bg D J w), 0⟩) := by
  have e1 : itN (popS W D J S) 1 (m, fbg 1 w v) = (m, ⟨1, 1, w, v, (at0 m (bg D J w + 1) - 1) % 18446744073709551616, 0, 0⟩) := popS_0 (m := m) (v := v) (x := 0) (y := 0) hk
  have e2 := itN_one e1
  simp only at e2
  rw [popS_1 hk] at e2
  have e3 := itN_one e2
  simp only at e3
  rw [popS_2 (by rw [okw_len (m := m) (len_put _ _ _)]; exact hk), at0_put_ne _ _ (by omega)] at e3
  exact e3
/-- Whatever a deque is like, a pop is over behind seven steps. -/
theorem pop_over {W D J S : Int} {m : List Int} {w v : Int} (hk : okw W D J S m w = true) :
    (itN (popS W D J S) 7 (m, fbg 1 w v)).2.res = 1 ∨ ((itN (popS W D J S) 7 (m, fbg 1 w v)).2.res = 3 ∧ (itN (popS W D J S) 7 (m, fbg 1 w v)).2.val = 0) := by
  have e3 := pop_three (v := v) hk
  have ho : ∀ i u m', m'.length = m.length → okw W D J S (put m' i u) w = true := fun i u m' h => by rw [okw_len (m := m) (by rw [len_put]; exact h)]; exact hk
  generalize hx : (at0 m (bg D J w + 1) - 1) % 18446744073709551616 = x at e3
  generalize hy : at0 m (bg D J w) = y at e3
  have e4 := itN_one e3
  simp only at e4
  by_cases h0 : far x y < 0
  · rw [if_pos h0, popS_6 (ho _ _ _ rfl)] at e4
    rw [show (7 : Nat) = 4 + 3 from rfl, itN_stay popS_over (by rw [e4]; simp), e4]
    exact .inr ⟨rfl, rfl⟩
  · rw [if_neg h0, popS_3 (ho _ _ _ rfl)] at e4
    by_cases h1 : x = y
    · rw [if_pos h1] at e4
      have e5 := itN_one e4
      simp only at e5
      rw [popS_4 (ho _ _ _ rfl)] at e5
      by_cases h2 : at0 (put m (bg D J w + 1) x) (bg D J w) = y
      · rw [if_pos h2] at e5
        have e6 := itN_one e5
        simp only at e6
        rw [popS_5 (ho _ _ _ (len_put _ _ _))] at e6
        rw [show (7 : Nat) = 6 + 1 from rfl, itN_stay popS_over (by rw [e6]; simp), e6]
        exact .inl rfl
      · rw [if_neg h2] at e5
        have e6 := itN_one e5
        simp only at e6
        rw [popS_6 (ho _ _ _ rfl)] at e6
        rw [show (7 : Nat) = 6 + 1 from rfl, itN_stay popS_over (by rw [e6]; simp), e6]
        exact .inr ⟨rfl, rfl⟩
    · rw [if_neg h1] at e4
      rw [show (7 : Nat) = 4 + 3 from rfl, itN_stay popS_over (by rw [e4]; simp), e4]
      exact .inl rfl
/-- A pop, alone, where there is nothing. -/
theorem pop_nil {W D J S : Int} {m : List Int} {w t v : Int} (hu : UM m) (hk : okw W D J S m w = true) (h : Vw D J m w t []) : itN (popS W D J S) 7 (m, fbg 1 w v) = (m, ⟨1, 0, w, 0, 0, 0, 3⟩) := by
  have e3 := pop_three (v := v) hk
  have ht : U t := by rw [← h.top]; exact at0_U hu _
  have hb := h.bot
  simp only [List.length_nil] at hb
  rw [h.top] at e3
  have hx : (at0 m (bg D J w + 1) - 1) % 18446744073709551616 = (t - 1) % 18446744073709551616 := by rw [hb]; omega
  have hf : far ((t - 1) % 18446744073709551616) t < 0 := by unfold far wrap64; unfold U at ht; omega
  rw [hx, if_pos hf] at e3
  have e4 := itN_one e3
  simp only at e4
  rw [popS_6 (by rw [okw_len (m := m) (len_put _ _ _)]; exact hk), put_put, show ((t - 1) % 18446744073709551616 + 1) % 18446744073709551616 = at0 m (bg D J w + 1) by rw [hb]; omega, put_at0] at e4
  rw [show (7 : Nat) = 4 + 3 from rfl, itN_stay popS_over (by rw [e4]; simp), e4]
/-- The list without its last number. -/
theorem Vw.less {W D J S : Int} {m : List Int} {w t : Int} {l : List Int} {u : Int} (hk : okw W D J S m w = true) (h : Vw D J m w t (l ++ [u])) : Vw D J (put m (bg D J w + 1) ((t + l.length) % 18446744073709551616)) w t l := by
  obtain ⟨hm, hlen, h0, h1⟩ := okw_iff.1 hk
  obtain ⟨hW, hD, hJ, hS⟩ := may_lim hm
  have hb := bg_step (J := J) hD.1 h1
  have hg := bg_ge (J := J) (w := w) hD.1 hJ.1 h0
  have hl := h.len
  simp only [List.length_append, List.length_singleton] at hl
  refine ⟨?_, ?_, by omega, fun i z hi => ?_⟩
  · rw [at0_put_ne _ _ (by omega)]; exact h.top
  · rw [at0_put _ (by omega) (by omega)]
  · have hs := sI_lim (J := J) (w := w) hD.1 (t + i)
    rw [at0_put_ne _ _ (by omega)]
    exact h.at_ i z (by rw [List.getElem?_append_left (List.getElem?_eq_some_iff.1 hi).1]; exact hi)
/-- The list without its first number. -/
theorem Vw.tail {W D J S : Int} {m : List Int} {w t : Int} {l : List Int} {u : Int} (hk : okw W D J S m w = true) (h : Vw D J m w t (u :: l)) : Vw D J (put m (bg D J w) ((t + 1) % 18446744073709551616)) w ((t + 1) % 18446744073709551616) l := by
  obtain ⟨hm, hlen, h0, h1⟩ := okw_iff.1 hk
  obtain ⟨hW, hD, hJ, hS⟩ := may_lim hm
  have hb := bg_step (J := J) hD.1 h1
  have hg := bg_ge (J := J) (w := w) hD.1 hJ.1 h0
  have hl := h.len
  simp only [List.length_cons] at hl
  refine ⟨?_, ?_, by omega, fun i z hi => ?_⟩
  · rw [at0_put _ (by omega) (by omega)]
  · rw [at0_put_ne _ _ (by omega), h.bot]
    simp only [List.length_cons]; omega
  · have hs := sI_lim (J := J) (w := w) hD.1 ((t + 1) % 18446744073709551616 + i)
    rw [at0_put_ne _ _ (by omega)]
    have e : sI D J w ((t + 1) % 18446744073709551616 + i) = sI D J w (t + (i + 1 : Nat)) := by
      rw [← sI_mod hm, show ((t + 1) % 18446744073709551616 + (i : Int)) % 18446744073709551616 = (t + ((i + 1 : Nat) : Int)) % 18446744073709551616 by omega, sI_mod hm]
    rw [e]
    exact h.at_ (i + 1) z (by simpa using hi)
/-- A pop, alone, where there is something: what is taken is the last one. -/
theorem pop_last {W D J S : Int} {m : List Int} {w t v : Int} {l : List Int} {u : Int} (hu : UM m) (hk : okw W D J S m w = true) (h : Vw D J m w t (l ++ [u])) :
    ∃ m' t', itN (popS W D J S) 7 (m, fbg 1 w v) = (m', ⟨1, 0, w, u, 0, 0, 1⟩) ∧ okw W D J S m' w = true ∧ Vw D J m' w t' l := by
  obtain ⟨hm, hlen, h0, h1⟩ := okw_iff.1 hk
  obtain ⟨hW, hD, hJ, hS⟩ := may_lim hm
  have hg := bg_ge (J := J) (w := w) hD.1 hJ.1 h0
  have hst := bg_step (J := J) hD.1 h1
  have e3 := pop_three (v := v) hk
  have ht : U t := by rw [← h.top]; exact at0_U hu _
  have hb := h.bot
  have hl := h.len
  simp only [List.length_append, List.length_singleton] at hb hl
  rw [h.top] at e3
  have hx : (at0 m (bg D J w + 1) - 1) % 18446744073709551616 = (t + l.length) % 18446744073709551616 := by rw [hb]; omega
  have hf : far ((t + l.length) % 18446744073709551616) t = l.length := far_eq (by omega)
  rw [hx, hf, if_neg (by omega)] at e3
  have ho : okw W D J S (put m (bg D J w + 1) ((t + l.length) % 18446744073709551616)) w = true := by rw [okw_len (m := m) (len_put _ _ _)]; exact hk
  have hv : at0 (put m (bg D J w + 1) ((t + l.length) % 18446744073709551616)) (sI D J w ((t + l.length) % 18446744073709551616)) = u := by
    have hs := sI_lim (J := J) (w := w) hD.1 ((t + l.length) % 18446744073709551616)
    rw [at0_put_ne _ _ (by omega), sI_mod hm]
    exact h.at_ l.length u (by simp)
  have e4 := itN_one e3
  simp only at e4
  rw [popS_3 ho, hv] at e4
  unfold U at ht
  by_cases hn : (t + (l.length : Int)) % 18446744073709551616 = t
  · have hl0 : l = [] := by
      apply List.eq_nil_of_length_eq_zero
      omega
    subst hl0
    rw [if_pos hn] at e4
    have e5 := itN_one e4
    simp only at e5
    rw [popS_4 ho, if_pos (by rw [at0_put_ne _ _ (by omega)]; exact h.top)] at e5
    have e6 := itN_one e5
    simp only at e6
    have ho5 : okw W D J S (put (put m (bg D J w + 1) ((t + ([] : List Int).length) % 18446744073709551616)) (bg D J w) ((t + 1) % 18446744073709551616)) w = true := by rw [okw_len (m := m) (by rw [len_put, len_put])]; exact hk
    rw [popS_5 ho5] at e6
    refine ⟨_, (t + 1) % 18446744073709551616, by rw [show (7 : Nat) = 6 + 1 from rfl, itN_stay popS_over (by rw [e6]; simp), e6], by rw [okw_len (m := m) (by rw [len_put, len_put, len_put])]; exact hk, ?_⟩
    refine ⟨?_, ?_, by simp; omega, fun i z hi => by simp at hi⟩
    · rw [at0_put_ne _ _ (by omega), at0_put _ (by omega) (by rw [len_put]; omega)]
    · rw [at0_put _ (by omega) (by rw [len_put, len_put]; omega)]
      simp only [List.length_nil]; omega
  · rw [if_neg hn] at e4
    exact ⟨_, t, by rw [show (7 : Nat) = 4 + 3 from rfl, itN_stay popS_over (by rw [e4]; simp), e4], ho, h.less hk⟩
/-- PopAlone, on lists. -/
theorem pop_alone {W D J S : Int} {m : List Int} {w v : Int} {l : List Int} (hu : UM m) (h : lst W D J S m w = some l) :
    (itN (popS W D J S) 7 (m, fbg 1 w v)).2 = (on l D (fbg 1 w v)).2 ∧ lst W D J S (itN (popS W D J S) 7 (m, fbg 1 w v)).1 w = some (on l D (fbg 1 w v)).1 := by
  obtain ⟨hk, hv⟩ := lst_some hu h
  have eo : on l D (fbg 1 w v) = onLast l (fbg 1 w v) := by simp [on, fbg]
  rw [eo]
  rcases List.eq_nil_or_concat l with rfl | ⟨t, u, rfl⟩
  · rw [pop_nil hu hk hv]
    exact ⟨rfl, h⟩
  · rw [List.concat_eq_append] at *
    obtain ⟨m', t', e, h1, h2⟩ := pop_last (v := v) hu hk hv
    rw [e, onLast_snoc]
    exact ⟨rfl, lst_of h1 h2⟩
/-- Which cells a step of a pop may change. -/
theorem popS_cells {W D J S : Int} {m : List Int} {f : Fr} {i : Int} (h : at0 (popS W D J S m f).1 i ≠ at0 m i) : goes W D J S m f 1 7 = true ∧ (i = bg D J f.who + 1 ∧ f.pc ≠ 4 ∨ i = bg D J f.who ∧ f.pc = 4) := by
  have key : ∀ {q u : Int}, at0 (put m q u) i ≠ at0 m i → i = q := fun hne => by
    apply Classical.byContradiction
    intro hi
    exact hne (at0_put_ne _ _ (fun e => hi e.symm))
  unfold popS at h
  split at h
  · rename_i hg
    refine ⟨hg, ?_⟩
    split at h
    · exact absurd rfl h
    split at h
    · exact .inl ⟨key h, by omega⟩
    split at h
    · exact absurd rfl h
    split at h
    · split at h <;> exact absurd rfl h
    split at h
    · split at h
      · exact .inr ⟨key h, by assumption⟩
      · exact absurd rfl h
    split at h
    · exact .inl ⟨key h, by assumption⟩
    · exact .inl ⟨key h, by assumption⟩
  · exact absurd rfl h
/-- One step of a steal. -/
def stealS (W D J S : Int) (m : List Int) (f : Fr) : List Int × Fr :=
  if goes W D J S m f 2 4 = true then
    if f.pc = 0 then (m, { f with y := at0 m (bg D J f.who), pc := 1 })
    else if f.pc = 1 then
      if far (at0 m (bg D J f.who + 1)) f.y ≤ 0 then (m, ed f 3 0) else (m, { f with x := at0 m (bg D J f.who + 1), pc := 2 })
    else if f.pc = 2 then (m, { f with val := at0 m (sI D J f.who f.y), pc := 3 })
    else if at0 m (bg D J f.who) = f.y then (put m (bg D J f.who) ((f.y + 1) % 18446744073709551616), ed f 1 f.val) else (m, ed f 4 0)
  else (m, f)
theorem stealS_len (W D J S : Int) (m : List Int) (f : Fr) : (stealS W D J S m f).1.length = m.length := by
  unfold stealS
  repeat' split
  all_goals simp [len_put]
theorem stealS_U {W D J S : Int} {m : List Int} {f : Fr} (hm : UM m) (hf : UF f) : UM (stealS W D J S m f).1 ∧ UF (stealS W D J S m f).2 := by
  obtain ⟨h1, h2, h3⟩ := hf
  have z : U 0 := by unfold U; omega
  unfold stealS
  split
  · split
    · exact ⟨hm, h1, h2, at0_U hm _⟩
    split
    · split
      · exact ⟨hm, z, z, z⟩
      · exact ⟨hm, h1, at0_U hm _, h3⟩
    split
    · exact ⟨hm, at0_U hm _, h2, h3⟩
    split
    · exact ⟨put_U hm _ (mod_U _), h1, z, z⟩
    · exact ⟨hm, z, z, z⟩
  · exact ⟨hm, h1, h2, h3⟩
theorem stealS_over {W D J S : Int} (m : List Int) (f : Fr) (h : f.res ≠ 0) : stealS W D J S m f = (m, f) := by
  unfold stealS
  rw [if_neg]
  intro h'
  exact h (goes_iff.1 h').2.1
section
variable {W D J S : Int} {m : List Int} {w v x y : Int}
theorem stealS_0 (h : okw W D J S m w = true) : stealS W D J S m ⟨2, 0, w, v, x, y, 0⟩ = (m, ⟨2, 1, w, v, x, at0 m (bg D J w), 0⟩) := by
  unfold stealS
  rw [if_pos (goes_iff.2 ⟨h, rfl, rfl, by simp, by simp⟩)]
  simp
theorem stealS_1 (h : okw W D J S m w = true) : stealS W D J S m ⟨2, 1, w, v, x, y, 0⟩ = if far (at0 m (bg D J w + 1)) y ≤ 0 then (m, ⟨2, 0, w, 0, 0, 0, 3⟩) else (m, ⟨2, 2, w, v, at0 m (bg D J w + 1), y, 0⟩) := by
  unfold stealS
  rw [if_pos (goes_iff.2 ⟨h, rfl, rfl, by simp, by simp⟩)]
  simp [ed]
theorem stealS_2 (h : okw W D J S m w = true) : stealS W D J S m ⟨2, 2, w, v, x, y, 0⟩ = (m, ⟨2, 3, w, at0 m (sI D J w y), x, y, 0⟩) := by
  unfold stealS
  rw [if_pos (goes_iff.2 ⟨h, rfl, rfl, by simp, by simp⟩)]
  simp
theorem stealS_3 (h : okw W D J S m w = true) : stealS W D J S m ⟨2, 3, w, v, x, y, 0⟩ = if at0 m (bg D J w) = y then (put m (bg D J w) ((y + 1) % 18446744073709551616), ⟨2, 0, w, v, 0, 0, 1⟩) else (m, ⟨2, 0, w, 0, 0, 0, 4⟩) := by
  unfold stealS
  rw [if_pos (goes_iff.2 ⟨h, rfl, rfl, by simp, by simp⟩)]
  simp [ed]
end
/-- A steal, alone, where there is nothing. -/
theorem steal_nil {W D J S : Int} {m : List Int} {w t v : Int} (hk : okw W D J S m w = true) (h : Vw D J m w t []) : itN (stealS W D J S) 4 (m, fbg 2 w v) = (m, ⟨2, 0, w, 0, 0, 0, 3⟩) := by
  have e1 : itN (stealS W D J S) 1 (m, fbg 2 w v) = (m, ⟨2, 1, w, v, 0, t, 0⟩) := by
    rw [← h.top]; exact stealS_0 (m := m) (v := v) (x := 0) (y := 0) hk
  have e2 := itN_one e1
  simp only at e2
  rw [stealS_1 hk, if_pos (by rw [h.bot]; simp only [List.length_nil]; rw [far_eq (by omega)]; omega)] at e2
  rw [show (4 : Nat) = 2 + 2 from rfl, itN_stay stealS_over (by rw [e2]; simp), e2]
/-- The first three steps of a steal, alone, where there is something. -/
theorem steal_three {W D J S : Int} {m : List Int} {w t v u : Int} {l : List Int} (hk : okw W D J S m w = true) (h : Vw D J m w t (u :: l)) :
    itN (stealS W D J S) 1 (m, fbg 2 w v) = (m, ⟨2, 1, w, v, 0, t, 0⟩) ∧ itN (stealS W D J S) 2 (m, fbg 2 w v) = (m, ⟨2, 2, w, v, at0 m (bg D J w + 1), t, 0⟩) ∧ itN (stealS W D J S) 3 (m, fbg 2 w v) = (m, ⟨2, 3, w, u, at0 m (bg D J w + 1), t, 0⟩) := by
  have hD := (may_lim (okw_iff.1 hk).1).2.1
  have hl := h.len
  have e1 : itN (stealS W D J S) 1 (m, fbg 2 w v) = (m, ⟨2, 1, w, v, 0, t, 0⟩) := by
    rw [← h.top]; exact stealS_0 (m := m) (v := v) (x := 0) (y := 0) hk
  have e2 := itN_one e1
  simp only at e2
  rw [stealS_1 hk, if_neg (by rw [h.bot, far_eq (by omega)]; simp only [List.length_cons]; omega)] at e2
  have e3 := itN_one e2
  simp only at e3
  rw [stealS_2 hk, show at0 m (sI D J w t) = u by have := h.at_ 0 u rfl; simpa using this] at e3
  exact ⟨e1, e2, e3⟩
/-- A steal, alone, where there is something. -/
theorem steal_first {W D J S : Int} {m : List Int} {w t v u : Int} {l : List Int} (hk : okw W D J S m w = true) (h : Vw D J m w t (u :: l)) :
    itN (stealS W D J S) 4 (m, fbg 2 w v) = (put m (bg D J w) ((t + 1) % 18446744073709551616), ⟨2, 0, w, u, 0, 0, 1⟩) := by
  obtain ⟨_, _, e3⟩ := steal_three (v := v) hk h
  have e4 := itN_one e3
  simp only at e4
  rw [stealS_3 hk, if_pos h.top] at e4
  exact e4
/-- StealAlone, on lists. -/
theorem steal_alone {W D J S : Int} {m : List Int} {w v : Int} {l : List Int} (hu : UM m) (h : lst W D J S m w = some l) :
    (itN (stealS W D J S) 4 (m, fbg 2 w v)).2 = (on l D (fbg 2 w v)).2 ∧ lst W D J S (itN (stealS W D J S) 4 (m, fbg 2 w v)).1 w = some (on l D (fbg 2 w v)).1 := by
  obtain ⟨hk, hv⟩ := lst_some hu h
  have eo : on l D (fbg 2 w v) = onFirst l (fbg 2 w v) := by simp [on, fbg]
  rw [eo]
  rcases l with _ | ⟨u, l⟩
  · rw [steal_nil hk hv]
    exact ⟨rfl, h⟩
  · rw [steal_first hk hv]
    exact ⟨rfl, lst_of (by rw [okw_len (m := m) (len_put _ _ _)]; exact hk) (hv.tail hk)⟩
/-- Which cell a step of a steal may change. -/
theorem stealS_cells {W D J S : Int} {m : List Int} {f : Fr} {i : Int} (h : at0 (stealS W D J S m f).1 i ≠ at0 m i) : goes W D J S m f 2 4 = true ∧ i = bg D J f.who ∧ f.pc = 3 ∧ at0 m i = f.y ∧ (stealS W D J S m f).1 = put m i ((f.y + 1) % 18446744073709551616) ∧ (stealS W D J S m f).2 = ed f 1 f.val := by
  have key : ∀ {q u : Int}, at0 (put m q u) i ≠ at0 m i → i = q := fun hne => by
    apply Classical.byContradiction
    intro hi
    exact hne (at0_put_ne _ _ (fun e => hi e.symm))
  unfold stealS at h ⊢
  split at h
  · rename_i hg
    rw [if_pos hg]
    obtain ⟨_, _, _, h0, h4⟩ := goes_iff.1 hg
    split at h
    · exact absurd rfl h
    rename_i p0
    rw [if_neg p0]
    split at h
    · split at h <;> exact absurd rfl h
    rename_i p1
    rw [if_neg p1]
    split at h
    · exact absurd rfl h
    rename_i p2
    rw [if_neg p2]
    split at h
    · rename_i hy
      rw [if_pos hy]
      have e := key h
      subst e
      exact ⟨hg, rfl, by omega, hy, rfl, rfl⟩
    · exact absurd rfl h
  · exact absurd rfl h
end Go.Proofs.Ytfeccpfkpbminaa
