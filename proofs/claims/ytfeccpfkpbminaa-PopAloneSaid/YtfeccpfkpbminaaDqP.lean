/- A push, step by step, on lists. -/
import Derived.Test.YtfeccpfkpbminaaDqM
namespace Go.Proofs.Ytfeccpfkpbminaa
open Go.RowKit Go.Deep
/-- A call goes on. -/
def goes (W D J S : Int) (m : List Int) (f : Fr) (op pcs : Int) : Bool := okw W D J S m f.who && decide (f.res = 0) && decide (f.op = op) && decide (0 ≤ f.pc) && decide (f.pc < pcs)
theorem goes_iff {W D J S : Int} {m : List Int} {f : Fr} {op pcs : Int} : goes W D J S m f op pcs = true ↔ okw W D J S m f.who = true ∧ f.res = 0 ∧ f.op = op ∧ 0 ≤ f.pc ∧ f.pc < pcs := by
  unfold goes
  simp only [Bool.and_eq_true, decide_eq_true_eq]
  constructor
  · rintro ⟨⟨⟨⟨a, b⟩, c⟩, d⟩, e⟩; exact ⟨a, b, c, d, e⟩
  · rintro ⟨a, b, c, d, e⟩; exact ⟨⟨⟨⟨a, b⟩, c⟩, d⟩, e⟩
/-- One step of a push. -/
def pushS (W D J S : Int) (m : List Int) (f : Fr) : List Int × Fr :=
  if goes W D J S m f 0 4 = true then
    if f.pc = 0 then (m, { f with x := at0 m (bg D J f.who + 1), pc := 1 })
    else if f.pc = 1 then
      if D ≤ (f.x - at0 m (bg D J f.who)) % 18446744073709551616 then (m, ed f 2 f.val) else (m, { f with y := at0 m (bg D J f.who), pc := 2 })
    else if f.pc = 2 then (put m (sI D J f.who f.x) f.val, { f with pc := 3 })
    else (put m (bg D J f.who + 1) ((f.x + 1) % 18446744073709551616), ed f 1 f.val)
  else (m, f)
theorem pushS_len (W D J S : Int) (m : List Int) (f : Fr) : (pushS W D J S m f).1.length = m.length := by
  unfold pushS
  repeat' split
  all_goals simp [len_put]
theorem pushS_U {W D J S : Int} {m : List Int} {f : Fr} (hm : UM m) (hf : UF f) : UM (pushS W D J S m f).1 ∧ UF (pushS W D J S m f).2 := by
  obtain ⟨h1, h2, h3⟩ := hf
  have z : U 0 := by unfold U; omega
  unfold pushS
  repeat' split
  · exact ⟨hm, h1, at0_U hm _, h3⟩
  · exact ⟨hm, h1, z, z⟩
  · exact ⟨hm, h1, h2, at0_U hm _⟩
  · exact ⟨put_U hm _ h1, h1, h2, h3⟩
  · exact ⟨put_U hm _ (mod_U _), h1, z, z⟩
  · exact ⟨hm, h1, h2, h3⟩
theorem pushS_over {W D J S : Int} {m : List Int} {f : Fr} (h : f.res ≠ 0) : pushS W D J S m f = (m, f) := by
  unfold pushS
  rw [if_neg]
  intro h'
  exact h (goes_iff.1 h').2.1
theorem pushS_who (W D J S : Int) (m : List Int) (f : Fr) : (pushS W D J S m f).2.who = f.who := by
  unfold pushS
  repeat' split
  all_goals rfl
/-- The steps of a push, one by one. -/
theorem pushS_0 {W D J S : Int} {m : List Int} {w v x y : Int} (h : okw W D J S m w = true) : pushS W D J S m ⟨0, 0, w, v, x, y, 0⟩ = (m, ⟨0, 1, w, v, at0 m (bg D J w + 1), y, 0⟩) := by
  unfold pushS
  rw [if_pos (goes_iff.2 ⟨h, rfl, rfl, by simp, by simp⟩), if_pos rfl]
theorem pushS_1f {W D J S : Int} {m : List Int} {w v x y : Int} (h : okw W D J S m w = true) (hf : D ≤ (x - at0 m (bg D J w)) % 18446744073709551616) : pushS W D J S m ⟨0, 1, w, v, x, y, 0⟩ = (m, ⟨0, 0, w, v, 0, 0, 2⟩) := by
  unfold pushS
  rw [if_pos (goes_iff.2 ⟨h, rfl, rfl, by simp, by simp⟩), if_neg (by simp), if_pos rfl, if_pos hf]; rfl
theorem pushS_1 {W D J S : Int} {m : List Int} {w v x y : Int} (h : okw W D J S m w = true) (hf : (x - at0 m (bg D J w)) % 18446744073709551616 < D) : pushS W D J S m ⟨0, 1, w, v, x, y, 0⟩ = (m, ⟨0, 2, w, v, x, at0 m (bg D J w), 0⟩) := by
  unfold pushS
  rw [if_pos (goes_iff.2 ⟨h, rfl, rfl, by simp, by simp⟩), if_neg (by simp), if_pos rfl, if_neg (by simp only; omega)]
theorem pushS_2 {W D J S : Int} {m : List Int} {w v x y : Int} (h : okw W D J S m w = true) : pushS W D J S m ⟨0, 2, w, v, x, y, 0⟩ = (put m (sI D J w x) v, ⟨0, 3, w, v, x, y, 0⟩) := by
  unfold pushS
  rw [if_pos (goes_iff.2 ⟨h, rfl, rfl, by simp, by simp⟩), if_neg (by simp), if_neg (by simp), if_pos rfl]
theorem pushS_3 {W D J S : Int} {m : List Int} {w v x y : Int} (h : okw W D J S m w = true) : pushS W D J S m ⟨0, 3, w, v, x, y, 0⟩ = (put m (bg D J w + 1) ((x + 1) % 18446744073709551616), ⟨0, 0, w, v, 0, 0, 1⟩) := by
  unfold pushS
  rw [if_pos (goes_iff.2 ⟨h, rfl, rfl, by simp, by simp⟩), if_neg (by simp), if_neg (by simp), if_neg (by simp)]; rfl
/-- So many steps. -/
def pushN (W D J S : Int) : Nat → List Int × Fr → List Int × Fr
  | 0, s => s
  | k + 1, s => let s' := pushN W D J S k s; pushS W D J S s'.1 s'.2
/-- A number in the slot behind the last one: the list is as it was. -/
theorem Vw.slot {W D J S : Int} {m : List Int} {w t : Int} {l : List Int} (hk : okw W D J S m w = true) (h : Vw D J m w t l) (hl : (l.length : Int) < D) (v : Int) : Vw D J (put m (sI D J w ((t + l.length) % 18446744073709551616)) v) w t l := by
  obtain ⟨hm, _, _, _⟩ := okw_iff.1 hk
  obtain ⟨hW, hD, hJ, hS⟩ := may_lim hm
  rw [sI_mod hm]
  have hs := sI_lim (J := J) (w := w) hD.1 (t + l.length)
  refine ⟨?_, ?_, h.len, fun i u hi => ?_⟩
  · rw [at0_put_ne _ _ (by omega)]; exact h.top
  · rw [at0_put_ne _ _ (by omega)]; exact h.bot
  · have hil := (List.getElem?_eq_some_iff.1 hi).1
    rw [at0_put_ne _ _ (fun e => by have := sI_inj hD.1 e (by omega) (by omega); omega)]
    exact h.at_ i u hi
/-- Then one more is told. -/
theorem Vw.more {W D J S : Int} {m : List Int} {w t : Int} {l : List Int} (hk : okw W D J S m w = true) (h : Vw D J m w t l) (hl : (l.length : Int) < D) (v : Int) :
    Vw D J (put (put m (sI D J w ((t + l.length) % 18446744073709551616)) v) (bg D J w + 1) ((((t + l.length) % 18446744073709551616) + 1) % 18446744073709551616)) w t (l ++ [v]) := by
  obtain ⟨hm, hlen, h0, h1⟩ := okw_iff.1 hk
  obtain ⟨hW, hD, hJ, hS⟩ := may_lim hm
  have h2 := h.slot hk hl v
  have hb := bg_step (J := J) hD.1 h1
  have hg := bg_ge (J := J) (w := w) hD.1 hJ.1 h0
  refine ⟨?_, ?_, by simp; omega, fun i u hi => ?_⟩
  · rw [at0_put_ne _ _ (by omega)]; exact h2.top
  · rw [at0_put _ (by omega) (by rw [len_put]; omega)]
    simp only [List.length_append, List.length_singleton]; omega
  · have hs := sI_lim (J := J) (w := w) hD.1 (t + i)
    rw [at0_put_ne _ _ (by omega)]
    rcases Nat.lt_or_ge i l.length with hil | hil
    · rw [List.getElem?_append_left hil] at hi
      exact h2.at_ i u hi
    · have hil2 := (List.getElem?_eq_some_iff.1 hi).1
      simp at hil2
      obtain rfl : i = l.length := by omega
      simp at hi
      subst hi
      rw [sI_mod hm, at0_put _ (by omega) (by omega)]
/-- A push, alone, where there is room. -/
theorem push_room {W D J S : Int} {m : List Int} {w t v : Int} {l : List Int} (hk : okw W D J S m w = true) (h : Vw D J m w t l) (hl : (l.length : Int) < D) :
    pushN W D J S 1 (m, fbg 0 w v) = (m, ⟨0, 1, w, v, (t + l.length) % 18446744073709551616, 0, 0⟩)
    ∧ pushN W D J S 2 (m, fbg 0 w v) = (m, ⟨0, 2, w, v, (t + l.length) % 18446744073709551616, t, 0⟩)
    ∧ pushN W D J S 3 (m, fbg 0 w v) = (put m (sI D J w ((t + l.length) % 18446744073709551616)) v, ⟨0, 3, w, v, (t + l.length) % 18446744073709551616, t, 0⟩)
    ∧ pushN W D J S 4 (m, fbg 0 w v) = (put (put m (sI D J w ((t + l.length) % 18446744073709551616)) v) (bg D J w + 1) (((t + l.length) % 18446744073709551616 + 1) % 18446744073709551616), ⟨0, 0, w, v, 0, 0, 1⟩) := by
  have hD := (may_lim (okw_iff.1 hk).1).2.1
  have e1 : pushN W D J S 1 (m, fbg 0 w v) = (m, ⟨0, 1, w, v, (t + l.length) % 18446744073709551616, 0, 0⟩) := by
    show pushS W D J S m ⟨0, 0, w, v, 0, 0, 0⟩ = _
    rw [pushS_0 hk, h.bot]
  have e2 : pushN W D J S 2 (m, fbg 0 w v) = (m, ⟨0, 2, w, v, (t + l.length) % 18446744073709551616, t, 0⟩) := by
    show pushS W D J S (pushN W D J S 1 (m, fbg 0 w v)).1 (pushN W D J S 1 (m, fbg 0 w v)).2 = _
    rw [e1, pushS_1 hk (by rw [h.top]; omega), h.top]
  have e3 : pushN W D J S 3 (m, fbg 0 w v) = (put m (sI D J w ((t + l.length) % 18446744073709551616)) v, ⟨0, 3, w, v, (t + l.length) % 18446744073709551616, t, 0⟩) := by
    show pushS W D J S (pushN W D J S 2 (m, fbg 0 w v)).1 (pushN W D J S 2 (m, fbg 0 w v)).2 = _
    rw [e2, pushS_2 hk]
  refine ⟨e1, e2, e3, ?_⟩
  show pushS W D J S (pushN W D J S 3 (m, fbg 0 w v)).1 (pushN W D J S 3 (m, fbg 0 w v)).2 = _
  rw [e3, pushS_3 (by rw [okw_len (len_put _ _ _)]; exact hk)]
/-- A push, alone, where there is none. -/
theorem push_none {W D J S : Int} {m : List Int} {w t v : Int} {l : List Int} (hk : okw W D J S m w = true) (h : Vw D J m w t l) (hl : (l.length : Int) = D) :
    pushN W D J S 4 (m, fbg 0 w v) = (m, ⟨0, 0, w, v, 0, 0, 2⟩) := by
  have hD := (may_lim (okw_iff.1 hk).1).2.1
  have e1 : pushN W D J S 1 (m, fbg 0 w v) = (m, ⟨0, 1, w, v, (t + l.length) % 18446744073709551616, 0, 0⟩) := by
    show pushS W D J S m ⟨0, 0, w, v, 0, 0, 0⟩ = _
    rw [pushS_0 hk, h.bot]
  have e2 : pushN W D J S 2 (m, fbg 0 w v) = (m, ⟨0, 0, w, v, 0, 0, 2⟩) := by
    show pushS W D J S (pushN W D J S 1 (m, fbg 0 w v)).1 (pushN W D J S 1 (m, fbg 0 w v)).2 = _
    rw [e1, pushS_1f hk (by rw [h.top]; omega)]
  have e3 : pushN W D J S 3 (m, fbg 0 w v) = (m, ⟨0, 0, w, v, 0, 0, 2⟩) := by
    show pushS W D J S (pushN W D J S 2 (m, fbg 0 w v)).1 (pushN W D J S 2 (m, fbg 0 w v)).2 = _
    rw [e2, pushS_over (by simp)]
  show pushS W D J S (pushN W D J S 3 (m, fbg 0 w v)).1 (pushN W D J S 3 (m, fbg 0 w v)).2 = _
  rw [e3, pushS_over (by simp)]
/-- PushAlone, on lists. -/
theorem push_alone {W D J S : Int} {m : List Int} {w v : Int} {l : List Int} (hu : UM m) (h : lst W D J S m w = some l) :
    (pushN W D J S 4 (m, fbg 0 w v)).2 = (on l D (fbg 0 w v)).2 ∧ lst W D J S (pushN W D J S 4 (m, fbg 0 w v)).1 w = some (on l D (fbg 0 w v)).1 := by
  obtain ⟨hk, hv⟩ := lst_some hu h
  have hl := hv.len
  have eo : on l D (fbg 0 w v) = onPut l D (fbg 0 w v) := by simp [on, fbg]
  rw [eo]
  by_cases hD : (l.length : Int) < D
  · obtain ⟨_, _, _, e4⟩ := push_room (v := v) hk hv hD
    rw [e4, onPut, if_neg (by omega)]
    refine ⟨rfl, ?_⟩
    exact lst_of (by rw [okw_len (m := m) (by rw [len_put, len_put])]; exact hk) (hv.more hk hD v)
  · rw [push_none (v := v) hk hv (by omega), onPut, if_pos (by omega)]
    exact ⟨rfl, h⟩
/-- PushSeen, on lists. -/
theorem push_seen {W D J S : Int} {m : List Int} {w v : Int} {l : List Int} (hu : UM m) (h : lst W D J S m w = some l) (hl : (l.length : Int) < D) :
    (∀ k, k ≤ 3 → lst W D J S (pushN W D J S k (m, fbg 0 w v)).1 w = some l ∧ (pushN W D J S k (m, fbg 0 w v)).2.res = 0)
    ∧ lst W D J S (pushN W D J S 4 (m, fbg 0 w v)).1 w = some (l ++ [v]) ∧ (pushN W D J S 4 (m, fbg 0 w v)).2.res = 1 := by
  obtain ⟨hk, hv⟩ := lst_some hu h
  obtain ⟨e1, e2, e3, e4⟩ := push_room (v := v) hk hv hl
  have ho : ∀ x u y u', okw W D J S (put (put m x u) y u') w = true := fun x u y u' => by rw [okw_len (m := m) (by rw [len_put, len_put])]; exact hk
  refine ⟨fun k hk3 => ?_, ?_, by rw [e4]⟩
  · match k, hk3 with
    | 0, _ => exact ⟨h, rfl⟩
    | 1, _ => rw [e1]; exact ⟨h, rfl⟩
    | 2, _ => rw [e2]; exact ⟨h, rfl⟩
    | 3, _ =>
      rw [e3]
      exact ⟨lst_of (by rw [okw_len (len_put _ _ _)]; exact hk) (hv.slot hk hl v), rfl⟩
  · rw [e4]
    exact lst_of (ho _ _ _ _) (hv.more hk hl v)
/-- Which cells a step of a push may change. -/
theorem pushS_cells {W D J S : Int} {m : List Int} {f : Fr} {i : Int} (h : at0 (pushS W D J S m f).1 i ≠ at0 m i) : goes W D J S m f 0 4 = true ∧ 2 ≤ f.pc ∧ (i = bg D J f.who + 1 ∧ f.pc ≠ 2 ∨ i = sI D J f.who f.x ∧ f.pc = 2) := by
  unfold pushS at h
  split at h
  · rename_i hg
    obtain ⟨_, _, _, h0, h4⟩ := goes_iff.1 hg
    split at h
    · exact absurd rfl h
    · split at h
      · split at h <;> exact absurd rfl h
      · split at h
        · refine ⟨hg, by omega, .inr ⟨?_, by assumption⟩⟩
          apply Classical.byContradiction
          intro hi
          exact h (at0_put_ne _ _ (fun e => hi e.symm))
        · refine ⟨hg, by omega, .inl ⟨?_, by assumption⟩⟩
          apply Classical.byContradiction
          intro hi
          exact h (at0_put_ne _ _ (fun e => hi e.symm))
  · exact absurd rfl h
/-- What lies in a worker's cells tells its list. -/
theorem lst_same {W D J S : Int} {m m' : List Int} {k : Int} (hl : m'.length = m.length) (h : okw W D J S m k = true → ∀ i, bg D J k ≤ i → i < bg D J k + (3 + D) → at0 m' i = at0 m i) : lst W D J S m' k = lst W D J S m k := by
  by_cases hk : okw W D J S m k = true
  · obtain ⟨hm, _, _, _⟩ := okw_iff.1 hk
    obtain ⟨hW, hD, hJ, hS⟩ := may_lim hm
    have h' := h hk
    unfold lst
    rw [okw_len hl, h' (bg D J k) (by omega) (by omega), h' (bg D J k + 1) (by omega) (by omega)]
    have : (fun i : Nat => at0 m' (sI D J k (at0 m (bg D J k) + i))) = (fun i : Nat => at0 m (sI D J k (at0 m (bg D J k) + i))) := by
      funext i
      have := sI_lim (J := J) (w := k) hD.1 (at0 m (bg D J k) + i)
      exact h' _ (by omega) (by omega)
    rw [this]
  · unfold lst
    rw [if_neg (fun e => hk (by rw [← okw_len hl]; exact e.1)), if_neg (fun e => hk e.1)]
/-- A push changes no other worker's list. -/
theorem pushS_other {W D J S : Int} {m : List Int} {f : Fr} {k : Int} (h : ¬ k = f.who) : lst W D J S (pushS W D J S m f).1 k = lst W D J S m k := by
  refine lst_same (pushS_len _ _ _ _ _ _) (fun hk i h1 h2 => ?_)
  apply Classical.byContradiction
  intro hi
  obtain ⟨hg, hp, hc⟩ := pushS_cells hi
  obtain ⟨hm, _, _, _⟩ := okw_iff.1 hk
  obtain ⟨hW, hD, hJ, hS⟩ := may_lim hm
  have hb := bg_apart (J := J) (a := i - bg D J f.who) (b := i - bg D J k) hD.1 h
  rcases hc with ⟨rfl, _⟩ | ⟨rfl, _⟩
  · exact hb (by omega) (by omega) (by omega)
  · have := sI_lim (J := J) (w := f.who) hD.1 f.x
    exact hb (by omega) (by omega) (by omega)
theorem pushN_who (W D J S : Int) (n : Nat) (s : List Int × Fr) : (pushN W D J S n s).2.who = s.2.who := by
  induction n with
  | zero => rfl
  | succ n ih => show (pushS _ _ _ _ _ _).2.who = _; rw [pushS_who]; exact ih
theorem pushN_len (W D J S : Int) (n : Nat) (s : List Int × Fr) : (pushN W D J S n s).1.length = s.1.length := by
  induction n with
  | zero => rfl
  | succ n ih => show (pushS _ _ _ _ _ _).1.length = _; rw [pushS_len]; exact ih
theorem pushN_U {W D J S : Int} {s : List Int × Fr} (hm : UM s.1) (hf : UF s.2) (n : Nat) : UM (pushN W D J S n s).1 ∧ UF (pushN W D J S n s).2 := by
  induction n with
  | zero => exact ⟨hm, hf⟩
  | succ n ih => exact pushS_U ih.1 ih.2
theorem pushN_other {W D J S : Int} {m : List Int} {f : Fr} {k : Int} (h : ¬ k = f.who) (n : Nat) : lst W D J S (pushN W D J S n (m, f)).1 k = lst W D J S m k := by
  induction n with
  | zero => rfl
  | succ n ih =>
    show lst W D J S (pushS _ _ _ _ _ _).1 k = _
    rw [pushS_other (by rw [pushN_who]; exact h)]
    exact ih
end Go.Proofs.Ytfeccpfkpbminaa
