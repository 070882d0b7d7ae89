/- Plain facts of forests: a task more, and a kid more. -/
import Derived.Test.YtajbnpjdhmeeiaaFoQ
namespace Go.Proofs.Ytajbnpjdhmeeiaa
open Go.RowKit Go.Deep

theorem Blt.setKids {w : World} {base : Nat} {Q : Option Addr} {n d : Nat} {T : List Tsk} {Ks : List (Option Addr × Nat)} (h : Blt w base Q n d T Ks) {i g : Nat} {x : Tsk} (hx : T[i]? = some x) (hQ : Q = some ⟨g, 0, none⟩) {K : Option Addr} {l : List Int} {c : Nat} (hK : RdO w.heap.size (some g) w K l) :
    Blt (w.setCell ⟨g, i * 2 + 1, none⟩ (.slice K l.length c)) base Q n d (T.set i (x.1, l)) (Ks.set i (K, c)) := by
  obtain ⟨h1, h2, h3, h4⟩ := h
  have hi := (List.getElem?_eq_some_iff.1 hx).1
  have hz : (w.setCell ⟨g, i * 2 + 1, none⟩ (.slice K l.length c)).heap.size = w.heap.size := by simp [World.setCell]
  have hob : (Value.slice Q n d).ownBlock = some g := by rw [hQ]; rfl
  have hkeep : ∀ b, b < w.heap.size → some b ≠ some g → (w.setCell ⟨g, i * 2 + 1, none⟩ (.slice K l.length c)).heap[b]? = w.heap[b]? := fun b _ hb => Below.heap_setCell _ _ _ b (fun e => hb (by rw [e]))
  refine ⟨by simp [h1], by simp [h2], ⟨?_, ?_⟩, ?_⟩
  · rw [← flat_set T Ks i x K l c hx h1, List.length_set]; exact h3.1
  · rcases h3.2 with ⟨hv, hx'⟩ | ⟨g', cap, cur, hv, hbg, hg, hnc, hm, hsz, htk⟩
    · omega
    · rw [hQ] at hv
      injection hv with hA _ hc
      injection hA with hA
      injection hA with hA
      subst hA
      refine .inr ⟨g, cap, cur.setIfInBounds (i * 2 + 1) (.slice K l.length c), by rw [hQ, hc], hbg, ?_, hnc, hm, by simpa using hsz, ?_⟩
      · simp [World.setCell, Array.getElem?_modify, hg]
      · rw [Array.toList_setIfInBounds, List.take_set, htk, flat_set T Ks i x K l c hx h1]
  · intro j y k hy hk
    rw [hz, hob]
    by_cases e : j = i
    · subst e
      rw [List.getElem?_set_self (by omega)] at hy
      rw [List.getElem?_set_self (by omega)] at hk
      cases hy
      cases hk
      exact hK.kept hkeep (Nat.le_refl _) (fun _ _ h => h)
    · rw [List.getElem?_set_ne (fun h => e h.symm)] at hy hk
      have := h4 j y k hy hk
      rw [hob] at this
      exact this.kept hkeep (Nat.le_refl _) (fun _ _ h => h)

/-- With a task more. -/
def more (T : List Tsk) (k : Int) : List Tsk := T ++ [(k, [])]
theorem more_len (T : List Tsk) (k : Int) : (more T k).length = T.length + 1 := by simp [more]
theorem kids_more {T : List Tsk} {k : Int} {j : Nat} : kids (more T k) j = kids T j := by
  unfold kids more
  rw [List.getD_eq_getElem?_getD, List.getD_eq_getElem?_getD]
  by_cases h : j < T.length
  · rw [List.getElem?_append_left h]
  · rw [List.getElem?_append_right (by omega), List.getElem?_eq_none (by omega : T.length ≤ j)]
    by_cases e : j - T.length = 0
    · rw [e]; rfl
    · rw [List.getElem?_eq_none (by simp; omega)]
theorem kids_out {T : List Tsk} {j : Nat} (h : T.length ≤ j) : kids T j = [] := by
  unfold kids; rw [List.getD_eq_getElem?_getD, List.getElem?_eq_none h]; rfl
theorem spN_congr {T V : List Tsk} {n : Nat} (h : ∀ j, j < n → kids T j = kids V j) : spN T n = spN V n := by
  induction n with
  | zero => rfl
  | succ n ih => rw [spN, spN, ih (fun j hj => h j (by omega)), h n (by omega)]
theorem sp_more (T : List Tsk) (k : Int) : sp (more T k) = sp T := by
  unfold sp
  rw [more_len, spN, kids_more, kids_out (Nat.le_refl _), List.map_nil, List.append_nil]
  exact spN_congr (fun j _ => kids_more)
theorem pa_more (T : List Tsk) (k x : Int) : pa (more T k) x = pa T x := by unfold pa; rw [sp_more]
theorem okP_up {n m : Nat} {l : List (Nat × Int)} (h : okP n l) (hm : n ≤ m) : okP m l := ⟨fun p hp => ⟨(h.1 p hp).1, by have := (h.1 p hp).2; omega⟩, h.2⟩
theorem wk_more (T : List Tsk) (k : Int) (h : wk T = true) : wk (more T k) = (decide (0 ≤ k) && decide (k ≤ 20)) := by
  unfold wk more at *
  rw [List.all_append, h]; simp
theorem may_more_no {T : List Tsk} {k : Int} (hm : may T = true) (h : ¬ (T.length < 30 ∧ 0 ≤ k ∧ k ≤ 20)) : may (more T k) = false := by
  obtain ⟨h1, h2, h3⟩ := may_parts hm
  cases e : may (more T k)
  · rfl
  · obtain ⟨g1, g2, g3⟩ := may_parts e
    rw [more_len] at g1
    rw [wk_more T k h2] at g2
    simp only [Bool.and_eq_true, decide_eq_true_eq] at g2
    exact absurd ⟨by omega, g2⟩ h
theorem may_more_yes {T : List Tsk} {k : Int} (hm : may T = true) (h1 : T.length < 30) (h2 : 0 ≤ k) (h3 : k ≤ 20) : may (more T k) = true := by
  obtain ⟨g1, g2, g3⟩ := may_parts hm
  refine may_yes (by rw [more_len]; omega) (by rw [wk_more T k g2, decide_eq_true h2, decide_eq_true h3]; rfl) ?_
  rw [sp_more, more_len]
  exact okP_up g3 (by omega)
theorem rtN_congr {T V : List Tsk} {n : Nat} (h : ∀ k : Nat, k < n → pa T k = pa V k) : rtN T n = rtN V n := by
  induction n with
  | zero => rfl
  | succ n ih =>
    have h1 := ih (fun k hk => h k (by omega))
    have h2 := h n (by omega)
    by_cases e : pa V n = -1
    · rw [rtN_yes e, rtN_yes (h2.trans e), h1]
    · rw [rtN_no e, rtN_no (fun h => e (h2.symm.trans h)), h1]
theorem rts_more {T : List Tsk} {k : Int} (hm : may T = true) (hm' : may (more T k) = true) : (rts (more T k)).length = (rts T).length + 1 := by
  unfold rts
  rw [if_pos hm, if_pos hm', more_len, rtN_yes (by rw [pa_more]; exact pa_out (may_parts hm).2.2 (by omega)), rtN_congr (fun j _ => pa_more T k j)]
  simp
/-- With that task as the kid of i, too. -/
def kid (T : List Tsk) (k : Int) (i : Nat) (x : Tsk) : List Tsk := (more T k).set i (x.1, x.2 ++ [(T.length : Int)])
theorem kid_len (T : List Tsk) (k : Int) (i : Nat) (x : Tsk) : (kid T k i x).length = T.length + 1 := by unfold kid; rw [List.length_set, more_len]
theorem kids_kid {T : List Tsk} {k : Int} {i : Nat} (hi : i < T.length) (j : Nat) : kids (kid T k i T[i]) j = if j = i then kids T i ++ [(T.length : Int)] else kids T j := by
  by_cases e : j = i
  · subst e
    rw [if_pos rfl, kids_eq hi]
    unfold kids kid
    rw [List.getD_eq_getElem?_getD, List.getElem?_set_self (by rw [more_len]; omega)]
    rfl
  · rw [if_neg e]
    refine Eq.trans ?_ (kids_more (T := T) (k := k) (j := j))
    unfold kids kid
    rw [List.getD_eq_getElem?_getD, List.getElem?_set_ne (fun h => e h.symm), ← List.getD_eq_getElem?_getD]
theorem count_spN_kid {T : List Tsk} {k : Int} {i : Nat} (hi : i < T.length) (x : Int) (n : Nat) : ((spN (kid T k i T[i]) n).map Prod.snd).count x = ((spN T n).map Prod.snd).count x + if i < n then (if x = T.length then 1 else 0) else 0 := by
  induction n with
  | zero => rfl
  | succ n ih =>
    rw [spN, spN, List.map_append, List.map_append, List.count_append, List.count_append, ih, kids_kid hi]
    have hd : (([(T.length : Int)].map fun k => (n, k)).map Prod.snd).count x = if x = T.length then 1 else 0 := count_single _ _
    generalize (if x = (T.length : Int) then 1 else 0 : Nat) = δ at *
    by_cases e : n = i
    · subst e
      have h1 : (if n < n then δ else 0) = 0 := if_neg (by omega)
      have h2 : (if n < n + 1 then δ else 0) = δ := if_pos (by omega)
      rw [if_pos rfl, h1, h2, List.map_append, List.map_append, List.count_append, hd]
      omega
    · rw [if_neg e]
      by_cases h : i < n
      · have h1 : (if i < n then δ else 0) = δ := if_pos h
        have h2 : (if i < n + 1 then δ else 0) = δ := if_pos (by omega)
        rw [h1, h2]; omega
      · have h1 : (if i < n then δ else 0) = 0 := if_neg h
        have h2 : (if i < n + 1 then δ else 0) = 0 := if_neg (by omega)
        rw [h1, h2]; omega
theorem mem_kid {T : List Tsk} {k : Int} {i : Nat} (hi : i < T.length) {p : Nat} {x : Int} : (p, x) ∈ sp (kid T k i T[i]) ↔ (p, x) ∈ sp T ∨ (p = i ∧ x = T.length) := by
  rw [mem_sp, mem_sp, kid_len, kids_kid hi]
  constructor
  · rintro ⟨h1, h2⟩
    by_cases e : p = i
    · subst e
      rw [if_pos rfl] at h2
      rcases List.mem_append.1 h2 with h | h
      · exact .inl ⟨hi, h⟩
      · exact .inr ⟨rfl, by simpa using h⟩
    · rw [if_neg e] at h2
      by_cases hp : p < T.length
      · exact .inl ⟨hp, h2⟩
      · rw [kids_out (by omega)] at h2; simp at h2
  · rintro (⟨h1, h2⟩ | ⟨rfl, rfl⟩)
    · refine ⟨by omega, ?_⟩
      by_cases e : p = i
      · subst e; rw [if_pos rfl]; exact List.mem_append_left _ h2
      · rw [if_neg e]; exact h2
    · exact ⟨by omega, by rw [if_pos rfl]; simp⟩
theorem okP_kid {T : List Tsk} {k : Int} {i : Nat} (hi : i < T.length) (h : okP T.length (sp T)) : okP (T.length + 1) (sp (kid T k i T[i])) := by
  refine ⟨fun ⟨p, x⟩ hp => ?_, ?_⟩
  · rcases (mem_kid hi).1 hp with h1 | ⟨h1, h2⟩
    · have := okP_lt h h1
      exact ⟨this.1, by omega⟩
    · subst h1 h2
      exact ⟨by simp; omega, by simp; omega⟩
  · rw [List.nodup_iff_count]
    intro x
    unfold sp
    rw [kid_len, count_spN_kid hi, spN, kids_out (Nat.le_refl _), List.map_nil, List.append_nil, if_pos (by omega)]
    have hc := h.2.count (a := x)
    unfold sp at hc
    rw [hc]
    by_cases e : x = T.length
    · have hn : ¬ x ∈ (spN T T.length).map Prod.snd := by
        intro hx
        obtain ⟨⟨p, y⟩, hp, rfl⟩ := List.mem_map.1 hx
        have := okP_lt h hp
        simp at e
        omega
      rw [if_neg hn, if_pos e]
      omega
    · rw [if_neg e]
      split <;> omega
theorem wk_kid {T : List Tsk} {k : Int} {i : Nat} (hi : i < T.length) (h : wk (more T k) = true) : wk (kid T k i T[i]) = true := by
  unfold wk at *
  rw [List.all_eq_true] at *
  intro y hy
  unfold kid at hy
  rcases List.mem_or_eq_of_mem_set hy with h1 | h1
  · exact h y h1
  · subst h1
    exact h T[i] (by unfold more; exact List.mem_append_left _ (List.getElem_mem hi))
theorem may_kid {T : List Tsk} {k : Int} {i : Nat} (hi : i < T.length) (hm : may T = true) (hm' : may (more T k) = true) : may (kid T k i T[i]) = true := by
  obtain ⟨g1, g2, g3⟩ := may_parts hm'
  refine may_yes (by rw [kid_len]; rw [more_len] at g1; exact g1) (wk_kid hi g2) ?_
  rw [kid_len]
  exact okP_kid hi (may_parts hm).2.2
theorem pa_kid {T : List Tsk} {k : Int} {i : Nat} (hi : i < T.length) (h : okP T.length (sp T)) (x : Int) (hx : x ≠ T.length) : pa (kid T k i T[i]) x = pa T x := by
  have hk : okP (kid T k i T[i]).length (sp (kid T k i T[i])) := by rw [kid_len]; exact okP_kid hi h
  by_cases e : pa T x = -1
  · rw [e]
    by_cases e2 : pa (kid T k i T[i]) x = -1
    · exact e2
    · obtain ⟨p, _, hp⟩ := mem_of_pa e2
      rcases (mem_kid hi).1 hp with h1 | h1
      · exact absurd h1 (pa_root e p)
      · exact absurd h1.2 hx
  · obtain ⟨p, e1, hp⟩ := mem_of_pa e
    rw [e1]
    exact pa_of_mem hk ((mem_kid hi).2 (.inl hp))
theorem pa_kid_new {T : List Tsk} {k : Int} {i : Nat} (hi : i < T.length) (h : okP T.length (sp T)) : pa (kid T k i T[i]) T.length = i := by
  have hk : okP (kid T k i T[i]).length (sp (kid T k i T[i])) := by rw [kid_len]; exact okP_kid hi h
  exact pa_of_mem hk ((mem_kid hi).2 (.inr ⟨rfl, rfl⟩))
theorem rts_kid {T : List Tsk} {k : Int} {i : Nat} (hi : i < T.length) (hm : may T = true) (hm' : may (more T k) = true) : (rts (kid T k i T[i])).length = (rts T).length := by
  have h := (may_parts hm).2.2
  unfold rts
  rw [if_pos hm, if_pos (may_kid hi hm hm'), kid_len, rtN_no (by rw [pa_kid_new hi h]; omega), rtN_congr (fun j hj => pa_kid hi h j (by omega))]
theorem sm_more {T : List Tsk} {k : Int} (h : few T = true) : Sm (more T k) := by
  unfold few at h
  simp only [Bool.and_eq_true, decide_eq_true_eq, List.all_eq_true] at h
  refine ⟨by rw [more_len]; omega, fun x hx => ?_⟩
  rcases List.mem_append.1 hx with hx | hx
  · have := h.2 x hx; omega
  · have : x = (k, []) := by simpa using hx
    rw [this]; simp
theorem sm_kid {T : List Tsk} {k : Int} {i : Nat} (hi : i < T.length) (h : few T = true) : Sm (kid T k i T[i]) := by
  have h1 := sm_more (k := k) h
  unfold few at h
  simp only [Bool.and_eq_true, decide_eq_true_eq, List.all_eq_true] at h
  refine ⟨by rw [kid_len]; omega, fun x hx => ?_⟩
  rcases List.mem_or_eq_of_mem_set hx with hx | hx
  · exact h1.2 x hx
  · subst hx
    have := h.2 _ (List.getElem_mem hi)
    simp
    omega
end Go.Proofs.Ytajbnpjdhmeeiaa
