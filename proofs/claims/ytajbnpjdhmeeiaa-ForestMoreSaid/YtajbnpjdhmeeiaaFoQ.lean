/- Rows of tasks that a law builds itself, by append. -/
import Derived.Test.YtajbnpjdhmeeiaaFoP
namespace Go.Proofs.Ytajbnpjdhmeeiaa
open Go.RowKit Go.Deep

/-- The cells of tasks, with where their kids are. -/
def flat : List Tsk → List (Option Addr × Nat) → List Value
  | x :: T, k :: Ks => .int .i64 x.1 :: .slice k.1 x.2.length k.2 :: flat T Ks
  | _, _ => []
theorem flat_len : ∀ (T : List Tsk) (Ks : List (Option Addr × Nat)), Ks.length = T.length → (flat T Ks).length = T.length * 2
  | [], [], _ => rfl
  | x :: T, k :: Ks, h => by
    rw [flat, List.length_cons, List.length_cons, flat_len T Ks (by simpa using h), List.length_cons]; omega
theorem flat_append : ∀ (T : List Tsk) (Ks : List (Option Addr × Nat)) (T' : List Tsk) (Ks' : List (Option Addr × Nat)), Ks.length = T.length → flat (T ++ T') (Ks ++ Ks') = flat T Ks ++ flat T' Ks'
  | [], [], _, _, _ => rfl
  | x :: T, k :: Ks, T', Ks', h => by
    rw [List.cons_append, List.cons_append, flat, flat, flat_append T Ks T' Ks' (by simpa using h)]; rfl
theorem flat_at : ∀ (T : List Tsk) (Ks : List (Option Addr × Nat)) (i : Nat) (x : Tsk) (k : Option Addr × Nat), T[i]? = some x → Ks[i]? = some k →
    (flat T Ks)[i * 2]? = some (.int .i64 x.1) ∧ (flat T Ks)[i * 2 + 1]? = some (.slice k.1 x.2.length k.2)
  | x' :: T, k' :: Ks, 0, x, k, h1, h2 => by
    simp at h1 h2; subst h1 h2; exact ⟨rfl, rfl⟩
  | x' :: T, k' :: Ks, i + 1, x, k, h1, h2 => by
    have := flat_at T Ks i x k (by simpa using h1) (by simpa using h2)
    rw [show (i + 1) * 2 = i * 2 + 1 + 1 by omega, flat]
    simpa using this
  | [], _, _, _, _, h1, _ => by simp at h1
  | _ :: _, [], _, _, _, _, h2 => by simp at h2
theorem flat_set : ∀ (T : List Tsk) (Ks : List (Option Addr × Nat)) (i : Nat) (x : Tsk) (K : Option Addr) (l : List Int) (c : Nat), T[i]? = some x → Ks.length = T.length →
    (flat T Ks).set (i * 2 + 1) (.slice K l.length c) = flat (T.set i (x.1, l)) (Ks.set i (K, c))
  | x' :: T, k' :: Ks, 0, x, K, l, c, h1, _ => by
    simp at h1; subst h1; rfl
  | x' :: T, k' :: Ks, i + 1, x, K, l, c, h1, h2 => by
    have := flat_set T Ks i x K l c (by simpa using h1) (by simpa using h2)
    rw [show (i + 1) * 2 + 1 = i * 2 + 1 + 1 + 1 by omega, flat, List.set_cons_succ, List.set_cons_succ, this]
    rfl
  | [], _, _, _, _, _, _, h1, _ => by simp at h1
  | _ :: _, [], _, _, _, _, _, _, h2 => by simp at h2
theorem flat_one : ∀ (T : List Tsk) (Ks : List (Option Addr × Nat)), ∀ v ∈ flat T Ks, v.oneCell' = true
  | x :: T, k :: Ks, v, hv => by
    rw [flat] at hv
    rcases List.mem_cons.1 hv with rfl | hv
    · rfl
    · rcases List.mem_cons.1 hv with rfl | hv
      · rfl
      · exact flat_one T Ks v hv
  | [], _, v, hv => by simp [flat] at hv
  | _ :: _, [], v, hv => by simp [flat] at hv

/-- The row at K reads as l, in a block below n that is not o. -/
def RdO (n : Nat) (o : Option Nat) (w : World) (K : Option Addr) (l : List Int) : Prop :=
  0 < l.length → ∃ b off, K = some ⟨b, off, none⟩ ∧ b < n ∧ some b ≠ o ∧ ∀ j u, l[j]? = some u → w.cell? ⟨b, off + j, none⟩ = some (.int .i64 u)
theorem RdO.rdB {n : Nat} {o : Option Nat} {w : World} {K : Option Addr} {l : List Int} (h : RdO n o w K l) : RdB n w K l := fun hp => by
  obtain ⟨b, off, e, h1, _, h2⟩ := h hp
  exact ⟨b, off, e, h1, h2⟩
theorem RdB.rdO {n : Nat} {o : Option Nat} {w : World} {K : Option Addr} {l : List Int} (h : RdB n w K l) (ho : ∀ b, b < n → some b ≠ o) : RdO n o w K l := fun hp => by
  obtain ⟨b, off, e, h1, h2⟩ := h hp
  exact ⟨b, off, e, h1, ho b h1, h2⟩
/-- It stays, if its own block stays; another block may be left out. -/
theorem RdO.kept {n m : Nat} {o o' : Option Nat} {w w' : World} {K : Option Addr} {l : List Int} (h : RdO n o w K l) (hk : ∀ b, b < n → some b ≠ o → w'.heap[b]? = w.heap[b]?) (hm : n ≤ m) (ho : ∀ b, b < n → some b ≠ o → some b ≠ o') : RdO m o' w' K l := fun hp => by
  obtain ⟨b, off, e, h1, h3, h2⟩ := h hp
  exact ⟨b, off, e, by omega, ho b h1 h3, fun j u hu => (World.cell?_of_block (a := ⟨b, off + j, none⟩) (hk b h1 h3)).trans (h2 j u hu)⟩
def KidsOk (n : Nat) (o : Option Nat) (w : World) (T : List Tsk) (Ks : List (Option Addr × Nat)) : Prop := ∀ (i : Nat) (x : Tsk) (k : Option Addr × Nat), T[i]? = some x → Ks[i]? = some k → RdO n o w k.1 x.2
theorem KidsOk.kept {n m : Nat} {o o' : Option Nat} {w w' : World} {T : List Tsk} {Ks : List (Option Addr × Nat)} (h : KidsOk n o w T Ks) (hk : ∀ b, b < n → some b ≠ o → w'.heap[b]? = w.heap[b]?) (hm : n ≤ m) (ho : ∀ b, b < n → some b ≠ o → some b ≠ o') : KidsOk m o' w' T Ks :=
  fun i x k h1 h2 => (h i x k h1 h2).kept hk hm ho
theorem KidsOk.append {n : Nat} {o : Option Nat} {w : World} {T T' : List Tsk} {Ks Ks' : List (Option Addr × Nat)} (h : KidsOk n o w T Ks) (h' : KidsOk n o w T' Ks') (hl : Ks.length = T.length) : KidsOk n o w (T ++ T') (Ks ++ Ks') := by
  intro i x k h1 h2
  by_cases e : i < T.length
  · rw [List.getElem?_append_left e] at h1
    rw [List.getElem?_append_left (by omega)] at h2
    exact h i x k h1 h2
  · rw [List.getElem?_append_right (by omega)] at h1
    rw [List.getElem?_append_right (by omega), hl] at h2
    exact h' _ x k h1 h2
/-- A row of tasks that the call has built. -/
def Blt (w : World) (base : Nat) (Q : Option Addr) (n d : Nat) (T : List Tsk) (Ks : List (Option Addr × Nat)) : Prop :=
  Ks.length = T.length ∧ T.length = n ∧ w.ownsRow base 36 2 (.slice Q n d) n (flat T Ks) ∧ KidsOk w.heap.size (Value.slice Q n d).ownBlock w T Ks
theorem Blt.nil (w : World) (base : Nat) : Blt w base none 0 0 [] [] := ⟨rfl, rfl, World.ownsRow_nil _ _ _ _, fun i x k h => by simp at h⟩
theorem Blt.kept {w w' : World} {base : Nat} {Q : Option Addr} {n d : Nat} {T : List Tsk} {Ks : List (Option Addr × Nat)} (h : Blt w base Q n d T Ks) (hb : Below w.heap.size w w') : Blt w' base Q n d T Ks := by
  obtain ⟨h1, h2, h3, h4⟩ := h
  refine ⟨h1, h2, ⟨h3.1, ?_⟩, h4.kept (fun b hlt _ => hb.block b hlt) hb.size (fun _ _ h => h)⟩
  rcases h3.2 with h2 | ⟨g, cap, cur, hv, hbg, hg, hr⟩
  · exact .inl h2
  · exact .inr ⟨g, cap, cur, hv, hbg, (hb.block g (Array.getElem?_eq_some_iff.1 hg).1).trans hg, hr⟩
theorem Blt.at {w : World} {base : Nat} {Q : Option Addr} {n d : Nat} {T : List Tsk} {Ks : List (Option Addr × Nat)} (h : Blt w base Q n d T Ks) (hp : 0 < n) :
    ∃ g, Q = some ⟨g, 0, none⟩ ∧ base ≤ g ∧ g < w.heap.size ∧ (∀ j v, (flat T Ks)[j]? = some v → w.cell? ⟨g, j, none⟩ = some v) ∧ ∀ j, w.frozen? ⟨g, j, none⟩ = false := by
  obtain ⟨h1, h2, h3, h4⟩ := h
  rcases h3.2 with ⟨hv, hx⟩ | ⟨g, cap, cur, hv, hbg, hg, hr⟩
  · omega
  · injection hv with hA _ hc
    subst hA
    refine ⟨g, rfl, hbg, (Array.getElem?_eq_some_iff.1 hg).1, fun j v hv => ?_, fun j => by simp [World.frozen?, hg]⟩
    have := World.ownsRow.cells h3 (g := g) rfl j v hv
    rwa [add_zero'] at this
theorem Blt.tk {w : World} {base : Nat} {Q : Option Addr} {n d : Nat} {T : List Tsk} {Ks : List (Option Addr × Nat)} (h : Blt w base Q n d T Ks) : Tk w.heap.size w Q T := fun hp => by
  have h2 := h.2.1
  obtain ⟨g, rfl, hbg, hlt, hc, _⟩ := h.at (by omega)
  refine ⟨g, 0, rfl, hlt, fun i x hx => ?_⟩
  have hi := (List.getElem?_eq_some_iff.1 hx).1
  have hk : Ks[i]? = some (Ks[i]'(by rw [h.1]; exact hi)) := List.getElem?_eq_getElem _
  obtain ⟨f1, f2⟩ := flat_at T Ks i x _ hx hk
  rw [Nat.zero_add]
  exact ⟨hc _ _ f1, _, _, hc _ _ f2, (h.2.2.2 i x _ hx hk).rdB⟩
/-- Where tasks to be appended are. -/
def Src (w : World) (B : Option Addr) (T : List Tsk) (Ks : List (Option Addr × Nat)) : Prop :=
  Ks.length = T.length ∧ (B = none → T = []) ∧ ∀ ad, B = some ad → ∀ j v, (flat T Ks)[j]? = some v → w.cell? (ad.add j) = some v
theorem Blt.src {w : World} {base : Nat} {Q : Option Addr} {n d : Nat} {T : List Tsk} {Ks : List (Option Addr × Nat)} (h : Blt w base Q n d T Ks) : Src w Q T Ks := by
  refine ⟨h.1, fun e => ?_, fun ad e j v hv => ?_⟩
  · cases T with
    | nil => rfl
    | cons x T =>
      obtain ⟨g, e', _⟩ := h.at (by have := h.2.1; simp at this; omega)
      rw [e] at e'; cases e'
  · have hl := flat_len T Ks h.1
    have := (List.getElem?_eq_some_iff.1 hv).1
    obtain ⟨g, rfl, _, _, hc, _⟩ := h.at (by have := h.2.1; omega)
    cases e
    rw [add_zero']
    exact hc j v hv
theorem Tk.src {n : Nat} {w : World} {A : Option Addr} {T : List Tsk} (h : Tk n w A T) : ∃ Ks, Src w A T Ks ∧ KidsOk n none w T Ks := by
  by_cases hp : 0 < T.length
  · obtain ⟨b, off, rfl, hlt, hc⟩ := h hp
    have key : ∀ k, k ≤ T.length → ∃ Ks : List (Option Addr × Nat), Ks.length = k ∧ ∀ i x kk, i < k → T[i]? = some x → Ks[i]? = some kk → w.cell? ⟨b, off + i * 2 + 1, none⟩ = some (.slice kk.1 x.2.length kk.2) ∧ RdB n w kk.1 x.2 := by
      intro k
      induction k with
      | zero => intro _; exact ⟨[], rfl, fun i _ _ hi => by omega⟩
      | succ k ih =>
        intro hk
        obtain ⟨Ks, h1, h2⟩ := ih (by omega)
        obtain ⟨_, K, c, h3, h4⟩ := hc k T[k] (List.getElem?_eq_getElem (by omega))
        refine ⟨Ks ++ [(K, c)], by simp [h1], fun i x kk hi hx hkk => ?_⟩
        by_cases e : i < k
        · rw [List.getElem?_append_left (by omega)] at hkk
          exact h2 i x kk e hx hkk
        · obtain rfl : i = k := by omega
          rw [List.getElem?_append_right (by omega), h1, Nat.sub_self] at hkk
          have hkk' : (K, c) = kk := by simpa using hkk
          subst hkk'
          rw [List.getElem?_eq_getElem (by omega)] at hx
          cases hx
          exact ⟨h3, h4⟩
    obtain ⟨Ks, h1, h2⟩ := key T.length (Nat.le_refl _)
    refine ⟨Ks, ⟨h1, (fun e => by cases e), fun ad e j v hv => ?_⟩, fun i x k hx hk => (h2 i x k (List.getElem?_eq_some_iff.1 hx).1 hx hk).2.rdO (by simp)⟩
    cases e
    rw [add_plain']
    have hj := (List.getElem?_eq_some_iff.1 hv).1
    rw [flat_len T Ks h1] at hj
    have hi : j / 2 < T.length := by omega
    have hx : T[j / 2]? = some T[j / 2] := List.getElem?_eq_getElem hi
    have hk : Ks[j / 2]? = some (Ks[j / 2]'(by omega)) := List.getElem?_eq_getElem _
    obtain ⟨f1, f2⟩ := flat_at T Ks (j / 2) _ _ hx hk
    rcases Nat.mod_two_eq_zero_or_one j with e | e
    · have ej : j / 2 * 2 = j := by omega
      rw [ej] at f1
      rw [f1] at hv
      cases hv
      have := (hc (j / 2) _ hx).1
      rwa [ej] at this
    · have ej : j / 2 * 2 + 1 = j := by omega
      rw [ej] at f2
      rw [f2] at hv
      cases hv
      have := (h2 (j / 2) _ _ hi hx hk).1
      rwa [show off + j / 2 * 2 + 1 = off + j by omega] at this
  · obtain rfl : T = [] := List.eq_nil_of_length_eq_zero (by omega)
    exact ⟨[], ⟨rfl, fun _ => rfl, fun ad _ j v hv => by simp [flat] at hv⟩, fun i x k h => by simp at h⟩

theorem Try.info36 : (Try.prog.info? 36).map (fun i => (i.zero, i.size, i.bytes)) = some (some (.agg #[.int .i64 0, .slice none 0 0]), 2, 32) := by kernel_rfl
/-- Tasks appended to tasks. -/
theorem app_tasks {w : World} {base : Nat} {Q : Option Addr} {n d : Nat} {T T' : List Tsk} {Ks Ks' : List (Option Addr × Nat)} (h : Blt w base Q n d T Ks) {B : Option Addr} (c : Nat) (hs : Src w B T' Ks') (hk : KidsOk w.heap.size (Value.slice Q n d).ownBlock w T' Ks')
    {m : Nat} (hm : T'.length = m) (hz : n + m ≤ 100000) (hb : base ≤ w.heap.size) :
    ∃ Q' d' w', (Builtin.append_ #[22, 22] 22 #[.slice Q n d, .slice B m c]).run Try.prog w = .ok (.slice Q' (n + m) d') w' ∧ Blt w' base Q' (n + m) d' (T ++ T') (Ks ++ Ks') ∧ w.grownBy w' (Value.slice Q n d).ownBlock := by
  obtain ⟨i0, hi0, hz'⟩ := Option.map_eq_some_iff.1 Try.info36
  simp only [Prod.mk.injEq] at hz'
  obtain ⟨hz0, hz1, hz2⟩ := hz'
  obtain ⟨h1, h2, h3, h4⟩ := h
  obtain ⟨s1, s2, s3⟩ := hs
  rcases B with _ | ad
  · obtain rfl := s2 rfl
    simp at hm
    subst hm
    have : Ks' = [] := List.eq_nil_of_length_eq_zero (by simpa using s1)
    subst this
    refine ⟨Q, d, w, ?_, ⟨by simpa using h1, by simpa using h2, by simpa using h3, by simpa using h4⟩, ⟨rfl, rfl, rfl, Nat.le_refl _, fun _ _ _ => rfl⟩⟩
    rcases h3.2 with ⟨hv, _⟩ | ⟨g, cap, cur, hv, _, _, hnc, _⟩
    · injection hv with hA hn hc
      subst hA hn hc
      simp [Builtin.append_, run_underlying Try.underlying22, sizeOf, typeInfo, hi0, Builtin.lenOf, Builtin.firstCells]
    · injection hv with hA hn hc
      subst hA hc
      simp [Builtin.append_, run_underlying Try.underlying22, sizeOf, typeInfo, hi0, Builtin.lenOf, Builtin.firstCells, hnc, storeCells]
  · obtain ⟨v', w', hrun, g2, g3, _, g5⟩ := run_append_own_at (P := Try.prog) w base 22 22 36 i0 (.agg #[.int .i64 0, .slice none 0 0]) 2 32 Try.underlying22 hi0 hz0 hz1 hz2 rfl (by omega) _ n _ h3 ad m c (flat T' Ks') (by rw [flat_len T' Ks' s1, hm])
      (s3 ad rfl) (flat_one T' Ks') (by simp only [maxLen]; omega) (by omega) hb
    have fin : ∃ Q' d', v' = .slice Q' (n + m) d' := by
      rcases g2.2 with ⟨e1, e2⟩ | ⟨g, cap, cur, e1, _⟩
      · exact ⟨none, 0, by rw [e1, show n + m = 0 from e2]⟩
      · exact ⟨_, cap, e1⟩
    obtain ⟨Q', d', rfl⟩ := fin
    have hkeep : ∀ b, b < w.heap.size → some b ≠ (Value.slice Q n d).ownBlock → w'.heap[b]? = w.heap[b]? := fun b hb1 hb2 => g3.block b hb1 hb2
    have hnew : ∀ b, b < w.heap.size → some b ≠ (Value.slice Q n d).ownBlock → some b ≠ (Value.slice Q' (n + m) d').ownBlock := fun b hb1 hb2 => by
      rcases g5 with e | e
      · rw [e]; exact hb2
      · rw [e]; intro e'; injection e' with e'; omega
    refine ⟨Q', d', w', hrun, ⟨by simp [h1, s1], by simp [h2, hm], by rw [flat_append T Ks T' Ks' h1]; exact g2, (h4.kept hkeep g3.size hnew).append (hk.kept hkeep g3.size hnew) h1⟩, g3⟩
end Go.Proofs.Ytajbnpjdhmeeiaa
