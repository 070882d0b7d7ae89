/- The event, and all who wait and wake, in any order, on lists (layer 16): how many were woken, and who finds nobody. -/
import Derived.Test.YtgemaeibmgkneaaEvN
namespace Go.Proofs.Ytgemaeibmgkneaa
open Go.RowKit Go.Deep
/-- Wakes of w that are over, waits of w that are over by one; all wakes, and all waits. -/
def isNw (w : Nat) (f : Fr) : Bool := decide (f.op = 6) && decide (f.res = 1) && decide (f.val = w)
def isWw (w : Nat) (f : Fr) : Bool := decide (f.op = 5) && decide (f.res = 1) && decide (f.who = w)
def isN1 (f : Fr) : Bool := decide (f.op = 6) && decide (f.res = 1)
def isW1 (f : Fr) : Bool := decide (f.op = 5) && decide (f.res = 1)
/-- How many of the first k have a wake there. -/
def cntP (m : List Int) : Nat → Nat
  | 0 => 0
  | k + 1 => cntP m k + prkE m k
set_option maxRecDepth 100000 in
theorem prkE_le (m : List Int) (w : Nat) : prkE m w ≤ 1 := by unfold prkE; split <;> omega
set_option maxRecDepth 100000 in
theorem cntP_le (m : List Int) (k : Nat) : cntP m k ≤ k := by
  induction k with
  | zero => exact Nat.le_refl _
  | succ k ih => have := prkE_le m k; unfold cntP; omega
set_option maxRecDepth 100000 in
theorem cntP_upd {m m' : List Int} {i : Nat} (h : ∀ w, w ≠ i → prkE m' w = prkE m w) (k : Nat) : cntP m' k + (if i < k then prkE m i else 0) = cntP m k + (if i < k then prkE m' i else 0) := by
  induction k with
  | zero => rfl
  | succ k ih =>
    unfold cntP
    by_cases c : i = k
    · subst c
      rw [if_neg (by omega), if_neg (by omega)] at ih
      rw [if_pos (by omega), if_pos (by omega)]
      omega
    · rw [h k (fun e => c e.symm)]
      by_cases c2 : i < k
      · rw [if_pos c2, if_pos c2] at ih
        rw [if_pos (by omega), if_pos (by omega)]; omega
      · rw [if_neg c2, if_neg c2] at ih
        rw [if_neg (by omega), if_neg (by omega)]; omega
set_option maxRecDepth 100000 in
theorem cntP_same {m m' : List Int} (h : ∀ w, prkE m' w = prkE m w) (k : Nat) : cntP m' k = cntP m k := by
  induction k with
  | zero => rfl
  | succ k ih => unfold cntP; rw [ih, h]
/-- What holds where nobody wakes all. -/
structure HW (calls : List (List Int)) (s : PE) : Prop where
  a7 : ∀ i, i < calls.length → (s.a.getD i fnE).op ≠ 7
  l7 : ∀ i, i < calls.length → (7 : Int) ∉ s.left.getD i []
  o7 : ∀ f ∈ s.over, f.op ≠ 7
  w1 : ∀ w : Nat, s.over.countP (isNw w) = s.over.countP (isWw w) + prkE s.m w
  wn : s.over.countP isN1 = s.over.countP isW1 + cntP s.m calls.length
  vl : ∀ f ∈ s.over, f.op = 6 → f.res = 1 → ∃ k : Nat, k < calls.length ∧ f.val = k
set_option maxRecDepth 100000 in
theorem countP_snoc (p : Fr → Bool) (o : List Fr) (g : Fr) : (o ++ [g]).countP p = o.countP p + (if p g = true then 1 else 0) := by
  rw [List.countP_append]; simp [List.countP_cons]
section
variable {calls : List (List Int)} {s : PE} {t : Nat}
set_option maxRecDepth 100000 in
theorem getD_left {l : List (List Int)} {i : Nat} (hi : i < l.length) (r : List Int) (j : Nat) : (l.set i r).getD j [] = if j = i then r else l.getD j [] := by
  by_cases c : j = i
  · subst c
    rw [if_pos rfl, List.getD_eq_getElem?_getD, List.getElem?_set_self hi]; rfl
  · rw [if_neg c, List.getD_eq_getElem?_getD, List.getElem?_set_ne (fun e => c e.symm), ← List.getD_eq_getElem?_getD]
set_option maxRecDepth 100000 in
/-- A call that begins is one of what is left: what holds of all that is left holds of it. -/
theorem begE_of (h : HE calls s t) {i : Nat} (hi : i < calls.length) (P : Int → Prop) (ha : ∀ j, j < calls.length → s.a.getD j fnE = fnE ∨ P (s.a.getD j fnE).op) (hl : ∀ j, j < calls.length → ∀ u ∈ s.left.getD j [], isEv u = true → P u) :
    (∀ j, j < calls.length → (begE s i).a.getD j fnE = fnE ∨ P ((begE s i).a.getD j fnE).op) ∧ (∀ j, j < calls.length → ∀ u ∈ (begE s i).left.getD j [], isEv u = true → P u) ∧ (begE s i).m = s.m ∧ (begE s i).over = s.over
      ∧ (∀ j, j < calls.length → (begE s i).a.getD j fnE = s.a.getD j fnE ∨ (begE s i).a.getD j fnE = fnE ∨ ((begE s i).a.getD j fnE).pc = 0) := by
  have hil : i < s.a.length := by rw [h.si.al]; exact hi
  have hll : i < s.left.length := by rw [h.ll]; exact hi
  unfold begE
  by_cases hop : (s.a.getD i fnE).op = -1
  · rw [if_pos hop]
    have hsub : (∀ u ∈ (nxtE i (s.left.getD i [])).2, u ∈ s.left.getD i []) ∧ ((nxtE i (s.left.getD i [])).1 = fnE ∨ ∃ o, (nxtE i (s.left.getD i [])).1 = fbg o i 0 ∧ isEv o = true ∧ o ∈ s.left.getD i []) := by
      rcases nxtE_cases i (s.left.getD i []) with ⟨e1, _⟩ | ⟨o, r, e1, e2, _, e4, e5⟩
      · rw [e1]; exact ⟨fun u hu => (by cases hu), .inl rfl⟩
      · rw [e1]; exact ⟨e5, .inr ⟨o, rfl, e2, e4⟩⟩
    refine ⟨fun j hj => ?_, fun j hj u hu hv => ?_, rfl, rfl, fun j hj => ?_⟩
    · show (s.a.set i (nxtE i (s.left.getD i [])).1).getD j fnE = fnE ∨ P ((s.a.set i (nxtE i (s.left.getD i [])).1).getD j fnE).op
      by_cases c : i = j
      · subst c
        rw [getE_eq hil]
        rcases hsub.2 with e | ⟨o, e, h1, h2⟩
        · exact .inl e
        · rw [e]; exact .inr (hl i hi o h2 h1)
      · rw [getE_ne c]; exact ha j hj
    · have hu : u ∈ (s.left.set i (nxtE i (s.left.getD i [])).2).getD j [] := hu
      rw [getD_left hll] at hu
      by_cases c : j = i
      · subst c
        rw [if_pos rfl] at hu
        exact hl j hj u (hsub.1 u hu) hv
      · rw [if_neg c] at hu; exact hl j hj u hu hv
    · show (s.a.set i (nxtE i (s.left.getD i [])).1).getD j fnE = s.a.getD j fnE ∨ (s.a.set i (nxtE i (s.left.getD i [])).1).getD j fnE = fnE ∨ ((s.a.set i (nxtE i (s.left.getD i [])).1).getD j fnE).pc = 0
      by_cases c : i = j
      · subst c
        rw [getE_eq hil]
        rcases hsub.2 with e | ⟨o, e, _, _⟩
        · exact .inr (.inl e)
        · rw [e]; exact .inr (.inr rfl)
      · rw [getE_ne c]; exact .inl rfl
  · rw [if_neg hop]
    exact ⟨ha, hl, rfl, rfl, fun _ _ => .inl rfl⟩
set_option maxRecDepth 100000 in
theorem HW.beg (w : HW calls s) (h : HE calls s t) {i : Nat} (hi : i < calls.length) : HW calls (begE s i) := by
  obtain ⟨b1, _, b3, b4, _⟩ := begE_of h hi (fun o => o ≠ 7) (fun j hj => .inr (w.a7 j hj)) (fun j hj u hu _ e => w.l7 j hj (e ▸ hu))
  have hll : i < s.left.length := by rw [h.ll]; exact hi
  refine ⟨fun j hj => ?_, fun j hj => ?_, by rw [b4]; exact w.o7, by rw [b3, b4]; exact w.w1, by rw [b3, b4]; exact w.wn, by rw [b4]; exact w.vl⟩
  · rcases b1 j hj with e | e
    · rw [e]; decide
    · exact e
  · unfold begE
    by_cases hop : (s.a.getD i fnE).op = -1
    · rw [if_pos hop]
      show (7 : Int) ∉ (s.left.set i (nxtE i (s.left.getD i [])).2).getD j []
      rw [getD_left hll]
      by_cases c : j = i
      · subst c
        rw [if_pos rfl]
        rcases nxtE_cases j (s.left.getD j []) with ⟨e1, _⟩ | ⟨o, r, e1, _, _, _, e5⟩
        · rw [e1]; exact fun hh => by cases hh
        · rw [e1]; exact fun hh => w.l7 j hj (e5 _ hh)
      · rw [if_neg c]; exact w.l7 j hj
    · rw [if_neg hop]; exact w.l7 j hj
set_option maxRecDepth 100000 in
theorem HW.step (w : HW calls s) (h : HE calls s t) (ht : t < 100000) {i : Nat} (hi : i < calls.length) : HW calls (stepE calls.length s i) := by
  have hil : i < s.a.length := by rw [h.si.al]; exact hi
  rcases (h.step ht hi).2 with ⟨e, _⟩ | ⟨f, m', g, hf, F, _, D, e⟩
  · rw [e]; exact w
  · rw [e]
    obtain ⟨d1, d2, d3, d4, d5⟩ := D
    have f7 : f.op ≠ 7 := by have := w.a7 i hi; rwa [hf] at this
    have g7 : g.op ≠ 7 := by rw [d1]; exact f7
    have ha : ∀ j, j < calls.length → ((s.a.set i (left1 g)).getD j fnE).op ≠ 7 := fun j hj => by
      by_cases c : i = j
      · subst c
        rw [getE_eq hil]
        unfold left1
        split
        · exact g7
        · decide
      · rw [getE_ne c]; exact w.a7 j hj
    have ho : ∀ f' ∈ (if g.res = 0 then s.over else s.over ++ [g]), f'.op ≠ 7 := fun f' hf' => by
      by_cases c : g.res = 0
      · rw [if_pos c] at hf'; exact w.o7 f' hf'
      · rw [if_neg c] at hf'
        rcases List.mem_append.1 hf' with h1 | h1
        · exact w.o7 f' h1
        · have : f' = g := by simpa using h1
          rw [this]; exact g7
    rcases d5 f7 with ⟨r1, d6⟩ | ⟨r1, d6⟩
    · have ov : (if g.res = 0 then s.over else s.over ++ [g]) = s.over ++ [g] := if_neg (by omega)
      rw [ov] at ho ⊢
      rcases d6 with ⟨o5, k, hk, hw, hp1, hp2⟩ | ⟨o6, k, hk, hv, hp1, hp2⟩
      · have gop : g.op = 5 := by rw [d1]; exact o5
        have gwho : g.who = k := by rw [d2]; exact hw
        have pk : ∀ w', w' ≠ k → prkE m' w' = prkE s.m w' := fun w' c => by unfold prkE; rw [hp2, if_neg c]
        have pk0 : prkE m' k = 0 := by unfold prkE; rw [hp2, if_pos rfl, if_pos rfl]
        have pk1 : prkE s.m k = 1 := by unfold prkE; rw [hp1]; rfl
        refine ⟨ha, w.l7, ho, fun w' => ?_, ?_, fun f' hf' h6 h1 => ?_⟩
        · have := w.w1 w'
          show (s.over ++ [g]).countP (isNw w') = (s.over ++ [g]).countP (isWw w') + prkE m' w'
          rw [countP_snoc, countP_snoc, show isNw w' g = false by unfold isNw; simp [gop]]
          by_cases c : w' = k
          · subst c
            rw [show isWw w' g = true by unfold isWw; simp [gop, r1, gwho], pk0]
            simp; omega
          · rw [show isWw w' g = false by unfold isWw; simp [gop, r1, gwho]; omega, pk w' c]
            simp; omega
        · have := w.wn
          have cu := cntP_upd pk calls.length
          rw [if_pos hk, if_pos hk, pk0, pk1] at cu
          show (s.over ++ [g]).countP isN1 = (s.over ++ [g]).countP isW1 + cntP m' calls.length
          rw [countP_snoc, countP_snoc, show isN1 g = false by unfold isN1; simp [gop], show isW1 g = true by unfold isW1; simp [gop, r1]]
          simp; omega
        · rcases List.mem_append.1 hf' with h2 | h2
          · exact w.vl f' h2 h6 h1
          · have : f' = g := by simpa using h2
            rw [this] at h6; omega
      · have gop : g.op = 6 := by rw [d1]; exact o6
        have pk : ∀ w', w' ≠ k → prkE m' w' = prkE s.m w' := fun w' c => by unfold prkE; rw [hp2, if_neg c]
        have pk1 : prkE m' k = 1 := by unfold prkE; rw [hp2, if_pos rfl]; rfl
        have pk0 : prkE s.m k = 0 := if_pos hp1
        refine ⟨ha, w.l7, ho, fun w' => ?_, ?_, fun f' hf' h6 h1 => ?_⟩
        · have := w.w1 w'
          show (s.over ++ [g]).countP (isNw w') = (s.over ++ [g]).countP (isWw w') + prkE m' w'
          rw [countP_snoc, countP_snoc, show isWw w' g = false by unfold isWw; simp [gop]]
          by_cases c : w' = k
          · subst c
            rw [show isNw w' g = true by unfold isNw; simp [gop, r1, hv], pk1]
            simp; omega
          · rw [show isNw w' g = false by unfold isNw; simp [gop, r1, hv]; omega, pk w' c]
            simp; omega
        · have := w.wn
          have cu := cntP_upd pk calls.length
          rw [if_pos hk, if_pos hk, pk0, pk1] at cu
          show (s.over ++ [g]).countP isN1 = (s.over ++ [g]).countP isW1 + cntP m' calls.length
          rw [countP_snoc, countP_snoc, show isW1 g = false by unfold isW1; simp [gop], show isN1 g = true by unfold isN1; simp [gop, r1]]
          simp; omega
        · rcases List.mem_append.1 hf' with h2 | h2
          · exact w.vl f' h2 h6 h1
          · have : f' = g := by simpa using h2
            rw [this]; exact ⟨k, hk, hv⟩
    · have pk : ∀ w', prkE m' w' = prkE s.m w' := fun w' => by unfold prkE; rw [d6]
      have cn : ∀ p : Fr → Bool, p g = false → (if g.res = 0 then s.over else s.over ++ [g]).countP p = s.over.countP p := fun p hp => by
        by_cases c : g.res = 0
        · rw [if_pos c]
        · rw [if_neg c, countP_snoc, hp]; simp
      have n1 : ∀ w', isNw w' g = false := fun w' => by unfold isNw; simp [r1]
      have n2 : ∀ w', isWw w' g = false := fun w' => by unfold isWw; simp [r1]
      have n3 : isN1 g = false := by unfold isN1; simp [r1]
      have n4 : isW1 g = false := by unfold isW1; simp [r1]
      refine ⟨ha, w.l7, ho, fun w' => ?_, ?_, fun f' hf' h6 h1 => ?_⟩
      · show List.countP (isNw w') (if g.res = 0 then s.over else s.over ++ [g]) = List.countP (isWw w') (if g.res = 0 then s.over else s.over ++ [g]) + prkE m' w'
        rw [cn _ (n1 w'), cn _ (n2 w'), pk]; exact w.w1 w'
      · show List.countP isN1 (if g.res = 0 then s.over else s.over ++ [g]) = List.countP isW1 (if g.res = 0 then s.over else s.over ++ [g]) + cntP m' calls.length
        rw [cn _ n3, cn _ n4, cntP_same pk]; exact w.wn
      · have hf' : f' ∈ (if g.res = 0 then s.over else s.over ++ [g]) := hf'
        by_cases c : g.res = 0
        · rw [if_pos c] at hf'; exact w.vl f' hf' h6 h1
        · rw [if_neg c] at hf'
          rcases List.mem_append.1 hf' with h2 | h2
          · exact w.vl f' h2 h6 h1
          · have : f' = g := by simpa using h2
            rw [this] at h1; exact absurd h1 r1
set_option maxRecDepth 100000 in
theorem HW.fold : ∀ (who : List Int) {s : PE} {t : Nat}, HW calls s → HE calls s t → t + 2 * who.length < 99999 → HW calls (who.foldl (playE1 calls.length) s)
  | [], _, _, w, _, _ => w
  | i :: who, s, t, w, h, ht => by
    have hl : (i :: who).length = who.length + 1 := rfl
    rw [hl] at ht
    rw [List.foldl_cons]
    refine HW.fold who ?_ (h.play1 (by omega) i) (by omega)
    unfold playE1
    by_cases c : 0 ≤ i ∧ i < calls.length
    · rw [if_pos c]
      exact (w.beg h (i := i.toNat) (by omega)).step (h.beg (by omega)) (by omega) (by omega)
    · rw [if_neg c]; exact w
set_option maxRecDepth 100000 in
theorem at0_noughtE (k : Nat) (i : Int) : at0 (List.replicate k (0 : Int)) i = 0 := by
  by_cases h : 0 ≤ i ∧ i < k
  · rw [at0_in h.1 (by rw [List.length_replicate]; exact h.2)]; simp
  · exact at0_out (by rw [List.length_replicate]; omega)
set_option maxRecDepth 100000 in
theorem startE_a (calls : List (List Int)) (i : Nat) : (startE calls).a.getD i fnE = fnE := by
  show (List.replicate calls.length fnE).getD i fnE = fnE
  rw [List.getD_eq_getElem?_getD, List.getElem?_replicate]
  split <;> rfl
set_option maxRecDepth 100000 in
theorem HW.play (h1 : 1 ≤ calls.length) (h8 : calls.length ≤ 8) (h7 : ∀ l ∈ calls, (7 : Int) ∉ l) (who : List Int) (hw : who.length ≤ 500) : HW calls (playE calls who) := by
  refine HW.fold who ?_ (HE.start h1 h8) (by omega)
  have p0 : ∀ w, prkE (startE calls).m w = 0 := fun w => if_pos (at0_noughtE _ _)
  refine ⟨fun i _ => by rw [startE_a]; decide, fun i hi => ?_, fun f hf => (by cases hf), fun w => (by rw [p0]; rfl), ?_, fun f hf => (by cases hf)⟩
  · show (7 : Int) ∉ calls.getD i []
    rw [List.getD_eq_getElem?_getD, List.getElem?_eq_getElem hi]
    exact h7 _ (List.getElem_mem hi)
  · have : ∀ k, cntP (startE calls).m k = 0 := fun k => by
      induction k with
      | zero => rfl
      | succ k ih => unfold cntP; rw [ih, p0]
    rw [this]; rfl
set_option maxRecDepth 100000 in
/-- What EventWakes asks. -/
theorem HW.tells (w : HW calls s) : s.over.countP isW1 ≤ s.over.countP isN1 ∧ s.over.countP isN1 ≤ s.over.countP isW1 + calls.length ∧ ∀ k : Nat, s.over.countP (isWw k) ≤ s.over.countP (isNw k) ∧ s.over.countP (isNw k) ≤ s.over.countP (isWw k) + 1 := by
  have h1 := w.wn
  have h2 := cntP_le s.m calls.length
  refine ⟨by omega, by omega, fun k => ?_⟩
  have h3 := w.w1 k
  have h4 := prkE_le s.m k
  omega
/-- What holds where nobody wakes. -/
structure HQ (calls : List (List Int)) (s : PE) : Prop where
  a5 : ∀ i, i < calls.length → s.a.getD i fnE = fnE ∨ (s.a.getD i fnE).op = 5
  l5 : ∀ i, i < calls.length → ∀ u ∈ s.left.getD i [], isEv u = true → u = 5
  over : s.over = []
  ep : at0 s.m 2 / 65536 = 0
  pk : ∀ w : Nat, at0 s.m (pkI 1 1 w) = 0
set_option maxRecDepth 100000 in
theorem wait_quiet {n : Nat} {m : List Int} {i : Nat} {p v x y : Int} (hk : okw n 1 1 0 m i = true) (h0 : 0 ≤ p) (h3 : p < 4) (ep : at0 m 2 / 65536 = 0) (hx : x / 65536 = 0) (pk : at0 m (pkI 1 1 i) = 0) :
    ∃ m' g, waitS n 1 1 0 m ⟨5, p, i, v, x, y, 0⟩ = (m', g) ∧ g.res = 0 ∧ at0 m' 2 / 65536 = 0 ∧ ∀ w : Nat, at0 m' (pkI 1 1 w) = at0 m (pkI 1 1 w) := by
  have hl := okw_long hk
  rcases (show p = 0 ∨ p = 1 ∨ p = 2 ∨ p = 3 by omega) with rfl | rfl | rfl | rfl
  · exact ⟨_, _, waitS_0 hk, rfl, ep, fun _ => rfl⟩
  · exact ⟨m, ⟨5, 2, i, v, x, at0 m 2, 0⟩, (waitS_1 hk).trans (by rw [if_pos (by omega)]), rfl, ep, fun _ => rfl⟩
  · by_cases e : at0 m 2 = y
    · exact ⟨put m 2 (st y i), ⟨5, 3, i, v, x, y, 0⟩, (waitS_2 hk).trans (by rw [if_pos e]), rfl, by rw [at0_put _ (by omega) (by omega), st_epoch, ← e]; exact ep, fun w => prkE_put2 _ _ _⟩
    · exact ⟨m, ⟨5, 1, i, v, x, y, 0⟩, (waitS_2 hk).trans (by rw [if_neg e]), rfl, ep, fun _ => rfl⟩
  · exact ⟨m, ⟨5, 3, i, v, x, 0, 0⟩, (waitS_3 hk).trans (by rw [if_pos pk]), rfl, ep, fun _ => rfl⟩
set_option maxRecDepth 100000 in
theorem HQ.beg (q : HQ calls s) (h : HE calls s t) {i : Nat} (hi : i < calls.length) : HQ calls (begE s i) := by
  obtain ⟨b1, b2, b3, b4, _⟩ := begE_of h hi (fun o => o = 5) q.a5 q.l5
  exact ⟨b1, b2, by rw [b4]; exact q.over, by rw [b3]; exact q.ep, by rw [b3]; exact q.pk⟩
set_option maxRecDepth 100000 in
theorem HQ.step (q : HQ calls s) (h : HE calls s t) (ht : t < 100000) {i : Nat} (hi : i < calls.length) : HQ calls (stepE calls.length s i) := by
  have hil : i < s.a.length := by rw [h.si.al]; exact hi
  rcases (h.step ht hi).2 with ⟨e, _⟩ | ⟨f, m', g, hf, F, ev, D, e⟩
  · rw [e]; exact q
  · rw [e]
    have f5 : f.op = 5 := by
      rcases q.a5 i hi with h1 | h1
      · rw [hf] at h1
        have := F.ops
        rw [h1] at this
        exact absurd this (by decide)
      · rwa [hf] at h1
    have hu := F.uf.2.1.1
    have hx : f.x / 65536 = 0 := by have := F.ep f5; have := q.ep; omega
    have hp : f.pc < 4 := by
      have h4 := F.p4 f5
      have := F.pc5 f5
      have := q.pk i
      by_cases c : f.pc = 4
      · have := h4 c; omega
      · omega
    obtain ⟨o, p, qq, v, x, y, r⟩ := f
    have h1 : o = 5 := f5
    have h2 : qq = i := F.who
    have h3 : r = 0 := F.res
    subst h1 h2 h3
    rw [evS_5 rfl] at ev
    obtain ⟨m2, g2, k1, k2, k3, k4⟩ := wait_quiet (v := v) (y := y) (okw_of h.si.ok (w := i) (by omega) (by omega)) F.pc0 hp q.ep hx (q.pk i)
    rw [ev] at k1
    injection k1 with k5 k6
    subst k5 k6
    have hl : left1 g = g := if_pos k2
    refine ⟨fun j hj => ?_, q.l5, by show (if g.res = 0 then s.over else s.over ++ [g]) = []; rw [if_pos k2]; exact q.over, k3, fun w => by show at0 m' _ = 0; rw [k4]; exact q.pk w⟩
    show (s.a.set i (left1 g)).getD j fnE = fnE ∨ ((s.a.set i (left1 g)).getD j fnE).op = 5
    rw [hl]
    by_cases c : i = j
    · subst c
      rw [getE_eq hil]; exact .inr D.1
    · rw [getE_ne c]; exact q.a5 j hj
set_option maxRecDepth 100000 in
theorem HQ.fold : ∀ (who : List Int) {s : PE} {t : Nat}, HQ calls s → HE calls s t → t + 2 * who.length < 99999 → HQ calls (who.foldl (playE1 calls.length) s)
  | [], _, _, q, _, _ => q
  | i :: who, s, t, q, h, ht => by
    have hl : (i :: who).length = who.length + 1 := rfl
    rw [hl] at ht
    rw [List.foldl_cons]
    refine HQ.fold who ?_ (h.play1 (by omega) i) (by omega)
    unfold playE1
    by_cases c : 0 ≤ i ∧ i < calls.length
    · rw [if_pos c]
      exact (q.beg h (i := i.toNat) (by omega)).step (h.beg (by omega)) (by omega) (by omega)
    · rw [if_neg c]; exact q
set_option maxRecDepth 100000 in
/-- If nobody wakes, nobody who waits is over. -/
theorem nobody_wakes (h1 : 1 ≤ calls.length) (h8 : calls.length ≤ 8) (h5 : ∀ l ∈ calls, ∀ u ∈ l, isEv u = true → u = 5) (who : List Int) (hw : who.length ≤ 500) : (playE calls who).over = [] := by
  refine (HQ.fold who ?_ (HE.start h1 h8) (by omega)).over
  refine ⟨fun i _ => .inl (startE_a _ _), fun i hi => ?_, rfl, ?_, fun w => at0_noughtE _ _⟩
  · show ∀ u ∈ calls.getD i [], isEv u = true → u = 5
    rw [List.getD_eq_getElem?_getD, List.getElem?_eq_getElem hi]
    exact h5 _ (List.getElem_mem hi)
  · show at0 (List.replicate _ 0) 2 / 65536 = 0
    rw [at0_noughtE]; decide
/-- What holds where nobody waits. -/
structure HZ (calls : List (List Int)) (s : PE) : Prop where
  an : ∀ i, i < calls.length → s.a.getD i fnE = fnE ∨ (s.a.getD i fnE).op ≠ 5
  ap : ∀ i, i < calls.length → s.a.getD i fnE = fnE ∨ (s.a.getD i fnE).pc < 2
  ln : ∀ i, i < calls.length → ∀ u ∈ s.left.getD i [], isEv u = true → u ≠ 5
  ov : ∀ f ∈ s.over, f.op ≠ 5 ∧ f.res = 3
  mz : at0 s.m 2 % 65536 = 0
set_option maxRecDepth 100000 in
theorem HZ.beg (q : HZ calls s) (h : HE calls s t) {i : Nat} (hi : i < calls.length) : HZ calls (begE s i) := by
  obtain ⟨b1, b2, b3, b4, b5⟩ := begE_of h hi (fun o => o ≠ 5) q.an q.ln
  refine ⟨b1, fun j hj => ?_, b2, by rw [b4]; exact q.ov, by rw [b3]; exact q.mz⟩
  rcases b5 j hj with e | e | e
  · rw [e]; exact q.ap j hj
  · exact .inl e
  · exact .inr (by omega)
set_option maxRecDepth 100000 in
theorem note_quiet {n : Nat} {m : List Int} {i : Nat} {o p v x y : Int} (hk : okm n 1 1 0 m = true) (ho : o = 6 ∨ o = 7) (h0 : 0 ≤ p) (h2 : p < 2) (mk : at0 m 2 % 65536 = 0) :
    ∃ m' g, noteS n 1 1 0 m ⟨o, p, i, v, x, y, 0⟩ = (m', g) ∧ (g.res = 0 ∨ g.res = 3) ∧ g.pc < 2 ∧ at0 m' 2 % 65536 = 0 := by
  have hl := okm_long10 hk
  rcases (show p = 0 ∨ p = 1 by omega) with rfl | rfl
  · exact ⟨_, _, noteS_0 hk ho, .inl rfl, by show (1 : Int) < 2; decide, mk⟩
  · by_cases e : at0 m 2 = x
    · have hz : x % 65536 = 0 := by rw [← e]; exact mk
      refine ⟨put m 2 (nxN o x), ⟨o, 0, i, 0, 0, 0, 3⟩, (noteS_1 hk ho e).trans (by rw [if_pos hz]), .inr rfl, by show (0 : Int) < 2; decide, ?_⟩
      rw [at0_put _ (by omega) (by omega)]
      rcases ho with rfl | rfl
      · rw [nxN_mask6]
        have hlw : lw x = -1 := by
          rcases lw_cases x with ⟨a, _⟩ | ⟨k, hk2, _, b, _⟩
          · exact a
          · rw [← bit_mask x k hk2, hz] at b; simp at b
        unfold rs
        rw [hlw, if_neg (by omega)]; exact hz
      · exact nxN_mask7 x
    · exact ⟨_, _, noteS_1n hk ho e, .inl rfl, by show (0 : Int) < 2; decide, mk⟩
set_option maxRecDepth 100000 in
theorem HZ.step (q : HZ calls s) (h : HE calls s t) (ht : t < 100000) {i : Nat} (hi : i < calls.length) : HZ calls (stepE calls.length s i) := by
  have hil : i < s.a.length := by rw [h.si.al]; exact hi
  rcases (h.step ht hi).2 with ⟨e, _⟩ | ⟨f, m', g, hf, F, ev, D, e⟩
  · rw [e]; exact q
  · rw [e]
    have nofn : f ≠ fnE := fun h1 => by
      have := F.ops
      rw [h1] at this
      exact absurd this (by decide)
    have f5 : f.op ≠ 5 := by
      rcases q.an i hi with h1 | h1
      · rw [hf] at h1; exact absurd h1 nofn
      · rwa [hf] at h1
    have fp : f.pc < 2 := by
      rcases q.ap i hi with h1 | h1
      · rw [hf] at h1; exact absurd h1 nofn
      · rwa [hf] at h1
    have ho : f.op = 6 ∨ f.op = 7 := by have := F.ops; omega
    obtain ⟨o, p, qq, v, x, y, r⟩ := f
    have h2 : qq = i := F.who
    have h3 : r = 0 := F.res
    subst h2 h3
    rw [evS_n f5] at ev
    obtain ⟨m2, g2, k1, k2, k3, k4⟩ := note_quiet (i := i) (v := v) (x := x) (y := y) h.si.ok ho F.pc0 fp q.mz
    rw [ev] at k1
    injection k1 with k5 k6
    subst k5 k6
    have gop : g.op ≠ 5 := by rw [D.1]; exact f5
    have hlt : left1 g = fnE ∨ (left1 g).op ≠ 5 ∧ (left1 g).pc < 2 := by
      unfold left1
      split
      · exact .inr ⟨gop, k3⟩
      · exact .inl rfl
    refine ⟨fun j hj => ?_, fun j hj => ?_, q.ln, fun f' hf' => ?_, k4⟩
    · show (s.a.set i (left1 g)).getD j fnE = fnE ∨ ((s.a.set i (left1 g)).getD j fnE).op ≠ 5
      by_cases c : i = j
      · subst c
        rw [getE_eq hil]; exact hlt.imp id (fun z => z.1)
      · rw [getE_ne c]; exact q.an j hj
    · show (s.a.set i (left1 g)).getD j fnE = fnE ∨ ((s.a.set i (left1 g)).getD j fnE).pc < 2
      by_cases c : i = j
      · subst c
        rw [getE_eq hil]; exact hlt.imp id (fun z => z.2)
      · rw [getE_ne c]; exact q.ap j hj
    · have hf' : f' ∈ (if g.res = 0 then s.over else s.over ++ [g]) := hf'
      by_cases c : g.res = 0
      · rw [if_pos c] at hf'; exact q.ov f' hf'
      · rw [if_neg c] at hf'
        rcases List.mem_append.1 hf' with h4 | h4
        · exact q.ov f' h4
        · have : f' = g := by simpa using h4
          rw [this]
          exact ⟨gop, k2.resolve_left c⟩
set_option maxRecDepth 100000 in
theorem HZ.fold : ∀ (who : List Int) {s : PE} {t : Nat}, HZ calls s → HE calls s t → t + 2 * who.length < 99999 → HZ calls (who.foldl (playE1 calls.length) s)
  | [], _, _, q, _, _ => q
  | i :: who, s, t, q, h, ht => by
    have hl : (i :: who).length = who.length + 1 := rfl
    rw [hl] at ht
    rw [List.foldl_cons]
    refine HZ.fold who ?_ (h.play1 (by omega) i) (by omega)
    unfold playE1
    by_cases c : 0 ≤ i ∧ i < calls.length
    · rw [if_pos c]
      exact (q.beg h (i := i.toNat) (by omega)).step (h.beg (by omega)) (by omega) (by omega)
    · rw [if_neg c]; exact q
set_option maxRecDepth 100000 in
/-- If nobody waits, each wake finds nobody. -/
theorem nobody_waits (h1 : 1 ≤ calls.length) (h8 : calls.length ≤ 8) (h5 : ∀ l ∈ calls, ∀ u ∈ l, isEv u = true → u ≠ 5) (who : List Int) (hw : who.length ≤ 500) : ∀ f ∈ (playE calls who).over, f.op ≠ 5 ∧ f.res = 3 := by
  refine (HZ.fold who ?_ (HE.start h1 h8) (by omega)).ov
  refine ⟨fun i _ => .inl (startE_a _ _), fun i _ => .inl (startE_a _ _), fun i hi => ?_, fun f hf => (by cases hf), ?_⟩
  · show ∀ u ∈ calls.getD i [], isEv u = true → u ≠ 5
    rw [List.getD_eq_getElem?_getD, List.getElem?_eq_getElem hi]
    exact h5 _ (List.getElem_mem hi)
  · show at0 (List.replicate _ 0) 2 % 65536 = 0
    rw [at0_noughtE]; decide
end
end Go.Proofs.Ytgemaeibmgkneaa
