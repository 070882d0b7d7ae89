/- Merged: DqA, DqT, InM, InA. -/
import Derived.Test.YtlpkccpijloidaaGreatLaC
import Derived.Test.YtlpkccpijloidaaGreatCelC
import Derived.Test.YtlpkccpijloidaaGreatBaM
import Derived.Test.YtlpkccpijloidaaGreatFr0
namespace Go.Proofs.YtlpkccpijloidaaGreat
set_option maxRecDepth 100000
open Go.RowKit Go.Deep
/-- All numbers of 64 bits. -/
def UM (m : List Int) : Prop := ∀ u ∈ m, U u
/-- A call's numbers are of 64 bits. -/
def UF (f : Fr) : Prop := U f.val ∧ U f.x ∧ U f.y
theorem at0_U {m : List Int} (h : UM m) (i : Int) : U (at0 m i) := by
  unfold at0
  split
  · rw [List.getD_eq_getElem?_getD]
    cases e : m[i.toNat]? with
    | none => unfold U; simp
    | some u => exact h u (List.mem_of_getElem? e)
  · unfold U; simp
theorem put_U {m : List Int} (h : UM m) (i : Int) {v : Int} (hv : U v) : UM (put m i v) := by
  unfold put
  split
  · intro u hu
    rcases List.mem_or_eq_of_mem_set hu with hu | rfl
    · exact h u hu
    · exact hv
  · exact h
/-- A row of cells is the layout's, and w is a worker of it. -/
def okw (W D J S : Int) (m : List Int) (w : Int) : Bool := may W D J S && decide ((m.length : Int) = sz W D J S) && decide (0 ≤ w) && decide (w < W)
/-- Where a slot lies. -/
def sI (D J w x : Int) : Int := bg D J w + 3 + x % D
theorem okw_iff {W D J S : Int} {m : List Int} {w : Int} : okw W D J S m w = true ↔ may W D J S = true ∧ (m.length : Int) = bg D J W ∧ 0 ≤ w ∧ w < W := by
  unfold okw
  simp only [Bool.and_eq_true, decide_eq_true_eq]
  constructor
  · rintro ⟨⟨⟨a, b⟩, c⟩, d⟩
    exact ⟨a, by rw [b, sz, if_pos a], c, d⟩
  · rintro ⟨a, b, c, d⟩
    exact ⟨⟨⟨a, by rw [b, sz, if_pos a]⟩, c⟩, d⟩
theorem okw_len {W D J S : Int} {m m' : List Int} {w : Int} (h : m'.length = m.length) : okw W D J S m' w = okw W D J S m w := by unfold okw; rw [h]
/-- Where the cells of a worker lie among all. -/
theorem bg_step {D J w W : Int} (hD : 1 ≤ D) (h : w < W) : bg D J w + (3 + D) ≤ bg D J W := by
  unfold bg
  have : (w + 1) * (3 + D) ≤ W * (3 + D) := Int.mul_le_mul_of_nonneg_right (by omega) (by omega)
  have e : (w + 1) * (3 + D) = w * (3 + D) + (3 + D) := by rw [Int.add_mul, Int.one_mul]
  omega
theorem bg_ge {D J w : Int} (hD : 1 ≤ D) (hJ : 1 ≤ J) (h : 0 ≤ w) : 8 ≤ bg D J w := by
  unfold bg
  have : 0 ≤ w * (3 + D) := Int.mul_nonneg h (by omega)
  omega
theorem sI_lim {D J w : Int} (hD : 1 ≤ D) (x : Int) : bg D J w + 3 ≤ sI D J w x ∧ sI D J w x < bg D J w + (3 + D) := by
  have := mod_lim x hD
  unfold sI; omega
/-- Numbers that are fewer than D apart have slots of their own. -/
theorem sI_inj {D J w x y : Int} (hD : 1 ≤ D) (h : sI D J w x = sI D J w y) (h1 : x - y < D) (h2 : y - x < D) : x = y := by
  unfold sI at h
  have h3 : x % D = y % D := by omega
  have e1 := Int.emod_add_mul_ediv x D
  have e2 := Int.emod_add_mul_ediv y D
  have h4 : x - y = D * (x / D - y / D) := by rw [Int.mul_sub]; omega
  rcases Int.lt_trichotomy (x / D - y / D) 0 with h5 | h5 | h5
  · have : D * (x / D - y / D) ≤ D * (-1) := Int.mul_le_mul_of_nonneg_left (by omega) (by omega)
    omega
  · rw [h5] at h4; omega
  · have : D * 1 ≤ D * (x / D - y / D) := Int.mul_le_mul_of_nonneg_left (by omega) (by omega)
    omega
theorem p2_dvd {D : Int} (h : p2 D = true) (x : Int) : x % 18446744073709551616 % D = x % D := by
  unfold p2 at h
  simp only [decide_eq_true_eq] at h
  rcases h with rfl | rfl | rfl | rfl | rfl <;> omega
theorem may_p2 {W D J S : Int} (h : may W D J S = true) : p2 D = true := by
  unfold may at h
  simp only [Bool.and_eq_true] at h
  exact h.1.1.2
theorem sI_mod {W D J S : Int} (h : may W D J S = true) (w x : Int) : sI D J w (x % 18446744073709551616) = sI D J w x := by
  unfold sI; rw [p2_dvd (may_p2 h)]
/-- The list of a deque, or none. -/
def lst (W D J S : Int) (m : List Int) (w : Int) : Option (List Int) :=
  if okw W D J S m w = true ∧ 0 ≤ far (at0 m (bg D J w + 1)) (at0 m (bg D J w)) ∧ far (at0 m (bg D J w + 1)) (at0 m (bg D J w)) ≤ D then
    some ((List.range (far (at0 m (bg D J w + 1)) (at0 m (bg D J w))).toNat).map fun i : Nat => at0 m (sI D J w (at0 m (bg D J w) + i)))
  else none
/-- A deque from t on has the numbers l. -/
structure Vw (D J : Int) (m : List Int) (w t : Int) (l : List Int) : Prop where
  top : at0 m (bg D J w) = t
  bot : at0 m (bg D J w + 1) = (t + l.length) % 18446744073709551616
  len : (l.length : Int) ≤ D
  at_ : ∀ (i : Nat) u, l[i]? = some u → at0 m (sI D J w (t + i)) = u
end Go.Proofs.YtlpkccpijloidaaGreat
namespace Go.Proofs.YtlpkccpijloidaaGreat
set_option maxRecDepth 100000
open Go.RowKit Go.Deep
/-- A call goes on. -/
def goes (W D J S : Int) (m : List Int) (f : Fr) (op pcs : Int) : Bool := okw W D J S m f.who && decide (f.res = 0) && decide (f.op = op) && decide (0 ≤ f.pc) && decide (f.pc < pcs)
theorem goes_iff {W D J S : Int} {m : List Int} {f : Fr} {op pcs : Int} : goes W D J S m f op pcs = true ↔ okw W D J S m f.who = true ∧ f.res = 0 ∧ f.op = op ∧ 0 ≤ f.pc ∧ f.pc < pcs := by
  unfold goes
  simp only [Bool.and_eq_true, decide_eq_true_eq]
  constructor
  · rintro ⟨⟨⟨⟨a, b⟩, c⟩, d⟩, e⟩; exact ⟨a, b, c, d, e⟩
  · rintro ⟨a, b, c, d, e⟩; exact ⟨⟨⟨⟨a, b⟩, c⟩, d⟩, e⟩
/-- One step of a push. -/
def pushS (W D J S : Int) (m : List Int) (f : Fr) : List Int × Fr :=
  if goes W D J S m f 0 4 = true then
    if f.pc = 0 then (m, { f with x := at0 m (bg D J f.who + 1), pc := 1 })
    else if f.pc = 1 then
      if D ≤ (f.x - at0 m (bg D J f.who)) % 18446744073709551616 then (m, ed f 2 f.val) else (m, { f with y := at0 m (bg D J f.who), pc := 2 })
    else if f.pc = 2 then (put m (sI D J f.who f.x) f.val, { f with pc := 3 })
    else (put m (bg D J f.who + 1) ((f.x + 1) % 18446744073709551616), ed f 1 f.val)
  else (m, f)
theorem pushS_len (W D J S : Int) (m : List Int) (f : Fr) : (pushS W D J S m f).1.length = m.length := by
  unfold pushS
  repeat' split
  all_goals simp [len_put]
/-- So many steps. -/
def pushN (W D J S : Int) : Nat → List Int × Fr → List Int × Fr
  | 0, s => s
  | k + 1, s => let s' := pushN W D J S k s; pushS W D J S s'.1 s'.2
/-- A number in the slot behind the last one: the list is as it was. -/
theorem Vw.slot {W D J S : Int} {m : List Int} {w t : Int} {l : List Int} (hk : okw W D J S m w = true) (h : Vw D J m w t l) (hl : (l.length : Int) < D) (v : Int) : Vw D J (put m (sI D J w ((t + l.length) % 18446744073709551616)) v) w t l := by
  obtain ⟨hm, _, _, _⟩ := okw_iff.1 hk
  obtain ⟨hW, hD, hJ, hS⟩ := may_lim hm
  rw [sI_mod hm]
  have hs := sI_lim (J := J) (w := w) hD.1 (t + l.length)
  refine ⟨?_, ?_, h.len, fun i u hi => ?_⟩
  · rw [at0_put_ne _ _ (by omega)]; exact h.top
  · rw [at0_put_ne _ _ (by omega)]; exact h.bot
  · have hil := (List.getElem?_eq_some_iff.1 hi).1
    rw [at0_put_ne _ _ (fun e => by have := sI_inj hD.1 e (by omega) (by omega); omega)]
    exact h.at_ i u hi
/-- Then one more is told. -/
theorem Vw.more {W D J S : Int} {m : List Int} {w t : Int} {l : List Int} (hk : okw W D J S m w = true) (h : Vw D J m w t l) (hl : (l.length : Int) < D) (v : Int) :
    Vw D J (put (put m (sI D J w ((t + l.length) % 18446744073709551616)) v) (bg D J w + 1) ((((t + l.length) % 18446744073709551616) + 1) % 18446744073709551616)) w t (l ++ [v]) := by
  obtain ⟨hm, hlen, h0, h1⟩ := okw_iff.1 hk
  obtain ⟨hW, hD, hJ, hS⟩ := may_lim hm
  have h2 := h.slot hk hl v
  have hb := bg_step (J := J) hD.1 h1
  have hg := bg_ge (J := J) (w := w) hD.1 hJ.1 h0
  refine ⟨?_, ?_, by simp; omega, fun i u hi => ?_⟩
  · rw [at0_put_ne _ _ (by omega)]; exact h2.top
  · rw [at0_put _ (by omega) (by rw [len_put]; omega)]
    simp only [List.length_append, List.length_singleton]; omega
  · have hs := sI_lim (J := J) (w := w) hD.1 (t + i)
    rw [at0_put_ne _ _ (by omega)]
    rcases Nat.lt_or_ge i l.length with hil | hil
    · rw [List.getElem?_append_left hil] at hi
      exact h2.at_ i u hi
    · have hil2 := (List.getElem?_eq_some_iff.1 hi).1
      simp at hil2
      obtain rfl : i = l.length := by omega
      simp at hi
      subst hi
      rw [sI_mod hm, at0_put _ (by omega) (by omega)]
end Go.Proofs.YtlpkccpijloidaaGreat
namespace Go.Proofs.YtlpkccpijloidaaGreat
set_option maxRecDepth 100000
open Go.RowKit Go.Deep
/-- So many steps. -/
def itN (g : List Int → Fr → List Int × Fr) : Nat → List Int × Fr → List Int × Fr
  | 0, s => s
  | k + 1, s => g (itN g k s).1 (itN g k s).2
/-- One step of a pop. -/
def popS (W D J S : Int) (m : List Int) (f : Fr) : List Int × Fr :=
  if goes W D J S m f 1 7 = true then
    if f.pc = 0 then (m, { f with x := (at0 m (bg D J f.who + 1) - 1) % 18446744073709551616, pc := 1 })
    else if f.pc = 1 then (put m (bg D J f.who + 1) f.x, { f with pc := 2 })
    else if f.pc = 2 then (m, { f with y := at0 m (bg D J f.who), pc := if far f.x (at0 m (bg D J f.who)) < 0 then 6 else 3 })
    else if f.pc = 3 then
      if f.x = f.y then (m, { f with val := at0 m (sI D J f.who f.x), pc := 4 }) else (m, ed f 1 (at0 m (sI D J f.who f.x)))
    else if f.pc = 4 then
      if at0 m (bg D J f.who) = f.y then (put m (bg D J f.who) ((f.y + 1) % 18446744073709551616), { f with pc := 5 }) else (m, { f with pc := 6 })
    else if f.pc = 5 then (put m (bg D J f.who + 1) ((f.x + 1) % 18446744073709551616), ed f 1 f.val)
    else (put m (bg D J f.who + 1) ((f.x + 1) % 18446744073709551616), ed f 3 0)
  else (m, f)
theorem popS_len (W D J S : Int) (m : List Int) (f : Fr) : (popS W D J S m f).1.length = m.length := by
  unfold popS
  repeat' split
  all_goals simp [len_put]
section
variable {W D J S : Int} {m : List Int} {w v x y : Int}
end
/-- The list without its last number. -/
theorem Vw.less {W D J S : Int} {m : List Int} {w t : Int} {l : List Int} {u : Int} (hk : okw W D J S m w = true) (h : Vw D J m w t (l ++ [u])) : Vw D J (put m (bg D J w + 1) ((t + l.length) % 18446744073709551616)) w t l := by
  obtain ⟨hm, hlen, h0, h1⟩ := okw_iff.1 hk
  obtain ⟨hW, hD, hJ, hS⟩ := may_lim hm
  have hb := bg_step (J := J) hD.1 h1
  have hg := bg_ge (J := J) (w := w) hD.1 hJ.1 h0
  have hl := h.len
  simp only [List.length_append, List.length_singleton] at hl
  refine ⟨?_, ?_, by omega, fun i z hi => ?_⟩
  · rw [at0_put_ne _ _ (by omega)]; exact h.top
  · rw [at0_put _ (by omega) (by omega)]
  · have hs := sI_lim (J := J) (w := w) hD.1 (t + i)
    rw [at0_put_ne _ _ (by omega)]
    exact h.at_ i z (by rw [List.getElem?_append_left (List.getElem?_eq_some_iff.1 hi).1]; exact hi)
/-- The list without its first number. -/
theorem Vw.tail {W D J S : Int} {m : List Int} {w t : Int} {l : List Int} {u : Int} (hk : okw W D J S m w = true) (h : Vw D J m w t (u :: l)) : Vw D J (put m (bg D J w) ((t + 1) % 18446744073709551616)) w ((t + 1) % 18446744073709551616) l := by
  obtain ⟨hm, hlen, h0, h1⟩ := okw_iff.1 hk
  obtain ⟨hW, hD, hJ, hS⟩ := may_lim hm
  have hb := bg_step (J := J) hD.1 h1
  have hg := bg_ge (J := J) (w := w) hD.1 hJ.1 h0
  have hl := h.len
  simp only [List.length_cons] at hl
  refine ⟨?_, ?_, by omega, fun i z hi => ?_⟩
  · rw [at0_put _ (by omega) (by omega)]
  · rw [at0_put_ne _ _ (by omega), h.bot]
    simp only [List.length_cons]; omega
  · have hs := sI_lim (J := J) (w := w) hD.1 ((t + 1) % 18446744073709551616 + i)
    rw [at0_put_ne _ _ (by omega)]
    have e : sI D J w ((t + 1) % 18446744073709551616 + i) = sI D J w (t + (i + 1 : Nat)) := by
      rw [← sI_mod hm, show ((t + 1) % 18446744073709551616 + (i : Int)) % 18446744073709551616 = (t + ((i + 1 : Nat) : Int)) % 18446744073709551616 by omega, sI_mod hm]
    rw [e]
    exact h.at_ (i + 1) z (by simpa using hi)
/-- One step of a steal. -/
def stealS (W D J S : Int) (m : List Int) (f : Fr) : List Int × Fr :=
  if goes W D J S m f 2 4 = true then
    if f.pc = 0 then (m, { f with y := at0 m (bg D J f.who), pc := 1 })
    else if f.pc = 1 then
      if far (at0 m (bg D J f.who + 1)) f.y ≤ 0 then (m, ed f 3 0) else (m, { f with x := at0 m (bg D J f.who + 1), pc := 2 })
    else if f.pc = 2 then (m, { f with val := at0 m (sI D J f.who f.y), pc := 3 })
    else if at0 m (bg D J f.who) = f.y then (put m (bg D J f.who) ((f.y + 1) % 18446744073709551616), ed f 1 f.val) else (m, ed f 4 0)
  else (m, f)
theorem stealS_len (W D J S : Int) (m : List Int) (f : Fr) : (stealS W D J S m f).1.length = m.length := by
  unfold stealS
  repeat' split
  all_goals simp [len_put]
section
variable {W D J S : Int} {m : List Int} {w v x y : Int}
end
end Go.Proofs.YtlpkccpijloidaaGreat
namespace Go.Proofs.YtlpkccpijloidaaGreat
set_option maxRecDepth 100000
open Go.RowKit Go.Deep
/-- Two calls, in turn, so many times each. -/
def duo (s1 s2 : List Int → Fr → List Int × Fr) : Nat → List Int × Fr × Fr → List Int × Fr × Fr
  | 0, s => s
  | k + 1, s => ((s2 (s1 (duo s1 s2 k s).1 (duo s1 s2 k s).2.1).1 (duo s1 s2 k s).2.2).1, (s1 (duo s1 s2 k s).1 (duo s1 s2 k s).2.1).2, (s2 (s1 (duo s1 s2 k s).1 (duo s1 s2 k s).2.1).1 (duo s1 s2 k s).2.2).2)
end Go.Proofs.YtlpkccpijloidaaGreat
namespace Go.Proofs.YtlpkccpijloidaaGreat
set_option maxRecDepth 100000
open Go.RowKit Go.Deep
/-- A row of cells is the layout's. -/
def okm (W D J S : Int) (m : List Int) : Bool := may W D J S && decide ((m.length : Int) = sz W D J S)
theorem okm_iff {W D J S : Int} {m : List Int} : okm W D J S m = true ↔ may W D J S = true ∧ (m.length : Int) = bg D J W := by
  unfold okm
  simp only [Bool.and_eq_true, decide_eq_true_eq]
  constructor
  · rintro ⟨a, b⟩; exact ⟨a, by rw [b, sz, if_pos a]⟩
  · rintro ⟨a, b⟩; exact ⟨a, by rw [b, sz, if_pos a]⟩
theorem okm_len {W D J S : Int} {m m' : List Int} (h : m'.length = m.length) : okm W D J S m' = okm W D J S m := by unfold okm; rw [h]
theorem okm_put {W D J S : Int} {m : List Int} (h : okm W D J S m = true) (i u : Int) : okm W D J S (put m i u) = true := by rw [okm_len (m := m) (len_put _ _ _)]; exact h
/-- A call goes on at the injector. -/
def goesE (W D J S : Int) (m : List Int) (f : Fr) (op : Int) : Bool := okm W D J S m && decide (f.res = 0) && decide (f.op = op) && decide (0 ≤ f.pc) && decide (f.pc ≤ 4)
theorem goesE_iff {W D J S : Int} {m : List Int} {f : Fr} {op : Int} : goesE W D J S m f op = true ↔ okm W D J S m = true ∧ f.res = 0 ∧ f.op = op ∧ 0 ≤ f.pc ∧ f.pc ≤ 4 := by
  unfold goesE
  simp only [Bool.and_eq_true, decide_eq_true_eq]
  constructor
  · rintro ⟨⟨⟨⟨a, b⟩, c⟩, d⟩, e⟩; exact ⟨a, b, c, d, e⟩
  · rintro ⟨a, b, c, d, e⟩; exact ⟨⟨⟨⟨a, b⟩, c⟩, d⟩, e⟩
/-- Where a place's sequence and its value lie, and twice its round. -/
def sqI (J x : Int) : Int := 6 + x % J
def vlI (J x : Int) : Int := 6 + J + x % J
def tw (J x : Int) : Int := 2 * (x / J)
/-- One step of putting in. -/
def enqS (W D J S : Int) (m : List Int) (f : Fr) : List Int × Fr :=
  if goesE W D J S m f 3 = true then
    if f.pc = 0 then (m, { f with x := at0 m 5, pc := 1 })
    else if f.pc = 1 then
      if at0 m (sqI J f.x) = tw J f.x % 18446744073709551616 then (m, { f with y := at0 m (sqI J f.x), pc := 2 })
      else if far (at0 m (sqI J f.x)) (tw J f.x % 18446744073709551616) < 0 then (m, ed f 2 f.val)
      else (m, { f with y := at0 m (sqI J f.x), pc := 0 })
    else if f.pc = 2 then
      if at0 m 5 = f.x then (put m 5 ((f.x + 1) % 18446744073709551616), { f with pc := 3 }) else (m, { f with pc := 0 })
    else if f.pc = 3 then (put m (vlI J f.x) f.val, { f with pc := 4 })
    else (put m (sqI J f.x) ((tw J f.x + 1) % 18446744073709551616), ed f 1 f.val)
  else (m, f)
/-- One step of taking out. -/
def outS (W D J S : Int) (m : List Int) (f : Fr) : List Int × Fr :=
  if goesE W D J S m f 4 = true then
    if f.pc = 0 then (m, { f with x := at0 m 4, pc := 1 })
    else if f.pc = 1 then
      if at0 m (sqI J f.x) = (tw J f.x + 1) % 18446744073709551616 then (m, { f with y := at0 m (sqI J f.x), pc := 2 })
      else if far (at0 m (sqI J f.x)) ((tw J f.x + 1) % 18446744073709551616) < 0 then (m, ed f 3 0)
      else (m, { f with y := at0 m (sqI J f.x), pc := 0 })
    else if f.pc = 2 then
      if at0 m 4 = f.x then (put m 4 ((f.x + 1) % 18446744073709551616), { f with pc := 3 }) else (m, { f with pc := 0 })
    else if f.pc = 3 then (m, { f with val := at0 m (vlI J f.x), pc := 4 })
    else (put m (sqI J f.x) ((tw J f.x + 2) % 18446744073709551616), ed f 1 f.val)
  else (m, f)
theorem enqS_len (W D J S : Int) (m : List Int) (f : Fr) : (enqS W D J S m f).1.length = m.length := by
  unfold enqS
  repeat' split
  all_goals simp [len_put]
theorem outS_len (W D J S : Int) (m : List Int) (f : Fr) : (outS W D J S m f).1.length = m.length := by
  unfold outS
  repeat' split
  all_goals simp [len_put]
section
variable {W D J S : Int} {m : List Int} {w v x y : Int}
end
/-- How many there are. -/
def ilen (W D J S : Int) (m : List Int) : Int := if okm W D J S m = true then far (at0 m 5) (at0 m 4) else -1
/-- Is a place's sequence as it should be? -/
def seqAt (J : Int) (m : List Int) (n : Int) (i : Nat) : Bool := decide (at0 m (sqI J ((at0 m 4 + i) % 18446744073709551616)) = (tw J ((at0 m 4 + i) % 18446744073709551616) + (if (i : Int) < n then 1 else 0)) % 18446744073709551616)
/-- The list of an injector, or none. -/
def ilst (W D J S : Int) (m : List Int) : Option (List Int) :=
  if 0 ≤ ilen W D J S m ∧ ilen W D J S m ≤ J ∧ (List.range J.toNat).all (seqAt J m (ilen W D J S m)) = true then
    some ((List.range (ilen W D J S m).toNat).map fun i : Nat => at0 m (vlI J ((at0 m 4 + i) % 18446744073709551616)))
  else none
/-- An injector from h on has the numbers l, and no wrap is near. -/
structure Vi (J : Int) (m : List Int) (h : Int) (l : List Int) : Prop where
  head : at0 m 4 = h
  tail : at0 m 5 = h + l.length
  len : (l.length : Int) ≤ J
  h0 : 0 ≤ h
  lim : h < 4611686018427387904
  sq_ : ∀ i : Nat, (i : Int) < J → at0 m (sqI J (h + i)) = tw J (h + i) + (if i < l.length then 1 else 0)
  at_ : ∀ (i : Nat) u, l[i]? = some u → at0 m (vlI J (h + i)) = u
end Go.Proofs.YtlpkccpijloidaaGreat
namespace Go.Proofs.YtlpkccpijloidaaGreat
set_option maxRecDepth 100000
open Go.RowKit Go.Deep
theorem okm_long {W D J S : Int} {m : List Int} (hk : okm W D J S m = true) : 6 + 2 * J + 4 ≤ (m.length : Int) := by
  obtain ⟨hm, hlen⟩ := okm_iff.1 hk
  obtain ⟨hW, hD, hJ, hS⟩ := may_lim hm
  have h1 := bg_step (J := J) (w := 0) (W := W) hD.1 (by omega)
  have h2 : bg D J 0 = 6 + 2 * J := by unfold bg; omega
  omega
/-- A new injector. -/
theorem Vi.new {W D J S : Int} (hm : may W D J S = true) (n : Nat) : Vi J (List.replicate n 0) 0 [] := by
  obtain ⟨hW, hD, hJ, hS⟩ := may_lim hm
  have z : ∀ i, at0 (List.replicate n 0) i = 0 := fun i => by
    unfold at0
    split
    · rw [List.getD_eq_getElem?_getD, List.getElem?_replicate]; split <;> rfl
    · rfl
  refine ⟨z _, by rw [z]; rfl, by simp; omega, by omega, by omega, fun i hi => ?_, fun i u hi => by simp at hi⟩
  rw [z, if_neg (by simp)]
  unfold tw
  rw [Int.ediv_eq_zero_of_lt (by omega) (by omega)]; rfl
end Go.Proofs.YtlpkccpijloidaaGreat
