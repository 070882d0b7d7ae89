/- Merged: DqM, DqP, DqO. -/
import Derived.Test.YtgemaeibmgkneaaLaC
import Derived.Test.YtgemaeibmgkneaaCelC
import Derived.Test.YtgemaeibmgkneaaBaM
import Derived.Test.YtgemaeibmgkneaaFrH2
namespace Go.Proofs.Ytgemaeibmgkneaa
open Go.RowKit Go.Deep
/-- All numbers of 64 bits. -/
def UM (m : List Int) : Prop := ∀ u ∈ m, U u
/-- A call's numbers are of 64 bits. -/
def UF (f : Fr) : Prop := U f.val ∧ U f.x ∧ U f.y
set_option maxRecDepth 100000 in
theorem at0_U {m : List Int} (h : UM m) (i : Int) : U (at0 m i) := by
  unfold at0
  split
  · rw [List.getD_eq_getElem?_getD]
    cases e : m[i.toNat]? with
    | none => unfold U; simp
    | some u => exact h u (List.mem_of_getElem? e)
  · unfold U; simp
set_option maxRecDepth 100000 in
theorem put_U {m : List Int} (h : UM m) (i : Int) {v : Int} (hv : U v) : UM (put m i v) := by
  unfold put
  split
  · intro u hu
    rcases List.mem_or_eq_of_mem_set hu with hu | rfl
    · exact h u hu
    · exact hv
  · exact h
set_option maxRecDepth 100000 in
theorem mod_U (x : Int) : U (x % 18446744073709551616) := by unfold U; omega
/-- A row of cells is the layout's, and w is a worker of it. -/
def okw (W D J S : Int) (m : List Int) (w : Int) : Bool := may W D J S && decide ((m.length : Int) = sz W D J S) && decide (0 ≤ w) && decide (w < W)
/-- Where a slot lies. -/
def sI (D J w x : Int) : Int := bg D J w + 3 + x % D
set_option maxRecDepth 100000 in
theorem okw_iff {W D J S : Int} {m : List Int} {w : Int} : okw W D J S m w = true ↔ may W D J S = true ∧ (m.length : Int) = bg D J W ∧ 0 ≤ w ∧ w < W := by
  unfold okw
  simp only [Bool.and_eq_true, decide_eq_true_eq]
  constructor
  · rintro ⟨⟨⟨a, b⟩, c⟩, d⟩
    exact ⟨a, by rw [b, sz, if_pos a], c, d⟩
  · rintro ⟨a, b, c, d⟩
    exact ⟨⟨⟨a, by rw [b, sz, if_pos a]⟩, c⟩, d⟩
set_option maxRecDepth 100000 in
theorem okw_len {W D J S : Int} {m m' : List Int} {w : Int} (h : m'.length = m.length) : okw W D J S m' w = okw W D J S m w := by unfold okw; rw [h]
set_option maxRecDepth 100000 in
/-- Where the cells of a worker lie among all. -/
theorem bg_step {D J w W : Int} (hD : 1 ≤ D) (h : w < W) : bg D J w + (3 + D) ≤ bg D J W := by
  unfold bg
  have : (w + 1) * (3 + D) ≤ W * (3 + D) := Int.mul_le_mul_of_nonneg_right (by omega) (by omega)
  have e : (w + 1) * (3 + D) = w * (3 + D) + (3 + D) := by rw [Int.add_mul, Int.one_mul]
  omega
set_option maxRecDepth 100000 in
theorem bg_ge {D J w : Int} (hD : 1 ≤ D) (hJ : 1 ≤ J) (h : 0 ≤ w) : 8 ≤ bg D J w := by
  unfold bg
  have : 0 ≤ w * (3 + D) := Int.mul_nonneg h (by omega)
  omega
set_option maxRecDepth 100000 in
/-- Cells of two workers are not the same. -/
theorem bg_apart {D J w k a b : Int} (hD : 1 ≤ D) (h : ¬ k = w) (ha : 0 ≤ a ∧ a < 3 + D) (hb : 0 ≤ b ∧ b < 3 + D) : ¬ bg D J w + a = bg D J k + b := by
  rcases Int.lt_or_gt_of_ne h with h | h
  · have := bg_step (J := J) hD h; omega
  · have := bg_step (J := J) hD h; omega
set_option maxRecDepth 100000 in
theorem sI_lim {D J w : Int} (hD : 1 ≤ D) (x : Int) : bg D J w + 3 ≤ sI D J w x ∧ sI D J w x < bg D J w + (3 + D) := by
  have := mod_lim x hD
  unfold sI; omega
set_option maxRecDepth 100000 in
/-- Numbers that are fewer than D apart have slots of their own. -/
theorem sI_inj {D J w x y : Int} (hD : 1 ≤ D) (h : sI D J w x = sI D J w y) (h1 : x - y < D) (h2 : y - x < D) : x = y := by
  unfold sI at h
  have h3 : x % D = y % D := by omega
  have e1 := Int.emod_add_mul_ediv x D
  have e2 := Int.emod_add_mul_ediv y D
  have h4 : x - y = D * (x / D - y / D) := by rw [Int.mul_sub]; omega
  rcases Int.lt_trichotomy (x / D - y / D) 0 with h5 | h5 | h5
  · have : D * (x / D - y / D) ≤ D * (-1) := Int.mul_le_mul_of_nonneg_left (by omega) (by omega)
    omega
  · rw [h5] at h4; omega
  · have : D * 1 ≤ D * (x / D - y / D) := Int.mul_le_mul_of_nonneg_left (by omega) (by omega)
    omega
set_option maxRecDepth 100000 in
theorem p2_dvd {D : Int} (h : p2 D = true) (x : Int) : x % 18446744073709551616 % D = x % D := by
  unfold p2 at h
  simp only [decide_eq_true_eq] at h
  rcases h with rfl | rfl | rfl | rfl | rfl <;> omega
set_option maxRecDepth 100000 in
theorem may_p2 {W D J S : Int} (h : may W D J S = true) : p2 D = true := by
  unfold may at h
  simp only [Bool.and_eq_true] at h
  exact h.1.1.2
set_option maxRecDepth 100000 in
theorem sI_mod {W D J S : Int} (h : may W D J S = true) (w x : Int) : sI D J w (x % 18446744073709551616) = sI D J w x := by
  unfold sI; rw [p2_dvd (may_p2 h)]
/-- The list of a deque, or none. -/
def lst (W D J S : Int) (m : List Int) (w : Int) : Option (List Int) :=
  if okw W D J S m w = true ∧ 0 ≤ far (at0 m (bg D J w + 1)) (at0 m (bg D J w)) ∧ far (at0 m (bg D J w + 1)) (at0 m (bg D J w)) ≤ D then
    some ((List.range (far (at0 m (bg D J w + 1)) (at0 m (bg D J w))).toNat).map fun i : Nat => at0 m (sI D J w (at0 m (bg D J w) + i)))
  else none
/-- A deque from t on has the numbers l. -/
structure Vw (D J : Int) (m : List Int) (w t : Int) (l : List Int) : Prop where
  top : at0 m (bg D J w) = t
  bot : at0 m (bg D J w + 1) = (t + l.length) % 18446744073709551616
  len : (l.length : Int) ≤ D
  at_ : ∀ (i : Nat) u, l[i]? = some u → at0 m (sI D J w (t + i)) = u
set_option maxRecDepth 100000 in
theorem far_eq {t n : Int} (hn : 0 ≤ n ∧ n ≤ 16) : far ((t + n) % 18446744073709551616) t = n := by
  unfold far wrap64
  omega
set_option maxRecDepth 100000 in
theorem far_inv {b t n : Int} (hb : U b) (h : far b t = n) : b = (t + n) % 18446744073709551616 := by
  unfold U at hb
  unfold far wrap64 at h
  omega
set_option maxRecDepth 100000 in
theorem lst_some {W D J S : Int} {m : List Int} {w : Int} {l : List Int} (hu : UM m) (h : lst W D J S m w = some l) : okw W D J S m w = true ∧ Vw D J m w (at0 m (bg D J w)) l := by
  unfold lst at h
  split at h
  · rename_i hk
    obtain ⟨h1, h2, h3⟩ := hk
    obtain ⟨hW, hD, hJ, hS⟩ := may_lim (okw_iff.1 h1).1
    injection h with h
    subst h
    have e : ((List.range (far (at0 m (bg D J w + 1)) (at0 m (bg D J w))).toNat).map fun i : Nat => at0 m (sI D J w (at0 m (bg D J w) + i))).length = (far (at0 m (bg D J w + 1)) (at0 m (bg D J w))).toNat := by simp
    refine ⟨h1, rfl, ?_, ?_, fun i u hi => ?_⟩
    · rw [e]
      have := far_inv (at0_U hu (bg D J w + 1)) (t := at0 m (bg D J w)) rfl
      rw [Int.toNat_of_nonneg h2]
      exact this
    · rw [e]; omega
    · simp only [List.getElem?_map, Option.map_eq_some_iff] at hi
      obtain ⟨j, hj, rfl⟩ := hi
      have := (List.getElem?_eq_some_iff.1 hj).2
      simp at this
      subst this
      rfl
  · cases h
set_option maxRecDepth 100000 in
theorem lst_of {W D J S : Int} {m : List Int} {w t : Int} {l : List Int} (h1 : okw W D J S m w = true) (h : Vw D J m w t l) : lst W D J S m w = some l := by
  obtain ⟨hW, hD, hJ, hS⟩ := may_lim (okw_iff.1 h1).1
  have hl := h.len
  have e : far (at0 m (bg D J w + 1)) (at0 m (bg D J w)) = l.length := by rw [h.top, h.bot]; exact far_eq (by omega)
  unfold lst
  rw [if_pos ⟨h1, by rw [e]; omega, by rw [e]; exact hl⟩, e, h.top]
  congr 1
  apply List.ext_getElem?
  intro i
  simp only [List.getElem?_map]
  rcases Nat.lt_or_ge i l.length with hi | hi
  · rw [List.getElem?_range (by simpa using hi), List.getElem?_eq_getElem hi]
    simp only [Option.map_some]
    rw [h.at_ i _ (List.getElem?_eq_getElem hi)]
  · rw [List.getElem?_eq_none hi, List.getElem?_eq_none (by simpa using hi)]
    rfl
end Go.Proofs.Ytgemaeibmgkneaa
namespace Go.Proofs.Ytgemaeibmgkneaa
open Go.RowKit Go.Deep
/-- A call goes on. -/
def goes (W D J S : Int) (m : List Int) (f : Fr) (op pcs : Int) : Bool := okw W D J S m f.who && decide (f.res = 0) && decide (f.op = op) && decide (0 ≤ f.pc) && decide (f.pc < pcs)
set_option maxRecDepth 100000 in
theorem goes_iff {W D J S : Int} {m : List Int} {f : Fr} {op pcs : Int} : goes W D J S m f op pcs = true ↔ okw W D J S m f.who = true ∧ f.res = 0 ∧ f.op = op ∧ 0 ≤ f.pc ∧ f.pc < pcs := by
  unfold goes
  simp only [Bool.and_eq_true, decide_eq_true_eq]
  constructor
  · rintro ⟨⟨⟨⟨a, b⟩, c⟩, d⟩, e⟩; exact ⟨a, b, c, d, e⟩
  · rintro ⟨a, b, c, d, e⟩; exact ⟨⟨⟨⟨a, b⟩, c⟩, d⟩, e⟩
/-- One step of a push. -/
def pushS (W D J S : Int) (m : List Int) (f : Fr) : List Int × Fr :=
  if goes W D J S m f 0 4 = true then
    if f.pc = 0 then (m, { f with x := at0 m (bg D J f.who + 1), pc := 1 })
    else if f.pc = 1 then
      if D ≤ (f.x - at0 m (bg D J f.who)) % 18446744073709551616 then (m, ed f 2 f.val) else (m, { f with y := at0 m (bg D J f.who), pc := 2 })
    else if f.pc = 2 then (put m (sI D J f.who f.x) f.val, { f with pc := 3 })
    else (put m (bg D J f.who + 1) ((f.x + 1) % 18446744073709551616), ed f 1 f.val)
  else (m, f)
set_option maxRecDepth 100000 in
theorem pushS_len (W D J S : Int) (m : List Int) (f : Fr) : (pushS W D J S m f).1.length = m.length := by
  unfold pushS
  repeat' split
  all_goals simp [len_put]
set_option maxRecDepth 100000 in
theorem pushS_U {W D J S : Int} {m : List Int} {f : Fr} (hm : UM m) (hf : UF f) : UM (pushS W D J S m f).1 ∧ UF (pushS W D J S m f).2 := by
  obtain ⟨h1, h2, h3⟩ := hf
  have z : U 0 := by unfold U; omega
  unfold pushS
  repeat' split
  · exact ⟨hm, h1, at0_U hm _, h3⟩
  · exact ⟨hm, h1, z, z⟩
  · exact ⟨hm, h1, h2, at0_U hm _⟩
  · exact ⟨put_U hm _ h1, h1, h2, h3⟩
  · exact ⟨put_U hm _ (mod_U _), h1, z, z⟩
  · exact ⟨hm, h1, h2, h3⟩
set_option maxRecDepth 100000 in
theorem pushS_over {W D J S : Int} {m : List Int} {f : Fr} (h : f.res ≠ 0) : pushS W D J S m f = (m, f) := by
  unfold pushS
  rw [if_neg]
  intro h'
  exact h (goes_iff.1 h').2.1
set_option maxRecDepth 100000 in
theorem pushS_who (W D J S : Int) (m : List Int) (f : Fr) : (pushS W D J S m f).2.who = f.who := by
  unfold pushS
  repeat' split
  all_goals rfl
set_option maxRecDepth 100000 in
/-- The steps of a push, one by one. -/
theorem pushS_0 {W D J S : Int} {m : List Int} {w v x y : Int} (h : okw W D J S m w = true) : pushS W D J S m ⟨0, 0, w, v, x, y, 0⟩ = (m, ⟨0, 1, w, v, at0 m (bg D J w + 1), y, 0⟩) := by
  unfold pushS
  rw [if_pos (goes_iff.2 ⟨h, rfl, rfl, by simp, by simp⟩), if_pos rfl]
set_option maxRecDepth 100000 in
theorem pushS_1f {W D J S : Int} {m : List Int} {w v x y : Int} (h : okw W D J S m w = true) (hf : D ≤ (x - at0 m (bg D J w)) % 18446744073709551616) : pushS W D J S m ⟨0, 1, w, v, x, y, 0⟩ = (m, ⟨0, 0, w, v, 0, 0, 2⟩) := by
  unfold pushS
  rw [if_pos (goes_iff.2 ⟨h, rfl, rfl, by simp, by simp⟩), if_neg (by simp), if_pos rfl, if_pos hf]; rfl
set_option maxRecDepth 100000 in
theorem pushS_1 {W D J S : Int} {m : List Int} {w v x y : Int} (h : okw W D J S m w = true) (hf : (x - at0 m (bg D J w)) % 18446744073709551616 < D) : pushS W D J S m ⟨0, 1, w, v, x, y, 0⟩ = (m, ⟨0, 2, w, v, x, at0 m (bg D J w), 0⟩) := by
  unfold pushS
  rw [if_pos (goes_iff.2 ⟨h, rfl, rfl, by simp, by simp⟩), if_neg (by simp), if_pos rfl, if_neg (by simp only; omega)]
set_option maxRecDepth 100000 in
theorem pushS_2 {W D J S : Int} {m : List Int} {w v x y : Int} (h : okw W D J S m w = true) : pushS W D J S m ⟨0, 2, w, v, x, y, 0⟩ = (put m (sI D J w x) v, ⟨0, 3, w, v, x, y, 0⟩) := by
  unfold pushS
  rw [if_pos (goes_iff.2 ⟨h, rfl, rfl, by simp, by simp⟩), if_neg (by simp), if_neg (by simp), if_pos rfl]
set_option maxRecDepth 100000 in
theorem pushS_3 {W D J S : Int} {m : List Int} {w v x y : Int} (h : okw W D J S m w = true) : pushS W D J S m ⟨0, 3, w, v, x, y, 0⟩ = (put m (bg D J w + 1) ((x + 1) % 18446744073709551616), ⟨0, 0, w, v, 0, 0, 1⟩) := by
  unfold pushS
  rw [if_pos (goes_iff.2 ⟨h, rfl, rfl, by simp, by simp⟩), if_neg (by simp), if_neg (by simp), if_neg (by simp)]; rfl
/-- So many steps. -/
def pushN (W D J S : Int) : Nat → List Int × Fr → List Int × Fr
  | 0, s => s
  | k + 1, s => let s' := pushN W D J S k s; pushS W D J S s'.1 s'.2
set_option maxRecDepth 100000 in
/-- A number in the slot behind the last one: the list is as it was. -/
theorem Vw.slot {W D J S : Int} {m : List Int} {w t : Int} {l : List Int} (hk : okw W D J S m w = true) (h : Vw D J m w t l) (hl : (l.length : Int) < D) (v : Int) : Vw D J (put m (sI D J w ((t + l.length) % 18446744073709551616)) v) w t l := by
  obtain ⟨hm, _, _, _⟩ := okw_iff.1 hk
  obtain ⟨hW, hD, hJ, hS⟩ := may_lim hm
  rw [sI_mod hm]
  have hs := sI_lim (J := J) (w := w) hD.1 (t + l.length)
  refine ⟨?_, ?_, h.len, fun i u hi => ?_⟩
  · rw [at0_put_ne _ _ (by omega)]; exact h.top
  · rw [at0_put_ne _ _ (by omega)]; exact h.bot
  · have hil := (List.getElem?_eq_some_iff.1 hi).1
    rw [at0_put_ne _ _ (fun e => by have := sI_inj hD.1 e (by omega) (by omega); omega)]
    exact h.at_ i u hi
set_option maxRecDepth 100000 in
/-- Then one more is told. -/
theorem Vw.more {W D J S : Int} {m : List Int} {w t : Int} {l : List Int} (hk : okw W D J S m w = true) (h : Vw D J m w t l) (hl : (l.length : Int) < D) (v : Int) :
    Vw D J (put (put m (sI D J w ((t + l.length) % 18446744073709551616)) v) (bg D J w + 1) ((((t + l.length) % 18446744073709551616) + 1) % 18446744073709551616)) w t (l ++ [v]) := by
  obtain ⟨hm, hlen, h0, h1⟩ := okw_iff.1 hk
  obtain ⟨hW, hD, hJ, hS⟩ := may_lim hm
  have h2 := h.slot hk hl v
  have hb := bg_step (J := J) hD.1 h1
  have hg := bg_ge (J := J) (w := w) hD.1 hJ.1 h0
  refine ⟨?_, ?_, by simp; omega, fun i u hi => ?_⟩
  · rw [at0_put_ne _ _ (by omega)]; exact h2.top
  · rw [at0_put _ (by omega) (by rw [len_put]; omega)]
    simp only [List.length_append, List.length_singleton]; omega
  · have hs := sI_lim (J := J) (w := w) hD.1 (t + i)
    rw [at0_put_ne _ _ (by omega)]
    rcases Nat.lt_or_ge i l.length with hil | hil
    · rw [List.getElem?_append_left hil] at hi
      exact h2.at_ i u hi
    · have hil2 := (List.getElem?_eq_some_iff.1 hi).1
      simp at hil2
      obtain rfl : i = l.length := by omega
      simp at hi
      subst hi
      rw [sI_mod hm, at0_put _ (by omega) (by omega)]
set_option maxRecDepth 100000 in
/-- A push, alone, where there is room. -/
theorem push_room {W D J S : Int} {m : List Int} {w t v : Int} {l : List Int} (hk : okw W D J S m w = true) (h : Vw D J m w t l) (hl : (l.length : Int) < D) :
    pushN W D J S 1 (m, fbg 0 w v) = (m, ⟨0, 1, w, v, (t + l.length) % 18446744073709551616, 0, 0⟩)
    ∧ pushN W D J S 2 (m, fbg 0 w v) = (m, ⟨0, 2, w, v, (t + l.length) % 18446744073709551616, t, 0⟩)
    ∧ pushN W D J S 3 (m, fbg 0 w v) = (put m (sI D J w ((t + l.length) % 18446744073709551616)) v, ⟨0, 3, w, v, (t + l.length) % 18446744073709551616, t, 0⟩)
    ∧ pushN W D J S 4 (m, fbg 0 w v) = (put (put m (sI D J w ((t + l.length) % 18446744073709551616)) v) (bg D J w + 1) (((t + l.length) % 18446744073709551616 + 1) % 18446744073709551616), ⟨0, 0, w, v, 0, 0, 1⟩) := by
  have hD := (may_lim (okw_iff.1 hk).1).2.1
  have e1 : pushN W D J S 1 (m, fbg 0 w v) = (m, ⟨0, 1, w, v, (t + l.length) % 18446744073709551616, 0, 0⟩) := by
    show pushS W D J S m ⟨0, 0, w, v, 0, 0, 0⟩ = _
    rw [pushS_0 hk, h.bot]
  have e2 : pushN W D J S 2 (m, fbg 0 w v) = (m, ⟨0, 2, w, v, (t + l.length) % 18446744073709551616, t, 0⟩) := by
    show pushS W D J S (pushN W D J S 1 (m, fbg 0 w v)).1 (pushN W D J S 1 (m, fbg 0 w v)).2 = _
    rw [e1, pushS_1 hk (by rw [h.top]; omega), h.top]
  have e3 : pushN W D J S 3 (m, fbg 0 w v) = (put m (sI D J w ((t + l.length) % 18446744073709551616)) v, ⟨0, 3, w, v, (t + l.length) % 18446744073709551616, t, 0⟩) := by
    show pushS W D J S (pushN W D J S 2 (m, fbg 0 w v)).1 (pushN W D J S 2 (m, fbg 0 w v)).2 = _
    rw [e2, pushS_2 hk]
  refine ⟨e1, e2, e3, ?_⟩
  show pushS W D J S (pushN W D J S 3 (m, fbg 0 w v)).1 (pushN W D J S 3 (m, fbg 0 w v)).2 = _
  rw [e3, pushS_3 (by rw [okw_len (len_put _ _ _)]; exact hk)]
set_option maxRecDepth 100000 in
/-- A push, alone, where there is none. -/
theorem push_none {W D J S : Int} {m : List Int} {w t v : Int} {l : List Int} (hk : okw W D J S m w = true) (h : Vw D J m w t l) (hl : (l.length : Int) = D) :
    pushN W D J S 4 (m, fbg 0 w v) = (m, ⟨0, 0, w, v, 0, 0, 2⟩) := by
  have hD := (may_lim (okw_iff.1 hk).1).2.1
  have e1 : pushN W D J S 1 (m, fbg 0 w v) = (m, ⟨0, 1, w, v, (t + l.length) % 18446744073709551616, 0, 0⟩) := by
    show pushS W D J S m ⟨0, 0, w, v, 0, 0, 0⟩ = _
    rw [pushS_0 hk, h.bot]
  have e2 : pushN W D J S 2 (m, fbg 0 w v) = (m, ⟨0, 0, w, v, 0, 0, 2⟩) := by
    show pushS W D J S (pushN W D J S 1 (m, fbg 0 w v)).1 (pushN W D J S 1 (m, fbg 0 w v)).2 = _
    rw [e1, pushS_1f hk (by rw [h.top]; omega)]
  have e3 : pushN W D J S 3 (m, fbg 0 w v) = (m, ⟨0, 0, w, v, 0, 0, 2⟩) := by
    show pushS W D J S (pushN W D J S 2 (m, fbg 0 w v)).1 (pushN W D J S 2 (m, fbg 0 w v)).2 = _
    rw [e2, pushS_over (by simp)]
  show pushS W D J S (pushN W D J S 3 (m, fbg 0 w v)).1 (pushN W D J S 3 (m, fbg 0 w v)).2 = _
  rw [e3, pushS_over (by simp)]
set_option maxRecDepth 100000 in
/-- PushAlone, on lists. -/
theorem push_alone {W D J S : Int} {m : List Int} {w v : Int} {l : List Int} (hu : UM m) (h : lst W D J S m w = some l) :
    (pushN W D J S 4 (m, fbg 0 w v)).2 = (on l D (fbg 0 w v)).2 ∧ lst W D J S (pushN W D J S 4 (m, fbg 0 w v)).1 w = some (on l D (fbg 0 w v)).1 := by
  obtain ⟨hk, hv⟩ := lst_some hu h
  have hl := hv.len
  have eo : on l D (fbg 0 w v) = onPut l D (fbg 0 w v) := by simp [on, fbg]
  rw [eo]
  by_cases hD : (l.length : Int) < D
  · obtain ⟨_, _, _, e4⟩ := push_room (v := v) hk hv hD
    rw [e4, onPut, if_neg (by omega)]
    refine ⟨rfl, ?_⟩
    exact lst_of (by rw [okw_len (m := m) (by rw [len_put, len_put])]; exact hk) (hv.more hk hD v)
  · rw [push_none (v := v) hk hv (by omega), onPut, if_pos (by omega)]
    exact ⟨rfl, h⟩
set_option maxRecDepth 100000 in
/-- PushSeen, on lists. -/
theorem push_seen {W D J S : Int} {m : List Int} {w v : Int} {l : List Int} (hu : UM m) (h : lst W D J S m w = some l) (hl : (l.length : Int) < D) :
    (∀ k, k ≤ 3 → lst W D J S (pushN W D J S k (m, fbg 0 w v)).1 w = some l ∧ (pushN W D J S k (m, fbg 0 w v)).2.res = 0)
    ∧ lst W D J S (pushN W D J S 4 (m, fbg 0 w v)).1 w = some (l ++ [v]) ∧ (pushN W D J S 4 (m, fbg 0 w v)).2.res = 1 := by
  obtain ⟨hk, hv⟩ := lst_some hu h
  obtain ⟨e1, e2, e3, e4⟩ := push_room (v := v) hk hv hl
  have ho : ∀ x u y u', okw W D J S (put (put m x u) y u') w = true := fun x u y u' => by rw [okw_len (m := m) (by rw [len_put, len_put])]; exact hk
  refine ⟨fun k hk3 => ?_, ?_, by rw [e4]⟩
  · match k, hk3 with
    | 0, _ => exact ⟨h, rfl⟩
    | 1, _ => rw [e1]; exact ⟨h, rfl⟩
    | 2, _ => rw [e2]; exact ⟨h, rfl⟩
    | 3, _ =>
      rw [e3]
      exact ⟨lst_of (by rw [okw_len (len_put _ _ _)]; exact hk) (hv.slot hk hl v), rfl⟩
  · rw [e4]
    exact lst_of (ho _ _ _ _) (hv.more hk hl v)
set_option maxRecDepth 100000 in
/-- Which cells a step of a push may change. -/
theorem pushS_cells {W D J S : Int} {m : List Int} {f : Fr} {i : Int} (h : at0 (pushS W D J S m f).1 i ≠ at0 m i) : goes W D J S m f 0 4 = true ∧ 2 ≤ f.pc ∧ (i = bg D J f.who + 1 ∧ f.pc ≠ 2 ∨ i = sI D J f.who f.x ∧ f.pc = 2) := by
  unfold pushS at h
  split at h
  · rename_i hg
    obtain ⟨_, _, _, h0, h4⟩ := goes_iff.1 hg
    split at h
    · exact absurd rfl h
    · split at h
      · split at h <;> exact absurd rfl h
      · split at h
        · refine ⟨hg, by omega, .inr ⟨?_, by assumption⟩⟩
          apply Classical.byContradiction
          intro hi
          exact h (at0_put_ne _ _ (fun e => hi e.symm))
        · refine ⟨hg, by omega, .inl ⟨?_, by assumption⟩⟩
          apply Classical.byContradiction
          intro hi
          exact h (at0_put_ne _ _ (fun e => hi e.symm))
  · exact absurd rfl h
set_option maxRecDepth 100000 in
/-- What lies in a worker's cells tells its list. -/
theorem lst_same {W D J S : Int} {m m' : List Int} {k : Int} (hl : m'.length = m.length) (h : okw W D J S m k = true → ∀ i, bg D J k ≤ i → i < bg D J k + (3 + D) → at0 m' i = at0 m i) : lst W D J S m' k = lst W D J S m k := by
  by_cases hk : okw W D J S m k = true
  · obtain ⟨hm, _, _, _⟩ := okw_iff.1 hk
    obtain ⟨hW, hD, hJ, hS⟩ := may_lim hm
    have h' := h hk
    unfold lst
    rw [okw_len hl, h' (bg D J k) (by omega) (by omega), h' (bg D J k + 1) (by omega) (by omega)]
    have : (fun i : Nat => at0 m' (sI D J k (at0 m (bg D J k) + i))) = (fun i : Nat => at0 m (sI D J k (at0 m (bg D J k) + i))) := by
      funext i
      have := sI_lim (J := J) (w := k) hD.1 (at0 m (bg D J k) + i)
      exact h' _ (by omega) (by omega)
    rw [this]
  · unfold lst
    rw [if_neg (fun e => hk (by rw [← okw_len hl]; exact e.1)), if_neg (fun e => hk e.1)]
set_option maxRecDepth 100000 in
/-- A push changes no other worker's list. -/
theorem pushS_other {W D J S : Int} {m : List Int} {f : Fr} {k : Int} (h : ¬ k = f.who) : lst W D J S (pushS W D J S m f).1 k = lst W D J S m k := by
  refine lst_same (pushS_len _ _ _ _ _ _) (fun hk i h1 h2 => ?_)
  apply Classical.byContradiction
  intro hi
  obtain ⟨hg, hp, hc⟩ := pushS_cells hi
  obtain ⟨hm, _, _, _⟩ := okw_iff.1 hk
  obtain ⟨hW, hD, hJ, hS⟩ := may_lim hm
  have hb := bg_apart (J := J) (a := i - bg D J f.who) (b := i - bg D J k) hD.1 h
  rcases hc with ⟨rfl, _⟩ | ⟨rfl, _⟩
  · exact hb (by omega) (by omega) (by omega)
  · have := sI_lim (J := J) (w := f.who) hD.1 f.x
    exact hb (by omega) (by omega) (by omega)
set_option maxRecDepth 100000 in
theorem pushN_who (W D J S : Int) (n : Nat) (s : List Int × Fr) : (pushN W D J S n s).2.who = s.2.who := by
  induction n with
  | zero => rfl
  | succ n ih => show (pushS _ _ _ _ _ _).2.who = _; rw [pushS_who]; exact ih
set_option maxRecDepth 100000 in
theorem pushN_len (W D J S : Int) (n : Nat) (s : List Int × Fr) : (pushN W D J S n s).1.length = s.1.length := by
  induction n with
  | zero => rfl
  | succ n ih => show (pushS _ _ _ _ _ _).1.length = _; rw [pushS_len]; exact ih
set_option maxRecDepth 100000 in
theorem pushN_U {W D J S : Int} {s : List Int × Fr} (hm : UM s.1) (hf : UF s.2) (n : Nat) : UM (pushN W D J S n s).1 ∧ UF (pushN W D J S n s).2 := by
  induction n with
  | zero => exact ⟨hm, hf⟩
  | succ n ih => exact pushS_U ih.1 ih.2
set_option maxRecDepth 100000 in
theorem pushN_other {W D J S : Int} {m : List Int} {f : Fr} {k : Int} (h : ¬ k = f.who) (n : Nat) : lst W D J S (pushN W D J S n (m, f)).1 k = lst W D J S m k := by
  induction n with
  | zero => rfl
  | succ n ih =>
    show lst W D J S (pushS _ _ _ _ _ _).1 k = _
    rw [pushS_other (by rw [pushN_who]; exact h)]
    exact ih
end Go.Proofs.Ytgemaeibmgkneaa
namespace Go.Proofs.Ytgemaeibmgkneaa
open Go.RowKit Go.Deep
/-- So many steps. -/
def itN (g : List Int → Fr → List Int × Fr) : Nat → List Int × Fr → List Int × Fr
  | 0, s => s
  | k + 1, s => g (itN g k s).1 (itN g k s).2
set_option maxRecDepth 100000 in
theorem itN_stay {g : List Int → Fr → List Int × Fr} (hg : ∀ m f, f.res ≠ 0 → g m f = (m, f)) {k : Nat} {s : List Int × Fr} (h : (itN g k s).2.res ≠ 0) (j : Nat) : itN g (k + j) s = itN g k s := by
  induction j with
  | zero => rfl
  | succ j ih => show g (itN g (k + j) s).1 (itN g (k + j) s).2 = _; rw [ih, hg _ _ h]
set_option maxRecDepth 100000 in
theorem itN_inv {g : List Int → Fr → List Int × Fr} {P : List Int → Fr → Prop} (hg : ∀ m f, P m f → P (g m f).1 (g m f).2) {s : List Int × Fr} (h : P s.1 s.2) (k : Nat) : P (itN g k s).1 (itN g k s).2 := by
  induction k with
  | zero => exact h
  | succ k ih => exact hg _ _ ih
set_option maxRecDepth 100000 in
theorem itN_one {g : List Int → Fr → List Int × Fr} {k : Nat} {s t : List Int × Fr} (h : itN g k s = t) : itN g (k + 1) s = g t.1 t.2 := by rw [← h]; rfl
/-- One step of a pop. -/
def popS (W D J S : Int) (m : List Int) (f : Fr) : List Int × Fr :=
  if goes W D J S m f 1 7 = true then
    if f.pc = 0 then (m, { f with x := (at0 m (bg D J f.who + 1) - 1) % 18446744073709551616, pc := 1 })
    else if f.pc = 1 then (put m (bg D J f.who + 1) f.x, { f with pc := 2 })
    else if f.pc = 2 then (m, { f with y := at0 m (bg D J f.who), pc := if far f.x (at0 m (bg D J f.who)) < 0 then 6 else 3 })
    else if f.pc = 3 then
      if f.x = f.y then (m, { f with val := at0 m (sI D J f.who f.x), pc := 4 }) else (m, ed f 1 (at0 m (sI D J f.who f.x)))
    else if f.pc = 4 then
      if at0 m (bg D J f.who) = f.y then (put m (bg D J f.who) ((f.y + 1) % 18446744073709551616), { f with pc := 5 }) else (m, { f with pc := 6 })
    else if f.pc = 5 then (put m (bg D J f.who + 1) ((f.x + 1) % 18446744073709551616), ed f 1 f.val)
    else (put m (bg D J f.who + 1) ((f.x + 1) % 18446744073709551616), ed f 3 0)
  else (m, f)
set_option maxRecDepth 100000 in
theorem popS_len (W D J S : Int) (m : List Int) (f : Fr) : (popS W D J S m f).1.length = m.length := by
  unfold popS
  repeat' split
  all_goals simp [len_put]
set_option maxRecDepth 100000 in
theorem popS_U {W D J S : Int} {m : List Int} {f : Fr} (hm : UM m) (hf : UF f) : UM (popS W D J S m f).1 ∧ UF (popS W D J S m f).2 := by
  obtain ⟨h1, h2, h3⟩ := hf
  have z : U 0 := by unfold U; omega
  unfold popS
  split
  · split
    · exact ⟨hm, h1, mod_U _, h3⟩
    split
    · exact ⟨put_U hm _ h2, h1, h2, h3⟩
    split
    · exact ⟨hm, h1, h2, at0_U hm _⟩
    split
    · split
      · exact ⟨hm, at0_U hm _, h2, h3⟩
      · exact ⟨hm, at0_U hm _, z, z⟩
    split
    · split
      · exact ⟨put_U hm _ (mod_U _), h1, h2, h3⟩
      · exact ⟨hm, h1, h2, h3⟩
    split
    · exact ⟨put_U hm _ (mod_U _), h1, z, z⟩
    · exact ⟨put_U hm _ (mod_U _), z, z, z⟩
  · exact ⟨hm, h1, h2, h3⟩
set_option maxRecDepth 100000 in
theorem popS_over {W D J S : Int} (m : List Int) (f : Fr) (h : f.res ≠ 0) : popS W D J S m f = (m, f) := by
  unfold popS
  rw [if_neg]
  intro h'
  exact h (goes_iff.1 h').2.1
section
variable {W D J S : Int} {m : List Int} {w v x y : Int}
set_option maxRecDepth 100000 in
theorem popS_0 (h : okw W D J S m w = true) : popS W D J S m ⟨1, 0, w, v, x, y, 0⟩ = (m, ⟨1, 1, w, v, (at0 m (bg D J w + 1) - 1) % 18446744073709551616, y, 0⟩) := by
  unfold popS
  rw [if_pos (goes_iff.2 ⟨h, rfl, rfl, by simp, by simp⟩)]
  simp
set_option maxRecDepth 100000 in
theorem popS_1 (h : okw W D J S m w = true) : popS W D J S m ⟨1, 1, w, v, x, y, 0⟩ = (put m (bg D J w + 1) x, ⟨1, 2, w, v, x, y, 0⟩) := by
  unfold popS
  rw [if_pos (goes_iff.2 ⟨h, rfl, rfl, by simp, by simp⟩)]
  simp
set_option maxRecDepth 100000 in
theorem popS_2 (h : okw W D J S m w = true) : popS W D J S m ⟨1, 2, w, v, x, y, 0⟩ = (m, ⟨1, if far x (at0 m (bg D J w)) < 0 then 6 else 3, w, v, x, at0 m (bg D J w), 0⟩) := by
  unfold popS
  rw [if_pos (goes_iff.2 ⟨h, rfl, rfl, by simp, by simp⟩)]
  simp
set_option maxRecDepth 100000 in
theorem popS_3 (h : okw W D J S m w = true) : popS W D J S m ⟨1, 3, w, v, x, y, 0⟩ = if x = y then (m, ⟨1, 4, w, at0 m (sI D J w x), x, y, 0⟩) else (m, ⟨1, 0, w, at0 m (sI D J w x), 0, 0, 1⟩) := by
  unfold popS
  rw [if_pos (goes_iff.2 ⟨h, rfl, rfl, by simp, by simp⟩)]
  simp [ed]
set_option maxRecDepth 100000 in
theorem popS_4 (h : okw W D J S m w = true) : popS W D J S m ⟨1, 4, w, v, x, y, 0⟩ = if at0 m (bg D J w) = y then (put m (bg D J w) ((y + 1) % 18446744073709551616), ⟨1, 5, w, v, x, y, 0⟩) else (m, ⟨1, 6, w, v, x, y, 0⟩) := by
  unfold popS
  rw [if_pos (goes_iff.2 ⟨h, rfl, rfl, by simp, by simp⟩)]
  simp
set_option maxRecDepth 100000 in
theorem popS_5 (h : okw W D J S m w = true) : popS W D J S m ⟨1, 5, w, v, x, y, 0⟩ = (put m (bg D J w + 1) ((x + 1) % 18446744073709551616), ⟨1, 0, w, v, 0, 0, 1⟩) := by
  unfold popS
  rw [if_pos (goes_iff.2 ⟨h, rfl, rfl, by simp, by simp⟩)]
  simp [ed]
set_option maxRecDepth 100000 in
theorem popS_6 (h : okw W D J S m w = true) : popS W D J S m ⟨1, 6, w, v, x, y, 0⟩ = (put m (bg D J w + 1) ((x + 1) % 18446744073709551616), ⟨1, 0, w, 0, 0, 0, 3⟩) := by
  unfold popS
  rw [if_pos (goes_iff.2 ⟨h, rfl, rfl, by simp, by simp⟩)]
  simp [ed]
end
set_option maxRecDepth 100000 in
/-- The first three steps of a pop. -/
theorem pop_three {W D J S : Int} {m : List Int} {w v : Int} (hk : okw W D J S m w = true) :
    itN (popS W D J S) 3 (m, fbg 1 w v) = (put m (bg D J w + 1) ((at0 m (bg D J w + 1) - 1) % 18446744073709551616), ⟨1, if far ((at0 m (bg D J w + 1) - 1) % 18446744073709551616) (at0 m (bg D J w)) < 0 then 6 else 3, w, v, (at0 m (bg D J w + 1) - 1) % 18446744073709551616, at0 m (bg D J w), 0⟩) := by
  have e1 : itN (popS W D J S) 1 (m, fbg 1 w v) = (m, ⟨1, 1, w, v, (at0 m (bg D J w + 1) - 1) % 18446744073709551616, 0, 0⟩) := popS_0 (m := m) (v := v) (x := 0) (y := 0) hk
  have e2 := itN_one e1
  simp only at e2
  rw [popS_1 hk] at e2
  have e3 := itN_one e2
  simp only at e3
  rw [popS_2 (by rw [okw_len (m := m) (len_put _ _ _)]; exact hk), at0_put_ne _ _ (by omega)] at e3
  exact e3
set_option maxRecDepth 100000 in
/-- Whatever a deque is like, a pop is over behind seven steps. -/
theorem pop_over {W D J S : Int} {m : List Int} {w v : Int} (hk : okw W D J S m w = true) :
    (itN (popS W D J S) 7 (m, fbg 1 w v)).2.res = 1 ∨ ((itN (popS W D J S) 7 (m, fbg 1 w v)).2.res = 3 ∧ (itN (popS W D J S) 7 (m, fbg 1 w v)).2.val = 0) := by
  have e3 := pop_three (v := v) hk
  have ho : ∀ i u m', m'.length = m.length → okw W D J S (put m' i u) w = true := fun i u m' h => by rw [okw_len (m := m) (by rw [len_put]; exact h)]; exact hk
  generalize hx : (at0 m (bg D J w + 1) - 1) % 18446744073709551616 = x at e3
  generalize hy : at0 m (bg D J w) = y at e3
  have e4 := itN_one e3
  simp only at e4
  by_cases h0 : far x y < 0
  · rw [if_pos h0, popS_6 (ho _ _ _ rfl)] at e4
    rw [show (7 : Nat) = 4 + 3 from rfl, itN_stay popS_over (by rw [e4]; simp), e4]
    exact .inr ⟨rfl, rfl⟩
  · rw [if_neg h0, popS_3 (ho _ _ _ rfl)] at e4
    by_cases h1 : x = y
    · rw [if_pos h1] at e4
      have e5 := itN_one e4
      simp only at e5
      rw [popS_4 (ho _ _ _ rfl)] at e5
      by_cases h2 : at0 (put m (bg D J w + 1) x) (bg D J w) = y
      · rw [if_pos h2] at e5
        have e6 := itN_one e5
        simp only at e6
        rw [popS_5 (ho _ _ _ (len_put _ _ _))] at e6
        rw [show (7 : Nat) = 6 + 1 from rfl, itN_stay popS_over (by rw [e6]; simp), e6]
        exact .inl rfl
      · rw [if_neg h2] at e5
        have e6 := itN_one e5
        simp only at e6
        rw [popS_6 (ho _ _ _ rfl)] at e6
        rw [show (7 : Nat) = 6 + 1 from rfl, itN_stay popS_over (by rw [e6]; simp), e6]
        exact .inr ⟨rfl, rfl⟩
    · rw [if_neg h1] at e4
      rw [show (7 : Nat) = 4 + 3 from rfl, itN_stay popS_over (by rw [e4]; simp), e4]
      exact .inl rfl
set_option maxRecDepth 100000 in
/-- A pop, alone, where there is nothing. -/
theorem pop_nil {W D J S : Int} {m : List Int} {w t v : Int} (hu : UM m) (hk : okw W D J S m w = true) (h : Vw D J m w t []) : itN (popS W D J S) 7 (m, fbg 1 w v) = (m, ⟨1, 0, w, 0, 0, 0, 3⟩) := by
  have e3 := pop_three (v := v) hk
  have ht : U t := by rw [← h.top]; exact at0_U hu _
  have hb := h.bot
  simp only [List.length_nil] at hb
  rw [h.top] at e3
  have hx : (at0 m (bg D J w + 1) - 1) % 18446744073709551616 = (t - 1) % 18446744073709551616 := by rw [hb]; omega
  have hf : far ((t - 1) % 18446744073709551616) t < 0 := by unfold far wrap64; unfold U at ht; omega
  rw [hx, if_pos hf] at e3
  have e4 := itN_one e3
  simp only at e4
  rw [popS_6 (by rw [okw_len (m := m) (len_put _ _ _)]; exact hk), put_put, show ((t - 1) % 18446744073709551616 + 1) % 18446744073709551616 = at0 m (bg D J w + 1) by rw [hb]; omega, put_at0] at e4
  rw [show (7 : Nat) = 4 + 3 from rfl, itN_stay popS_over (by rw [e4]; simp), e4]
set_option maxRecDepth 100000 in
/-- The list without its last number. -/
theorem Vw.less {W D J S : Int} {m : List Int} {w t : Int} {l : List Int} {u : Int} (hk : okw W D J S m w = true) (h : Vw D J m w t (l ++ [u])) : Vw D J (put m (bg D J w + 1) ((t + l.length) % 18446744073709551616)) w t l := by
  obtain ⟨hm, hlen, h0, h1⟩ := okw_iff.1 hk
  obtain ⟨hW, hD, hJ, hS⟩ := may_lim hm
  have hb := bg_step (J := J) hD.1 h1
  have hg := bg_ge (J := J) (w := w) hD.1 hJ.1 h0
  have hl := h.len
  simp only [List.length_append, List.length_singleton] at hl
  refine ⟨?_, ?_, by omega, fun i z hi => ?_⟩
  · rw [at0_put_ne _ _ (by omega)]; exact h.top
  · rw [at0_put _ (by omega) (by omega)]
  · have hs := sI_lim (J := J) (w := w) hD.1 (t + i)
    rw [at0_put_ne _ _ (by omega)]
    exact h.at_ i z (by rw [List.getElem?_append_left (List.getElem?_eq_some_iff.1 hi).1]; exact hi)
set_option maxRecDepth 100000 in
/-- The list without its first number. -/
theorem Vw.tail {W D J S : Int} {m : List Int} {w t : Int} {l : List Int} {u : Int} (hk : okw W D J S m w = true) (h : Vw D J m w t (u :: l)) : Vw D J (put m (bg D J w) ((t + 1) % 18446744073709551616)) w ((t + 1) % 18446744073709551616) l := by
  obtain ⟨hm, hlen, h0, h1⟩ := okw_iff.1 hk
  obtain ⟨hW, hD, hJ, hS⟩ := may_lim hm
  have hb := bg_step (J := J) hD.1 h1
  have hg := bg_ge (J := J) (w := w) hD.1 hJ.1 h0
  have hl := h.len
  simp only [List.length_cons] at hl
  refine ⟨?_, ?_, by omega, fun i z hi => ?_⟩
  · rw [at0_put _ (by omega) (by omega)]
  · rw [at0_put_ne _ _ (by omega), h.bot]
    simp only [List.length_cons]; omega
  · have hs := sI_lim (J := J) (w := w) hD.1 ((t + 1) % 18446744073709551616 + i)
    rw [at0_put_ne _ _ (by omega)]
    have e : sI D J w ((t + 1) % 18446744073709551616 + i) = sI D J w (t + (i + 1 : Nat)) := by
      rw [← sI_mod hm, show ((t + 1) % 18446744073709551616 + (i : Int)) % 18446744073709551616 = (t + ((i + 1 : Nat) : Int)) % 18446744073709551616 by omega, sI_mod hm]
    rw [e]
    exact h.at_ (i + 1) z (by simpa using hi)
set_option maxRecDepth 100000 in
/-- A pop, alone, where there is something: what is taken is the last one. -/
theorem pop_last {W D J S : Int} {m : List Int} {w t v : Int} {l : List Int} {u : Int} (hu : UM m) (hk : okw W D J S m w = true) (h : Vw D J m w t (l ++ [u])) :
    ∃ m' t', itN (popS W D J S) 7 (m, fbg 1 w v) = (m', ⟨1, 0, w, u, 0, 0, 1⟩) ∧ okw W D J S m' w = true ∧ Vw D J m' w t' l := by
  obtain ⟨hm, hlen, h0, h1⟩ := okw_iff.1 hk
  obtain ⟨hW, hD, hJ, hS⟩ := may_lim hm
  have hg := bg_ge (J := J) (w := w) hD.1 hJ.1 h0
  have hst := bg_step (J := J) hD.1 h1
  have e3 := pop_three (v := v) hk
  have ht : U t := by rw [← h.top]; exact at0_U hu _
  have hb := h.bot
  have hl := h.len
  simp only [List.length_append, List.length_singleton] at hb hl
  rw [h.top] at e3
  have hx : (at0 m (bg D J w + 1) - 1) % 18446744073709551616 = (t + l.length) % 18446744073709551616 := by rw [hb]; omega
  have hf : far ((t + l.length) % 18446744073709551616) t = l.length := far_eq (by omega)
  rw [hx, hf, if_neg (by omega)] at e3
  have ho : okw W D J S (put m (bg D J w + 1) ((t + l.length) % 18446744073709551616)) w = true := by rw [okw_len (m := m) (len_put _ _ _)]; exact hk
  have hv : at0 (put m (bg D J w + 1) ((t + l.length) % 18446744073709551616)) (sI D J w ((t + l.length) % 18446744073709551616)) = u := by
    have hs := sI_lim (J := J) (w := w) hD.1 ((t + l.length) % 18446744073709551616)
    rw [at0_put_ne _ _ (by omega), sI_mod hm]
    exact h.at_ l.length u (by simp)
  have e4 := itN_one e3
  simp only at e4
  rw [popS_3 ho, hv] at e4
  unfold U at ht
  by_cases hn : (t + (l.length : Int)) % 18446744073709551616 = t
  · have hl0 : l = [] := by
      apply List.eq_nil_of_length_eq_zero
      omega
    subst hl0
    rw [if_pos hn] at e4
    have e5 := itN_one e4
    simp only at e5
    rw [popS_4 ho, if_pos (by rw [at0_put_ne _ _ (by omega)]; exact h.top)] at e5
    have e6 := itN_one e5
    simp only at e6
    have ho5 : okw W D J S (put (put m (bg D J w + 1) ((t + ([] : List Int).length) % 18446744073709551616)) (bg D J w) ((t + 1) % 18446744073709551616)) w = true := by rw [okw_len (m := m) (by rw [len_put, len_put])]; exact hk
    rw [popS_5 ho5] at e6
    refine ⟨_, (t + 1) % 18446744073709551616, by rw [show (7 : Nat) = 6 + 1 from rfl, itN_stay popS_over (by rw [e6]; simp), e6], by rw [okw_len (m := m) (by rw [len_put, len_put, len_put])]; exact hk, ?_⟩
    refine ⟨?_, ?_, by simp; omega, fun i z hi => by simp at hi⟩
    · rw [at0_put_ne _ _ (by omega), at0_put _ (by omega) (by rw [len_put]; omega)]
    · rw [at0_put _ (by omega) (by rw [len_put, len_put]; omega)]
      simp only [List.length_nil]; omega
  · rw [if_neg hn] at e4
    exact ⟨_, t, by rw [show (7 : Nat) = 4 + 3 from rfl, itN_stay popS_over (by rw [e4]; simp), e4], ho, h.less hk⟩
set_option maxRecDepth 100000 in
/-- PopAlone, on lists. -/
theorem pop_alone {W D J S : Int} {m : List Int} {w v : Int} {l : List Int} (hu : UM m) (h : lst W D J S m w = some l) :
    (itN (popS W D J S) 7 (m, fbg 1 w v)).2 = (on l D (fbg 1 w v)).2 ∧ lst W D J S (itN (popS W D J S) 7 (m, fbg 1 w v)).1 w = some (on l D (fbg 1 w v)).1 := by
  obtain ⟨hk, hv⟩ := lst_some hu h
  have eo : on l D (fbg 1 w v) = onLast l (fbg 1 w v) := by simp [on, fbg]
  rw [eo]
  rcases List.eq_nil_or_concat l with rfl | ⟨t, u, rfl⟩
  · rw [pop_nil hu hk hv]
    exact ⟨rfl, h⟩
  · rw [List.concat_eq_append] at *
    obtain ⟨m', t', e, h1, h2⟩ := pop_last (v := v) hu hk hv
    rw [e, onLast_snoc]
    exact ⟨rfl, lst_of h1 h2⟩
set_option maxRecDepth 100000 in
/-- Which cells a step of a pop may change. -/
theorem popS_cells {W D J S : Int} {m : List Int} {f : Fr} {i : Int} (h : at0 (popS W D J S m f).1 i ≠ at0 m i) : goes W D J S m f 1 7 = true ∧ (i = bg D J f.who + 1 ∧ f.pc ≠ 4 ∨ i = bg D J f.who ∧ f.pc = 4) := by
  have key : ∀ {q u : Int}, at0 (put m q u) i ≠ at0 m i → i = q := fun hne => by
    apply Classical.byContradiction
    intro hi
    exact hne (at0_put_ne _ _ (fun e => hi e.symm))
  unfold popS at h
  split at h
  · rename_i hg
    refine ⟨hg, ?_⟩
    split at h
    · exact absurd rfl h
    split at h
    · exact .inl ⟨key h, by omega⟩
    split at h
    · exact absurd rfl h
    split at h
    · split at h <;> exact absurd rfl h
    split at h
    · split at h
      · exact .inr ⟨key h, by assumption⟩
      · exact absurd rfl h
    split at h
    · exact .inl ⟨key h, by assumption⟩
    · exact .inl ⟨key h, by assumption⟩
  · exact absurd rfl h
/-- One step of a steal. -/
def stealS (W D J S : Int) (m : List Int) (f : Fr) : List Int × Fr :=
  if goes W D J S m f 2 4 = true then
    if f.pc = 0 then (m, { f with y := at0 m (bg D J f.who), pc := 1 })
    else if f.pc = 1 then
      if far (at0 m (bg D J f.who + 1)) f.y ≤ 0 then (m, ed f 3 0) else (m, { f with x := at0 m (bg D J f.who + 1), pc := 2 })
    else if f.pc = 2 then (m, { f with val := at0 m (sI D J f.who f.y), pc := 3 })
    else if at0 m (bg D J f.who) = f.y then (put m (bg D J f.who) ((f.y + 1) % 18446744073709551616), ed f 1 f.val) else (m, ed f 4 0)
  else (m, f)
set_option maxRecDepth 100000 in
theorem stealS_len (W D J S : Int) (m : List Int) (f : Fr) : (stealS W D J S m f).1.length = m.length := by
  unfold stealS
  repeat' split
  all_goals simp [len_put]
set_option maxRecDepth 100000 in
theorem stealS_U {W D J S : Int} {m : List Int} {f : Fr} (hm : UM m) (hf : UF f) : UM (stealS W D J S m f).1 ∧ UF (stealS W D J S m f).2 := by
  obtain ⟨h1, h2, h3⟩ := hf
  have z : U 0 := by unfold U; omega
  unfold stealS
  split
  · split
    · exact ⟨hm, h1, h2, at0_U hm _⟩
    split
    · split
      · exact ⟨hm, z, z, z⟩
      · exact ⟨hm, h1, at0_U hm _, h3⟩
    split
    · exact ⟨hm, at0_U hm _, h2, h3⟩
    split
    · exact ⟨put_U hm _ (mod_U _), h1, z, z⟩
    · exact ⟨hm, z, z, z⟩
  · exact ⟨hm, h1, h2, h3⟩
set_option maxRecDepth 100000 in
theorem stealS_over {W D J S : Int} (m : List Int) (f : Fr) (h : f.res ≠ 0) : stealS W D J S m f = (m, f) := by
  unfold stealS
  rw [if_neg]
  intro h'
  exact h (goes_iff.1 h').2.1
section
variable {W D J S : Int} {m : List Int} {w v x y : Int}
set_option maxRecDepth 100000 in
theorem stealS_0 (h : okw W D J S m w = true) : stealS W D J S m ⟨2, 0, w, v, x, y, 0⟩ = (m, ⟨2, 1, w, v, x, at0 m (bg D J w), 0⟩) := by
  unfold stealS
  rw [if_pos (goes_iff.2 ⟨h, rfl, rfl, by simp, by simp⟩)]
  simp
set_option maxRecDepth 100000 in
theorem stealS_1 (h : okw W D J S m w = true) : stealS W D J S m ⟨2, 1, w, v, x, y, 0⟩ = if far (at0 m (bg D J w + 1)) y ≤ 0 then (m, ⟨2, 0, w, 0, 0, 0, 3⟩) else (m, ⟨2, 2, w, v, at0 m (bg D J w + 1), y, 0⟩) := by
  unfold stealS
  rw [if_pos (goes_iff.2 ⟨h, rfl, rfl, by simp, by simp⟩)]
  simp [ed]
set_option maxRecDepth 100000 in
theorem stealS_2 (h : okw W D J S m w = true) : stealS W D J S m ⟨2, 2, w, v, x, y, 0⟩ = (m, ⟨2, 3, w, at0 m (sI D J w y), x, y, 0⟩) := by
  unfold stealS
  rw [if_pos (goes_iff.2 ⟨h, rfl, rfl, by simp, by simp⟩)]
  simp
set_option maxRecDepth 100000 in
theorem stealS_3 (h : okw W D J S m w = true) : stealS W D J S m ⟨2, 3, w, v, x, y, 0⟩ = if at0 m (bg D J w) = y then (put m (bg D J w) ((y + 1) % 18446744073709551616), ⟨2, 0, w, v, 0, 0, 1⟩) else (m, ⟨2, 0, w, 0, 0, 0, 4⟩) := by
  unfold stealS
  rw [if_pos (goes_iff.2 ⟨h, rfl, rfl, by simp, by simp⟩)]
  simp [ed]
end
set_option maxRecDepth 100000 in
/-- A steal, alone, where there is nothing. -/
theorem steal_nil {W D J S : Int} {m : List Int} {w t v : Int} (hk : okw W D J S m w = true) (h : Vw D J m w t []) : itN (stealS W D J S) 4 (m, fbg 2 w v) = (m, ⟨2, 0, w, 0, 0, 0, 3⟩) := by
  have e1 : itN (stealS W D J S) 1 (m, fbg 2 w v) = (m, ⟨2, 1, w, v, 0, t, 0⟩) := by
    rw [← h.top]; exact stealS_0 (m := m) (v := v) (x := 0) (y := 0) hk
  have e2 := itN_one e1
  simp only at e2
  rw [stealS_1 hk, if_pos (by rw [h.bot]; simp only [List.length_nil]; rw [far_eq (by omega)]; omega)] at e2
  rw [show (4 : Nat) = 2 + 2 from rfl, itN_stay stealS_over (by rw [e2]; simp), e2]
set_option maxRecDepth 100000 in
/-- The first three steps of a steal, alone, where there is something. -/
theorem steal_three {W D J S : Int} {m : List Int} {w t v u : Int} {l : List Int} (hk : okw W D J S m w = true) (h : Vw D J m w t (u :: l)) :
    itN (stealS W D J S) 1 (m, fbg 2 w v) = (m, ⟨2, 1, w, v, 0, t, 0⟩) ∧ itN (stealS W D J S) 2 (m, fbg 2 w v) = (m, ⟨2, 2, w, v, at0 m (bg D J w + 1), t, 0⟩) ∧ itN (stealS W D J S) 3 (m, fbg 2 w v) = (m, ⟨2, 3, w, u, at0 m (bg D J w + 1), t, 0⟩) := by
  have hD := (may_lim (okw_iff.1 hk).1).2.1
  have hl := h.len
  have e1 : itN (stealS W D J S) 1 (m, fbg 2 w v) = (m, ⟨2, 1, w, v, 0, t, 0⟩) := by
    rw [← h.top]; exact stealS_0 (m := m) (v := v) (x := 0) (y := 0) hk
  have e2 := itN_one e1
  simp only at e2
  rw [stealS_1 hk, if_neg (by rw [h.bot, far_eq (by omega)]; simp only [List.length_cons]; omega)] at e2
  have e3 := itN_one e2
  simp only at e3
  rw [stealS_2 hk, show at0 m (sI D J w t) = u by have := h.at_ 0 u rfl; simpa using this] at e3
  exact ⟨e1, e2, e3⟩
set_option maxRecDepth 100000 in
/-- A steal, alone, where there is something. -/
theorem steal_first {W D J S : Int} {m : List Int} {w t v u : Int} {l : List Int} (hk : okw W D J S m w = true) (h : Vw D J m w t (u :: l)) :
    itN (stealS W D J S) 4 (m, fbg 2 w v) = (put m (bg D J w) ((t + 1) % 18446744073709551616), ⟨2, 0, w, u, 0, 0, 1⟩) := by
  obtain ⟨_, _, e3⟩ := steal_three (v := v) hk h
  have e4 := itN_one e3
  simp only at e4
  rw [stealS_3 hk, if_pos h.top] at e4
  exact e4
set_option maxRecDepth 100000 in
/-- StealAlone, on lists. -/
theorem steal_alone {W D J S : Int} {m : List Int} {w v : Int} {l : List Int} (hu : UM m) (h : lst W D J S m w = some l) :
    (itN (stealS W D J S) 4 (m, fbg 2 w v)).2 = (on l D (fbg 2 w v)).2 ∧ lst W D J S (itN (stealS W D J S) 4 (m, fbg 2 w v)).1 w = some (on l D (fbg 2 w v)).1 := by
  obtain ⟨hk, hv⟩ := lst_some hu h
  have eo : on l D (fbg 2 w v) = onFirst l (fbg 2 w v) := by simp [on, fbg]
  rw [eo]
  rcases l with _ | ⟨u, l⟩
  · rw [steal_nil hk hv]
    exact ⟨rfl, h⟩
  · rw [steal_first hk hv]
    exact ⟨rfl, lst_of (by rw [okw_len (m := m) (len_put _ _ _)]; exact hk) (hv.tail hk)⟩
set_option maxRecDepth 100000 in
/-- Which cell a step of a steal may change. -/
theorem stealS_cells {W D J S : Int} {m : List Int} {f : Fr} {i : Int} (h : at0 (stealS W D J S m f).1 i ≠ at0 m i) : goes W D J S m f 2 4 = true ∧ i = bg D J f.who ∧ f.pc = 3 ∧ at0 m i = f.y ∧ (stealS W D J S m f).1 = put m i ((f.y + 1) % 18446744073709551616) ∧ (stealS W D J S m f).2 = ed f 1 f.val := by
  have key : ∀ {q u : Int}, at0 (put m q u) i ≠ at0 m i → i = q := fun hne => by
    apply Classical.byContradiction
    intro hi
    exact hne (at0_put_ne _ _ (fun e => hi e.symm))
  unfold stealS at h ⊢
  split at h
  · rename_i hg
    rw [if_pos hg]
    obtain ⟨_, _, _, h0, h4⟩ := goes_iff.1 hg
    split at h
    · exact absurd rfl h
    rename_i p0
    rw [if_neg p0]
    split at h
    · split at h <;> exact absurd rfl h
    rename_i p1
    rw [if_neg p1]
    split at h
    · exact absurd rfl h
    rename_i p2
    rw [if_neg p2]
    split at h
    · rename_i hy
      rw [if_pos hy]
      have e := key h
      subst e
      exact ⟨hg, rfl, by omega, hy, rfl, rfl⟩
    · exact absurd rfl h
  · exact absurd rfl h
end Go.Proofs.Ytgemaeibmgkneaa
