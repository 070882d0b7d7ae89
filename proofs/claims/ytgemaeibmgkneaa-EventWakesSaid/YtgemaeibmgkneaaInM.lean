/- The injector in its cells, on lists: putting in and taking out, step by step, and the list that it has. -/
import Derived.Test.YtgemaeibmgkneaaDqA
namespace Go.Proofs.Ytgemaeibmgkneaa
open Go.RowKit Go.Deep
/-- A row of cells is the layout's. -/
def okm (W D J S : Int) (m : List Int) : Bool := may W D J S && decide ((m.length : Int) = sz W D J S)
set_option maxRecDepth 100000 in
theorem okm_iff {W D J S : Int} {m : List Int} : okm W D J S m = true ↔ may W D J S = true ∧ (m.length : Int) = bg D J W := by
  unfold okm
  simp only [Bool.and_eq_true, decide_eq_true_eq]
  constructor
  · rintro ⟨a, b⟩; exact ⟨a, by rw [b, sz, if_pos a]⟩
  · rintro ⟨a, b⟩; exact ⟨a, by rw [b, sz, if_pos a]⟩
set_option maxRecDepth 100000 in
theorem okm_len {W D J S : Int} {m m' : List Int} (h : m'.length = m.length) : okm W D J S m' = okm W D J S m := by unfold okm; rw [h]
set_option maxRecDepth 100000 in
theorem okm_put {W D J S : Int} {m : List Int} (h : okm W D J S m = true) (i u : Int) : okm W D J S (put m i u) = true := by rw [okm_len (m := m) (len_put _ _ _)]; exact h
/-- A call goes on at the injector. -/
def goesE (W D J S : Int) (m : List Int) (f : Fr) (op : Int) : Bool := okm W D J S m && decide (f.res = 0) && decide (f.op = op) && decide (0 ≤ f.pc) && decide (f.pc ≤ 4)
set_option maxRecDepth 100000 in
theorem goesE_iff {W D J S : Int} {m : List Int} {f : Fr} {op : Int} : goesE W D J S m f op = true ↔ okm W D J S m = true ∧ f.res = 0 ∧ f.op = op ∧ 0 ≤ f.pc ∧ f.pc ≤ 4 := by
  unfold goesE
  simp only [Bool.and_eq_true, decide_eq_true_eq]
  constructor
  · rintro ⟨⟨⟨⟨a, b⟩, c⟩, d⟩, e⟩; exact ⟨a, b, c, d, e⟩
  · rintro ⟨a, b, c, d, e⟩; exact ⟨⟨⟨⟨a, b⟩, c⟩, d⟩, e⟩
/-- Where a place's sequence and its value lie, and twice its round. -/
def sqI (J x : Int) : Int := 6 + x % J
def vlI (J x : Int) : Int := 6 + J + x % J
def tw (J x : Int) : Int := 2 * (x / J)
/-- One step of putting in. -/
def enqS (W D J S : Int) (m : List Int) (f : Fr) : List Int × Fr :=
  if goesE W D J S m f 3 = true then
    if f.pc = 0 then (m, { f with x := at0 m 5, pc := 1 })
    else if f.pc = 1 then
      if at0 m (sqI J f.x) = tw J f.x % 18446744073709551616 then (m, { f with y := at0 m (sqI J f.x), pc := 2 })
      else if far (at0 m (sqI J f.x)) (tw J f.x % 18446744073709551616) < 0 then (m, ed f 2 f.val)
      else (m, { f with y := at0 m (sqI J f.x), pc := 0 })
    else if f.pc = 2 then
      if at0 m 5 = f.x then (put m 5 ((f.x + 1) % 18446744073709551616), { f with pc := 3 }) else (m, { f with pc := 0 })
    else if f.pc = 3 then (put m (vlI J f.x) f.val, { f with pc := 4 })
    else (put m (sqI J f.x) ((tw J f.x + 1) % 18446744073709551616), ed f 1 f.val)
  else (m, f)
/-- One step of taking out. -/
def outS (W D J S : Int) (m : List Int) (f : Fr) : List Int × Fr :=
  if goesE W D J S m f 4 = true then
    if f.pc = 0 then (m, { f with x := at0 m 4, pc := 1 })
    else if f.pc = 1 then
      if at0 m (sqI J f.x) = (tw J f.x + 1) % 18446744073709551616 then (m, { f with y := at0 m (sqI J f.x), pc := 2 })
      else if far (at0 m (sqI J f.x)) ((tw J f.x + 1) % 18446744073709551616) < 0 then (m, ed f 3 0)
      else (m, { f with y := at0 m (sqI J f.x), pc := 0 })
    else if f.pc = 2 then
      if at0 m 4 = f.x then (put m 4 ((f.x + 1) % 18446744073709551616), { f with pc := 3 }) else (m, { f with pc := 0 })
    else if f.pc = 3 then (m, { f with val := at0 m (vlI J f.x), pc := 4 })
    else (put m (sqI J f.x) ((tw J f.x + 2) % 18446744073709551616), ed f 1 f.val)
  else (m, f)
set_option maxRecDepth 100000 in
theorem enqS_over {W D J S : Int} (m : List Int) (f : Fr) (h : f.res ≠ 0) : enqS W D J S m f = (m, f) := by
  unfold enqS; rw [if_neg]; intro h'; exact h (goesE_iff.1 h').2.1
set_option maxRecDepth 100000 in
theorem outS_over {W D J S : Int} (m : List Int) (f : Fr) (h : f.res ≠ 0) : outS W D J S m f = (m, f) := by
  unfold outS; rw [if_neg]; intro h'; exact h (goesE_iff.1 h').2.1
set_option maxRecDepth 100000 in
theorem enqS_len (W D J S : Int) (m : List Int) (f : Fr) : (enqS W D J S m f).1.length = m.length := by
  unfold enqS
  repeat' split
  all_goals simp [len_put]
set_option maxRecDepth 100000 in
theorem outS_len (W D J S : Int) (m : List Int) (f : Fr) : (outS W D J S m f).1.length = m.length := by
  unfold outS
  repeat' split
  all_goals simp [len_put]
set_option maxRecDepth 100000 in
theorem enqS_U {W D J S : Int} {m : List Int} {f : Fr} (hm : UM m) (hf : UF f) : UM (enqS W D J S m f).1 ∧ UF (enqS W D J S m f).2 := by
  obtain ⟨h1, h2, h3⟩ := hf
  have z : U 0 := by unfold U; omega
  unfold enqS
  split
  · split
    · exact ⟨hm, h1, at0_U hm 5, h3⟩
    split
    · split
      · exact ⟨hm, h1, h2, at0_U hm _⟩
      split
      · exact ⟨hm, h1, z, z⟩
      · exact ⟨hm, h1, h2, at0_U hm _⟩
    split
    · split
      · exact ⟨put_U hm 5 (mod_U _), h1, h2, h3⟩
      · exact ⟨hm, h1, h2, h3⟩
    split
    · exact ⟨put_U hm _ h1, h1, h2, h3⟩
    · exact ⟨put_U hm _ (mod_U _), h1, z, z⟩
  · exact ⟨hm, h1, h2, h3⟩
set_option maxRecDepth 100000 in
theorem outS_U {W D J S : Int} {m : List Int} {f : Fr} (hm : UM m) (hf : UF f) : UM (outS W D J S m f).1 ∧ UF (outS W D J S m f).2 := by
  obtain ⟨h1, h2, h3⟩ := hf
  have z : U 0 := by unfold U; omega
  unfold outS
  split
  · split
    · exact ⟨hm, h1, at0_U hm 4, h3⟩
    split
    · split
      · exact ⟨hm, h1, h2, at0_U hm _⟩
      split
      · exact ⟨hm, z, z, z⟩
      · exact ⟨hm, h1, h2, at0_U hm _⟩
    split
    · split
      · exact ⟨put_U hm 4 (mod_U _), h1, h2, h3⟩
      · exact ⟨hm, h1, h2, h3⟩
    split
    · exact ⟨hm, at0_U hm _, h2, h3⟩
    · exact ⟨put_U hm _ (mod_U _), h1, z, z⟩
  · exact ⟨hm, h1, h2, h3⟩
section
variable {W D J S : Int} {m : List Int} {w v x y : Int}
set_option maxRecDepth 100000 in
theorem enqS_0 (h : okm W D J S m = true) : enqS W D J S m ⟨3, 0, w, v, x, y, 0⟩ = (m, ⟨3, 1, w, v, at0 m 5, y, 0⟩) := by
  unfold enqS; rw [if_pos (goesE_iff.2 ⟨h, rfl, rfl, by simp, by simp⟩)]; simp
set_option maxRecDepth 100000 in
theorem enqS_1 (h : okm W D J S m = true) : enqS W D J S m ⟨3, 1, w, v, x, y, 0⟩ = if at0 m (sqI J x) = tw J x % 18446744073709551616 then (m, ⟨3, 2, w, v, x, at0 m (sqI J x), 0⟩) else if far (at0 m (sqI J x)) (tw J x % 18446744073709551616) < 0 then (m, ⟨3, 0, w, v, 0, 0, 2⟩) else (m, ⟨3, 0, w, v, x, at0 m (sqI J x), 0⟩) := by
  unfold enqS; rw [if_pos (goesE_iff.2 ⟨h, rfl, rfl, by simp, by simp⟩)]; simp [ed]
set_option maxRecDepth 100000 in
theorem enqS_2 (h : okm W D J S m = true) : enqS W D J S m ⟨3, 2, w, v, x, y, 0⟩ = if at0 m 5 = x then (put m 5 ((x + 1) % 18446744073709551616), ⟨3, 3, w, v, x, y, 0⟩) else (m, ⟨3, 0, w, v, x, y, 0⟩) := by
  unfold enqS; rw [if_pos (goesE_iff.2 ⟨h, rfl, rfl, by simp, by simp⟩)]; simp
set_option maxRecDepth 100000 in
theorem enqS_3 (h : okm W D J S m = true) : enqS W D J S m ⟨3, 3, w, v, x, y, 0⟩ = (put m (vlI J x) v, ⟨3, 4, w, v, x, y, 0⟩) := by
  unfold enqS; rw [if_pos (goesE_iff.2 ⟨h, rfl, rfl, by simp, by simp⟩)]; simp
set_option maxRecDepth 100000 in
theorem enqS_4 (h : okm W D J S m = true) : enqS W D J S m ⟨3, 4, w, v, x, y, 0⟩ = (put m (sqI J x) ((tw J x + 1) % 18446744073709551616), ⟨3, 0, w, v, 0, 0, 1⟩) := by
  unfold enqS; rw [if_pos (goesE_iff.2 ⟨h, rfl, rfl, by simp, by simp⟩)]; simp [ed]
set_option maxRecDepth 100000 in
theorem outS_0 (h : okm W D J S m = true) : outS W D J S m ⟨4, 0, w, v, x, y, 0⟩ = (m, ⟨4, 1, w, v, at0 m 4, y, 0⟩) := by
  unfold outS; rw [if_pos (goesE_iff.2 ⟨h, rfl, rfl, by simp, by simp⟩)]; simp
set_option maxRecDepth 100000 in
theorem outS_1 (h : okm W D J S m = true) : outS W D J S m ⟨4, 1, w, v, x, y, 0⟩ = if at0 m (sqI J x) = (tw J x + 1) % 18446744073709551616 then (m, ⟨4, 2, w, v, x, at0 m (sqI J x), 0⟩) else if far (at0 m (sqI J x)) ((tw J x + 1) % 18446744073709551616) < 0 then (m, ⟨4, 0, w, 0, 0, 0, 3⟩) else (m, ⟨4, 0, w, v, x, at0 m (sqI J x), 0⟩) := by
  unfold outS; rw [if_pos (goesE_iff.2 ⟨h, rfl, rfl, by simp, by simp⟩)]; simp [ed]
set_option maxRecDepth 100000 in
theorem outS_2 (h : okm W D J S m = true) : outS W D J S m ⟨4, 2, w, v, x, y, 0⟩ = if at0 m 4 = x then (put m 4 ((x + 1) % 18446744073709551616), ⟨4, 3, w, v, x, y, 0⟩) else (m, ⟨4, 0, w, v, x, y, 0⟩) := by
  unfold outS; rw [if_pos (goesE_iff.2 ⟨h, rfl, rfl, by simp, by simp⟩)]; simp
set_option maxRecDepth 100000 in
theorem outS_3 (h : okm W D J S m = true) : outS W D J S m ⟨4, 3, w, v, x, y, 0⟩ = (m, ⟨4, 4, w, at0 m (vlI J x), x, y, 0⟩) := by
  unfold outS; rw [if_pos (goesE_iff.2 ⟨h, rfl, rfl, by simp, by simp⟩)]; simp
set_option maxRecDepth 100000 in
theorem outS_4 (h : okm W D J S m = true) : outS W D J S m ⟨4, 4, w, v, x, y, 0⟩ = (put m (sqI J x) ((tw J x + 2) % 18446744073709551616), ⟨4, 0, w, v, 0, 0, 1⟩) := by
  unfold outS; rw [if_pos (goesE_iff.2 ⟨h, rfl, rfl, by simp, by simp⟩)]; simp [ed]
end
/-- How many there are. -/
def ilen (W D J S : Int) (m : List Int) : Int := if okm W D J S m = true then far (at0 m 5) (at0 m 4) else -1
/-- Is a place's sequence as it should be? -/
def seqAt (J : Int) (m : List Int) (n : Int) (i : Nat) : Bool := decide (at0 m (sqI J ((at0 m 4 + i) % 18446744073709551616)) = (tw J ((at0 m 4 + i) % 18446744073709551616) + (if (i : Int) < n then 1 else 0)) % 18446744073709551616)
/-- The list of an injector, or none. -/
def ilst (W D J S : Int) (m : List Int) : Option (List Int) :=
  if 0 ≤ ilen W D J S m ∧ ilen W D J S m ≤ J ∧ (List.range J.toNat).all (seqAt J m (ilen W D J S m)) = true then
    some ((List.range (ilen W D J S m).toNat).map fun i : Nat => at0 m (vlI J ((at0 m 4 + i) % 18446744073709551616)))
  else none
/-- An injector from h on has the numbers l, and no wrap is near. -/
structure Vi (J : Int) (m : List Int) (h : Int) (l : List Int) : Prop where
  head : at0 m 4 = h
  tail : at0 m 5 = h + l.length
  len : (l.length : Int) ≤ J
  h0 : 0 ≤ h
  lim : h < 4611686018427387904
  sq_ : ∀ i : Nat, (i : Int) < J → at0 m (sqI J (h + i)) = tw J (h + i) + (if i < l.length then 1 else 0)
  at_ : ∀ (i : Nat) u, l[i]? = some u → at0 m (vlI J (h + i)) = u
set_option maxRecDepth 100000 in
theorem tw_lim {J x : Int} (hJ : 1 ≤ J) (hx : 0 ≤ x) : 0 ≤ tw J x ∧ tw J x ≤ 2 * x := by
  unfold tw
  have h1 : 0 ≤ x / J := Int.ediv_nonneg hx (by omega)
  have h2 : x / J ≤ x := Int.ediv_le_self _ hx
  omega
set_option maxRecDepth 100000 in
theorem ilst_of {W D J S : Int} {m : List Int} {h : Int} {l : List Int} (hk : okm W D J S m = true) (hv : Vi J m h l) : ilst W D J S m = some l ∧ ilen W D J S m = l.length := by
  obtain ⟨hm, hlen⟩ := okm_iff.1 hk
  obtain ⟨hW, hD, hJ, hS⟩ := may_lim hm
  have h1 := hv.len
  have h2 := hv.h0
  have h3 := hv.lim
  have e : ilen W D J S m = l.length := by
    unfold ilen
    rw [if_pos hk, hv.head, hv.tail]
    unfold far wrap64
    omega
  refine ⟨?_, e⟩
  unfold ilst
  rw [e, if_pos]
  · congr 1
    apply List.ext_getElem?
    intro i
    simp only [List.getElem?_map]
    rcases Nat.lt_or_ge i l.length with hi | hi
    · rw [List.getElem?_range (by simpa using hi), List.getElem?_eq_getElem hi]
      simp only [Option.map_some]
      rw [hv.head, show (h + (i : Int)) % 18446744073709551616 = h + i by omega, hv.at_ i _ (List.getElem?_eq_getElem hi)]
    · rw [List.getElem?_eq_none hi, List.getElem?_eq_none (by simpa using hi)]
      rfl
  · refine ⟨by omega, h1, ?_⟩
    rw [List.all_eq_true]
    intro i hi
    simp only [List.mem_range] at hi
    unfold seqAt
    have t := tw_lim (J := J) (x := h + i) hJ.1 (by omega)
    rw [hv.head, show (h + (i : Int)) % 18446744073709551616 = h + i by omega, hv.sq_ i (by omega)]
    simp only [decide_eq_true_eq]
    split <;> split <;> omega
set_option maxRecDepth 100000 in
theorem ilst_some {W D J S : Int} {m : List Int} {l : List Int} (hu : UM m) (h4 : at0 m 4 ≤ 1152921504606846976) (h5 : at0 m 5 ≤ 1152921504606846976) (h : ilst W D J S m = some l) : okm W D J S m = true ∧ Vi J m (at0 m 4) l := by
  unfold ilst at h
  split at h
  · rename_i hc
    obtain ⟨c1, c2, c3⟩ := hc
    have hk : okm W D J S m = true := by
      cases e : okm W D J S m
      · unfold ilen at c1; rw [if_neg (by rw [e]; simp)] at c1; omega
      · rfl
    obtain ⟨hm, hlen⟩ := okm_iff.1 hk
    obtain ⟨hW, hD, hJ, hS⟩ := may_lim hm
    have u4 := at0_U hu 4
    have u5 := at0_U hu 5
    unfold U at u4 u5
    have el : ilen W D J S m = at0 m 5 - at0 m 4 := by
      unfold ilen
      rw [if_pos hk]
      unfold far wrap64
      omega
    injection h with h
    have hll : l.length = (ilen W D J S m).toNat := by rw [← h]; simp
    refine ⟨hk, rfl, by omega, by omega, by omega, by omega, fun i hi => ?_, fun i u hiu => ?_⟩
    · have := List.all_eq_true.1 c3 i (by simp; omega)
      unfold seqAt at this
      simp only [decide_eq_true_eq] at this
      have t := tw_lim (J := J) (x := at0 m 4 + i) hJ.1 (by omega)
      rw [show (at0 m 4 + (i : Int)) % 18446744073709551616 = at0 m 4 + i by omega] at this
      rw [this]
      split <;> split <;> omega
    · have hil := (List.getElem?_eq_some_iff.1 hiu).1
      rw [← h, List.getElem?_map, List.getElem?_range (by omega)] at hiu
      simp only [Option.map_some] at hiu
      injection hiu with hiu
      rw [← hiu, show (at0 m 4 + (i : Int)) % 18446744073709551616 = at0 m 4 + i by omega]
  · cases h
end Go.Proofs.Ytgemaeibmgkneaa
