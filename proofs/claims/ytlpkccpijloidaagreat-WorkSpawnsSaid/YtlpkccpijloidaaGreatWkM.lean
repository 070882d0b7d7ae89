/- A worker's step, on lists (layer 18). -/
import Derived.Test.YtlpkccpijloidaaGreatStM
import Derived.Test.YtlpkccpijloidaaGreatFo0
import Derived.Test.YtlpkccpijloidaaGreatDrV
namespace Go.Proofs.YtlpkccpijloidaaGreat
set_option maxRecDepth 100000
open Go.RowKit Go.Deep
/-- A worker. -/
structure WkS where
  pc : Int
  stk : List Fo.Itm
  f : Fr
  spins : Int
  look : Int
/-- What happens: a kind, a task, who does it. -/
abbrev Evn := Int × Int × Int
/-- May a worker step? -/
def mayW (W D J S : Int) (T : List Fo.Tsk) (m : List Int) (w : Int) (x : WkS) : Bool := okw W D J S m w && Fo.mayS T x.stk && decide (0 ≤ x.pc) && decide (x.pc ≤ 15)
def toW (x : WkS) (pc : Int) (f : Fr) : WkS := { x with pc := pc, f := f }
def startW (T : List Fo.Tsk) (x : WkS) (v w : Int) : WkS × List Evn := ({ x with stk := Fo.startS T x.stk (wrap64 v) }, [(2, wrap64 v, w)])
def failW (x : WkS) (w : Int) : WkS := if 0 < x.spins then toW { x with spins := x.spins - 1 } 2 (fbg 4 w 0) else toW x 5 (fbg 5 w 0)
/-- What comes behind a call that has ended. -/
def endW (W : Int) (T : List Fo.Tsk) (w : Int) (x : WkS) (d : Int) : WkS × List Evn :=
  if x.pc = 0 then (if x.f.res = 1 then startW T (toW x 9 f0) x.f.val w else (toW x 1 f0, []))
  else if x.pc = 2 then (if x.f.res = 1 then (toW x 4 x.f, []) else if Dr.vic d w W = -1 then (failW x w, []) else (toW x 3 (fbg 2 (Dr.vic d w W) 0), []))
  else if x.pc = 3 then (if x.f.res = 1 then (toW x 4 x.f, []) else (failW x w, []))
  else if x.pc = 8 then (toW x 1 f0, [])
  else if x.pc = 11 then (if x.f.res = 2 then toW x 12 (fbg 3 w x.f.val) else toW x 13 f0, [])
  else if x.pc = 12 then (if x.f.res = 2 then startW T (toW x 9 f0) x.f.val w else (toW x 13 f0, []))
  else (toW x 9 f0, [])
/-- It looks once more. -/
def lookW (W D J : Int) (m : List Int) (x : WkS) : WkS :=
  if 0 ≤ x.look ∧ x.look ≤ 1 + 2 * W then
    if x.look = 0 then { x with f := { x.f with val := at0 m 4 }, look := 1 }
    else if x.look = 1 then (if at0 m 5 = x.f.val then { x with look := 2 } else toW x 1 f0)
    else if x.look % 2 = 0 then { x with f := { x.f with val := at0 m (bg D J ((x.look - 2) / 2)) }, look := x.look + 1 }
    else if 0 < far (at0 m (bg D J ((x.look - 2) / 2) + 1)) x.f.val then toW x 1 f0
    else if x.look = 1 + 2 * W then { x with pc := 8, f := { x.f with val := 0 }, look := 0 }
    else { x with look := x.look + 1 }
  else { x with pc := 8, f := { x.f with val := 0 }, look := 0 }
def incC (m : List Int) (i : Int) : List Int := put m i ((at0 m i + 1) % 18446744073709551616)
def decC (m : List Int) (i : Int) : List Int := put m i ((at0 m i - 1) % 18446744073709551616)
/-- A worker's step, where it may step. -/
def stepW (W D J S : Int) (T : List Fo.Tsk) (m : List Int) (w : Int) (x : WkS) (d : Int) : List Int × WkS × List Evn :=
  if x.pc = 1 then (incC m 1, toW { x with spins := S } 2 (fbg 4 w 0), [])
  else if x.pc = 4 then
    let y := startW T (if at0 m 1 = 1 then toW x 14 (fbg 6 w 0) else toW x 9 f0) x.f.val w
    (decC m 1, y.1, y.2)
  else if x.pc = 5 then ((callS W D J S m x.f).1, toW x 6 (callS W D J S m x.f).2, [])
  else if x.pc = 6 then (decC m 1, { x with pc := 7, look := 0 }, [])
  else if x.pc = 7 then (m, lookW W D J m x, [])
  else if x.pc = 9 then
    (m, if (Fo.nextS T x.stk).1 = 1 then { x with stk := Fo.doS T x.stk } else if (Fo.nextS T x.stk).1 = 2 then { x with pc := 10 } else if (Fo.nextS T x.stk).1 = 3 then { x with pc := 15 } else toW x 0 (fbg 1 w 0), [])
  else if x.pc = 10 then
    if (Fo.nextS T x.stk).1 = 2 then (incC m 0, toW { x with stk := Fo.doS T x.stk } 11 (fbg 0 w ((Fo.nextS T x.stk).2 % 18446744073709551616)), [(3, (Fo.nextS T x.stk).2, w)])
    else (m, toW x 9 f0, [])
  else if x.pc = 13 then (m, if at0 m 1 = 0 then toW x 14 (fbg 6 w 0) else toW x 9 f0, [])
  else if x.pc = 15 then
    if (Fo.nextS T x.stk).1 = 3 then
      (decC m 0, if Fo.doS T x.stk = [] then toW { x with stk := Fo.doS T x.stk } 0 (fbg 1 w 0) else toW { x with stk := Fo.doS T x.stk } 9 f0,
        if at0 m 0 = 1 then [(4, (Fo.nextS T x.stk).2, w), (5, 0, w)] else [(4, (Fo.nextS T x.stk).2, w)])
    else (m, toW x 9 f0, [])
  else if (callS W D J S m x.f).2.res = 0 then ((callS W D J S m x.f).1, { x with f := (callS W D J S m x.f).2 }, [])
  else ((callS W D J S m x.f).1, (endW W T w { x with f := (callS W D J S m x.f).2 } d).1, (endW W T w { x with f := (callS W D J S m x.f).2 } d).2)
def workS (W D J S : Int) (T : List Fo.Tsk) (m : List Int) (w : Int) (x : WkS) (d : Int) : List Int × WkS × List Evn :=
  if mayW W D J S T m w x = true then stepW W D J S T m w x d else (m, x, [])
def seeksW (x : WkS) : Bool := decide (2 ≤ x.pc) && decide (x.pc ≤ 6)
section
variable {W D J S : Int} {T : List Fo.Tsk} {m : List Int} {w : Int} {x : WkS} {d : Int}
theorem mayW_iff : mayW W D J S T m w x = true ↔ okw W D J S m w = true ∧ Fo.mayS T x.stk = true ∧ 0 ≤ x.pc ∧ x.pc ≤ 15 := by
  unfold mayW
  simp only [Bool.and_eq_true, decide_eq_true_eq, and_assoc]
theorem startS_may {s : List Fo.Itm} (h : Fo.mayS T s = true) (k : Int) : Fo.mayS T (Fo.startS T s k) = true := by
  by_cases c : 0 ≤ k ∧ k < T.length
  · have := Fo.start_S h c.1 c.2
    rw [this.1]; exact this.2.1
  · unfold Fo.startS
    rw [if_neg (fun h2 => c h2.2)]; exact h
theorem doS_may {s : List Fo.Itm} (h : Fo.mayS T s = true) : Fo.mayS T (Fo.doS T s) = true := by
  by_cases e : s = []
  · subst e; rw [Fo.doS_nil]; exact h
  · exact (Fo.less_S h e).1
theorem pc_cases (h0 : 0 ≤ x.pc) (h15 : x.pc ≤ 15) : x.pc = 0 ∨ x.pc = 1 ∨ x.pc = 2 ∨ x.pc = 3 ∨ x.pc = 4 ∨ x.pc = 5 ∨ x.pc = 6 ∨ x.pc = 7 ∨ x.pc = 8 ∨ x.pc = 9 ∨ x.pc = 10 ∨ x.pc = 11 ∨ x.pc = 12 ∨ x.pc = 13 ∨ x.pc = 14 ∨ x.pc = 15 := by omega
theorem endW_ok (hs : Fo.mayS T x.stk = true) : Fo.mayS T (endW W T w x d).1.stk = true ∧ 0 ≤ (endW W T w x d).1.pc ∧ (endW W T w x d).1.pc ≤ 15 ∧ (endW W T w x d).2.length ≤ 1 := by
  have h1 := startS_may hs (wrap64 x.f.val)
  unfold endW startW failW toW
  repeat' split
  all_goals simp only [List.length_nil, List.length_cons]
  all_goals first | exact ⟨hs, by omega, by omega, by omega⟩ | exact ⟨h1, by omega, by omega, by omega⟩
theorem lookW_ok (hs : Fo.mayS T x.stk = true) (h7 : x.pc = 7) : Fo.mayS T (lookW W D J m x).stk = true ∧ 0 ≤ (lookW W D J m x).pc ∧ (lookW W D J m x).pc ≤ 15 := by
  unfold lookW toW
  repeat' split
  all_goals exact ⟨hs, by simp only; omega, by simp only; omega⟩
theorem stepW_1 {s : List Fo.Itm} {f : Fr} {sp lk : Int} : stepW W D J S T m w ⟨1, s, f, sp, lk⟩ d = (incC m 1, ⟨2, s, fbg 4 w 0, S, lk⟩, []) := rfl
theorem stepW_5 {s : List Fo.Itm} {f : Fr} {sp lk : Int} : stepW W D J S T m w ⟨5, s, f, sp, lk⟩ d = ((callS W D J S m f).1, ⟨6, s, (callS W D J S m f).2, sp, lk⟩, []) := rfl
theorem stepW_6 {s : List Fo.Itm} {f : Fr} {sp lk : Int} : stepW W D J S T m w ⟨6, s, f, sp, lk⟩ d = (decC m 1, ⟨7, s, f, sp, 0⟩, []) := rfl
theorem stepW_7 {s : List Fo.Itm} {f : Fr} {sp lk : Int} : stepW W D J S T m w ⟨7, s, f, sp, lk⟩ d = (m, lookW W D J m ⟨7, s, f, sp, lk⟩, []) := rfl
theorem stepW_9 {s : List Fo.Itm} {f : Fr} {sp lk : Int} : stepW W D J S T m w ⟨9, s, f, sp, lk⟩ d = (m, if (Fo.nextS T s).1 = 1 then ⟨9, Fo.doS T s, f, sp, lk⟩ else if (Fo.nextS T s).1 = 2 then ⟨10, s, f, sp, lk⟩ else if (Fo.nextS T s).1 = 3 then ⟨15, s, f, sp, lk⟩ else ⟨0, s, fbg 1 w 0, sp, lk⟩, []) := rfl
theorem stepW_10 {s : List Fo.Itm} {f : Fr} {sp lk : Int} : stepW W D J S T m w ⟨10, s, f, sp, lk⟩ d = if (Fo.nextS T s).1 = 2 then (incC m 0, ⟨11, Fo.doS T s, fbg 0 w ((Fo.nextS T s).2 % 18446744073709551616), sp, lk⟩, [(3, (Fo.nextS T s).2, w)]) else (m, ⟨9, s, f0, sp, lk⟩, []) := rfl
theorem stepW_13 {s : List Fo.Itm} {f : Fr} {sp lk : Int} : stepW W D J S T m w ⟨13, s, f, sp, lk⟩ d = (m, if at0 m 1 = 0 then ⟨14, s, fbg 6 w 0, sp, lk⟩ else ⟨9, s, f0, sp, lk⟩, []) := rfl
theorem stepW_15 {s : List Fo.Itm} {f : Fr} {sp lk : Int} : stepW W D J S T m w ⟨15, s, f, sp, lk⟩ d = if (Fo.nextS T s).1 = 3 then (decC m 0, if Fo.doS T s = [] then ⟨0, Fo.doS T s, fbg 1 w 0, sp, lk⟩ else ⟨9, Fo.doS T s, f0, sp, lk⟩, if at0 m 0 = 1 then [(4, (Fo.nextS T s).2, w), (5, 0, w)] else [(4, (Fo.nextS T s).2, w)]) else (m, ⟨9, s, f0, sp, lk⟩, []) := rfl
theorem stepW_4 {s : List Fo.Itm} {f : Fr} {sp lk : Int} : stepW W D J S T m w ⟨4, s, f, sp, lk⟩ d = (decC m 1, if at0 m 1 = 1 then ⟨14, Fo.startS T s (wrap64 f.val), fbg 6 w 0, sp, lk⟩ else ⟨9, Fo.startS T s (wrap64 f.val), f0, sp, lk⟩, [(2, wrap64 f.val, w)]) := by
  by_cases c : at0 m 1 = 1 <;> simp [stepW, startW, toW, c]
theorem stepW_c {p : Int} {s : List Fo.Itm} {f : Fr} {sp lk : Int} (hp : p = 0 ∨ p = 2 ∨ p = 3 ∨ p = 8 ∨ p = 11 ∨ p = 12 ∨ p = 14) : stepW W D J S T m w ⟨p, s, f, sp, lk⟩ d = if (callS W D J S m f).2.res = 0 then ((callS W D J S m f).1, ⟨p, s, (callS W D J S m f).2, sp, lk⟩, []) else ((callS W D J S m f).1, (endW W T w ⟨p, s, (callS W D J S m f).2, sp, lk⟩ d).1, (endW W T w ⟨p, s, (callS W D J S m f).2, sp, lk⟩ d).2) := by
  rcases hp with rfl | rfl | rfl | rfl | rfl | rfl | rfl <;> rfl
/-- What a step does to the cells, and to the worker. -/
structure OkW (W D J S : Int) (T : List Fo.Tsk) (m : List Int) (w : Int) (r : List Int × WkS × List Evn) : Prop where
  len : r.1.length = m.length
  stk : Fo.mayS T r.2.1.stk = true
  p0 : 0 ≤ r.2.1.pc
  p15 : r.2.1.pc ≤ 15
  evs : r.2.2.length ≤ 2
  one : ∃ c : Int, ∀ k : Nat, ¬ at0 r.1 k = at0 m k → (k : Int) = c
theorem incC_len (m : List Int) (i : Int) : (incC m i).length = m.length := len_put _ _ _
theorem decC_len (m : List Int) (i : Int) : (decC m i).length = m.length := len_put _ _ _
theorem put_one (m : List Int) (i v : Int) : ∃ c : Int, ∀ k : Nat, ¬ at0 (put m i v) k = at0 m k → (k : Int) = c := ⟨i, fun k hk => by
  by_cases e : i = k
  · exact e.symm
  · exact absurd (at0_put_ne _ _ e) hk⟩
theorem incC_one (m : List Int) (i : Int) : ∃ c : Int, ∀ k : Nat, ¬ at0 (incC m i) k = at0 m k → (k : Int) = c := put_one _ _ _
theorem decC_one (m : List Int) (i : Int) : ∃ c : Int, ∀ k : Nat, ¬ at0 (decC m i) k = at0 m k → (k : Int) = c := put_one _ _ _
theorem same_one (m : List Int) : ∃ c : Int, ∀ k : Nat, ¬ at0 m k = at0 m k → (k : Int) = c := ⟨0, fun _ hk => absurd rfl hk⟩
theorem stepW_ok (h : mayW W D J S T m w x = true) : OkW W D J S T m w (stepW W D J S T m w x d) := by
  obtain ⟨hk, hs, h0, h15⟩ := mayW_iff.1 h
  obtain ⟨p, s, f, sp, lk⟩ := x
  simp only at hs h0 h15
  have hc := callS_len W D J S m f
  have h1 := (callS_one W D J S m f).dif
  have key : ∀ p : Int, (p = 0 ∨ p = 2 ∨ p = 3 ∨ p = 8 ∨ p = 11 ∨ p = 12 ∨ p = 14) → OkW W D J S T m w (stepW W D J S T m w ⟨p, s, f, sp, lk⟩ d) := by
    intro p hp
    rw [stepW_c hp]
    split
    · exact ⟨hc, hs, by simp only; omega, by simp only; omega, by simp, h1⟩
    · obtain ⟨e1, e2, e3, e4⟩ := endW_ok (W := W) (T := T) (w := w) (x := ⟨p, s, (callS W D J S m f).2, sp, lk⟩) (d := d) hs
      exact ⟨hc, e1, e2, e3, by simp only; omega, h1⟩
  rcases pc_cases (x := ⟨p, s, f, sp, lk⟩) h0 h15 with e | e | e | e | e | e | e | e | e | e | e | e | e | e | e | e <;> (simp only at e; subst e)
  · exact key 0 (by omega)
  · rw [stepW_1]; exact ⟨incC_len m 1, hs, by simp only; omega, by simp only; omega, by simp, incC_one m 1⟩
  · exact key 2 (by omega)
  · exact key 3 (by omega)
  · rw [stepW_4]
    have h2 := startS_may hs (wrap64 f.val)
    split <;> exact ⟨decC_len m 1, h2, by simp only; omega, by simp only; omega, by simp, decC_one m 1⟩
  · rw [stepW_5]; exact ⟨hc, hs, by simp only; omega, by simp only; omega, by simp, h1⟩
  · rw [stepW_6]; exact ⟨decC_len m 1, hs, by simp only; omega, by simp only; omega, by simp, decC_one m 1⟩
  · rw [stepW_7]
    obtain ⟨e1, e2, e3⟩ := lookW_ok (W := W) (D := D) (J := J) (m := m) (T := T) (x := ⟨7, s, f, sp, lk⟩) hs rfl
    exact ⟨rfl, e1, e2, e3, by simp, same_one m⟩
  · exact key 8 (by omega)
  · rw [stepW_9]
    have h2 := doS_may hs
    repeat' split
    all_goals first | exact ⟨rfl, hs, by simp only; omega, by simp only; omega, by simp, same_one m⟩ | exact ⟨rfl, h2, by simp only; omega, by simp only; omega, by simp, same_one m⟩
  · rw [stepW_10]
    have h2 := doS_may hs
    split
    · exact ⟨incC_len m 0, h2, by simp only; omega, by simp only; omega, by simp, incC_one m 0⟩
    · exact ⟨rfl, hs, by simp only; omega, by simp only; omega, by simp, same_one m⟩
  · exact key 11 (by omega)
  · exact key 12 (by omega)
  · rw [stepW_13]
    split <;> exact ⟨rfl, hs, by simp only; omega, by simp only; omega, by simp, same_one m⟩
  · exact key 14 (by omega)
  · rw [stepW_15]
    have h2 := doS_may hs
    split
    · refine ⟨decC_len m 0, ?_, ?_, ?_, ?_, decC_one m 0⟩
      · simp only; split <;> exact h2
      · simp only; split <;> (simp only; omega)
      · simp only; split <;> (simp only; omega)
      · simp only; split <;> simp
    · exact ⟨rfl, hs, by simp only; omega, by simp only; omega, by simp, same_one m⟩
/-- What may step may step behind it. -/
theorem workS_may (h : mayW W D J S T m w x = true) : mayW W D J S T (workS W D J S T m w x d).1 w (workS W D J S T m w x d).2.1 = true := by
  unfold workS
  rw [if_pos h]
  have o := stepW_ok (d := d) h
  obtain ⟨hk, _, _, _⟩ := mayW_iff.1 h
  exact mayW_iff.2 ⟨by rw [okw_len (m := m) o.len]; exact hk, o.stk, o.p0, o.p15⟩
theorem workS_no (h : mayW W D J S T m w x = false) : workS W D J S T m w x d = (m, x, []) := by
  unfold workS; rw [if_neg (by rw [h]; simp)]
def b2i (b : Bool) : Int := if b = true then 1 else 0
/-- How many things of a kind happen. -/
def cntE (k : Int) : List Evn → Int
  | [] => 0
  | e :: l => (if e.1 = k then 1 else 0) + cntE k l
def anyE (k : Int) (l : List Evn) : Bool := l.any fun e => e.1 == k
theorem endW_cnt {p : Int} {s : List Fo.Itm} {f : Fr} {sp lk : Int} (hp : p = 0 ∨ p = 2 ∨ p = 3 ∨ p = 8 ∨ p = 11 ∨ p = 12 ∨ p = 14) : seeksW (endW W T w ⟨p, s, f, sp, lk⟩ d).1 = seeksW ⟨p, s, f, sp, lk⟩ ∧ cntE 3 (endW W T w ⟨p, s, f, sp, lk⟩ d).2 = 0 ∧ cntE 4 (endW W T w ⟨p, s, f, sp, lk⟩ d).2 = 0 ∧ anyE 5 (endW W T w ⟨p, s, f, sp, lk⟩ d).2 = false := by
  rcases hp with rfl | rfl | rfl | rfl | rfl | rfl | rfl <;> (unfold endW; simp only [Int.reduceEq, if_true, if_false]; repeat' split) <;> (first | exact ⟨rfl, rfl, rfl, rfl⟩ | (unfold failW; split <;> exact ⟨rfl, rfl, rfl, rfl⟩))
/-- Who seeks, and what is pending, is counted. -/
theorem counts_W (h : mayW W D J S T m w x = true) (hu : UM m) :
    at0 (stepW W D J S T m w x d).1 1 = (at0 m 1 + b2i (seeksW (stepW W D J S T m w x d).2.1) - b2i (seeksW x)) % 18446744073709551616 ∧
    at0 (stepW W D J S T m w x d).1 0 = (at0 m 0 + cntE 3 (stepW W D J S T m w x d).2.2 - cntE 4 (stepW W D J S T m w x d).2.2) % 18446744073709551616 ∧
    anyE 5 (stepW W D J S T m w x d).2.2 = (decide (at0 m 0 = 1) && decide ((at0 m 0 + cntE 3 (stepW W D J S T m w x d).2.2 - cntE 4 (stepW W D J S T m w x d).2.2) % 18446744073709551616 = 0)) := by
  obtain ⟨hk, hs, h0, h15⟩ := mayW_iff.1 h
  have hl := okw_long hk
  have u0 := at0_U hu 0
  have u1 := at0_U hu 1
  unfold U at u0 u1
  have same : ∀ m' : List Int, at0 m' 0 = at0 m 0 ∧ at0 m' 1 = at0 m 1 → ∀ (b : Bool), at0 m' 1 = (at0 m 1 + b2i b - b2i b) % 18446744073709551616 ∧ at0 m' 0 = (at0 m 0 + 0 - 0) % 18446744073709551616 ∧ (false : Bool) = (decide (at0 m 0 = 1) && decide ((at0 m 0 + 0 - 0) % 18446744073709551616 = 0)) := by
    intro m' hm b
    refine ⟨by omega, by omega, ?_⟩
    by_cases c : at0 m 0 = 1
    · rw [c]; rfl
    · simp [c]
  have i1 : at0 (incC m 1) 1 = (at0 m 1 + 1) % 18446744073709551616 ∧ at0 (incC m 1) 0 = at0 m 0 := ⟨at0_put _ (by omega) (by omega), at0_put_ne _ _ (by omega)⟩
  have j1 : at0 (decC m 1) 1 = (at0 m 1 - 1) % 18446744073709551616 ∧ at0 (decC m 1) 0 = at0 m 0 := ⟨at0_put _ (by omega) (by omega), at0_put_ne _ _ (by omega)⟩
  have i0 : at0 (incC m 0) 0 = (at0 m 0 + 1) % 18446744073709551616 ∧ at0 (incC m 0) 1 = at0 m 1 := ⟨at0_put _ (by omega) (by omega), at0_put_ne _ _ (by omega)⟩
  have j0 : at0 (decC m 0) 0 = (at0 m 0 - 1) % 18446744073709551616 ∧ at0 (decC m 0) 1 = at0 m 1 := ⟨at0_put _ (by omega) (by omega), at0_put_ne _ _ (by omega)⟩
  obtain ⟨p, s, f, sp, lk⟩ := x
  simp only at hs h0 h15
  have h1 := (callS_one W D J S m f).cells
  have key : ∀ p : Int, (p = 0 ∨ p = 2 ∨ p = 3 ∨ p = 8 ∨ p = 11 ∨ p = 12 ∨ p = 14) →
      at0 (stepW W D J S T m w ⟨p, s, f, sp, lk⟩ d).1 1 = (at0 m 1 + b2i (seeksW (stepW W D J S T m w ⟨p, s, f, sp, lk⟩ d).2.1) - b2i (seeksW ⟨p, s, f, sp, lk⟩)) % 18446744073709551616 ∧
      at0 (stepW W D J S T m w ⟨p, s, f, sp, lk⟩ d).1 0 = (at0 m 0 + cntE 3 (stepW W D J S T m w ⟨p, s, f, sp, lk⟩ d).2.2 - cntE 4 (stepW W D J S T m w ⟨p, s, f, sp, lk⟩ d).2.2) % 18446744073709551616 ∧
      anyE 5 (stepW W D J S T m w ⟨p, s, f, sp, lk⟩ d).2.2 = (decide (at0 m 0 = 1) && decide ((at0 m 0 + cntE 3 (stepW W D J S T m w ⟨p, s, f, sp, lk⟩ d).2.2 - cntE 4 (stepW W D J S T m w ⟨p, s, f, sp, lk⟩ d).2.2) % 18446744073709551616 = 0)) := by
    intro p hp
    rw [stepW_c hp]
    split
    · exact same _ h1 _
    · obtain ⟨e1, e2, e3, e4⟩ := endW_cnt (W := W) (T := T) (w := w) (d := d) (s := s) (f := (callS W D J S m f).2) (sp := sp) (lk := lk) hp
      simp only
      rw [e1, e2, e3, e4]
      exact same _ h1 _
  rcases pc_cases (x := ⟨p, s, f, sp, lk⟩) h0 h15 with e | e | e | e | e | e | e | e | e | e | e | e | e | e | e | e <;> (simp only at e; subst e)
  · exact key 0 (by omega)
  · rw [stepW_1]
    have := (same m ⟨rfl, rfl⟩ true).2.2
    refine ⟨?_, ?_, this⟩
    · show at0 (incC m 1) 1 = (at0 m 1 + 1 - 0) % 18446744073709551616
      rw [i1.1]; congr 1; omega
    · show at0 (incC m 1) 0 = (at0 m 0 + 0 - 0) % 18446744073709551616
      rw [i1.2]; omega
  · exact key 2 (by omega)
  · exact key 3 (by omega)
  · rw [stepW_4]
    have := (same m ⟨rfl, rfl⟩ true).2.2
    refine ⟨?_, ?_, this⟩
    · have e : b2i (seeksW (if at0 m 1 = 1 then (⟨14, Fo.startS T s (wrap64 f.val), fbg 6 w 0, sp, lk⟩ : WkS) else ⟨9, Fo.startS T s (wrap64 f.val), f0, sp, lk⟩)) = 0 := by split <;> rfl
      simp only
      rw [e, j1.1]
      show (at0 m 1 - 1) % 18446744073709551616 = (at0 m 1 + 0 - 1) % 18446744073709551616
      congr 1; omega
    · show at0 (decC m 1) 0 = (at0 m 0 + 0 - 0) % 18446744073709551616
      rw [j1.2]; omega
  · rw [stepW_5]; exact same _ h1 true
  · rw [stepW_6]
    have := (same m ⟨rfl, rfl⟩ true).2.2
    refine ⟨?_, ?_, this⟩
    · show at0 (decC m 1) 1 = (at0 m 1 + 0 - 1) % 18446744073709551616
      rw [j1.1]; congr 1; omega
    · show at0 (decC m 1) 0 = (at0 m 0 + 0 - 0) % 18446744073709551616
      rw [j1.2]; omega
  · rw [stepW_7]
    have e : seeksW (lookW W D J m ⟨7, s, f, sp, lk⟩) = false := by
      unfold lookW toW
      repeat' split
      all_goals rfl
    simp only
    rw [e]
    exact same m ⟨rfl, rfl⟩ false
  · exact key 8 (by omega)
  · rw [stepW_9]
    have e : seeksW (if (Fo.nextS T s).1 = 1 then (⟨9, Fo.doS T s, f, sp, lk⟩ : WkS) else if (Fo.nextS T s).1 = 2 then ⟨10, s, f, sp, lk⟩ else if (Fo.nextS T s).1 = 3 then ⟨15, s, f, sp, lk⟩ else ⟨0, s, fbg 1 w 0, sp, lk⟩) = false := by
      repeat' split
      all_goals rfl
    simp only
    rw [e]
    exact same m ⟨rfl, rfl⟩ false
  · rw [stepW_10]
    split
    · refine ⟨?_, ?_, ?_⟩
      · show at0 (incC m 0) 1 = (at0 m 1 + 0 - 0) % 18446744073709551616
        rw [i0.2]; omega
      · show at0 (incC m 0) 0 = (at0 m 0 + (1 + 0) - (0 + 0)) % 18446744073709551616
        rw [i0.1]; congr 1; omega
      · show (false : Bool) = (decide (at0 m 0 = 1) && decide ((at0 m 0 + (1 + 0) - (0 + 0)) % 18446744073709551616 = 0))
        by_cases c : at0 m 0 = 1
        · rw [c]; rfl
        · simp [c]
    · exact same m ⟨rfl, rfl⟩ false
  · exact key 11 (by omega)
  · exact key 12 (by omega)
  · rw [stepW_13]
    have e : seeksW (if at0 m 1 = 0 then (⟨14, s, fbg 6 w 0, sp, lk⟩ : WkS) else ⟨9, s, f0, sp, lk⟩) = false := by split <;> rfl
    simp only
    rw [e]
    exact same m ⟨rfl, rfl⟩ false
  · exact key 14 (by omega)
  · rw [stepW_15]
    split
    · have e : seeksW (if Fo.doS T s = [] then (⟨0, Fo.doS T s, fbg 1 w 0, sp, lk⟩ : WkS) else ⟨9, Fo.doS T s, f0, sp, lk⟩) = false := by split <;> rfl
      simp only
      rw [e]
      by_cases c : at0 m 0 = 1
      · rw [if_pos c]
        refine ⟨?_, ?_, ?_⟩
        · show at0 (decC m 0) 1 = (at0 m 1 + 0 - 0) % 18446744073709551616
          rw [j0.2]; omega
        · show at0 (decC m 0) 0 = (at0 m 0 + (0 + (0 + 0)) - (1 + (0 + 0))) % 18446744073709551616
          rw [j0.1]; congr 1; omega
        · rw [c]; rfl
      · rw [if_neg c]
        refine ⟨?_, ?_, ?_⟩
        · show at0 (decC m 0) 1 = (at0 m 1 + 0 - 0) % 18446744073709551616
          rw [j0.2]; omega
        · show at0 (decC m 0) 0 = (at0 m 0 + (0 + 0) - (1 + 0)) % 18446744073709551616
          rw [j0.1]; congr 1; omega
        · show (false : Bool) = _
          simp [c]
    · exact same m ⟨rfl, rfl⟩ false
theorem vic_ne {d w W : Int} (h0 : 0 ≤ w) (h1 : w < W) (h2 : 2 ≤ W) : 0 ≤ Dr.vic d w W ∧ Dr.vic d w W ≠ w := by
  have e : Dr.vic d w W = (w + 1 + d % (W - 1)) % W := by
    unfold Dr.vic
    rw [if_neg (fun h => by rcases h with h | h; omega; exact absurd (Dr.be_yes h0 h1) (by rw [h]; simp))]
  have a := Int.emod_nonneg d (show W - 1 ≠ 0 by omega)
  have b := Int.emod_lt_of_pos d (show 0 < W - 1 by omega)
  rw [e]
  generalize d % (W - 1) = k at a b
  by_cases c : w + 1 + k < W
  · rw [Int.emod_eq_of_lt (by omega) c]; omega
  · have : (w + 1 + k) % W = w + 1 + k - W := by
      rw [← Int.sub_emod_right, Int.emod_eq_of_lt (by omega) (by omega)]
    rw [this]; omega
theorem vic_one {d w W : Int} (h2 : ¬ 2 ≤ W) : Dr.vic d w W = -1 := by
  unfold Dr.vic; rw [if_pos (.inl (by omega))]
/-- A draw matters at the injector alone. -/
theorem draw_W {e : Int} (h : mayW W D J S T m w x = true) : (stepW W D J S T m w x d).1 = (stepW W D J S T m w x e).1 ∧ (stepW W D J S T m w x d).2.2 = (stepW W D J S T m w x e).2.2 ∧
    ((stepW W D J S T m w x d).2.1 = (stepW W D J S T m w x e).2.1 ∨ (x.pc = 2 ∧ ∃ (a b : Int) (s : List Fo.Itm) (sp lk : Int), a ≠ w ∧ b ≠ w ∧ a ≠ b ∧ (stepW W D J S T m w x d).2.1 = ⟨3, s, fbg 2 a 0, sp, lk⟩ ∧ (stepW W D J S T m w x e).2.1 = ⟨3, s, fbg 2 b 0, sp, lk⟩)) := by
  obtain ⟨hk, hs, h0, h15⟩ := mayW_iff.1 h
  obtain ⟨_, _, hw0, hw1⟩ := okw_iff.1 hk
  obtain ⟨p, s, f, sp, lk⟩ := x
  simp only at hs h0 h15
  have key : ∀ p : Int, (p = 0 ∨ p = 3 ∨ p = 8 ∨ p = 11 ∨ p = 12 ∨ p = 14) → stepW W D J S T m w ⟨p, s, f, sp, lk⟩ d = stepW W D J S T m w ⟨p, s, f, sp, lk⟩ e := by
    intro p hp
    rcases hp with rfl | rfl | rfl | rfl | rfl | rfl <;> rfl
  rcases pc_cases (x := ⟨p, s, f, sp, lk⟩) h0 h15 with q | q | q | q | q | q | q | q | q | q | q | q | q | q | q | q <;> (simp only at q; subst q)
  · rw [key 0 (by omega)]; exact ⟨rfl, rfl, .inl rfl⟩
  · exact ⟨rfl, rfl, .inl rfl⟩
  · rw [stepW_c (by omega), stepW_c (by omega)]
    split
    · exact ⟨rfl, rfl, .inl rfl⟩
    · unfold endW
      simp only [Int.reduceEq, if_true, if_false]
      split
      · exact ⟨trivial, rfl, .inl rfl⟩
      · by_cases h2 : 2 ≤ W
        · obtain ⟨a1, a2⟩ := vic_ne (d := d) hw0 hw1 h2
          obtain ⟨b1, b2⟩ := vic_ne (d := e) hw0 hw1 h2
          rw [if_neg (by omega), if_neg (by omega)]
          refine ⟨trivial, rfl, ?_⟩
          by_cases c : Dr.vic d w W = Dr.vic e w W
          · left; simp only; rw [c]
          · exact .inr ⟨trivial, _, _, _, _, _, a2, b2, c, rfl, rfl⟩
        · rw [vic_one h2, vic_one h2]
          exact ⟨trivial, rfl, .inl rfl⟩
  · rw [key 3 (by omega)]; exact ⟨rfl, rfl, .inl rfl⟩
  · exact ⟨rfl, rfl, .inl rfl⟩
  · exact ⟨rfl, rfl, .inl rfl⟩
  · exact ⟨rfl, rfl, .inl rfl⟩
  · exact ⟨rfl, rfl, .inl rfl⟩
  · rw [key 8 (by omega)]; exact ⟨rfl, rfl, .inl rfl⟩
  · exact ⟨rfl, rfl, .inl rfl⟩
  · exact ⟨rfl, rfl, .inl rfl⟩
  · rw [key 11 (by omega)]; exact ⟨rfl, rfl, .inl rfl⟩
  · rw [key 12 (by omega)]; exact ⟨rfl, rfl, .inl rfl⟩
  · exact ⟨rfl, rfl, .inl rfl⟩
  · rw [key 14 (by omega)]; exact ⟨rfl, rfl, .inl rfl⟩
  · exact ⟨rfl, rfl, .inl rfl⟩
/-- Alone, where nothing is, it looks at all and waits. -/
theorem look_W {q : Int} {f : Fr} {k : Int} (hf : f.val = 0) (hm : ∀ i : Int, at0 m i = 0) (h0 : 0 ≤ k) (h1 : k ≤ 1 + 2 * W) (hW : 1 ≤ W) :
    lookW W D J m ⟨7, [], f, q, k⟩ = if k = 1 + 2 * W then ⟨8, [], f, q, 0⟩ else ⟨7, [], f, q, k + 1⟩ := by
  obtain ⟨o, p, u, v, a, y, r⟩ := f
  simp only at hf
  subst hf
  have hfar : far 0 0 = 0 := by decide +kernel
  unfold lookW
  simp only [hm, hfar]
  rw [if_pos ⟨h0, h1⟩]
  by_cases k0 : k = 0
  · subst k0
    rw [if_pos rfl, if_neg (by omega)]; rfl
  rw [if_neg k0]
  by_cases k1 : k = 1
  · subst k1
    rw [if_pos rfl, if_pos trivial, if_neg (by omega)]; rfl
  rw [if_neg k1]
  by_cases k2 : k % 2 = 0
  · rw [if_pos k2, if_neg (by omega)]
  · rw [if_neg k2, if_neg (by omega)]
end
end Go.Proofs.YtlpkccpijloidaaGreat
