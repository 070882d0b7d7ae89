/- What is spawned, and who waits, on lists (layer 18: WorkSpawns, WorkWaits). -/
import Derived.Test.YtlpkccpijloidaaGreatWkM
namespace Go.Proofs.YtlpkccpijloidaaGreat
set_option maxRecDepth 100000
open Go.RowKit Go.Deep
theorem nq {a b : Int} (h : decide (a = b) = false) : a ≠ b := of_decide_eq_false h
section
variable {W D J S : Int} {T : List Fo.Tsk} {m : List Int} {w : Int} {x : WkS} {d : Int}
/-- What is spawned is pushed; what finds no room is put in, or run. -/
structure SpW (T : List Fo.Tsk) (w : Int) (x : WkS) (r : List Int × WkS × List Evn) : Prop where
  spawn : x.pc = 10 → r.2.2.length = 1 → ∃ t, r.2.2 = [(3, t, w)] ∧ r.2.1.pc = 11 ∧ r.2.1.f = fbg 0 w (t % 18446744073709551616)
  over : x.pc = 11 → r.2.1.pc = 12 → r.2.2 = [] ∧ r.2.1.f.op = 3 ∧ r.2.1.f.who = w ∧ r.2.1.f.pc = 0
  self : x.pc = 12 → r.2.1.pc = 9 → ∃ k, r.2.2 = [(2, k, w)] ∧ x.stk.length ≤ r.2.1.stk.length
  push : r.2.1.pc = 11 → x.pc = 11 ∨ (x.pc = 10 ∧ r.2.2.length = 1)
theorem startS_ge (s : List Fo.Itm) (k : Int) : s.length ≤ (Fo.startS T s k).length := by
  unfold Fo.startS
  split
  · simp
  · exact Nat.le_refl _
/-- Where no task is spawned, none is at hand. -/
theorem SpW.not {p : Int} {s : List Fo.Itm} {f : Fr} {sp lk : Int} {r : List Int × WkS × List Evn} (h10 : p ≠ 10) (h11 : p ≠ 11) (h12 : p ≠ 12) (h : r.2.1.pc ≠ 11) : SpW T w ⟨p, s, f, sp, lk⟩ r :=
  ⟨fun e => absurd e h10, fun e => absurd e h11, fun e => absurd e h12, fun e => absurd e h⟩
theorem endW_push {p : Int} {s : List Fo.Itm} {f : Fr} {sp lk : Int} (hp : p = 0 ∨ p = 2 ∨ p = 3 ∨ p = 8 ∨ p = 14) : (endW W T w ⟨p, s, f, sp, lk⟩ d).1.pc ≠ 11 := by
  rcases hp with rfl | rfl | rfl | rfl | rfl <;> (unfold endW; simp only [Int.reduceEq, if_true, if_false]; repeat' split) <;> (first | exact nq rfl | (unfold failW; split <;> exact nq rfl))
theorem spawns_W (h : mayW W D J S T m w x = true) : SpW T w x (stepW W D J S T m w x d) := by
  obtain ⟨hk, hs, h0, h15⟩ := mayW_iff.1 h
  obtain ⟨p, s, f, sp, lk⟩ := x
  simp only at hs h0 h15
  have key : ∀ p : Int, (p = 0 ∨ p = 2 ∨ p = 3 ∨ p = 8 ∨ p = 14) → SpW T w ⟨p, s, f, sp, lk⟩ (stepW W D J S T m w ⟨p, s, f, sp, lk⟩ d) := by
    intro p hp
    refine SpW.not (by omega) (by omega) (by omega) ?_
    rw [stepW_c (by omega)]
    split
    · show p ≠ 11; omega
    · exact endW_push hp
  rcases pc_cases (x := ⟨p, s, f, sp, lk⟩) h0 h15 with e | e | e | e | e | e | e | e | e | e | e | e | e | e | e | e <;> (simp only at e; subst e)
  · exact key 0 (by omega)
  · exact SpW.not (by omega) (by omega) (by omega) (by rw [stepW_1]; exact nq rfl)
  · exact key 2 (by omega)
  · exact key 3 (by omega)
  · refine SpW.not (by omega) (by omega) (by omega) ?_
    rw [stepW_4]; simp only; split <;> exact nq rfl
  · exact SpW.not (by omega) (by omega) (by omega) (by rw [stepW_5]; exact nq rfl)
  · exact SpW.not (by omega) (by omega) (by omega) (by rw [stepW_6]; exact nq rfl)
  · refine SpW.not (by omega) (by omega) (by omega) ?_
    rw [stepW_7]
    unfold lookW toW
    repeat' split
    all_goals exact nq rfl
  · exact key 8 (by omega)
  · refine SpW.not (by omega) (by omega) (by omega) ?_
    rw [stepW_9]; simp only
    repeat' split
    all_goals exact nq rfl
  · rw [stepW_10]
    split
    · exact ⟨fun _ _ => ⟨_, rfl, rfl, rfl⟩, fun e => absurd e (nq rfl), fun e => absurd e (nq rfl), fun _ => .inr ⟨rfl, rfl⟩⟩
    · exact ⟨fun _ e => absurd e (by simp), fun e => absurd e (nq rfl), fun e => absurd e (nq rfl), fun e => absurd e (nq rfl)⟩
  · refine ⟨fun e => absurd e (nq rfl), fun _ => ?_, fun e => absurd e (nq rfl), fun _ => .inl rfl⟩
    rw [stepW_c (by omega)]
    split
    · intro e; exact absurd e (nq rfl)
    · unfold endW
      simp only [Int.reduceEq, if_true, if_false]
      split
      · intro _; exact ⟨trivial, rfl, rfl, rfl⟩
      · intro e; exact absurd e (nq rfl)
  · refine ⟨fun e => absurd e (nq rfl), fun e => absurd e (nq rfl), fun _ => ?_, ?_⟩
    · rw [stepW_c (by omega)]
      split
      · intro e; exact absurd e (nq rfl)
      · unfold endW
        simp only [Int.reduceEq, if_true, if_false]
        split
        · intro _; exact ⟨_, rfl, startS_ge _ _⟩
        · intro e; exact absurd e (nq rfl)
    · rw [stepW_c (by omega)]
      split
      · intro e; exact absurd e (nq rfl)
      · unfold endW
        simp only [Int.reduceEq, if_true, if_false]
        split <;> (intro e; exact absurd e (nq rfl))
  · refine SpW.not (by omega) (by omega) (by omega) ?_
    rw [stepW_13]; simp only; split <;> exact nq rfl
  · exact key 14 (by omega)
  · refine SpW.not (by omega) (by omega) (by omega) ?_
    rw [stepW_15]
    split
    · simp only; split <;> exact nq rfl
    · exact nq rfl
/-- One who is about to wait, so many looks on. -/
def wtW (W : Int) (w q : Int) (k : Int) : WkS := if k ≤ 1 + 2 * W then ⟨7, [], { fbg 5 w 0 with pc := 1 }, q, k⟩ else ⟨8, [], { fbg 5 w 0 with pc := 1 }, q, 0⟩
theorem waits_W {q k : Int} (hk : okw W D J S m w = true) (ht : Fo.may T = true) (hm : ∀ i : Int, at0 m i = 0) (h0 : 0 ≤ k) (h1 : k ≤ 1 + 2 * W) : workS W D J S T m w (wtW W w q k) d = (m, wtW W w q (k + 1), []) := by
  obtain ⟨_, _, hw0, hw1⟩ := okw_iff.1 hk
  have e : wtW W w q k = ⟨7, [], { fbg 5 w 0 with pc := 1 }, q, k⟩ := by unfold wtW; rw [if_pos h1]
  have hy : mayW W D J S T m w (wtW W w q k) = true := by
    rw [e]
    exact mayW_iff.2 ⟨hk, by rw [Fo.mayS_nil]; exact ht, by show (0 : Int) ≤ 7; decide, by show (7 : Int) ≤ 15; decide⟩
  unfold workS
  rw [if_pos hy, e, stepW_7, look_W rfl hm h0 h1 (by omega)]
  unfold wtW
  by_cases c : k = 1 + 2 * W
  · rw [if_pos c, if_neg (by omega)]
  · rw [if_neg c, if_pos (by omega)]
end
end Go.Proofs.YtlpkccpijloidaaGreat
