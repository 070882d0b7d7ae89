/- Contracts of May and Parent. -/
import Derived.Test.YtobcedlkmnmikaaFoC
namespace Go.Proofs.Ytobcedlkmnmikaa.Fo
open Go.RowKit Go.Deep Go.Shelf
attribute [local go_sem] Oper.semAt_some
theorem may_any (A : Option Addr) (c n₀ : Nat) (T : List Tsk) (w : World) (hT : Tk n₀ w A T) (hn₀ : n₀ ≤ w.heap.size) (hs : Sm T) : Tells 23 #[.slice A T.length c] w (.bool (may T)) := by
  have HT := Lib.hid hT
  have HS := Lib.hid hs
  have hs1 := hs.1
  clear hT hs
  by_cases h : T.length ≤ 30
  · have h' : decide (T.length ≤ 30) = true := decide_eq_true h
    cases h2 : wk T
    · have E := Lib.hid (show may T = false by unfold may; rw [h2]; simp)
      have H2 := Lib.hid h2
      clear h2
      go_enter Try.func23, Try.ntmps23
      go_wp2_with fail
      refine (Tells.of (work_any A c n₀ T _ HT.out hn₀ hs1) (v' := .bool false) (by rw [H2.out])).mono ?_
      rintro _ w1 ⟨rfl, z1⟩
      have Z := Lib.hid z1
      clear z1
      go_wp2
      go_ret
      exact ⟨by rw [E.out]; rfl, Z.out⟩
    · have E := Lib.hid (show may T = kd T by unfold may; rw [h2, h']; simp)
      have H2 := Lib.hid h2
      clear h2
      go_enter Try.func23, Try.ntmps23
      go_wp2_with fail
      refine (Tells.of (work_any A c n₀ T _ HT.out hn₀ hs1) (v' := .bool true) (by rw [H2.out])).mono ?_
      rintro _ w1 ⟨rfl, z1⟩
      have Z := Lib.hid z1
      clear z1
      go_wp2_with fail
      refine (kidsm_any A c n₀ T _ (HT.out.below (Z.out.mono hn₀)) (Nat.le_trans hn₀ Z.out.size) HS.out).mono ?_
      rintro _ w2 ⟨rfl, z2⟩
      have Z2 := Lib.hid z2
      clear z2
      go_wp2
      go_ret
      exact ⟨by rw [E.out]; rfl, Z.out.trans (Z2.out.mono Z.out.size)⟩
  · have E := Lib.hid (show may T = false by unfold may; rw [decide_eq_false h]; simp)
    go_enter Try.func23, Try.ntmps23
    go_wp2
    go_ret
    exact ⟨by rw [E.out]; rfl, Below.refl _ _⟩
theorem pa_none {T : List Tsk} {k : Int} (h : ∀ x ∈ sp T, x.2 ≠ k) : pa T k = -1 := by
  unfold pa
  have : (sp T).find? (fun p => p.2 == k) = none := by
    rw [List.find?_eq_none]
    intro x hx
    simpa using h x hx
  rw [this]
theorem pa_some {T : List Tsk} {k : Int} {pre : List (Nat × Int)} {p : Nat} (hp : pre ++ [(p, k)] <+: sp T) (h : ∀ x ∈ pre, x.2 ≠ k) : pa T k = p := by
  unfold pa
  obtain ⟨r, hr⟩ := hp
  have : (sp T).find? (fun p => p.2 == k) = some (p, k) := by
    rw [← hr, List.find?_append, List.find?_append]
    have h0 : pre.find? (fun p => p.2 == k) = none := by
      rw [List.find?_eq_none]
      intro x hx
      simpa using h x hx
    rw [h0]
    simp
  rw [this]
end Go.Proofs.Ytobcedlkmnmikaa.Fo
