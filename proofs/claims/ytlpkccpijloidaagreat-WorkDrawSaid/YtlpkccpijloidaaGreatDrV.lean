/- Contract of a victim's choice. -/
import Derived.Test.YtlpkccpijloidaaGreatBaM
import Derived.IntWalk
namespace Go.Proofs.YtlpkccpijloidaaGreat.Dr
set_option maxRecDepth 100000
open Go.RowKit Go.Deep
/-- From 0 to below e. -/
def be (n e : Int) : Bool := decide (0 ≤ n ∧ n < e)
/-- Whom one looks at. -/
def vic (d self w : Int) : Int := if w < 2 ∨ be self w = false then -1 else (self + 1 + d % (w - 1)) % w
theorem be_yes {n e : Int} (h1 : 0 ≤ n) (h2 : n < e) : be n e = true := decide_eq_true ⟨h1, h2⟩
theorem be_lo {n e : Int} (h : n < 0) : be n e = false := decide_eq_false (by omega)
theorem be_iff {n e : Int} : be n e = true ↔ 0 ≤ n ∧ n < e := by simp [be]
theorem below_any (n e : Int) (w : World) : Gives 80 #[.int .i64 n, .int .i64 e] w (.bool (be n e)) := by
  by_cases h : 0 ≤ n
  · have hd : decide (0 ≤ n) = true := decide_eq_true h
    go_enter Tryz.func80, Tryz.ntmps80
    go_wp2
    go_ret
    refine ⟨?_, rfl⟩
    unfold be
    by_cases h2 : n < e
    · rw [decide_eq_true h2, decide_eq_true ⟨h, h2⟩]; rfl
    · rw [decide_eq_false h2, decide_eq_false (fun k => h2 k.2)]; rfl
  · have hd : decide (0 ≤ n) = false := decide_eq_false h
    have E := Lib.hid (be_lo (n := n) (e := e) (by omega))
    go_enter Tryz.func80, Tryz.ntmps80
    go_wp2
    go_ret
    exact ⟨by rw [E.out]; rfl, rfl⟩
theorem vic_any (d self n : Int) (w : World) (hd : U d) (hs : I self) (hn : I n) : Gives 63 #[.int .u64 d, .int .i64 self, .int .i64 n] w (.int .i64 (vic d self n)) := by
  unfold U at hd
  unfold I at hs hn
  by_cases h : n < 2
  · have h' : decide (n < 2) = true := decide_eq_true h
    have E := Lib.hid (show vic d self n = -1 by unfold vic; rw [if_pos (.inl h)])
    go_enter Tryz.func63, Tryz.ntmps63
    go_wp2
    go_ret
    exact ⟨by rw [E.out]; rfl, rfl⟩
  · have h' : decide (n < 2) = false := decide_eq_false h
    cases hb : be self n
    · have E := Lib.hid (show vic d self n = -1 by unfold vic; rw [if_pos (.inr hb)])
      have C := Lib.hid (Gives.of (below_any self n w) (v' := .bool false) (by rw [hb]))
      clear hb
      go_enter Tryz.func63, Tryz.ntmps63
      go_wp2_with fail
      refine C.out.mono ?_
      rintro _ _ ⟨rfl, rfl⟩
      go_wp2
      go_ret
      exact ⟨by rw [E.out]; rfl, rfl⟩
    · have E := Lib.hid (show vic d self n = (self + 1 + d % (n - 1)) % n by unfold vic; rw [if_neg (by rw [hb]; simp; omega)])
      have C := Lib.hid (Gives.of (below_any self n w) (v' := .bool true) (by rw [hb]))
      have hr := be_iff.1 hb
      clear hb
      have m1 := Int.emod_nonneg d (show n - 1 ≠ 0 by omega)
      have m2 := Int.emod_lt_of_pos d (show 0 < n - 1 by omega)
      have m3 := Int.emod_nonneg (self + 1 + d % (n - 1)) (show n ≠ 0 by omega)
      have m4 := Int.emod_lt_of_pos (self + 1 + d % (n - 1)) (show 0 < n by omega)
      go_enter Tryz.func63, Tryz.ntmps63
      go_wp2_with fail
      refine C.out.mono ?_
      rintro _ _ ⟨rfl, rfl⟩
      go_wp2
      go_ret
      exact ⟨by rw [E.out]; rfl, rfl⟩
end Go.Proofs.YtlpkccpijloidaaGreat.Dr
