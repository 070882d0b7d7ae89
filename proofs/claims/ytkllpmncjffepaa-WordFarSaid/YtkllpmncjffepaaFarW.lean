/- The walk of WordFar: how far one number lies behind another one. -/
import Derived.Test.YtkllpmncjffepaaWordR
namespace Go.Proofs.Ytkllpmncjffepaa
open Go.RowKit Go.Deep
theorem far_same {a b : Int} (h : a = b) : far a b = 0 := by unfold far wrap64; omega
theorem far_ne {a b : Int} (ha : U a) (hb : U b) (h : ¬ a = b) : ¬ far a b = 0 := by have := ha.1; have := ha.2; have := hb.1; have := hb.2; unfold far wrap64; omega
theorem far_turn (a b : Int) : far b a = wrap64 (-far a b) := by unfold far wrap64; omega
theorem far_more (a b : Int) : far (IntKind.u64.wrap (a + 1)) b = wrap64 (far a b + 1) := by rw [IntKind.wrap_u64]; unfold far wrap64; omega
theorem far_back (a b : Int) (ha : U a) : IntKind.u64.wrap (b + IntKind.u64.wrap (far a b)) = a := by have := ha.1; have := ha.2; rw [IntKind.wrap_u64, IntKind.wrap_u64]; unfold far wrap64; omega
theorem wordFar_walk (a b : Int) (w : World) (ha : U a) (hb : U b) : Tells 6 #[.int .u64 a, .int .u64 b] w (.bool true) := by
  have HA := Lib.hid ha
  have hback := far_back a b ha
  by_cases hab : a = b
  · have h0 : (far a b == 0) = true := by rw [far_same hab]; rfl
    have h1 : (a == b) = true := by simp [hab]
    have hm : (far a b == 9223372036854775807) = false := by rw [far_same hab]; rfl
    clear hab hb ha
    go_enter Try.func6, Try.ntmps6
    go_wp2_with fail
    refine (awake_any _).mono ?_
    rintro _ w1 ⟨rfl, z1⟩
    have HZ := Lib.hid z1
    clear z1
    go_wp2_with fail
    refine (far_any a b _).mono ?_
    rintro _ _ ⟨rfl, rfl⟩
    go_wp2_with fail
    refine (Gives.of (far_any b a _) (v' := .int .i64 (wrap64 (-far a b))) (by rw [far_turn])).mono ?_
    rintro _ _ ⟨rfl, rfl⟩
    go_wp2_with fail
    refine (Gives.of (far_any _ b _) (v' := .int .i64 (wrap64 (far a b + 1))) (by rw [far_more])).mono ?_
    rintro _ _ ⟨rfl, rfl⟩
    go_wp2
    go_ret
    exact ⟨rfl, HZ.out⟩
  · have h0 : (far a b == 0) = false := by simp [far_ne ha hb hab]
    have h1 : (a == b) = false := by simp [hab]
    clear hab hb ha
    by_cases hx : far a b = 9223372036854775807
    · have hm : (far a b == 9223372036854775807) = true := by simp [hx]
      clear hx
      go_enter Try.func6, Try.ntmps6
      go_wp2_with fail
      refine (awake_any _).mono ?_
      rintro _ w1 ⟨rfl, z1⟩
      have HZ := Lib.hid z1
      clear z1
      go_wp2_with fail
      refine (far_any a b _).mono ?_
      rintro _ _ ⟨rfl, rfl⟩
      go_wp2_with fail
      refine (Gives.of (far_any b a _) (v' := .int .i64 (wrap64 (-far a b))) (by rw [far_turn])).mono ?_
      rintro _ _ ⟨rfl, rfl⟩
      go_wp2
      go_ret
      exact ⟨rfl, HZ.out⟩
    · have hm : (far a b == 9223372036854775807) = false := by simp [hx]
      clear hx
      go_enter Try.func6, Try.ntmps6
      go_wp2_with fail
      refine (awake_any _).mono ?_
      rintro _ w1 ⟨rfl, z1⟩
      have HZ := Lib.hid z1
      clear z1
      go_wp2_with fail
      refine (far_any a b _).mono ?_
      rintro _ _ ⟨rfl, rfl⟩
      go_wp2_with fail
      refine (Gives.of (far_any b a _) (v' := .int .i64 (wrap64 (-far a b))) (by rw [far_turn])).mono ?_
      rintro _ _ ⟨rfl, rfl⟩
      go_wp2_with fail
      refine (Gives.of (far_any _ b _) (v' := .int .i64 (wrap64 (far a b + 1))) (by rw [far_more])).mono ?_
      rintro _ _ ⟨rfl, rfl⟩
      go_wp2
      go_ret
      exact ⟨rfl, HZ.out⟩
end Go.Proofs.Ytkllpmncjffepaa
