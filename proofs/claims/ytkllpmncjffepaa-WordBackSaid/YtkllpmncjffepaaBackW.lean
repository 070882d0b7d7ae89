/- The walk of WordBack: what is packed is told again. -/
import Derived.Test.YtkllpmncjffepaaWordR
namespace Go.Proofs.Ytkllpmncjffepaa
open Go.RowKit Go.Deep
theorem pk_back (a : Int) (h : U a) : pk (a / 65536) (a % 65536) = a := by have := h.1; have := h.2; unfold pk; omega
theorem pk_epoch (a b : Int) : pk a b / 65536 = a % 281474976710656 := by unfold pk; omega
theorem pk_mask (a b : Int) : pk a b % 65536 = b % 65536 := by unfold pk; omega
theorem wordBack_walk (a b : Int) (w : World) (ha : U a) (hb : U b) : Tells 4 #[.int .u64 a, .int .u64 b] w (.bool true) := by
  have HA := Lib.hid ha
  have HB := Lib.hid hb
  clear ha hb
  go_enter Try.func4, Try.ntmps4
  go_wp2_with fail
  refine (awake_any _).mono ?_
  rintro _ w1 ⟨rfl, z1⟩
  have HZ := Lib.hid z1
  clear z1
  go_wp2_with fail
  refine (pack_any a b _ HB.out).mono ?_
  rintro _ _ ⟨rfl, rfl⟩
  go_wp2_with fail
  refine (epoch_any a _).mono ?_
  rintro _ _ ⟨rfl, rfl⟩
  go_wp2_with fail
  refine (mask_any a _ HA.out).mono ?_
  rintro _ _ ⟨rfl, rfl⟩
  go_wp2_with fail
  refine (Gives.of (pack_any _ _ _ (mask_u a)) (v' := .int .u64 a) (by rw [pk_back a HA.out])).mono ?_
  rintro _ _ ⟨rfl, rfl⟩
  go_wp2_with fail
  refine (Gives.of (epoch_any _ _) (v' := .int .u64 (a.tmod 281474976710656)) (by rw [pk_epoch, tm_u HA.out])).mono ?_
  rintro _ _ ⟨rfl, rfl⟩
  go_wp2_with fail
  refine (Gives.of (mask_any _ _ (pk_u a b)) (v' := .int .u64 (b.tmod 65536)) (by rw [pk_mask, tm_u HB.out])).mono ?_
  rintro _ _ ⟨rfl, rfl⟩
  go_wp2
  go_ret
  exact ⟨rfl, HZ.out⟩
end Go.Proofs.Ytkllpmncjffepaa
