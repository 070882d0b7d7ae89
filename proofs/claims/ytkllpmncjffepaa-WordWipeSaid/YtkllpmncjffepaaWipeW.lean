/- The walk of WordWipe: wiped a word has no mask, and an epoch more. -/
import Derived.Test.YtkllpmncjffepaaWordR
namespace Go.Proofs.Ytkllpmncjffepaa
open Go.RowKit Go.Deep
theorem wp_mask (e : Int) : pk (e / 65536 + 1) 0 % 65536 = 0 := by unfold pk; omega
theorem wp_epoch (e : Int) : pk (e / 65536 + 1) 0 / 65536 = (e / 65536 + 1) % 281474976710656 := by unfold pk; omega
theorem wordWipe_walk (e : Int) (w : World) (h : U e) : Tells 9 #[.int .u64 e] w (.bool true) := by
  have H := Lib.hid h
  have EW := Lib.hid (ep_wrap e h)
  have EU := Lib.hid (show U (e / 65536 + 1) by have := h.1; have := h.2; unfold U; omega)
  have hand := and_rest e
  clear h
  go_enter Try.func9, Try.ntmps9
  go_wp2_with fail
  refine (awake_any _).mono ?_
  rintro _ w1 ⟨rfl, z1⟩
  have HZ := Lib.hid z1
  clear z1
  go_wp2_with fail
  refine (wipe_any e _ H.out).mono ?_
  rintro _ _ ⟨rfl, rfl⟩
  go_wp2_with fail
  refine (bump_any e _ H.out).mono ?_
  rintro _ w2 ⟨rfl, z2⟩
  replace HZ := Lib.hid (HZ.out.trans (z2.mono HZ.out.size))
  clear z2
  go_wp2_with fail
  refine (Gives.of (mask_any _ _ (pk_u _ _)) (v' := .int .u64 0) (by rw [wp_mask])).mono ?_
  rintro _ _ ⟨rfl, rfl⟩
  go_wp2_with fail
  refine (Gives.of (epoch_any _ _) (v' := .int .u64 ((e / 65536 + 1) % 281474976710656)) (by rw [wp_epoch])).mono ?_
  rintro _ _ ⟨rfl, rfl⟩
  go_wp2_with fail
  refine (Gives.of (epoch_any _ _) (v' := .int .u64 ((e / 65536 + 1) % 281474976710656)) (by rw [bp_epoch])).mono ?_
  rintro _ _ ⟨rfl, rfl⟩
  go_wp2_with fail
  refine (Gives.of (epoch_any _ _) (v' := .int .u64 ((IntKind.u64.wrap (e / 65536 + 1)).tmod 281474976710656)) (by rw [wp_epoch, EW.out, tm_u EU.out])).mono ?_
  rintro _ _ ⟨rfl, rfl⟩
  go_wp2_with fail
  refine (epoch_any e _).mono ?_
  rintro _ _ ⟨rfl, rfl⟩
  go_wp2_with fail
  refine (Gives.of (mask_any _ _ (bp_u e)) (v' := .int .u64 (rs e)) (by rw [bp_mask])).mono ?_
  rintro _ _ ⟨rfl, rfl⟩
  go_wp2_with fail
  refine (mask_any e _ H.out).mono ?_
  rintro _ _ ⟨rfl, rfl⟩
  go_wp2_with fail
  refine (Gives.of (mask_any _ _ (bp_u e)) (v' := .int .u64 (rs e)) (by rw [bp_mask])).mono ?_
  rintro _ _ ⟨rfl, rfl⟩
  go_wp2
  go_ret
  exact ⟨rfl, HZ.out⟩
end Go.Proofs.Ytkllpmncjffepaa
