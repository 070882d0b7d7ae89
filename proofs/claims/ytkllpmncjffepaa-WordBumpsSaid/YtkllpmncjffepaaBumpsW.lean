/- The walk of WordBumps: bumped as often as bits are set no mask is left. -/
import Derived.Test.YtkllpmncjffepaaWordR
namespace Go.Proofs.Ytkllpmncjffepaa
open Go.RowKit Go.Deep
theorem zero_bits {Y : Int} {n j : Nat} (h : Y % 2 ^ n = 0) (hj : j < n) : ¬ Y / 2 ^ j % 2 = 1 := by
  obtain ⟨c, rfl⟩ := Int.dvd_of_emod_eq_zero h
  obtain ⟨d, rfl⟩ : ∃ d, n = j + (1 + d) := ⟨n - j - 1, by omega⟩
  have hp : (2 : Int) ^ j ≠ 0 := by have : (0 : Int) < 2 ^ j := Int.pow_pos (by decide); omega
  rw [Int.pow_add, Int.pow_add, Int.mul_assoc, Int.mul_assoc, Int.mul_ediv_cancel_left _ hp]
  omega
theorem lw_zero {X : Int} (h : X % 65536 = 0) : lw X = -1 := lw_none X fun j hj => zero_bits (n := 16) (by simpa using h) hj
theorem rs_zero {X : Int} (h : X % 65536 = 0) : rs X = 0 := by unfold rs; rw [lw_zero h, if_neg (by omega), h]
theorem rs_at {X : Int} {k : Nat} (h : lw X = k) : rs X = X % 65536 - 2 ^ k := by unfold rs; rw [h, if_pos (by omega), Int.toNat_natCast]
theorem bp_mod {X : Int} {k : Nat} (hk : k < 16) (hl : lw X = k) (hb : X / 2 ^ k % 2 = 1) (h0 : X % 2 ^ k = 0) : bp X % 2 ^ (k + 1) = 0 := by
  have h1 := bp_mask X
  rw [rs_at hl] at h1
  generalize bp X = Y at *
  clear hl
  rcases pow_cases hk with rfl | rfl | rfl | rfl | rfl | rfl | rfl | rfl | rfl | rfl | rfl | rfl | rfl | rfl | rfl | rfl <;> simp at * <;> omega
theorem bp_set {X : Int} {k : Nat} (hk : k < 16) (hl : lw X = k) (hb : X / 2 ^ k % 2 = 1) (h0 : X % 2 ^ k = 0) : st (bp X) k = pk (X / 65536 + 1) (X % 65536) := by
  have h1 := zero_bits (bp_mod hk hl hb h0) (Nat.lt_succ_self k)
  have hr := rs_range X
  have hs := rs_at hl
  have hm : bp X / 2 ^ k % 2 = 0 := by have := Int.emod_two_eq (bp X / 2 ^ k); omega
  unfold st
  rw [Int.toNat_natCast, if_pos ⟨by omega, by omega, hm⟩]
  unfold bp pk
  omega
set_option maxHeartbeats 1000000 in
theorem wordBumps_walk (e : Int) (w : World) (h : U e) : Tells 5 #[.int .u64 e] w (.bool true) := by
  have H := Lib.hid h
  clear h
  go_enter Try.func5, Try.ntmps5
  go_wp2_with fail
  refine (awake_any _).mono ?_
  rintro _ w1 ⟨rfl, z1⟩
  have HZ := Lib.hid z1
  clear z1
  go_wp2
  go_loopw [4, 5, 6] (fun l x i wr => ∃ (L X : Int) (I : Nat), l = .int .i64 L ∧ x = .int .u64 X ∧ i = .int .i64 I ∧ I ≤ 16 ∧ -1 ≤ L ∧ L < 16 ∧ (I : Int) ≤ L + 1 ∧ Hid (U X) ∧ Hid (X % 2 ^ (L + 1).toNat = 0) ∧ Hid (Below w.heap.size w wr)) (fun _ _ i _ => 16 - (intOf i).toNat)
  case atStart => exact ⟨-1, e, 0, rfl, rfl, rfl, by omega, by omega, by omega, by omega, H, by simp [Hid], HZ⟩
  case round =>
    obtain ⟨L, X, I, rfl, rfl, rfl, hI, hL0, hL1, hIL, HX, HM, HW⟩ := hrel
    clear HZ H
    have HE := Lib.hid (ep_wrap X HX.out)
    have HEU := Lib.hid (show U (X / 65536 + 1) by have := HX.out.1; have := HX.out.2; unfold U; omega)
    by_cases e16 : I = 16
    · subst e16
      have hLe : L = 15 := by omega
      subst hLe
      have hz : X % 65536 = 0 := by simpa using HM.out
      have HL := Lib.hid (lw_zero hz)
      have HR := Lib.hid (rs_zero hz)
      have HZ0 := Lib.hid hz
      clear hz HM hIL hL0 hL1 hI
      go_wp2_with fail
      refine (Tells.of (bump_any X _ HX.out) (v' := .tuple #[.int .u64 (bp X), .int .i64 (-1)]) (by rw [HL.out])).mono ?_
      rintro _ w6 ⟨rfl, z6⟩
      have HZ := Lib.hid (HW.out.trans (z6.mono HW.out.size))
      clear z6
      go_wp2_with fail
      refine (Gives.of (mask_any X _ HX.out) (v' := .int .u64 0) (by rw [HZ0.out])).mono ?_
      rintro _ _ ⟨rfl, rfl⟩
      go_wp2_with fail
      refine (Gives.of (epoch_any _ _) (v' := .int .u64 ((IntKind.u64.wrap (X / 65536 + 1)).tmod 281474976710656)) (by rw [bp_epoch, HE.out, tm_u HEU.out])).mono ?_
      rintro _ _ ⟨rfl, rfl⟩
      go_wp2_with fail
      refine (epoch_any X _).mono ?_
      rintro _ _ ⟨rfl, rfl⟩
      go_wp2_with fail
      refine (Gives.of (mask_any _ _ (bp_u X)) (v' := .int .u64 0) (by rw [bp_mask, HR.out])).mono ?_
      rintro _ _ ⟨rfl, rfl⟩
      go_wp2
      go_ret
      exact ⟨rfl, HZ.out⟩
    · have hlt : (I : Int) < 16 := by omega
      by_cases hz : X % 65536 = 0
      · have HL := Lib.hid (lw_zero hz)
        have HR := Lib.hid (rs_zero hz)
        have HZ0 := Lib.hid hz
        clear hz HM hIL hL0 hL1 hI
        go_wp2_with fail
        refine (Gives.of (mask_any X _ HX.out) (v' := .int .u64 0) (by rw [HZ0.out])).mono ?_
        rintro _ _ ⟨rfl, rfl⟩
        go_wp2_with fail
        refine (Tells.of (bump_any X _ HX.out) (v' := .tuple #[.int .u64 (bp X), .int .i64 (-1)]) (by rw [HL.out])).mono ?_
        rintro _ w6 ⟨rfl, z6⟩
        have HZ := Lib.hid (HW.out.trans (z6.mono HW.out.size))
        clear z6
        go_wp2_with fail
        refine (Gives.of (mask_any X _ HX.out) (v' := .int .u64 0) (by rw [HZ0.out])).mono ?_
        rintro _ _ ⟨rfl, rfl⟩
        go_wp2_with fail
        refine (Gives.of (epoch_any _ _) (v' := .int .u64 ((IntKind.u64.wrap (X / 65536 + 1)).tmod 281474976710656)) (by rw [bp_epoch, HE.out, tm_u HEU.out])).mono ?_
        rintro _ _ ⟨rfl, rfl⟩
        go_wp2_with fail
        refine (epoch_any X _).mono ?_
        rintro _ _ ⟨rfl, rfl⟩
        go_wp2_with fail
        refine (Gives.of (mask_any _ _ (bp_u X)) (v' := .int .u64 0) (by rw [bp_mask, HR.out])).mono ?_
        rintro _ _ ⟨rfl, rfl⟩
        go_wp2
        go_ret
        exact ⟨rfl, HZ.out⟩
      · rcases lw_cases X with ⟨_, h0⟩ | ⟨k, hk, hl, hb, h0⟩
        · exact absurd h0 hz
        have hkL : L < k := by
          refine Int.not_le.1 fun hle => ?_
          exact zero_bits (j := k) HM.out (by omega) hb
        have HB := Lib.hid (bp_mod hk hl hb h0)
        have HS := Lib.hid (bp_set hk hl hb h0)
        have hp := pow_lt hk
        have hrs := rs_at hl
        have h1 : ¬ (k : Int) ≤ L := by omega
        have h2 : ¬ (15 : Int) < k := by omega
        have h3 : (X % 65536 == 0) = false := by simp [hz]
        have h4 : ¬ X % 65536 ≤ rs X := by omega
        have HL := Lib.hid hl
        clear hz hb h0 hl hp hrs
        go_wp2_with fail
        refine (mask_any X _ HX.out).mono ?_
        rintro _ _ ⟨rfl, rfl⟩
        go_wp2_with fail
        refine (Tells.of (bump_any X _ HX.out) (v' := .tuple #[.int .u64 (bp X), .int .i64 k]) (by rw [HL.out])).mono ?_
        rintro _ w6 ⟨rfl, z6⟩
        replace HW := Lib.hid (HW.out.trans (z6.mono HW.out.size))
        clear z6
        go_wp2_with fail
        refine (Gives.of (set_any _ _ _ (bp_u X)) (v' := .int .u64 (pk (X / 65536 + 1) (X % 65536))) (by rw [HS.out])).mono ?_
        rintro _ _ ⟨rfl, rfl⟩
        go_wp2_with fail
        refine (epoch_any X _).mono ?_
        rintro _ _ ⟨rfl, rfl⟩
        go_wp2_with fail
        refine (mask_any X _ HX.out).mono ?_
        rintro _ _ ⟨rfl, rfl⟩
        go_wp2_with fail
        refine (Gives.of (pack_any _ _ _ (mask_u X)) (v' := .int .u64 (pk (X / 65536 + 1) (X % 65536))) (by rw [HE.out])).mono ?_
        rintro _ _ ⟨rfl, rfl⟩
        go_wp2_with fail
        refine (Gives.of (mask_any _ _ (bp_u X)) (v' := .int .u64 (rs X)) (by rw [bp_mask])).mono ?_
        rintro _ _ ⟨rfl, rfl⟩
        go_wp2_with fail
        refine (mask_any X _ HX.out).mono ?_
        rintro _ _ ⟨rfl, rfl⟩
        go_wp2
        go_roundw
        case rel => exact ⟨k, bp X, I + 1, rfl, rfl, by simp, by omega, by omega, by omega, by omega, Lib.hid (bp_u X), Lib.hid (show bp X % 2 ^ ((k : Int) + 1).toNat = 0 by rw [show ((k : Int) + 1).toNat = k + 1 by omega]; exact HB.out), HW⟩
        case measure => simp only [intOf]; omega
end Go.Proofs.Ytkllpmncjffepaa
