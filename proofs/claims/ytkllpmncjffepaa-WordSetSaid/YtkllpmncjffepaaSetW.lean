/- The walk of WordSet: a bit that is set is set, whatever else is; no other bit changes. -/
import Derived.Test.YtkllpmncjffepaaWordR
namespace Go.Proofs.Ytkllpmncjffepaa
open Go.RowKit Go.Deep
theorem st_nat (n j : Nat) (hj : j < 16) : st (n : Int) j = ((n ||| 2 ^ j : Nat) : Int) := by
  unfold st
  rw [Int.toNat_natCast]
  by_cases hb : n / 2 ^ j % 2 = 0
  · rw [if_pos ⟨by omega, by omega, by exact_mod_cast hb⟩, nat_or_set n j hb]; simp
  · rw [if_neg (fun hh => hb (by exact_mod_cast hh.2.2)), nat_or_has n j (by omega)]
theorem nat_bit (n j q : Nat) : (n ||| 2 ^ j) / 2 ^ q % 2 = if j = q then 1 else n / 2 ^ q % 2 := by
  have h1 := Nat.testBit_eq_decide_div_mod_eq (x := n ||| 2 ^ j) (i := q)
  rw [Nat.testBit_or, Nat.testBit_two_pow, Nat.testBit_eq_decide_div_mod_eq] at h1
  by_cases e : j = q
  · rw [if_pos e]
    simp [e] at h1
    rw [e]; exact h1
  · rw [if_neg e]
    simp [e] at h1
    have a := Nat.mod_two_eq_zero_or_one ((n ||| 2 ^ j) / 2 ^ q)
    have b := Nat.mod_two_eq_zero_or_one (n / 2 ^ q)
    omega
theorem st_bit (e : Int) (j : Nat) (hj : j < 16) (h : U e) : st e j / 2 ^ j % 2 = 1 := by
  obtain ⟨n, rfl⟩ := Int.eq_ofNat_of_zero_le h.1
  rw [st_nat n j hj]
  have := nat_bit n j j
  rw [if_pos rfl] at this
  exact_mod_cast this
theorem st_other (e : Int) (j q : Nat) (hj : j < 16) (hq : ¬ j = q) (h : U e) : st e j / 2 ^ q % 2 = e / 2 ^ q % 2 := by
  obtain ⟨n, rfl⟩ := Int.eq_ofNat_of_zero_le h.1
  rw [st_nat n j hj]
  have := nat_bit n j q
  rw [if_neg hq] at this
  exact_mod_cast this
theorem st_epoch (e : Int) (j : Nat) (hj : j < 16) : st e j / 65536 = e / 65536 := by
  unfold st
  rw [Int.toNat_natCast]
  split
  · rename_i c
    have c := c.2.2
    rcases pow_cases hj with rfl | rfl | rfl | rfl | rfl | rfl | rfl | rfl | rfl | rfl | rfl | rfl | rfl | rfl | rfl | rfl <;> simp at * <;> omega
  · rfl
theorem st_again (e : Int) (j : Nat) (hj : j < 16) (h : U e) : st (st e j) j = st e j := by
  have hb := st_bit e j hj h
  generalize st e j = x at *
  unfold st
  rw [Int.toNat_natCast, if_neg (by omega)]
theorem keep_drew {w2 w : World} (hb : Below w2.heap.size w2 w) : Below w2.heap.size w2 w.drew := hb.drew
theorem keep_call {w2 w w' : World} (hc : Below w.heap.size w w') (h : Below w2.heap.size w2 w) : Below w2.heap.size w2 w' := h.trans (hc.mono h.size)
set_option maxHeartbeats 1000000 in
theorem wordSet_walk (e i k : Int) (w : World) (h : U e) : Tells 7 #[.int .u64 e, .int .i64 i, .int .i64 k] w (.bool true) := by
  have H := Lib.hid h
  clear h
  by_cases hi : 0 ≤ i ∧ i < 16
  · obtain ⟨h0, h1⟩ := hi
    obtain ⟨j, rfl⟩ := Int.eq_ofNat_of_zero_le h0
    have hj : j < 16 := by omega
    have hj2 : ¬ (15 : Int) < j := by omega
    have HU := Lib.hid (st_u e j H.out)
    have hx : bits BinOp.and IntKind.u64 (st e j % 65536 / 2 ^ j) 1 = 1 := by rw [and_one _ (bit_u _ j (mask_u _)), bit_mask _ j hj]; exact st_bit e j hj H.out
    clear h0
    by_cases hk : 0 ≤ k ∧ k < 16 ∧ ¬ k = j
    · obtain ⟨k0, k1, k2⟩ := hk
      obtain ⟨q, rfl⟩ := Int.eq_ofNat_of_zero_le k0
      have hq : q < 16 := by omega
      have hq2 : ¬ (15 : Int) < q := by omega
      have hqj : ((q : Int) == j) = false := by simp; omega
      have hv1 : bits BinOp.and IntKind.u64 (st e j % 65536 / 2 ^ q) 1 = e / 2 ^ q % 2 := by rw [and_one _ (bit_u _ q (mask_u _)), bit_mask _ q hq]; exact st_other e j q hj (by omega) H.out
      have hv2 : bits BinOp.and IntKind.u64 (e % 65536 / 2 ^ q) 1 = e / 2 ^ q % 2 := by rw [and_one _ (bit_u _ q (mask_u _)), bit_mask _ q hq]
      have C1 : ∀ w, Tells 17 #[.int .u64 (st e j)] w (.int .u64 (st e j % 65536)) := fun w => (mask_any _ w HU.out).tells
      have C2 : ∀ w, Tells 17 #[.int .u64 e] w (.int .u64 (e % 65536)) := fun w => (mask_any _ w H.out).tells
      have HC1 := Lib.hid C1
      have HC2 := Lib.hid C2
      clear k0 k2 C1 C2
      go_enter Try.func7, Try.ntmps7
      go_wp2_with fail
      refine (awake_any _).mono ?_
      rintro _ w1 ⟨rfl, z1⟩
      have HZ := Lib.hid z1
      clear z1
      go_wp2_with fail
      refine ((set_any e j _ H.out).tells).mono ?_
      rintro _ w2 ⟨rfl, z2⟩
      replace HZ := Lib.hid (HZ.out.trans (z2.mono HZ.out.size))
      clear z2
      go_wp2_with fail
      have d1 : decide ((q : Int) < 0) = false := by simp
      have d2 : decide ((15 : Int) < q) = false := by simp; omega
      have hb2 : Below w2.heap.size w2 w2 := Below.refl _ _
      go_region_held3 (fun w' => Below w2.heap.size w2 w') (first | exact keep_drew (by assumption) | exact keep_call (by assumption) (by assumption))
        (first
          | (go_at_call 17; ((with_reducible refine (HC1.out _).mono ?_); rintro e w' ⟨rfl, hb⟩))
          | (go_at_call 17; ((with_reducible refine (HC2.out _).mono ?_); rintro e w' ⟨rfl, hb⟩)))
      rename_i hS
      replace HZ := Lib.hid (HZ.out.trans (hS.mono HZ.out.size))
      clear hS hb2
      go_wp2_with fail
      refine (mask_any _ _ HU.out).mono ?_
      rintro _ _ ⟨rfl, rfl⟩
      go_wp2_with fail
      refine (Gives.of (set_any _ _ _ HU.out) (v' := .int .u64 (st e j)) (by rw [st_again e j hj H.out])).mono ?_
      rintro _ _ ⟨rfl, rfl⟩
      go_wp2_with fail
      refine (Gives.of (epoch_any _ _) (v' := .int .u64 (e / 65536)) (by rw [st_epoch e j hj])).mono ?_
      rintro _ _ ⟨rfl, rfl⟩
      go_wp2_with fail
      refine (epoch_any e _).mono ?_
      rintro _ _ ⟨rfl, rfl⟩
      go_wp2
      go_ret
      exact ⟨rfl, HZ.out⟩
    · have hk' : k < 0 ∨ 15 < k ∨ (0 ≤ k ∧ k < 16 ∧ k = j) := by omega
      clear hk
      rcases hk' with hk | hk | ⟨hk0, hk1, hk⟩
      · skip
        go_enter Try.func7, Try.ntmps7
        go_wp2_with fail
        refine (awake_any _).mono ?_
        rintro _ w1 ⟨rfl, z1⟩
        have HZ := Lib.hid z1
        clear z1
        go_wp2_with fail
        refine ((set_any e j _ H.out).tells).mono ?_
        rintro _ w2 ⟨rfl, z2⟩
        replace HZ := Lib.hid (HZ.out.trans (z2.mono HZ.out.size))
        clear z2
        go_wp2_with fail
        have d1 : decide (k < 0) = true := by simp; omega
        go_region
        replace HZ := Lib.hid HZ.out.drew
        go_wp2_with fail
        refine (mask_any _ _ HU.out).mono ?_
        rintro _ _ ⟨rfl, rfl⟩
        go_wp2_with fail
        refine (Gives.of (set_any _ _ _ HU.out) (v' := .int .u64 (st e j)) (by rw [st_again e j hj H.out])).mono ?_
        rintro _ _ ⟨rfl, rfl⟩
        go_wp2_with fail
        refine (Gives.of (epoch_any _ _) (v' := .int .u64 (e / 65536)) (by rw [st_epoch e j hj])).mono ?_
        rintro _ _ ⟨rfl, rfl⟩
        go_wp2_with fail
        refine (epoch_any e _).mono ?_
        rintro _ _ ⟨rfl, rfl⟩
        go_wp2
        go_ret
        exact ⟨rfl, HZ.out⟩
      · have hk0 : ¬ k < 0 := by omega
        go_enter Try.func7, Try.ntmps7
        go_wp2_with fail
        refine (awake_any _).mono ?_
        rintro _ w1 ⟨rfl, z1⟩
        have HZ := Lib.hid z1
        clear z1
        go_wp2_with fail
        refine ((set_any e j _ H.out).tells).mono ?_
        rintro _ w2 ⟨rfl, z2⟩
        replace HZ := Lib.hid (HZ.out.trans (z2.mono HZ.out.size))
        clear z2
        go_wp2_with fail
        have d1 : decide (k < 0) = false := by simp; omega
        have d2 : decide (15 < k) = true := by simp; omega
        go_region
        replace HZ := Lib.hid HZ.out.drew
        go_wp2_with fail
        refine (mask_any _ _ HU.out).mono ?_
        rintro _ _ ⟨rfl, rfl⟩
        go_wp2_with fail
        refine (Gives.of (set_any _ _ _ HU.out) (v' := .int .u64 (st e j)) (by rw [st_again e j hj H.out])).mono ?_
        rintro _ _ ⟨rfl, rfl⟩
        go_wp2_with fail
        refine (Gives.of (epoch_any _ _) (v' := .int .u64 (e / 65536)) (by rw [st_epoch e j hj])).mono ?_
        rintro _ _ ⟨rfl, rfl⟩
        go_wp2_with fail
        refine (epoch_any e _).mono ?_
        rintro _ _ ⟨rfl, rfl⟩
        go_wp2
        go_ret
        exact ⟨rfl, HZ.out⟩
      · have hkj : (k == (j : Int)) = true := by simp [hk]
        have hk2 : ¬ (15 : Int) < k := by omega
        clear hk
        go_enter Try.func7, Try.ntmps7
        go_wp2_with fail
        refine (awake_any _).mono ?_
        rintro _ w1 ⟨rfl, z1⟩
        have HZ := Lib.hid z1
        clear z1
        go_wp2_with fail
        refine ((set_any e j _ H.out).tells).mono ?_
        rintro _ w2 ⟨rfl, z2⟩
        replace HZ := Lib.hid (HZ.out.trans (z2.mono HZ.out.size))
        clear z2
        go_wp2_with fail
        have d1 : decide (k < 0) = false := by simp; omega
        have d2 : decide (15 < k) = false := by simp; omega
        go_region
        replace HZ := Lib.hid HZ.out.drew
        go_wp2_with fail
        refine (mask_any _ _ HU.out).mono ?_
        rintro _ _ ⟨rfl, rfl⟩
        go_wp2_with fail
        refine (Gives.of (set_any _ _ _ HU.out) (v' := .int .u64 (st e j)) (by rw [st_again e j hj H.out])).mono ?_
        rintro _ _ ⟨rfl, rfl⟩
        go_wp2_with fail
        refine (Gives.of (epoch_any _ _) (v' := .int .u64 (e / 65536)) (by rw [st_epoch e j hj])).mono ?_
        rintro _ _ ⟨rfl, rfl⟩
        go_wp2_with fail
        refine (epoch_any e _).mono ?_
        rintro _ _ ⟨rfl, rfl⟩
        go_wp2
        go_ret
        exact ⟨rfl, HZ.out⟩
  · have E := Lib.hid (show st e i = e by unfold st; rw [if_neg (fun c => hi ⟨c.1, c.2.1⟩)])
    have hi' : i < 0 ∨ 15 < i := by omega
    clear hi
    rcases hi' with hi | hi
    all_goals
      go_enter Try.func7, Try.ntmps7
      go_wp2_with fail
      refine (awake_any _).mono ?_
      rintro _ w1 ⟨rfl, z1⟩
      have HZ := Lib.hid z1
      clear z1
      go_wp2_with fail
      refine (Gives.of (set_any e i _ H.out) (v' := .int .u64 e) (by rw [E.out])).mono ?_
      rintro _ _ ⟨rfl, rfl⟩
      go_wp2
      go_ret
      exact ⟨rfl, HZ.out⟩
end Go.Proofs.Ytkllpmncjffepaa
