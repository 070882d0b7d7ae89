/- Numbers of package word: packing, single bits, the lowest bit, as arithmetic. -/
import Derived.Test.YtfeccpfkpbminaaBase
import Derived.WalkKit
import Derived.Laws.BitsAllLaws
import Derived.Laws.BitsLemmas
namespace Go.Proofs.Ytfeccpfkpbminaa
open Go.RowKit Go.Deep
/-- The word of an epoch and a mask. -/
def pk (a b : Int) : Int := a % 281474976710656 * 65536 + b % 65536
/-- A word with a bit set. -/
def st (e w : Int) : Int := if 0 ≤ w ∧ w < 16 ∧ e / 2 ^ w.toNat % 2 = 0 then e + 2 ^ w.toNat else e
/-- The lowest bit from k on, of so many. -/
def lwF (m : Int) (k : Nat) : Nat → Int
  | 0 => -1
  | f + 1 => if m / 2 ^ k % 2 = 1 then (k : Int) else lwF m (k + 1) f
/-- The lowest bit of sixteen. -/
def lw (m : Int) : Int := lwF m 0 16
/-- The mask without its lowest bit. -/
def rs (e : Int) : Int := if 0 ≤ lw e then e % 65536 - 2 ^ (lw e).toNat else e % 65536
/-- The word bumped. -/
def bp (e : Int) : Int := pk (e / 65536 + 1) (rs e)
/-- How far one lies behind another. -/
def far (a b : Int) : Int := wrap64 (a - b)
theorem lw_from (m : Int) (k : Nat) (hk : k ≤ 16) (h : ∀ j, j < k → ¬ m / 2 ^ j % 2 = 1) : lw m = lwF m k (16 - k) := by
  induction k with
  | zero => rfl
  | succ k ih =>
    rw [ih (by omega) (fun j hj => h j (by omega)), show 16 - k = (16 - (k + 1)) + 1 by omega]
    simp only [lwF]
    rw [if_neg (h k (by omega))]
theorem lw_at (m : Int) (k : Nat) (hk : k < 16) (h : ∀ j, j < k → ¬ m / 2 ^ j % 2 = 1) (hb : m / 2 ^ k % 2 = 1) : lw m = k := by
  rw [lw_from m k (by omega) h, show 16 - k = (16 - (k + 1)) + 1 by omega]
  simp only [lwF]
  rw [if_pos hb]
theorem lw_none (m : Int) (h : ∀ j, j < 16 → ¬ m / 2 ^ j % 2 = 1) : lw m = -1 := lw_from m 16 (Nat.le_refl _) h
theorem pow_cases {k : Nat} (hk : k < 16) : k = 0 ∨ k = 1 ∨ k = 2 ∨ k = 3 ∨ k = 4 ∨ k = 5 ∨ k = 6 ∨ k = 7 ∨ k = 8 ∨ k = 9 ∨ k = 10 ∨ k = 11 ∨ k = 12 ∨ k = 13 ∨ k = 14 ∨ k = 15 := by omega
theorem mod_zero (m : Int) (k : Nat) (hk : k ≤ 16) (h : ∀ j, j < k → ¬ m / 2 ^ j % 2 = 1) : m % 2 ^ k = 0 := by
  induction k with
  | zero => simp
  | succ k ih =>
    have h0 := ih (by omega) (fun j hj => h j (by omega))
    have h1 := h k (by omega)
    rcases pow_cases (show k < 16 by omega) with rfl | rfl | rfl | rfl | rfl | rfl | rfl | rfl | rfl | rfl | rfl | rfl | rfl | rfl | rfl | rfl <;> simp at * <;> omega
theorem first_or (p : Nat → Prop) [DecidablePred p] (n : Nat) : (∀ j, j < n → ¬ p j) ∨ ∃ k, k < n ∧ p k ∧ ∀ j, j < k → ¬ p j := by
  induction n with
  | zero => exact .inl fun j hj => by omega
  | succ n ih =>
    rcases ih with h | ⟨k, hk, hp, hj⟩
    · by_cases hn : p n
      · exact .inr ⟨n, by omega, hn, h⟩
      · refine .inl fun j hj => ?_
        by_cases e : j = n
        · rw [e]; exact hn
        · exact h j (by omega)
    · exact .inr ⟨k, by omega, hp, hj⟩
/-- There is no bit of sixteen; or the lowest is such a one. -/
theorem lw_cases (m : Int) : (lw m = -1 ∧ m % 65536 = 0) ∨ ∃ k : Nat, k < 16 ∧ lw m = k ∧ m / 2 ^ k % 2 = 1 ∧ m % 2 ^ k = 0 := by
  rcases first_or (fun j => m / 2 ^ j % 2 = 1) 16 with h | ⟨k, hk, hp, hj⟩
  · exact .inl ⟨lw_none m h, by simpa using mod_zero m 16 (Nat.le_refl _) h⟩
  · exact .inr ⟨k, hk, lw_at m k hk hj hp, hp, mod_zero m k (by omega) hj⟩
theorem lw_lt (m : Int) : -1 ≤ lw m ∧ lw m < 16 := by
  rcases lw_cases m with ⟨h, _⟩ | ⟨k, hk, h, _⟩ <;> omega
theorem bit_mask (m : Int) (j : Nat) (hj : j < 16) : m % 65536 / 2 ^ j % 2 = m / 2 ^ j % 2 := by
  rcases pow_cases hj with rfl | rfl | rfl | rfl | rfl | rfl | rfl | rfl | rfl | rfl | rfl | rfl | rfl | rfl | rfl | rfl <;> simp <;> omega
theorem lwF_mask (m : Int) (k f : Nat) (h : k + f ≤ 16) : lwF (m % 65536) k f = lwF m k f := by
  induction f generalizing k with
  | zero => rfl
  | succ f ih => simp only [lwF]; rw [bit_mask m k (by omega), ih (k + 1) (by omega)]
theorem lw_mask (m : Int) : lw (m % 65536) = lw m := lwF_mask m 0 16 (by omega)
theorem pow_lt {k : Nat} (hk : k < 16) : (1 : Int) ≤ 2 ^ k ∧ (2 : Int) ^ k ≤ 32768 := by
  rcases pow_cases hk with rfl | rfl | rfl | rfl | rfl | rfl | rfl | rfl | rfl | rfl | rfl | rfl | rfl | rfl | rfl | rfl <;> simp
theorem pk_u (a b : Int) : U (pk a b) := by unfold U pk; omega
theorem rs_range (e : Int) : 0 ≤ rs e ∧ rs e < 65536 := by
  unfold rs
  rcases lw_cases e with ⟨h, _⟩ | ⟨k, hk, h, hb, h0⟩
  · rw [h, if_neg (by omega)]; omega
  · rw [h, if_pos (by omega), Int.toNat_natCast]
    rcases pow_cases hk with rfl | rfl | rfl | rfl | rfl | rfl | rfl | rfl | rfl | rfl | rfl | rfl | rfl | rfl | rfl | rfl <;> simp at * <;> omega
theorem bp_u (e : Int) : U (bp e) := pk_u _ _
theorem bp_epoch (e : Int) : bp e / 65536 = (e / 65536 + 1) % 281474976710656 := by
  unfold bp pk; have := rs_range e; omega
theorem bp_mask (e : Int) : bp e % 65536 = rs e := by
  unfold bp pk; have := rs_range e; omega
theorem st_u (e w : Int) (h : U e) : U (st e w) := by
  unfold st U at *
  split
  · rename_i c
    obtain ⟨k, rfl⟩ := Int.eq_ofNat_of_zero_le c.1
    have hk : k < 16 := by omega
    obtain ⟨_, _, c⟩ := c
    rw [Int.toNat_natCast] at *
    rcases pow_cases hk with rfl | rfl | rfl | rfl | rfl | rfl | rfl | rfl | rfl | rfl | rfl | rfl | rfl | rfl | rfl | rfl <;> simp at * <;> omega
  · exact h
theorem wraps_u64 (n : Int) (h₀ : 0 ≤ n) (h₁ : n < 2 ^ 64) : IntKind.u64.wrap n = n := by rw [IntKind.wrap_u64]; omega
/-- A mask of sixteen ones. -/
theorem and_mask (e : Int) (h : U e) : bits .and .u64 e 65535 = e % 65536 := bits_mask .u64 64 (by decide) wraps_u64 16 (by decide) e h.1 (by have := h.2; omega)
/-- A mask of one. -/
theorem and_one (e : Int) (h : U e) : bits .and .u64 e 1 = e % 2 := bits_mask .u64 64 (by decide) wraps_u64 1 (by decide) e h.1 (by have := h.2; omega)
theorem or_pack (a b : Int) : bits .or .u64 (IntKind.u64.wrap (a * 65536)) (b % 65536) = pk a b := by
  rw [IntKind.wrap_u64]
  have e : a * 65536 % 18446744073709551616 = a % 281474976710656 * 65536 := by omega
  rw [e]
  exact bits_join .u64 64 (by decide) wraps_u64 16 _ _ (by omega) (by omega) (by omega) (by omega) (by omega) (by omega)
theorem nat_or_set (n k : Nat) (h : n / 2 ^ k % 2 = 0) : n ||| 2 ^ k = n + 2 ^ k := by
  have hp : 0 < 2 ^ k := Nat.two_pow_pos k
  have e1 : n = 2 ^ (k + 1) * (n / 2 ^ (k + 1)) + n % 2 ^ k := by
    have h1 := Nat.div_add_mod n (2 ^ (k + 1))
    rw [Nat.mod_pow_succ, h, Nat.mul_zero, Nat.add_zero] at h1
    exact h1.symm
  have hr : n % 2 ^ k < 2 ^ k := Nat.mod_lt _ hp
  have hr1 : n % 2 ^ k < 2 ^ (k + 1) := by rw [Nat.pow_succ]; omega
  have hr2 : 2 ^ k * 1 + n % 2 ^ k < 2 ^ (k + 1) := by rw [Nat.pow_succ]; omega
  generalize n / 2 ^ (k + 1) = q at *
  generalize n % 2 ^ k = r at *
  rw [e1, Nat.two_pow_add_eq_or_of_lt hr1, Nat.or_assoc, Nat.or_comm r, ← Nat.mul_one (2 ^ k), ← Nat.two_pow_add_eq_or_of_lt hr, ← Nat.two_pow_add_eq_or_of_lt hr2, ← Nat.two_pow_add_eq_or_of_lt hr1]
  omega
theorem nat_or_has (n k : Nat) (h : n / 2 ^ k % 2 = 1) : n ||| 2 ^ k = n := by
  apply Nat.eq_of_testBit_eq
  intro i
  rw [Nat.testBit_or, Nat.testBit_two_pow]
  by_cases e : k = i
  · subst e
    have : n.testBit k = true := by rw [Nat.testBit_eq_decide_div_mod_eq]; simp [h]
    rw [this]; simp
  · simp [e]
/-- A number with bit k, less that bit, or-ed with the bit. -/
theorem nat_less_or (n k : Nat) (h : n / 2 ^ k % 2 = 1) : 2 ^ k ≤ n ∧ (n - 2 ^ k) / 2 ^ k % 2 = 0 ∧ (n - 2 ^ k) ||| 2 ^ k = n := by
  have hp : 0 < 2 ^ k := Nat.two_pow_pos k
  have h1 : 2 ^ k ≤ n := by
    have : 0 < n / 2 ^ k := Nat.pos_of_ne_zero (fun e => by rw [e] at h; simp at h)
    exact (Nat.div_pos_iff.1 this).2
  have h2 : (n - 2 ^ k) / 2 ^ k = n / 2 ^ k - 1 := by
    have := Nat.sub_mul_div n (2 ^ k) 1
    rwa [Nat.mul_one] at this
  have h3 : (n - 2 ^ k) / 2 ^ k % 2 = 0 := by rw [h2]; omega
  exact ⟨h1, h3, by rw [nat_or_set _ _ h3]; omega⟩
theorem nat_andNot (n k : Nat) (hn : n < 18446744073709551616) (hk : k < 64) (h : n / 2 ^ k % 2 = 1) : n &&& (18446744073709551615 - 2 ^ k) = n - 2 ^ k := by
  obtain ⟨h1, h2, h3⟩ := nat_less_or n k h
  have hx : 2 ^ k < 2 ^ 64 := Nat.pow_lt_pow_right (by omega) hk
  have e0 : 18446744073709551615 - 2 ^ k = 2 ^ 64 - (2 ^ k + 1) := by omega
  rw [e0]
  apply Nat.eq_of_testBit_eq
  intro i
  rw [Nat.testBit_and, Nat.testBit_two_pow_sub_succ hx, Nat.testBit_two_pow]
  have e1 : n.testBit i = ((n - 2 ^ k).testBit i || decide (k = i)) := by
    rw [← Nat.testBit_two_pow, ← Nat.testBit_or, h3]
  have e2 : (n - 2 ^ k).testBit k = false := by rw [Nat.testBit_eq_decide_div_mod_eq]; simp [h2]
  rw [e1]
  by_cases e : k = i
  · subst e; rw [e2]; simp
  · by_cases hi : i < 64
    · simp [e, hi]
    · have h64 : (2 : Nat) ^ 64 ≤ 2 ^ i := Nat.pow_le_pow_right (by decide) (by omega)
      have : (n - 2 ^ k).testBit i = false := Nat.testBit_lt_two_pow (Nat.lt_of_lt_of_le (Nat.lt_of_le_of_lt (Nat.sub_le _ _) hn) h64)
      rw [this]; simp [e]
theorem nat_and_less (n k : Nat) (h : n / 2 ^ k % 2 = 1) : (n - 2 ^ k) &&& n = n - 2 ^ k := by
  obtain ⟨h1, h2, h3⟩ := nat_less_or n k h
  apply Nat.eq_of_testBit_eq
  intro i
  have e1 : n.testBit i = ((n - 2 ^ k).testBit i || decide (k = i)) := by
    rw [← Nat.testBit_two_pow, ← Nat.testBit_or, h3]
  rw [Nat.testBit_and, e1]
  cases (n - 2 ^ k).testBit i <;> simp
/-- An or with a bit of sixteen. -/
theorem or_bit (e : Int) (k : Nat) (hk : k < 16) (h : U e) : bits .or .u64 e (2 ^ k) = st e k := by
  obtain ⟨n, rfl⟩ := Int.eq_ofNat_of_zero_le h.1
  have hn : n < 18446744073709551616 := by have := h.2; omega
  have hp : (2 : Nat) ^ k < 2 ^ 64 := Nat.pow_lt_pow_right (by omega) (by omega)
  have c : ((2 : Int) ^ k) = ((2 ^ k : Nat) : Int) := by simp
  unfold st
  rw [Int.toNat_natCast, c, (bits_nat .u64 64 (by decide) wraps_u64 n (2 ^ k) hn hp).2]
  by_cases hb : n / 2 ^ k % 2 = 0
  · rw [if_pos ⟨by omega, by omega, by exact_mod_cast hb⟩, nat_or_set n k hb, Int.natCast_add]
  · rw [if_neg (fun hh => hb (by exact_mod_cast hh.2.2)), nat_or_has n k (by omega)]
/-- A mask without a bit that it has. -/
theorem andNot_bit (e : Int) (k : Nat) (hk : k < 16) (h : U e) (hb : e / 2 ^ k % 2 = 1) : bits .andNot .u64 e (2 ^ k) = e - 2 ^ k := by
  obtain ⟨n, rfl⟩ := Int.eq_ofNat_of_zero_le h.1
  have hn : n < 18446744073709551616 := by have := h.2; omega
  have hp : (2 : Nat) ^ k < 2 ^ 64 := Nat.pow_lt_pow_right (by omega) (by omega)
  have hb' : n / 2 ^ k % 2 = 1 := by exact_mod_cast hb
  have h1 := (nat_less_or n k hb').1
  rw [show ((2 : Int) ^ k) = ((2 ^ k : Nat) : Int) by simp, u64_andNot _ _ (by omega) (by omega) (Int.natCast_nonneg _) (by omega), Int.toNat_natCast, Int.toNat_natCast, nat_andNot n k hn (by omega) hb']
  omega
theorem and_less (m : Int) (k : Nat) (h : 0 ≤ m) (h' : m < 65536) (hb : m / 2 ^ k % 2 = 1) : bits .and .u64 (m - 2 ^ k) m = m - 2 ^ k := by
  obtain ⟨n, rfl⟩ := Int.eq_ofNat_of_zero_le h
  have hb' : n / 2 ^ k % 2 = 1 := by exact_mod_cast hb
  have h1 := (nat_less_or n k hb').1
  have c : ((n : Int) - 2 ^ k) = ((n - 2 ^ k : Nat) : Int) := by rw [Int.natCast_sub h1]; simp
  have hle : n - 2 ^ k ≤ n := Nat.sub_le _ _
  rw [c]
  generalize hd : n - 2 ^ k = d at *
  rw [u64_and _ _ (by omega) (by omega) (by omega) (by omega), Int.toNat_natCast, Int.toNat_natCast, ← hd, nat_and_less n k hb']
/-- What is left of a mask is within it. -/
theorem and_rest (e : Int) : bits .and .u64 (rs e) (e % 65536) = rs e := by
  unfold rs
  rcases lw_cases e with ⟨h, h0⟩ | ⟨k, hk, h, hb, h0⟩
  · have hn : ¬ 0 ≤ lw e := by omega
    rw [if_neg hn, h0]; decide
  · have hp : 0 ≤ lw e := by omega
    rw [if_pos hp, h, Int.toNat_natCast]
    rw [← bit_mask e k hk] at hb
    exact and_less _ k (by omega) (by omega) hb
end Go.Proofs.Ytfeccpfkpbminaa
