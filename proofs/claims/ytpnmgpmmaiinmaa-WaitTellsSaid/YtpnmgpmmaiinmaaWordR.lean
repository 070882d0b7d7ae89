/- The document's answers (poacherref02) are those same numbers. -/
import Derived.Test.YtpnmgpmmaiinmaaWordC
import Derived.Test.YtpnmgpmmaiinmaaBaM
import Derived.Deep.LoopGhost
namespace Go.Proofs.Ytpnmgpmmaiinmaa
open Go.RowKit Go.Deep
theorem tm_u {a m : Int} (h : U a) : a.tmod m = a % m := Int.tmod_eq_emod_of_nonneg h.1
theorem td_u {a m : Int} (h : U a) : a.tdiv m = a / m := Int.tdiv_eq_ediv_of_nonneg h.1
theorem repoch_any (e : Int) (w : World) (h : U e) : Gives 30 #[.int .u64 e] w (.int .u64 (e / 65536)) := by
  have H := Lib.hid h
  clear h
  go_enter Try.func30, Try.ntmps30
  go_wp2
  go_ret
  rw [td_u H.out, wraps_u64 _ (by have := H.out.1; omega) (by have := H.out.2; omega)]
  exact ⟨rfl, rfl⟩
theorem rmask_any (e : Int) (w : World) (h : U e) : Gives 39 #[.int .u64 e] w (.int .u64 (e % 65536)) := by
  have H := Lib.hid h
  clear h
  go_enter Try.func39, Try.ntmps39
  go_wp2
  go_ret
  rw [tm_u H.out]
  exact ⟨rfl, rfl⟩
theorem bit_any (k : Nat) (hk : k < 16) (w : World) : Gives 55 #[.int .i64 k] w (.int .u64 (2 ^ k)) := by
  go_enter Try.func55, Try.ntmps55
  go_wp2
  go_loopw [3, 4] (fun n i wr => ∃ j : Nat, n = .int .u64 (2 ^ j) ∧ i = .int .i64 j ∧ j ≤ k ∧ wr = w) (fun _ i _ => k - (intOf i).toNat)
  case atStart => exact ⟨0, rfl, rfl, by omega, rfl⟩
  case round =>
    obtain ⟨j, rfl, rfl, hj, rfl⟩ := hrel
    by_cases e : j = k
    · subst e
      go_wp2
      go_ret
      exact ⟨rfl, rfl⟩
    · have hp := pow_lt (show j < 16 by omega)
      have hlt : (j : Int) < k := by omega
      have E := Lib.hid (show IntKind.u64.wrap (2 * 2 ^ j) = 2 ^ (j + 1) by rw [wraps_u64 _ (by omega) (by omega), Int.pow_succ, Int.mul_comm])
      clear hp
      go_wp2
      go_roundw
      case rel => exact ⟨j + 1, by rw [E.out], by simp, by omega, trivial⟩
      case measure => simp only [intOf]; omega
theorem bit_div (m : Int) (k : Nat) (h : U m) : IntKind.u64.wrap (m.tdiv (2 ^ k)) = m / 2 ^ k := by
  have hu := bit_u m k h
  rw [td_u h, wraps_u64 _ hu.1 hu.2]
theorem has_any (m : Int) (k : Nat) (hk : k < 16) (w : World) (h : U m) : Gives 38 #[.int .u64 m, .int .i64 k] w (.bool (decide (m / 2 ^ k % 2 = 1))) := by
  have H := Lib.hid h
  have hp := pow_lt hk
  have hne : ¬ (2 : Int) ^ k = 0 := by omega
  clear h hp
  go_enter Try.func38, Try.ntmps38
  go_wp2_with fail
  refine (bit_any k hk _).mono ?_
  rintro _ _ ⟨rfl, rfl⟩
  go_wp2
  go_ret
  rw [bit_div m k H.out, tm_u (bit_u m k H.out)]
  exact ⟨rfl, rfl⟩
theorem rset_any (e i : Int) (w : World) (h : U e) : Gives 33 #[.int .u64 e, .int .i64 i] w (.int .u64 (st e i)) := by
  have H := Lib.hid h
  clear h
  by_cases hi : 0 ≤ i ∧ i < 16
  · obtain ⟨h0, h1⟩ := hi
    obtain ⟨k, rfl⟩ := Int.eq_ofNat_of_zero_le h0
    have hk : k < 16 := by omega
    clear h0
    by_cases hb : e / 2 ^ k % 2 = 1
    · have E := Lib.hid (show st e k = e by unfold st; rw [Int.toNat_natCast, if_neg (by omega)])
      have HB := Lib.hid (show decide (e / 2 ^ k % 2 = 1) = true from decide_eq_true hb)
      clear hb
      rw [E.out]
      go_enter Try.func33, Try.ntmps33
      go_wp2_with fail
      refine (Gives.of (has_any e k hk _ H.out) (congrArg Value.bool HB.out)).mono ?_
      rintro _ _ ⟨rfl, rfl⟩
      go_wp2
      go_ret
      exact ⟨rfl, rfl⟩
    · have hu := st_u e k H.out
      have E := Lib.hid (show st e k = e + 2 ^ k by unfold st; rw [Int.toNat_natCast, if_pos (by omega)])
      rw [E.out] at hu
      have HW := Lib.hid (wraps_u64 _ hu.1 hu.2)
      have HB := Lib.hid (show decide (e / 2 ^ k % 2 = 1) = false from decide_eq_false hb)
      clear hb hu
      rw [E.out]
      go_enter Try.func33, Try.ntmps33
      go_wp2_with fail
      refine (Gives.of (has_any e k hk _ H.out) (congrArg Value.bool HB.out)).mono ?_
      rintro _ _ ⟨rfl, rfl⟩
      go_wp2_with fail
      refine (bit_any k hk _).mono ?_
      rintro _ _ ⟨rfl, rfl⟩
      go_wp2
      go_ret
      rw [HW.out]
      exact ⟨rfl, rfl⟩
  · have e0 : st e i = e := by unfold st; rw [if_neg (fun c => hi ⟨c.1, c.2.1⟩)]
    rw [e0]
    have hi' : i < 0 ∨ 15 < i := by omega
    clear hi
    rcases hi' with hi | hi
    all_goals
      go_enter Try.func33, Try.ntmps33
      go_wp2
      go_ret
      exact ⟨rfl, rfl⟩
end Go.Proofs.Ytpnmgpmmaiinmaa
