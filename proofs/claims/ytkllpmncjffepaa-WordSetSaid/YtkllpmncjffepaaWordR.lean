/- The document's answers (poacherref02) are those same numbers. -/
import Derived.Test.YtkllpmncjffepaaWordC
import Derived.Deep.LoopGhost
namespace Go.Proofs.Ytkllpmncjffepaa
open Go.RowKit Go.Deep
theorem u_of {n : Int} (h : (Lit.int .u64 n).wf = true) : U n := by have := bounds_u64 h; unfold U; omega
theorem tm_u {a m : Int} (h : U a) : a.tmod m = a % m := Int.tmod_eq_emod_of_nonneg h.1
theorem td_u {a m : Int} (h : U a) : a.tdiv m = a / m := Int.tdiv_eq_ediv_of_nonneg h.1
theorem far_lo {a b : Int} : wrap64 (IntKind.u64.wrap (a - b)) = far a b := by unfold far wrap64; rw [IntKind.wrap_u64]; omega
theorem far_hi {a b : Int} : wrap64 (wrap64 (-wrap64 (IntKind.u64.wrap (18446744073709551615 - IntKind.u64.wrap (a - b)))) - 1) = far a b := by
  unfold far wrap64; simp only [IntKind.wrap_u64]; omega
theorem rpack_any (a b : Int) (w : World) (ha : U a) (hb : U b) : Gives 14 #[.int .u64 a, .int .u64 b] w (.int .u64 (pk a b)) := by
  have HA := Lib.hid ha
  have HB := Lib.hid hb
  clear ha hb
  go_enter Try.func14, Try.ntmps14
  go_wp2
  go_ret
  rw [tm_u HA.out, tm_u HB.out, wraps_u64 (a % 281474976710656 * 65536) (by omega) (by omega), wraps_u64 _ (by omega) (by omega)]
  exact ⟨rfl, rfl⟩
theorem repoch_any (e : Int) (w : World) (h : U e) : Gives 16 #[.int .u64 e] w (.int .u64 (e / 65536)) := by
  have H := Lib.hid h
  clear h
  go_enter Try.func16, Try.ntmps16
  go_wp2
  go_ret
  rw [td_u H.out, wraps_u64 _ (by have := H.out.1; omega) (by have := H.out.2; omega)]
  exact ⟨rfl, rfl⟩
theorem rmask_any (e : Int) (w : World) (h : U e) : Gives 18 #[.int .u64 e] w (.int .u64 (e % 65536)) := by
  have H := Lib.hid h
  clear h
  go_enter Try.func18, Try.ntmps18
  go_wp2
  go_ret
  rw [tm_u H.out]
  exact ⟨rfl, rfl⟩
theorem bit_any (k : Nat) (hk : k < 16) (w : World) : Gives 27 #[.int .i64 k] w (.int .u64 (2 ^ k)) := by
  go_enter Try.func27, Try.ntmps27
  go_wp2
  go_loopw [3, 4] (fun n i wr => ∃ j : Nat, n = .int .u64 (2 ^ j) ∧ i = .int .i64 j ∧ j ≤ k ∧ wr = w) (fun _ i _ => k - (intOf i).toNat)
  case atStart => exact ⟨0, rfl, rfl, by omega, rfl⟩
  case round =>
    obtain ⟨j, rfl, rfl, hj, rfl⟩ := hrel
    by_cases e : j = k
    · subst e
      go_wp2
      go_ret
      exact ⟨rfl, rfl⟩
    · have hp := pow_lt (show j < 16 by omega)
      have hlt : (j : Int) < k := by omega
      have E := Lib.hid (show IntKind.u64.wrap (2 * 2 ^ j) = 2 ^ (j + 1) by rw [wraps_u64 _ (by omega) (by omega), Int.pow_succ, Int.mul_comm])
      clear hp
      go_wp2
      go_roundw
      case rel => exact ⟨j + 1, by rw [E.out], by simp, by omega, trivial⟩
      case measure => simp only [intOf]; omega
theorem rfar_any (a b : Int) (w : World) (ha : U a) (hb : U b) : Gives 26 #[.int .u64 a, .int .u64 b] w (.int .i64 (far a b)) := by
  have HA := Lib.hid ha
  have HB := Lib.hid hb
  clear ha hb
  by_cases h : 9223372036854775808 ≤ IntKind.u64.wrap (a - b)
  · go_enter Try.func26, Try.ntmps26
    go_wp2
    go_ret
    rw [far_hi]
    exact ⟨rfl, rfl⟩
  · go_enter Try.func26, Try.ntmps26
    go_wp2
    go_ret
    rw [far_lo]
    exact ⟨rfl, rfl⟩
theorem bit_div (m : Int) (k : Nat) (h : U m) : IntKind.u64.wrap (m.tdiv (2 ^ k)) = m / 2 ^ k := by
  have hu := bit_u m k h
  rw [td_u h, wraps_u64 _ hu.1 hu.2]
theorem has_any (m : Int) (k : Nat) (hk : k < 16) (w : World) (h : U m) : Gives 28 #[.int .u64 m, .int .i64 k] w (.bool (decide (m / 2 ^ k % 2 = 1))) := by
  have H := Lib.hid h
  have hp := pow_lt hk
  have hne : ¬ (2 : Int) ^ k = 0 := by omega
  clear h hp
  go_enter Try.func28, Try.ntmps28
  go_wp2_with fail
  refine (bit_any k hk _).mono ?_
  rintro _ _ ⟨rfl, rfl⟩
  go_wp2
  go_ret
  rw [bit_div m k H.out, tm_u (bit_u m k H.out)]
  exact ⟨rfl, rfl⟩
theorem rset_any (e i : Int) (w : World) (h : U e) : Gives 20 #[.int .u64 e, .int .i64 i] w (.int .u64 (st e i)) := by
  have H := Lib.hid h
  clear h
  by_cases hi : 0 ≤ i ∧ i < 16
  · obtain ⟨h0, h1⟩ := hi
    obtain ⟨k, rfl⟩ := Int.eq_ofNat_of_zero_le h0
    have hk : k < 16 := by omega
    clear h0
    by_cases hb : e / 2 ^ k % 2 = 1
    · have E := Lib.hid (show st e k = e by unfold st; rw [Int.toNat_natCast, if_neg (by omega)])
      have HB := Lib.hid (show decide (e / 2 ^ k % 2 = 1) = true from decide_eq_true hb)
      clear hb
      rw [E.out]
      go_enter Try.func20, Try.ntmps20
      go_wp2_with fail
      refine (Gives.of (has_any e k hk _ H.out) (congrArg Value.bool HB.out)).mono ?_
      rintro _ _ ⟨rfl, rfl⟩
      go_wp2
      go_ret
      exact ⟨rfl, rfl⟩
    · have hu := st_u e k H.out
      have E := Lib.hid (show st e k = e + 2 ^ k by unfold st; rw [Int.toNat_natCast, if_pos (by omega)])
      rw [E.out] at hu
      have HW := Lib.hid (wraps_u64 _ hu.1 hu.2)
      have HB := Lib.hid (show decide (e / 2 ^ k % 2 = 1) = false from decide_eq_false hb)
      clear hb hu
      rw [E.out]
      go_enter Try.func20, Try.ntmps20
      go_wp2_with fail
      refine (Gives.of (has_any e k hk _ H.out) (congrArg Value.bool HB.out)).mono ?_
      rintro _ _ ⟨rfl, rfl⟩
      go_wp2_with fail
      refine (bit_any k hk _).mono ?_
      rintro _ _ ⟨rfl, rfl⟩
      go_wp2
      go_ret
      rw [HW.out]
      exact ⟨rfl, rfl⟩
  · have e0 : st e i = e := by unfold st; rw [if_neg (fun c => hi ⟨c.1, c.2.1⟩)]
    rw [e0]
    have hi' : i < 0 ∨ 15 < i := by omega
    clear hi
    rcases hi' with hi | hi
    all_goals
      go_enter Try.func20, Try.ntmps20
      go_wp2
      go_ret
      exact ⟨rfl, rfl⟩
theorem rlowest_any (m : Int) (w : World) (h : U m) : Gives 22 #[.int .u64 m] w (.int .i64 (lw m)) := by
  have H := Lib.hid h
  clear h
  go_enter Try.func22, Try.ntmps22
  go_wp2
  go_loopw [3] (fun i wr => ∃ j : Nat, i = .int .i64 j ∧ j ≤ 16 ∧ (∀ k, k < j → ¬ m / 2 ^ k % 2 = 1) ∧ wr = w) (fun i _ => 16 - (intOf i).toNat)
  case atStart => exact ⟨0, rfl, by omega, by intro k hk; omega, rfl⟩
  case round =>
    obtain ⟨j, rfl, hj, hf, rfl⟩ := hrel
    have HF := Lib.hid hf
    clear hf
    by_cases e : j = 16
    · subst e
      go_wp2
      go_ret
      rw [lw_none m HF.out]
      exact ⟨rfl, rfl⟩
    · have hlt : (j : Int) < 16 := by omega
      by_cases hb : m / 2 ^ j % 2 = 1
      · have E := Lib.hid (lw_at m j (by omega) HF.out hb)
        have HB := Lib.hid (show decide (m / 2 ^ j % 2 = 1) = true from decide_eq_true hb)
        clear hb
        go_wp2_with fail
        refine (Gives.of (has_any m j (by omega) _ H.out) (congrArg Value.bool HB.out)).mono ?_
        rintro _ _ ⟨rfl, rfl⟩
        go_wp2
        go_ret
        rw [E.out]
        exact ⟨rfl, rfl⟩
      · have HB := Lib.hid (show decide (m / 2 ^ j % 2 = 1) = false from decide_eq_false hb)
        have HN := Lib.hid hb
        clear hb
        go_wp2_with fail
        refine (Gives.of (has_any m j (by omega) _ H.out) (congrArg Value.bool HB.out)).mono ?_
        rintro _ _ ⟨rfl, rfl⟩
        go_wp2
        go_roundw
        case rel =>
          refine ⟨j + 1, by simp, by omega, ?_, trivial⟩
          intro k hk
          by_cases ek : k = j
          · rw [ek]; exact HN.out
          · exact HF.out k (by omega)
        case measure => simp only [intOf]; omega
theorem rwipe_any (e : Int) (w : World) (h : U e) : Gives 24 #[.int .u64 e] w (.int .u64 (pk (e / 65536 + 1) 0)) := by
  have H := Lib.hid h
  have EW := Lib.hid (ep_wrap e h)
  clear h
  go_enter Try.func24, Try.ntmps24
  go_wp2_with fail
  refine (repoch_any _ _ H.out).mono ?_
  rintro _ _ ⟨rfl, rfl⟩
  go_wp2_with fail
  refine (rpack_any _ _ _ (by rw [EW.out]; have := H.out.1; have := H.out.2; unfold U; omega) (by unfold U; omega)).mono ?_
  rintro _ _ ⟨rfl, rfl⟩
  go_wp2
  go_ret
  rw [EW.out]
  exact ⟨rfl, rfl⟩
theorem rbump_any (e : Int) (w : World) (h : U e) : Gives 12 #[.int .u64 e] w (.tuple #[.int .u64 (bp e), .int .i64 (lw e)]) := by
  have H := Lib.hid h
  have EW := Lib.hid (ep_wrap e h)
  have EU := Lib.hid (show U (e / 65536 + 1) by have := h.1; have := h.2; unfold U; omega)
  clear h
  rcases lw_cases e with ⟨hl, h0⟩ | ⟨k, hk, hl, hb, h0⟩
  · have E := Lib.hid (show pk (e / 65536 + 1) 0 = bp e by unfold bp rs; rw [hl, if_neg (by omega), h0])
    have HL := Lib.hid hl
    clear hl h0
    go_enter Try.func12, Try.ntmps12
    go_wp2_with fail
    refine (rmask_any _ _ H.out).mono ?_
    rintro _ _ ⟨rfl, rfl⟩
    go_wp2_with fail
    refine (Gives.of (rlowest_any _ _ (mask_u e)) (congrArg (Value.int .i64) ((lw_mask e).trans HL.out))).mono ?_
    rintro _ _ ⟨rfl, rfl⟩
    go_wp2_with fail
    refine (repoch_any _ _ H.out).mono ?_
    rintro _ _ ⟨rfl, rfl⟩
    go_wp2_with fail
    refine (Gives.of (rpack_any _ _ _ (by rw [EW.out]; exact EU.out) (by unfold U; omega)) (v' := .int .u64 (bp e)) (by rw [EW.out, E.out])).mono ?_
    rintro _ _ ⟨rfl, rfl⟩
    go_wp2
    go_ret2
    exact ⟨by rw [HL.out]; rfl, rfl⟩
  · have hr := rs_range e
    have E := Lib.hid (show IntKind.u64.wrap (e % 65536 - 2 ^ k) = rs e by
      have e1 : rs e = e % 65536 - 2 ^ k := by unfold rs; rw [hl, if_pos (by omega), Int.toNat_natCast]
      rw [← e1, wraps_u64 _ hr.1 (by omega)])
    have HR := Lib.hid hr
    have HL := Lib.hid hl
    clear hl h0 hb hr
    go_enter Try.func12, Try.ntmps12
    go_wp2_with fail
    refine (rmask_any _ _ H.out).mono ?_
    rintro _ _ ⟨rfl, rfl⟩
    go_wp2_with fail
    refine (Gives.of (rlowest_any _ _ (mask_u e)) (congrArg (Value.int .i64) ((lw_mask e).trans HL.out))).mono ?_
    rintro _ _ ⟨rfl, rfl⟩
    go_wp2_with fail
    refine (repoch_any _ _ H.out).mono ?_
    rintro _ _ ⟨rfl, rfl⟩
    go_wp2_with fail
    refine (rmask_any _ _ H.out).mono ?_
    rintro _ _ ⟨rfl, rfl⟩
    go_wp2_with fail
    refine (bit_any k hk _).mono ?_
    rintro _ _ ⟨rfl, rfl⟩
    go_wp2_with fail
    refine (Gives.of (rpack_any _ _ _ (by rw [EW.out]; exact EU.out) (by rw [E.out]; have := HR.out; unfold U; omega)) (v' := .int .u64 (bp e)) (by rw [EW.out, E.out]; rfl)).mono ?_
    rintro _ _ ⟨rfl, rfl⟩
    go_wp2
    go_ret2
    exact ⟨by rw [HL.out]; rfl, rfl⟩
end Go.Proofs.Ytkllpmncjffepaa
