/- The walk of DrawVictim. -/
import Derived.Test.YtnabomdadhgeeaaDrO
namespace Go.Proofs.Ytnabomdadhgeeaa
open Go.RowKit Go.Deep
theorem mod2 {a w : Int} (h0 : 0 ≤ a) (h1 : a < 2 * w) : a % w = if a < w then a else a - w := by
  split
  · exact Int.emod_eq_of_lt h0 (by assumption)
  · rw [← Int.sub_emod_right]
    exact Int.emod_eq_of_lt (by omega) (by omega)
theorem vic_at {d self w : Int} (hw : 2 ≤ w) (h0 : 0 ≤ self) (h1 : self < w) : vic d self w = (self + 1 + d % (w - 1)) % w := by
  unfold vic
  rw [if_neg (by rw [be_yes h0 h1]; simp; omega)]
theorem vic_facts {d self w : Int} (hw : 2 ≤ w) (h0 : 0 ≤ self) (h1 : self < w) : 0 ≤ vic d self w ∧ vic d self w < w ∧ vic d self w ≠ self ∧ vic (d % (w - 1)) self w = vic d self w := by
  have m1 := Int.emod_nonneg d (show w - 1 ≠ 0 by omega)
  have m2 := Int.emod_lt_of_pos d (show 0 < w - 1 by omega)
  have e := vic_at (d := d) hw h0 h1
  have e2 := vic_at (d := d % (w - 1)) hw h0 h1
  rw [Int.emod_emod_of_dvd _ (Int.dvd_refl _)] at e2
  refine ⟨?_, ?_, ?_, by rw [e, e2]⟩ <;> rw [e, mod2 (by omega) (by omega)] <;> split <;> omega
theorem vic_other {self w k : Int} (hw : 2 ≤ w) (h0 : 0 ≤ self) (h1 : self < w) (k0 : 0 ≤ k) (k1 : k < w) (kn : k ≠ self) : vic ((k - self - 1 + w) % w) self w = k := by
  have e := mod2 (a := k - self - 1 + w) (w := w) (by omega) (by omega)
  have hx : 0 ≤ (k - self - 1 + w) % w ∧ (k - self - 1 + w) % w < w - 1 := by
    rw [e]; split <;> omega
  rw [vic_at hw h0 h1, Int.emod_eq_of_lt hx.1 hx.2, mod2 (by omega) (by omega), e]
  split <;> split <;> omega
theorem vic_none {d self w : Int} (h : w < 2 ∨ self < 0 ∨ w ≤ self) : vic d self w = -1 := by
  unfold vic
  rw [if_pos]
  rcases h with h | h | h
  · exact .inl h
  · exact .inr (be_lo h)
  · exact .inr (be_hi h)
theorem victim_many (d self n k : Int) (w : World) (h : 64 < n) : Tells 4 #[.int .u64 d, .int .i64 self, .int .i64 n, .int .i64 k] w (.bool true) := by
  have d1 : decide (n < 2) = false := decide_eq_false (by omega)
  have d2 : decide (64 < n) = true := decide_eq_true (by omega)
  go_enter Try.func4, Try.ntmps4
  go_wp2_with fail
  refine (awake_any _).mono ?_
  rintro _ w1 ⟨rfl, z1⟩
  have Z := Lib.hid z1
  clear z1
  go_wp2
  go_ret
  exact ⟨rfl, Z.out⟩
theorem victim_few (d self n k : Int) (w : World) (hd : U d) (hs : I self) (hn : I n) (h : n < 2) : Tells 4 #[.int .u64 d, .int .i64 self, .int .i64 n, .int .i64 k] w (.bool true) := by
  have d1 : decide (n < 2) = true := decide_eq_true (by omega)
  have d2 : decide (64 < n) = false := decide_eq_false (by omega)
  have VN := Lib.hid (vic_none (d := d) (self := self) (w := n) (.inl h))
  go_enter Try.func4, Try.ntmps4
  go_wp2_with fail
  refine (awake_any _).mono ?_
  rintro _ w1 ⟨rfl, z1⟩
  have Z := Lib.hid z1
  clear z1
  go_wp2_with fail
  refine (Gives.of (vic_any d self n w1 hd hs hn) (v' := .int .i64 (-1)) (by rw [VN.out])).mono ?_
  rintro _ w2 ⟨rfl, e2⟩
  rw [e2]
  clear e2 w2
  go_wp2
  go_ret
  exact ⟨rfl, Z.out⟩
theorem victim_lo (d self n k : Int) (w : World) (hd : U d) (hs : I self) (hn : I n) (h2 : 2 ≤ n) (h6 : n ≤ 64) (h : self < 0) : Tells 4 #[.int .u64 d, .int .i64 self, .int .i64 n, .int .i64 k] w (.bool true) := by
  have d1 : decide (n < 2) = false := decide_eq_false (by omega)
  have d2 : decide (64 < n) = false := decide_eq_false (by omega)
  have d3 : decide (self < 0) = true := decide_eq_true (by omega)
  have VN := Lib.hid (vic_none (d := d) (self := self) (w := n) (.inr (.inl h)))
  go_enter Try.func4, Try.ntmps4
  go_wp2_with fail
  refine (awake_any _).mono ?_
  rintro _ w1 ⟨rfl, z1⟩
  have Z := Lib.hid z1
  clear z1
  go_wp2_with fail
  refine (Gives.of (vic_any d self n w1 hd hs hn) (v' := .int .i64 (-1)) (by rw [VN.out])).mono ?_
  rintro _ w2 ⟨rfl, e2⟩
  rw [e2]
  clear e2 w2
  go_wp2
  go_ret
  exact ⟨rfl, Z.out⟩
theorem victim_hi (d self n k : Int) (w : World) (hd : U d) (hs : I self) (hn : I n) (h2 : 2 ≤ n) (h6 : n ≤ 64) (h0 : 0 ≤ self) (h : n ≤ self) : Tells 4 #[.int .u64 d, .int .i64 self, .int .i64 n, .int .i64 k] w (.bool true) := by
  have d1 : decide (n < 2) = false := decide_eq_false (by omega)
  have d2 : decide (64 < n) = false := decide_eq_false (by omega)
  have d3 : decide (self < 0) = false := decide_eq_false (by omega)
  have d4 : decide (n ≤ self) = true := decide_eq_true (by omega)
  have VN := Lib.hid (vic_none (d := d) (self := self) (w := n) (.inr (.inr h)))
  go_enter Try.func4, Try.ntmps4
  go_wp2_with fail
  refine (awake_any _).mono ?_
  rintro _ w1 ⟨rfl, z1⟩
  have Z := Lib.hid z1
  clear z1
  go_wp2_with fail
  refine (Gives.of (vic_any d self n w1 hd hs hn) (v' := .int .i64 (-1)) (by rw [VN.out])).mono ?_
  rintro _ w2 ⟨rfl, e2⟩
  rw [e2]
  clear e2 w2
  go_wp2
  go_ret
  exact ⟨rfl, Z.out⟩
set_option maxHeartbeats 3000000 in
theorem victim_klo (d self n k : Int) (w : World) (hd : U d) (h2 : 2 ≤ n) (h6 : n ≤ 64) (h0 : 0 ≤ self) (h1 : self < n) (k0 : k < 0) : Tells 4 #[.int .u64 d, .int .i64 self, .int .i64 n, .int .i64 k] w (.bool true) := by
  have UD := Lib.hid hd
  have UD2 := Lib.hid (show U (d % (n - 1)) by
    have m1 := Int.emod_nonneg d (show n - 1 ≠ 0 by omega)
    have m2 := Int.emod_lt_of_pos d (show 0 < n - 1 by omega)
    unfold U; omega)
  have IS := Lib.hid (show I self by unfold I; omega)
  have IN := Lib.hid (show I n by unfold I; omega)
  obtain ⟨v1, v2, v3, v4⟩ := vic_facts (d := d) h2 h0 h1
  have m1 := Int.emod_nonneg d (show n - 1 ≠ 0 by omega)
  have m2 := Int.emod_lt_of_pos d (show 0 < n - 1 by omega)
  have V4 := Lib.hid v4
  have hd' := hd
  unfold U at hd'
  clear v4 hd
  generalize hv : vic d self n = v at v1 v2 v3
  have HV := Lib.hid hv
  have d1 : decide (n < 2) = false := decide_eq_false (by omega)
  have d2 : decide (64 < n) = false := decide_eq_false (by omega)
  have d3 : decide (self < 0) = false := decide_eq_false (by omega)
  have d4 : decide (n ≤ self) = false := decide_eq_false (by omega)
  have d5 : decide (v < 0) = false := decide_eq_false (by omega)
  have d6 : decide (n ≤ v) = false := decide_eq_false (by omega)
  have d7 : (v == self) = false := by simpa using v3
  have d8 : (v != v) = false := by simp
  have d9 : decide (k < 0) = true := decide_eq_true (by omega)
  clear hv v3
  go_enter Try.func4, Try.ntmps4
  go_wp2_with fail
  refine (awake_any _).mono ?_
  rintro _ w1 ⟨rfl, z1⟩
  have Z := Lib.hid z1
  clear z1
  go_wp2_with fail
  refine (Gives.of (vic_any d self n w1 UD.out IS.out IN.out) (v' := .int .i64 v) (by rw [HV.out])).mono ?_
  rintro _ w2 ⟨rfl, e2⟩
  rw [e2]
  clear e2 w2
  go_wp2_with fail
  refine (Gives.of (vic_any (d % (n - 1)) self n w1 UD2.out IS.out IN.out) (v' := .int .i64 v) (by rw [V4.out, HV.out])).mono ?_
  rintro _ w2 ⟨rfl, e2⟩
  rw [e2]
  clear e2 w2
  go_wp2
  go_ret
  exact ⟨rfl, Z.out⟩
set_option maxHeartbeats 3000000 in
theorem victim_khi (d self n k : Int) (w : World) (hd : U d) (h2 : 2 ≤ n) (h6 : n ≤ 64) (h0 : 0 ≤ self) (h1 : self < n) (k0 : 0 ≤ k) (k1 : n ≤ k) : Tells 4 #[.int .u64 d, .int .i64 self, .int .i64 n, .int .i64 k] w (.bool true) := by
  have UD := Lib.hid hd
  have UD2 := Lib.hid (show U (d % (n - 1)) by
    have m1 := Int.emod_nonneg d (show n - 1 ≠ 0 by omega)
    have m2 := Int.emod_lt_of_pos d (show 0 < n - 1 by omega)
    unfold U; omega)
  have IS := Lib.hid (show I self by unfold I; omega)
  have IN := Lib.hid (show I n by unfold I; omega)
  obtain ⟨v1, v2, v3, v4⟩ := vic_facts (d := d) h2 h0 h1
  have m1 := Int.emod_nonneg d (show n - 1 ≠ 0 by omega)
  have m2 := Int.emod_lt_of_pos d (show 0 < n - 1 by omega)
  have V4 := Lib.hid v4
  have hd' := hd
  unfold U at hd'
  clear v4 hd
  generalize hv : vic d self n = v at v1 v2 v3
  have HV := Lib.hid hv
  have d1 : decide (n < 2) = false := decide_eq_false (by omega)
  have d2 : decide (64 < n) = false := decide_eq_false (by omega)
  have d3 : decide (self < 0) = false := decide_eq_false (by omega)
  have d4 : decide (n ≤ self) = false := decide_eq_false (by omega)
  have d5 : decide (v < 0) = false := decide_eq_false (by omega)
  have d6 : decide (n ≤ v) = false := decide_eq_false (by omega)
  have d7 : (v == self) = false := by simpa using v3
  have d8 : (v != v) = false := by simp
  have d9 : decide (k < 0) = false := decide_eq_false (by omega)
  have d10 : decide (n ≤ k) = true := decide_eq_true (by omega)
  clear hv v3
  go_enter Try.func4, Try.ntmps4
  go_wp2_with fail
  refine (awake_any _).mono ?_
  rintro _ w1 ⟨rfl, z1⟩
  have Z := Lib.hid z1
  clear z1
  go_wp2_with fail
  refine (Gives.of (vic_any d self n w1 UD.out IS.out IN.out) (v' := .int .i64 v) (by rw [HV.out])).mono ?_
  rintro _ w2 ⟨rfl, e2⟩
  rw [e2]
  clear e2 w2
  go_wp2_with fail
  refine (Gives.of (vic_any (d % (n - 1)) self n w1 UD2.out IS.out IN.out) (v' := .int .i64 v) (by rw [V4.out, HV.out])).mono ?_
  rintro _ w2 ⟨rfl, e2⟩
  rw [e2]
  clear e2 w2
  go_wp2
  go_ret
  exact ⟨rfl, Z.out⟩
set_option maxHeartbeats 3000000 in
theorem victim_kself (d self n k : Int) (w : World) (hd : U d) (h2 : 2 ≤ n) (h6 : n ≤ 64) (h0 : 0 ≤ self) (h1 : self < n) (k0 : 0 ≤ k) (k1 : k < n) (kn : k = self) : Tells 4 #[.int .u64 d, .int .i64 self, .int .i64 n, .int .i64 k] w (.bool true) := by
  have UD := Lib.hid hd
  have UD2 := Lib.hid (show U (d % (n - 1)) by
    have m1 := Int.emod_nonneg d (show n - 1 ≠ 0 by omega)
    have m2 := Int.emod_lt_of_pos d (show 0 < n - 1 by omega)
    unfold U; omega)
  have IS := Lib.hid (show I self by unfold I; omega)
  have IN := Lib.hid (show I n by unfold I; omega)
  obtain ⟨v1, v2, v3, v4⟩ := vic_facts (d := d) h2 h0 h1
  have m1 := Int.emod_nonneg d (show n - 1 ≠ 0 by omega)
  have m2 := Int.emod_lt_of_pos d (show 0 < n - 1 by omega)
  have V4 := Lib.hid v4
  have hd' := hd
  unfold U at hd'
  clear v4 hd
  generalize hv : vic d self n = v at v1 v2 v3
  have HV := Lib.hid hv
  have d1 : decide (n < 2) = false := decide_eq_false (by omega)
  have d2 : decide (64 < n) = false := decide_eq_false (by omega)
  have d3 : decide (self < 0) = false := decide_eq_false (by omega)
  have d4 : decide (n ≤ self) = false := decide_eq_false (by omega)
  have d5 : decide (v < 0) = false := decide_eq_false (by omega)
  have d6 : decide (n ≤ v) = false := decide_eq_false (by omega)
  have d7 : (v == self) = false := by simpa using v3
  have d8 : (v != v) = false := by simp
  have d9 : decide (k < 0) = false := decide_eq_false (by omega)
  have d10 : decide (n ≤ k) = false := decide_eq_false (by omega)
  have d11 : (k == self) = true := by simpa using kn
  clear hv v3
  go_enter Try.func4, Try.ntmps4
  go_wp2_with fail
  refine (awake_any _).mono ?_
  rintro _ w1 ⟨rfl, z1⟩
  have Z := Lib.hid z1
  clear z1
  go_wp2_with fail
  refine (Gives.of (vic_any d self n w1 UD.out IS.out IN.out) (v' := .int .i64 v) (by rw [HV.out])).mono ?_
  rintro _ w2 ⟨rfl, e2⟩
  rw [e2]
  clear e2 w2
  go_wp2_with fail
  refine (Gives.of (vic_any (d % (n - 1)) self n w1 UD2.out IS.out IN.out) (v' := .int .i64 v) (by rw [V4.out, HV.out])).mono ?_
  rintro _ w2 ⟨rfl, e2⟩
  rw [e2]
  clear e2 w2
  go_wp2
  go_ret
  exact ⟨rfl, Z.out⟩
set_option maxHeartbeats 3000000 in
theorem victim_k (d self n k : Int) (w : World) (hd : U d) (h2 : 2 ≤ n) (h6 : n ≤ 64) (h0 : 0 ≤ self) (h1 : self < n) (k0 : 0 ≤ k) (k1 : k < n) (kn : k ≠ self) : Tells 4 #[.int .u64 d, .int .i64 self, .int .i64 n, .int .i64 k] w (.bool true) := by
  have UD := Lib.hid hd
  have UD2 := Lib.hid (show U (d % (n - 1)) by
    have m1 := Int.emod_nonneg d (show n - 1 ≠ 0 by omega)
    have m2 := Int.emod_lt_of_pos d (show 0 < n - 1 by omega)
    unfold U; omega)
  have IS := Lib.hid (show I self by unfold I; omega)
  have IN := Lib.hid (show I n by unfold I; omega)
  obtain ⟨v1, v2, v3, v4⟩ := vic_facts (d := d) h2 h0 h1
  have VO := Lib.hid (vic_other h2 h0 h1 k0 k1 kn)
  have md := mod2 (a := k - self - 1 + n) (w := n) (by omega) (by omega)
  have mr : 0 ≤ (k - self - 1 + n) % n ∧ (k - self - 1 + n) % n < n := ⟨Int.emod_nonneg _ (by omega), Int.emod_lt_of_pos _ (by omega)⟩
  have UK := Lib.hid (show U ((k - self - 1 + n) % n) by unfold U; omega)
  have mt' : (k - self - 1 + n).tmod n = (k - self - 1 + n) % n := Int.tmod_eq_emod_of_nonneg (by omega)
  generalize (k - self - 1 + n) % n = t at *
  clear md
  have m1 := Int.emod_nonneg d (show n - 1 ≠ 0 by omega)
  have m2 := Int.emod_lt_of_pos d (show 0 < n - 1 by omega)
  have V4 := Lib.hid v4
  have hd' := hd
  unfold U at hd'
  clear v4 hd
  generalize hv : vic d self n = v at v1 v2 v3
  have HV := Lib.hid hv
  have d1 : decide (n < 2) = false := decide_eq_false (by omega)
  have d2 : decide (64 < n) = false := decide_eq_false (by omega)
  have d3 : decide (self < 0) = false := decide_eq_false (by omega)
  have d4 : decide (n ≤ self) = false := decide_eq_false (by omega)
  have d5 : decide (v < 0) = false := decide_eq_false (by omega)
  have d6 : decide (n ≤ v) = false := decide_eq_false (by omega)
  have d7 : (v == self) = false := by simpa using v3
  have d8 : (v != v) = false := by simp
  have d9 : decide (k < 0) = false := decide_eq_false (by omega)
  have d10 : decide (n ≤ k) = false := decide_eq_false (by omega)
  have d11 : (k == self) = false := by simpa using kn
  have d12 : (k == k) = true := by simp
  clear hv v3
  go_enter Try.func4, Try.ntmps4
  go_wp2_with fail
  refine (awake_any _).mono ?_
  rintro _ w1 ⟨rfl, z1⟩
  have Z := Lib.hid z1
  clear z1
  go_wp2_with fail
  refine (Gives.of (vic_any d self n w1 UD.out IS.out IN.out) (v' := .int .i64 v) (by rw [HV.out])).mono ?_
  rintro _ w2 ⟨rfl, e2⟩
  rw [e2]
  clear e2 w2
  go_wp2_with fail
  refine (Gives.of (vic_any (d % (n - 1)) self n w1 UD2.out IS.out IN.out) (v' := .int .i64 v) (by rw [V4.out, HV.out])).mono ?_
  rintro _ w2 ⟨rfl, e2⟩
  rw [e2]
  clear e2 w2
  go_wp2_with fail
  refine (Gives.of (vic_any t self n w1 UK.out IS.out IN.out) (v' := .int .i64 k) (by rw [VO.out])).mono ?_
  rintro _ w2 ⟨rfl, e2⟩
  rw [e2]
  clear e2 w2
  go_wp2
  go_ret
  exact ⟨rfl, Z.out⟩
theorem drawVictim_walk (d self n k : Int) (w : World) (hd : U d) (hs : I self) (hn : I n) : Tells 4 #[.int .u64 d, .int .i64 self, .int .i64 n, .int .i64 k] w (.bool true) := by
  by_cases h : 64 < n
  · exact victim_many d self n k w h
  · by_cases h2 : n < 2
    · exact victim_few d self n k w hd hs hn h2
    · by_cases h3 : self < 0
      · exact victim_lo d self n k w hd hs hn (by omega) (by omega) h3
      · by_cases h4 : n ≤ self
        · exact victim_hi d self n k w hd hs hn (by omega) (by omega) (by omega) h4
        · by_cases h5 : k < 0
          · exact victim_klo d self n k w hd (by omega) (by omega) (by omega) (by omega) h5
          · by_cases h6 : n ≤ k
            · exact victim_khi d self n k w hd (by omega) (by omega) (by omega) (by omega) (by omega) h6
            · by_cases h7 : k = self
              · exact victim_kself d self n k w hd (by omega) (by omega) (by omega) (by omega) (by omega) (by omega) h7
              · exact victim_k d self n k w hd (by omega) (by omega) (by omega) (by omega) (by omega) (by omega) h7
end Go.Proofs.Ytnabomdadhgeeaa
