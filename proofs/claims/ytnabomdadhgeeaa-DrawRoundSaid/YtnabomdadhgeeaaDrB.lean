/- Contracts of below, mayTurn, turnOf, Fits and Victim, and of the document's own Fits and Victim. -/
import Derived.Test.YtnabomdadhgeeaaDrA
namespace Go.Proofs.Ytnabomdadhgeeaa
open Go.RowKit Go.Deep

/-- From 0 to below e. -/
def be (n e : Int) : Bool := decide (0 ≤ n ∧ n < e)
/-- May so many turn? -/
def mt (w s : Int) : Bool := be w 21 && be s 21
/-- Does a pick name somebody? -/
def fit (p : Pk) (w s : Int) : Bool := if p.1 = 0 then be p.2.1 w else if p.1 = 1 then be p.2.1 s else decide (p.1 = 2 ∨ p.1 = 3)
/-- The place, in a round, of the one whom a pick names. -/
def tn (p : Pk) (w s : Int) : Int := if p.1 = 0 ∧ be p.2.1 w = true then p.2.1 else if p.1 = 1 ∧ be p.2.1 s = true then w + p.2.1 else -1
/-- Whom one looks at. -/
def vic (d self w : Int) : Int := if w < 2 ∨ be self w = false then -1 else (self + 1 + d % (w - 1)) % w

theorem be_yes {n e : Int} (h1 : 0 ≤ n) (h2 : n < e) : be n e = true := decide_eq_true ⟨h1, h2⟩
theorem be_lo {n e : Int} (h : n < 0) : be n e = false := decide_eq_false (by omega)
theorem be_hi {n e : Int} (h : e ≤ n) : be n e = false := decide_eq_false (by omega)
theorem be_iff {n e : Int} : be n e = true ↔ 0 ≤ n ∧ n < e := by simp [be]
theorem be_no {n e : Int} : be n e = false ↔ ¬ (0 ≤ n ∧ n < e) := by simp [be]

theorem below_any (n e : Int) (w : World) : Gives 24 #[.int .i64 n, .int .i64 e] w (.bool (be n e)) := by
  by_cases h : 0 ≤ n
  · have hd : decide (0 ≤ n) = true := decide_eq_true h
    go_enter Try.func24, Try.ntmps24
    go_wp2
    go_ret
    refine ⟨?_, rfl⟩
    unfold be
    by_cases h2 : n < e
    · rw [decide_eq_true h2, decide_eq_true ⟨h, h2⟩]; rfl
    · rw [decide_eq_false h2, decide_eq_false (fun k => h2 k.2)]; rfl
  · have hd : decide (0 ≤ n) = false := decide_eq_false h
    have E := Lib.hid (be_lo (n := n) (e := e) (by omega))
    go_enter Try.func24, Try.ntmps24
    go_wp2
    go_ret
    exact ⟨by rw [E.out]; rfl, rfl⟩
theorem mt_any (n s : Int) (w : World) : Gives 22 #[.int .i64 n, .int .i64 s] w (.bool (mt n s)) := by
  cases h : be n 21
  · have E := Lib.hid (show mt n s = false by unfold mt; rw [h]; rfl)
    have C := Lib.hid (Gives.of (below_any n 21 w) (v' := .bool false) (by rw [h]))
    clear h
    go_enter Try.func22, Try.ntmps22
    go_wp2_with (go_at_call 24; refine C.out.mono ?_; rintro _ _ ⟨rfl, rfl⟩)
    go_ret
    exact ⟨by rw [E.out]; rfl, rfl⟩
  · have E := Lib.hid (show mt n s = be s 21 by unfold mt; rw [h]; rfl)
    have C := Lib.hid (Gives.of (below_any n 21 w) (v' := .bool true) (by rw [h]))
    have D := Lib.hid (below_any s 21 w)
    clear h
    go_enter Try.func22, Try.ntmps22
    go_wp2_with fail
    refine C.out.mono ?_
    rintro _ _ ⟨rfl, rfl⟩
    go_wp2_with fail
    refine D.out.mono ?_
    rintro _ _ ⟨rfl, rfl⟩
    go_wp2
    go_ret
    exact ⟨by rw [E.out]; rfl, rfl⟩
theorem vic_any (d self n : Int) (w : World) (hd : U d) (hs : I self) (hn : I n) : Gives 18 #[.int .u64 d, .int .i64 self, .int .i64 n] w (.int .i64 (vic d self n)) := by
  unfold U at hd
  unfold I at hs hn
  by_cases h : n < 2
  · have h' : decide (n < 2) = true := decide_eq_true h
    have E := Lib.hid (show vic d self n = -1 by unfold vic; rw [if_pos (.inl h)])
    go_enter Try.func18, Try.ntmps18
    go_wp2
    go_ret
    exact ⟨by rw [E.out]; rfl, rfl⟩
  · have h' : decide (n < 2) = false := decide_eq_false h
    cases hb : be self n
    · have E := Lib.hid (show vic d self n = -1 by unfold vic; rw [if_pos (.inr hb)])
      have C := Lib.hid (Gives.of (below_any self n w) (v' := .bool false) (by rw [hb]))
      clear hb
      go_enter Try.func18, Try.ntmps18
      go_wp2_with fail
      refine C.out.mono ?_
      rintro _ _ ⟨rfl, rfl⟩
      go_wp2
      go_ret
      exact ⟨by rw [E.out]; rfl, rfl⟩
    · have E := Lib.hid (show vic d self n = (self + 1 + d % (n - 1)) % n by unfold vic; rw [if_neg (by rw [hb]; simp; omega)])
      have C := Lib.hid (Gives.of (below_any self n w) (v' := .bool true) (by rw [hb]))
      have hr := be_iff.1 hb
      clear hb
      have m1 := Int.emod_nonneg d (show n - 1 ≠ 0 by omega)
      have m2 := Int.emod_lt_of_pos d (show 0 < n - 1 by omega)
      have m3 := Int.emod_nonneg (self + 1 + d % (n - 1)) (show n ≠ 0 by omega)
      have m4 := Int.emod_lt_of_pos (self + 1 + d % (n - 1)) (show 0 < n by omega)
      go_enter Try.func18, Try.ntmps18
      go_wp2_with fail
      refine C.out.mono ?_
      rintro _ _ ⟨rfl, rfl⟩
      go_wp2
      go_ret
      exact ⟨by rw [E.out]; rfl, rfl⟩
theorem fit_work {p : Pk} {w s : Int} (h : p.1 = 0) : fit p w s = be p.2.1 w := by unfold fit; rw [if_pos h]
theorem fit_sub {p : Pk} {w s : Int} (h : p.1 = 1) : fit p w s = be p.2.1 s := by unfold fit; rw [if_neg (by omega), if_pos h]
theorem fit_else {p : Pk} {w s : Int} (h0 : ¬ p.1 = 0) (h1 : ¬ p.1 = 1) : fit p w s = decide (p.1 = 2 ∨ p.1 = 3) := by unfold fit; rw [if_neg h0, if_neg h1]
theorem fits_any (p : Pk) (n s : Int) (w : World) : Tells 20 #[pv p, .int .i64 n, .int .i64 s] w (.bool (fit p n s)) := by
  obtain ⟨k, q, d⟩ := p
  have Z := Lib.hid ((Below.refl w.heap.size w).alloc (Nat.le_refl _) (.cells #[.int .i64 k, .int .i64 q, .int .u64 d] 25))
  by_cases h0 : k = 0
  · subst h0
    rw [fit_work rfl]
    go_enter Try.func20, Try.ntmps20
    go_wp2_with (go_at_call 24; refine (below_any _ _ _).mono ?_; rintro _ _ ⟨rfl, rfl⟩)
    go_ret
    exact ⟨rfl, Z.out⟩
  · by_cases h1 : k = 1
    · subst h1
      rw [fit_sub rfl]
      go_enter Try.func20, Try.ntmps20
      go_wp2_with (go_at_call 24; refine (below_any _ _ _).mono ?_; rintro _ _ ⟨rfl, rfl⟩)
      go_ret
      exact ⟨rfl, Z.out⟩
    · rw [fit_else h0 h1]
      have e0 : (k == 0) = false := by simpa using h0
      have e1 : (k == 1) = false := by simpa using h1
      clear h0 h1
      by_cases h2 : k = 2
      · subst h2
        go_enter Try.func20, Try.ntmps20
        go_wp2
        go_ret
        exact ⟨rfl, Z.out⟩
      · have e2 : (k == 2) = false := by simpa using h2
        by_cases h3 : k = 3
        · subst h3
          go_enter Try.func20, Try.ntmps20
          go_wp2
          go_ret
          exact ⟨rfl, Z.out⟩
        · have e3 : (k == 3) = false := by simpa using h3
          have E := Lib.hid (show decide (k = 2 ∨ k = 3) = false from decide_eq_false (by omega))
          clear h2 h3
          go_enter Try.func20, Try.ntmps20
          go_wp2
          go_ret
          exact ⟨by rw [E.out]; rfl, Z.out⟩
theorem rfits_any (p : Pk) (n s : Int) (w : World) : Tells 16 #[pv p, .int .i64 n, .int .i64 s] w (.bool (fit p n s)) := by
  obtain ⟨k, q, d⟩ := p
  have Z := Lib.hid ((Below.refl w.heap.size w).alloc (Nat.le_refl _) (.cells #[.int .i64 k, .int .i64 q, .int .u64 d] 25))
  by_cases h0 : k = 0
  · subst h0
    rw [fit_work rfl]
    by_cases hq : 0 ≤ q
    · have hq' : decide (0 ≤ q) = true := decide_eq_true hq
      have E := Lib.hid (show be q n = decide (q < n) by unfold be; simp [hq])
      go_enter Try.func16, Try.ntmps16
      go_wp2
      go_ret
      exact ⟨by rw [E.out]; rfl, Z.out⟩
    · have hq' : decide (0 ≤ q) = false := decide_eq_false hq
      have E := Lib.hid (show be q n = false from be_lo (by omega))
      go_enter Try.func16, Try.ntmps16
      go_wp2
      go_ret
      exact ⟨by rw [E.out]; rfl, Z.out⟩
  · by_cases h1 : k = 1
    · subst h1
      rw [fit_sub rfl]
      by_cases hq : 0 ≤ q
      · have hq' : decide (0 ≤ q) = true := decide_eq_true hq
        have E := Lib.hid (show be q s = decide (q < s) by unfold be; simp [hq])
        go_enter Try.func16, Try.ntmps16
        go_wp2
        go_ret
        exact ⟨by rw [E.out]; rfl, Z.out⟩
      · have hq' : decide (0 ≤ q) = false := decide_eq_false hq
        have E := Lib.hid (show be q s = false from be_lo (by omega))
        go_enter Try.func16, Try.ntmps16
        go_wp2
        go_ret
        exact ⟨by rw [E.out]; rfl, Z.out⟩
    · rw [fit_else h0 h1]
      have e0 : (k == 0) = false := by simpa using h0
      have e1 : (k == 1) = false := by simpa using h1
      clear h0 h1
      by_cases h2 : k = 2
      · subst h2
        go_enter Try.func16, Try.ntmps16
        go_wp2
        go_ret
        exact ⟨rfl, Z.out⟩
      · have e2 : (k == 2) = false := by simpa using h2
        by_cases h3 : k = 3
        · subst h3
          go_enter Try.func16, Try.ntmps16
          go_wp2
          go_ret
          exact ⟨rfl, Z.out⟩
        · have e3 : (k == 3) = false := by simpa using h3
          have E := Lib.hid (show decide (k = 2 ∨ k = 3) = false from decide_eq_false (by omega))
          clear h2 h3
          go_enter Try.func16, Try.ntmps16
          go_wp2
          go_ret
          exact ⟨by rw [E.out]; rfl, Z.out⟩
theorem turn_any (p : Pk) (n s : Int) (w : World) (hn : 0 ≤ n ∧ n ≤ 20) (hs : 0 ≤ s ∧ s ≤ 20) : Tells 28 #[pv p, .int .i64 n, .int .i64 s] w (.int .i64 (tn p n s)) := by
  obtain ⟨k, q, d⟩ := p
  have Z := Lib.hid ((Below.refl w.heap.size w).alloc (Nat.le_refl _) (.cells #[.int .i64 k, .int .i64 q, .int .u64 d] 25))
  by_cases h0 : k = 0
  · subst h0
    cases hb : be q n
    · have E := Lib.hid (show tn (0, q, d) n s = -1 by unfold tn; rw [if_neg (by simp [hb]), if_neg (by simp)])
      have HB := Lib.hid hb
      clear hb
      go_enter Try.func28, Try.ntmps28
      go_wp2_with (go_at_call 24; refine (Gives.of (below_any _ _ _) (v' := .bool false) (by rw [HB.out])).mono ?_; rintro _ _ ⟨rfl, rfl⟩)
      go_ret
      exact ⟨by rw [E.out]; rfl, Z.out⟩
    · have E := Lib.hid (show tn (0, q, d) n s = q by unfold tn; rw [if_pos (by simp [hb])])
      have HB := Lib.hid hb
      clear hb
      go_enter Try.func28, Try.ntmps28
      go_wp2_with (go_at_call 24; refine (Gives.of (below_any _ _ _) (v' := .bool true) (by rw [HB.out])).mono ?_; rintro _ _ ⟨rfl, rfl⟩)
      go_ret
      exact ⟨by rw [E.out]; rfl, Z.out⟩
  · have e0 : (k == 0) = false := by simpa using h0
    by_cases h1 : k = 1
    · subst h1
      cases hb : be q s
      · have E := Lib.hid (show tn (1, q, d) n s = -1 by unfold tn; rw [if_neg (by simp), if_neg (by simp [hb])])
        have HB := Lib.hid hb
        clear hb
        go_enter Try.func28, Try.ntmps28
        go_wp2_with (go_at_call 24; refine (Gives.of (below_any _ _ _) (v' := .bool false) (by rw [HB.out])).mono ?_; rintro _ _ ⟨rfl, rfl⟩)
        go_ret
        exact ⟨by rw [E.out]; rfl, Z.out⟩
      · have E := Lib.hid (show tn (1, q, d) n s = n + q by unfold tn; rw [if_neg (by simp), if_pos (by simp [hb])])
        have hr := be_iff.1 hb
        have HB := Lib.hid hb
        clear hb
        go_enter Try.func28, Try.ntmps28
        go_wp2_with (go_at_call 24; refine (Gives.of (below_any _ _ _) (v' := .bool true) (by rw [HB.out])).mono ?_; rintro _ _ ⟨rfl, rfl⟩)
        go_ret
        exact ⟨by rw [E.out]; rfl, Z.out⟩
    · have e1 : (k == 1) = false := by simpa using h1
      have E := Lib.hid (show tn (k, q, d) n s = -1 by unfold tn; rw [if_neg (fun h => h0 h.1), if_neg (fun h => h1 h.1)])
      clear h0 h1
      go_enter Try.func28, Try.ntmps28
      go_wp2
      go_ret
      exact ⟨by rw [E.out]; rfl, Z.out⟩
set_option maxHeartbeats 400000 in
theorem rvic_any (d self n : Int) (w : World) (hd : U d) (hs : I self) (hn : I n) (h64 : n ≤ 64) : Gives 19 #[.int .u64 d, .int .i64 self, .int .i64 n] w (.int .i64 (vic d self n)) := by
  unfold U at hd
  unfold I at hs hn
  by_cases h : n < 2
  · have h' : decide (n < 2) = true := decide_eq_true h
    have E := Lib.hid (show vic d self n = -1 by unfold vic; rw [if_pos (.inl h)])
    go_enter Try.func19, Try.ntmps19
    go_wp2
    go_ret
    exact ⟨by rw [E.out]; rfl, rfl⟩
  · have h' : decide (n < 2) = false := decide_eq_false h
    by_cases hl : self < 0
    · have hl' : decide (self < 0) = true := decide_eq_true hl
      have E := Lib.hid (show vic d self n = -1 by unfold vic; rw [if_pos (.inr (be_lo hl))])
      go_enter Try.func19, Try.ntmps19
      go_wp2
      go_ret
      exact ⟨by rw [E.out]; rfl, rfl⟩
    · have hl' : decide (self < 0) = false := decide_eq_false hl
      by_cases hh : n ≤ self
      · have hh' : decide (n ≤ self) = true := decide_eq_true hh
        have E := Lib.hid (show vic d self n = -1 by unfold vic; rw [if_pos (.inr (be_hi hh))])
        go_enter Try.func19, Try.ntmps19
        go_wp2
        go_ret
        exact ⟨by rw [E.out]; rfl, rfl⟩
      · have hh' : decide (n ≤ self) = false := decide_eq_false hh
        have E := Lib.hid (show vic d self n = (self + 1 + d % (n - 1)) % n by unfold vic; rw [if_neg (by rw [be_yes (by omega) (by omega)]; simp; omega)])
        have m1 := Int.emod_nonneg d (show n - 1 ≠ 0 by omega)
        have m2 := Int.emod_lt_of_pos d (show 0 < n - 1 by omega)
        have m3 : d % (n - 1) % 1000 = d % (n - 1) := Int.emod_eq_of_lt m1 (by omega)
        go_enter Try.func19, Try.ntmps19
        go_wp2
        go_loop [7, 8] (fun x i => ∃ j : Nat, (j : Int) ≤ d % (n - 1) + 1 ∧ i = .int .u64 j ∧ x = .int .i64 ((self + j) % n)) (fun _ i => 70 - (intOf i).toNat)
        case atStart => exact ⟨0, by omega, rfl, by rw [show self + ((0 : Nat) : Int) = self by omega, Int.emod_eq_of_lt (by omega) (by omega)]⟩
        case round =>
          obtain ⟨j, hj, rfl, rfl⟩ := hrel
          have q1 := Int.emod_nonneg (self + j) (show n ≠ 0 by omega)
          have q2 := Int.emod_lt_of_pos (self + j) (show 0 < n by omega)
          have q3 : (self + ((j + 1 : Nat) : Int)) % n = if (self + j) % n + 1 = n then 0 else (self + j) % n + 1 := by
            have e : (self + ((j + 1 : Nat) : Int)) = (self + j) + 1 := by omega
            rw [e, Int.add_emod, Int.emod_eq_of_lt (show (0 : Int) ≤ 1 by omega) (show 1 < n by omega)]
            split
            · rename_i h; rw [h, Int.emod_self]
            · exact Int.emod_eq_of_lt (by omega) (by omega)
          have Q3 := Lib.hid q3
          have M3 := Lib.hid m3
          clear q3 m3
          generalize hX : (self + (j : Int)) % n = x at *
          have HX := Lib.hid hX
          clear hX
          by_cases hlt : (j : Int) < d % (n - 1) + 1
          · have hlt' : (j : Int) < d % (n - 1) % 1000 + 1 := by rw [M3.out]; exact hlt
            have b1 : 0 ≤ d % (n - 1) % 1000 ∧ d % (n - 1) % 1000 < 1000 := by rw [M3.out]; omega
            by_cases hx : x + 1 = n
            · have hx' : (x + 1 == n) = true := by simpa using hx
              go_wp2
              go_round
              case rel => exact ⟨j + 1, by omega, by go_num, by rw [Q3.out, if_pos hx]⟩
              case measure => simp [intOf]; omega
            · have hx' : (x + 1 == n) = false := by simpa using hx
              go_wp2
              go_round
              case rel => exact ⟨j + 1, by omega, by go_num, by rw [Q3.out, if_neg hx]⟩
              case measure => simp [intOf]; omega
          · have hlt' : ¬ (j : Int) < d % (n - 1) % 1000 + 1 := by rw [M3.out]; exact hlt
            have b1 : 0 ≤ d % (n - 1) % 1000 ∧ d % (n - 1) % 1000 < 1000 := by rw [M3.out]; omega
            have EJ := Lib.hid (show (self + 1 + d % (n - 1)) = self + j by omega)
            go_wp2
            go_ret
            exact ⟨by rw [E.out, EJ.out, HX.out]; rfl, rfl⟩
end Go.Proofs.Ytnabomdadhgeeaa
