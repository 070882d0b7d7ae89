/- Contracts of Round, and of the document's own Round, Picks and named. -/
import Derived.Test.YtnabomdadhgeeaaDrD
namespace Go.Proofs.Ytnabomdadhgeeaa
open Go.RowKit Go.Deep
/-- The pick of place i in a round of m workers. -/
def rn (m : Nat) (d : Int) (i : Nat) : Pk := if i < m then (0, (i : Int), d) else (1, (i : Int) - m, d)
def rndN (m : Nat) (d : Int) (j : Nat) : List Pk := (List.range j).map (rn m d)
/-- A round. -/
def rnd (w s d : Int) : List Pk := if mt w s = true then rndN w.toNat d (w.toNat + s.toNat) else []
theorem rndN_len (m : Nat) (d : Int) (j : Nat) : (rndN m d j).length = j := by simp [rndN]
theorem rndN_succ (m : Nat) (d : Int) (j : Nat) : rndN m d (j + 1) = rndN m d j ++ [rn m d j] := by simp [rndN, List.range_succ]
theorem mt_iff {w s : Int} : mt w s = true ↔ (0 ≤ w ∧ w ≤ 20) ∧ 0 ≤ s ∧ s ≤ 20 := by
  unfold mt be
  simp only [Bool.and_eq_true, decide_eq_true_eq]
  omega
theorem rnd_yes {m q : Nat} (d : Int) (hm : m ≤ 20) (hq : q ≤ 20) : rnd m q d = rndN m d (m + q) := by
  unfold rnd
  rw [if_pos (mt_iff.2 (by omega)), Int.toNat_natCast, Int.toNat_natCast]
theorem rnd_no {w s d : Int} (h : mt w s = false) : rnd w s d = [] := by unfold rnd; rw [h]; rfl
theorem RetP.of {w : World} {l k : List Pk} {e : Ending} {w' : World} (h : RetP w l e w') (hl : l = k) : RetP w k e w' := hl ▸ h

set_option maxHeartbeats 1000000 in
theorem round_yes (m q : Nat) (d : Int) (w : World) (hm : m ≤ 20) (hq : q ≤ 20) : Calls Try.prog 14 #[.int .i64 m, .int .i64 q, .int .u64 d] w (RetP w (rndN m d (m + q))) := by
  have C := Lib.hid (Gives.of (mt_any m q w) (v' := .bool true) (by rw [mt_iff.2 (by omega)]))
  have hmk := make_run (m + q) (by omega)
  have OM := Lib.hid (Ow.made w (m + q) w.heap.size (by omega) (Nat.le_refl _))
  have BM := Lib.hid ((Below.refl w.heap.size w).alloc (Nat.le_refl _) (.cells (mc (m + q)) 25))
  rw [show (((m + q : Nat)) : Int) = (m : Int) + (q : Int) by omega] at hmk
  go_enter Try.func14, Try.ntmps14
  go_wp2_with fail
  refine C.out.mono ?_
  rintro _ w1 ⟨rfl, e1⟩
  rw [e1]
  clear e1 w1
  go_wp2
  go_loopw [7, 19] (fun s i wr => ∃ (j : Nat) (R : Option Addr) (c : Nat), j ≤ m ∧ i = .int .i64 j ∧ s = .slice R j c ∧ Ow wr w.heap.size R j c (rndN m d j) ∧ Below w.heap.size w wr) (fun _ i _ => m - (intOf i).toNat)
  case atStart => exact ⟨0, _, _, Nat.zero_le _, rfl, rfl, OM.out, BM.out⟩
  case round =>
    obtain ⟨j, R, c, hj, rfl, rfl, hO, hB⟩ := hrel
    by_cases hlt : j < m
    · obtain ⟨R', d', w', hrun, hown, hbel⟩ := app_one hO (0, (j : Int), d) (by omega) hB.size
      have E := Lib.hid (show rn m d j = (0, (j : Int), d) by unfold rn; rw [if_pos hlt])
      have RUN := Lib.hid hrun
      have OWN := Lib.hid hown
      have BW := Lib.hid (hB.trans hbel)
      clear hO hB hrun hown hbel
      go_wp2_with (at_builtin; (with_reducible refine wpList_append_run RUN.out ?_ ?_ ?_ ?_); exact ⟨_, _, rfl, rfl, rfl⟩; rfl; rfl)
      go_roundw
      case rel => exact ⟨j + 1, R', d', by omega, by go_num, rfl, by rw [rndN_succ, E.out]; exact OWN.out, BW.out⟩
      case measure => simp [intOf]; omega
    · have e : j = m := by omega
      subst e
      have HO := Lib.hid hO
      have HB := Lib.hid hB
      clear hO hB
      go_wp2
      go_loopw [7, 30] (fun s i wr => ∃ (t n : Nat) (R : Option Addr) (c : Nat), t ≤ q ∧ n = j + t ∧ i = .int .i64 t ∧ s = .slice R n c ∧ Ow wr w.heap.size R n c (rndN j d n) ∧ Below w.heap.size w wr) (fun _ i _ => q - (intOf i).toNat)
      case atStart => exact ⟨0, j, _, _, Nat.zero_le _, rfl, rfl, rfl, HO.out, HB.out⟩
      case round =>
        obtain ⟨t, n, R, c, ht, hn, rfl, rfl, hO, hB⟩ := hrel
        by_cases hlt : t < q
        · obtain ⟨R', d', w', hrun, hown, hbel⟩ := app_one hO (1, (t : Int), d) (by omega) hB.size
          have E := Lib.hid (show rn j d n = (1, (t : Int), d) by unfold rn; rw [if_neg (by omega), hn]; simp; omega)
          have RUN := Lib.hid hrun
          have OWN := Lib.hid hown
          have BW := Lib.hid (hB.trans hbel)
          have HN := Lib.hid hn
          clear hO hB hrun hown hbel hn
          go_wp2_with (at_builtin; (with_reducible refine wpList_append_run RUN.out ?_ ?_ ?_ ?_); exact ⟨_, _, rfl, rfl, rfl⟩; rfl; rfl)
          go_roundw
          case rel => exact ⟨t + 1, n + 1, R', d', by omega, by rw [HN.out]; omega, by go_num, rfl, by rw [rndN_succ, E.out]; exact OWN.out, BW.out⟩
          case measure => simp [intOf]; omega
        · have HO := Lib.hid hO
          have HB := Lib.hid hB
          have E := Lib.hid (show n = j + q by omega)
          clear hO hB hn
          go_wp2
          go_ret
          refine ⟨R, c, by rw [rndN_len, ← E.out]; rfl, ?_, HB.out⟩
          rw [rndN_len, ← E.out]
          exact HO.out
theorem round_any (n s d : Int) (w : World) : Calls Try.prog 14 #[.int .i64 n, .int .i64 s, .int .u64 d] w (RetP w (rnd n s d)) := by
  cases h : mt n s
  · rw [rnd_no h]
    have C := Lib.hid (Gives.of (mt_any n s w) (v' := .bool false) (by rw [h]))
    clear h
    go_enter Try.func14, Try.ntmps14
    go_wp2_with fail
    refine C.out.mono ?_
    rintro _ _ ⟨rfl, rfl⟩
    go_wp2
    go_ret
    exact ⟨none, 0, rfl, Ow.nil _ _, Below.refl _ _⟩
  · have hr := mt_iff.1 h
    obtain ⟨m, rfl⟩ : ∃ m : Nat, n = m := ⟨n.toNat, by omega⟩
    obtain ⟨q, rfl⟩ : ∃ q : Nat, s = q := ⟨s.toNat, by omega⟩
    rw [rnd_yes d (by omega) (by omega)]
    exact round_yes m q d w (by omega) (by omega)
set_option maxHeartbeats 1000000 in
theorem rround_yes (m q : Nat) (d : Int) (w : World) (hm : m ≤ 20) (hq : q ≤ 20) : Calls Try.prog 15 #[.int .i64 m, .int .i64 q, .int .u64 d] w (RetP w (rndN m d (m + q))) := by
  have d1 : decide ((m : Int) < 0) = false := decide_eq_false (by omega)
  have d2 : decide ((q : Int) < 0) = false := decide_eq_false (by omega)
  have d3 : decide ((20 : Int) < (m : Int)) = false := decide_eq_false (by omega)
  have d4 : decide ((20 : Int) < (q : Int)) = false := decide_eq_false (by omega)
  go_enter Try.func15, Try.ntmps15
  go_wp2
  go_loopw [7, 8] (fun s i wr => ∃ (j : Nat) (R : Option Addr) (c : Nat), j ≤ m + q ∧ i = .int .i64 j ∧ s = .slice R j c ∧ Ow wr w.heap.size R j c (rndN m d j) ∧ Below w.heap.size w wr) (fun _ i _ => m + q - (intOf i).toNat)
  case atStart => exact ⟨0, _, _, Nat.zero_le _, rfl, rfl, Ow.nil _ _, Below.refl _ _⟩
  case round =>
    obtain ⟨j, R, c, hj, rfl, rfl, hO, hB⟩ := hrel
    by_cases hlt : j < m
    · obtain ⟨R', d', w', hrun, hown, hbel⟩ := app_one hO (0, (j : Int), d) (by omega) hB.size
      have E := Lib.hid (show rn m d j = (0, (j : Int), d) by unfold rn; rw [if_pos hlt])
      have RUN := Lib.hid hrun
      have OWN := Lib.hid hown
      have BW := Lib.hid (hB.trans hbel)
      clear hO hB hrun hown hbel
      go_wp2_with (at_builtin; (with_reducible refine wpList_append_run RUN.out ?_ ?_ ?_ ?_); exact ⟨_, _, rfl, rfl, rfl⟩; rfl; rfl)
      go_roundw
      case rel => exact ⟨j + 1, R', d', by omega, by go_num, rfl, by rw [rndN_succ, E.out]; exact OWN.out, BW.out⟩
      case measure => simp [intOf]; omega
    · by_cases hlt2 : j < m + q
      · obtain ⟨R', d', w', hrun, hown, hbel⟩ := app_one hO (1, (j : Int) - (m : Int), d) (by omega) hB.size
        have E := Lib.hid (show rn m d j = (1, (j : Int) - m, d) by unfold rn; rw [if_neg hlt])
        have RUN := Lib.hid hrun
        have OWN := Lib.hid hown
        have BW := Lib.hid (hB.trans hbel)
        clear hO hB hrun hown hbel
        go_wp2_with (at_builtin; (with_reducible refine wpList_append_run RUN.out ?_ ?_ ?_ ?_); exact ⟨_, _, rfl, rfl, rfl⟩; rfl; rfl)
        go_roundw
        case rel => exact ⟨j + 1, R', d', by omega, by go_num, rfl, by rw [rndN_succ, E.out]; exact OWN.out, BW.out⟩
        case measure => simp [intOf]; omega
      · have HO := Lib.hid hO
        have HB := Lib.hid hB
        have E := Lib.hid (show j = m + q by omega)
        clear hO hB
        go_wp2
        go_ret
        refine ⟨R, c, by rw [rndN_len, ← E.out]; rfl, ?_, HB.out⟩
        rw [rndN_len, ← E.out]
        exact HO.out
theorem rround_any (n s d : Int) (w : World) : Calls Try.prog 15 #[.int .i64 n, .int .i64 s, .int .u64 d] w (RetP w (rnd n s d)) := by
  cases h : mt n s
  · rw [rnd_no h]
    have h' : ¬ ((0 ≤ n ∧ n ≤ 20) ∧ 0 ≤ s ∧ s ≤ 20) := fun k => by rw [mt_iff.2 k] at h; cases h
    clear h
    by_cases h1 : n < 0
    · have d1 : decide (n < 0) = true := decide_eq_true h1
      go_enter Try.func15, Try.ntmps15
      go_wp2
      go_ret
      exact ⟨none, 0, rfl, Ow.nil _ _, Below.refl _ _⟩
    · have d1 : decide (n < 0) = false := decide_eq_false h1
      by_cases h2 : s < 0
      · have d2 : decide (s < 0) = true := decide_eq_true h2
        go_enter Try.func15, Try.ntmps15
        go_wp2
        go_ret
        exact ⟨none, 0, rfl, Ow.nil _ _, Below.refl _ _⟩
      · have d2 : decide (s < 0) = false := decide_eq_false h2
        by_cases h3 : 20 < n
        · have d3 : decide (20 < n) = true := decide_eq_true h3
          go_enter Try.func15, Try.ntmps15
          go_wp2
          go_ret
          exact ⟨none, 0, rfl, Ow.nil _ _, Below.refl _ _⟩
        · have d3 : decide (20 < n) = false := decide_eq_false h3
          have h4 : 20 < s := by omega
          have d4 : decide (20 < s) = true := decide_eq_true h4
          go_enter Try.func15, Try.ntmps15
          go_wp2
          go_ret
          exact ⟨none, 0, rfl, Ow.nil _ _, Below.refl _ _⟩
  · have hr := mt_iff.1 h
    obtain ⟨m, rfl⟩ : ∃ m : Nat, n = m := ⟨n.toNat, by omega⟩
    obtain ⟨q, rfl⟩ : ∃ q : Nat, s = q := ⟨s.toNat, by omega⟩
    rw [rnd_yes d (by omega) (by omega)]
    exact rround_yes m q d w (by omega) (by omega)
end Go.Proofs.Ytnabomdadhgeeaa
