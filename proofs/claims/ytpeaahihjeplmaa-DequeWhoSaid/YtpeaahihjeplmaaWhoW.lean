/- The walk of DequeWho. -/
import Derived.Test.YtpeaahihjeplmaaOrderW
namespace Go.Proofs.Ytpeaahihjeplmaa
open Go.RowKit Go.Deep Go.Shelf
theorem plO_who {D th : Int} {pops : List Bool} (hp : pops.length ≤ 60) (who : List Int) : ((plO D th (cs pops) who).a.length = 0 ∧ (plO D th (cs pops) who).over.length = 0) ∨ (((plO D th (cs pops) who).a.length : Int) = th + 1 ∧ 0 ≤ th ∧
    (∀ i, ((plO D th (cs pops) who).a.getD i fno).res = 0 ∧ (((plO D th (cs pops) who).a.getD i fno).op = -1 ∨ (i = 0 ∧ (((plO D th (cs pops) who).a.getD i fno).op = 0 ∨ ((plO D th (cs pops) who).a.getD i fno).op = 1)) ∨ (0 < i ∧ ((plO D th (cs pops) who).a.getD i fno).op = 2)))) := by
  unfold plO
  cases hk : plK D th
  · rw [if_neg (by simp)]; exact .inl ⟨rfl, rfl⟩
  · rw [if_pos rfl]
    unfold plK at hk
    simp only [Bool.and_eq_true, decide_eq_true_eq] at hk
    obtain ⟨h1, h2⟩ := play_hand (th := th) hk.1 hp who
    exact .inr ⟨by rw [h1]; omega, hk.2.1, h2⟩
set_option maxRecDepth 100000 in
set_option maxHeartbeats 4000000 in
theorem who_tells (D th ii : Int) (A B : Option Addr) (n c nw cw : Nat) (pops : List Bool) (who : List Int) (w : World) (hP : Rb w A pops) (hW : Ri w B who) (hn : pops.length = n) (hnw : who.length = nw) :
    Tells 9 #[.int .i64 D, .int .i64 th, .slice A n c, .slice B nw cw, .int .i64 ii] w (.bool true) := by
  have HP := Lib.hid hP
  have HW := Lib.hid hW
  have HN := Lib.hid hn
  have HNW := Lib.hid hnw
  clear hP hW hn hnw
  go_enter Try.func9, Try.ntmps9
  go_wp2_with fail
  refine (awake_any _).mono ?_
  rintro _ w1 ⟨rfl, z1⟩
  have Z1 := Lib.hid z1
  clear z1
  by_cases h60 : n ≤ 60
  · by_cases h500 : nw ≤ 500
    · have d1 : decide ((n : Int) > 60) = false := decide_eq_false (by omega)
      have d2 : decide ((nw : Int) > 500) = false := decide_eq_false (by omega)
      go_wp2_with fail
      refine (lcalls_any A n c pops w1 (HP.out.below Z1.out) HN.out h60).mono ?_
      rintro _ w2 ⟨Q, d, rfl, hq, z2⟩
      have HQ := Lib.hid hq.pr
      have HCAP := Lib.hid (ow_cap hq)
      have Z2 := Lib.hid (Z1.out.trans (z2.mono Z1.out.size))
      clear hq z2
      go_wp2_with fail
      refine (play_any D th Q B d cw n nw (cs pops) who w2 HQ.out (HW.out.below Z2.out) HCAP.out (by rw [cs_len]; exact HN.out) HNW.out (by omega) (cs_UF pops (by rw [HN.out]; exact h60))).mono ?_
      obtain ⟨_, _, o3⟩ := plO_order (D := D) (th := th) (pops := pops) (by rw [HN.out]; exact h60) who
      have o4 := (plO_U (D := D) (th := th) (cs_UF pops (by rw [HN.out]; exact h60)) who).2.2.2
      have o5 := plO_who (D := D) (th := th) (pops := pops) (by rw [HN.out]; exact h60) who
      rw [HNW.out] at o4
      generalize plO D th (cs pops) who = s at o3 o4 o5 ⊢
      obtain ⟨na, hna⟩ : ∃ na, s.a.length = na := ⟨_, rfl⟩
      obtain ⟨no, hno⟩ : ∃ no, s.over.length = no := ⟨_, rfl⟩
      have hno5 : no ≤ nw := by omega
      have hna9 : na ≤ 9 := by omega
      rintro _ w3 ⟨Am, cm, Ao, co, Aa, ca, rfl, _, ro, _, ra, z3⟩
      have RO := Lib.hid ro
      have RA := Lib.hid ra
      have Z3 := Lib.hid (Z2.out.trans (z3.mono Z2.out.size))
      have O3 := Lib.hid o3
      have HNA := Lib.hid hna
      have HNO := Lib.hid hno
      rw [hna, hno] at o5
      simp only [hna, hno]
      clear ro ra z3 o3 o4 hna hno
      rcases o5 with ⟨e1, e2⟩ | ⟨e1, e2, e3⟩
      · subst e1 e2
        go_wp2
        go_ret
        exact ⟨rfl, Z3.out⟩
      · have O4 := Lib.hid e3
        have f1 : ((na : Int) == 0) = false := by simp; omega
        have f2 : ((na : Int) != th + 1) = false := by simp; omega
        have f3 : decide ((no : Int) > (nw : Int)) = false := decide_eq_false (by omega)
        have f4 : decide (nw < no) = false := decide_eq_false (by omega)
        have f5 : wrap64 (th + 1) = th + 1 := by unfold wrap64; omega
        have E1 := Lib.hid e1
        clear e1 e3
        go_wp2
        clear f5
        generalize wrap64 (th + 1) = T1
        generalize th + 1 = T2
        go_loopw [15, 16] (fun x _ wr => ∃ (j : Nat), x = .int .i64 j ∧ j ≤ na ∧ Hid (Below w3.heap.size w3 wr)) (fun x _ _ => na - (intOf x).toNat)
        case atStart => exact ⟨0, rfl, Nat.zero_le _, Lib.hid (Below.refl _ _)⟩
        case round =>
          obtain ⟨j, rfl, hj, HZ⟩ := hrel
          by_cases hlt : j < na
          · have hL : j < s.a.length := by rw [HNA.out]; exact hlt
            obtain ⟨b, off, rfl, hbl, hc7⟩ := (RA.out.later HZ.out).at hL
            have hg : s.a[j] = s.a.getD j fno := by rw [List.getD_eq_getElem?_getD, List.getElem?_eq_getElem hL]; rfl
            rw [hg] at hc7
            obtain ⟨k1, k2⟩ := O4.out j
            clear hg
            generalize s.a.getD j fno = f at hc7 k1 k2
            obtain ⟨o, p, q, vv, xx, y, r⟩ := f
            obtain ⟨a0, a1, a2, a3, a4, a5, a6⟩ := hc7
            simp only at a0 a1 a2 a3 a4 a5 a6 k1 k2
            subst k1
            have hov := fun w => Tells.of (over_any ⟨o, p, q, vv, xx, y, 0⟩ w) (v' := .bool false) rfl
            have HOV := Lib.hid hov
            clear hov
            have H0 := Lib.hid k2
            clear k2
            by_cases hj0 : j = 0
            · have g1 : ((j : Int) == 0) = true := by simp [hj0]
              have g2 : decide ((j : Int) > 0) = false := decide_eq_false (by omega)
              have g3 : decide (0 < j) = false := decide_eq_false (by omega)
              have k3 : o = -1 ∨ o = 0 ∨ o = 1 := by have := H0.out; omega
              clear H0 hj0
              rcases k3 with rfl | rfl | rfl
              · go_wp2_with (go_at_call 20; refine (HOV.out _).mono ?_; rintro _ w4 ⟨rfl, z4⟩)
                all_goals
                  go_roundw
                  case rel => exact ⟨j + 1, by go_num, by omega, Lib.hid (HZ.out.trans (z4.mono HZ.out.size))⟩
                  case measure => simp [intOf]; omega
              · go_wp2_with (go_at_call 20; refine (HOV.out _).mono ?_; rintro _ w4 ⟨rfl, z4⟩)
                all_goals
                  go_roundw
                  case rel => exact ⟨j + 1, by go_num, by omega, Lib.hid (HZ.out.trans (z4.mono HZ.out.size))⟩
                  case measure => simp [intOf]; omega
              · go_wp2_with (go_at_call 20; refine (HOV.out _).mono ?_; rintro _ w4 ⟨rfl, z4⟩)
                all_goals
                  go_roundw
                  case rel => exact ⟨j + 1, by go_num, by omega, Lib.hid (HZ.out.trans (z4.mono HZ.out.size))⟩
                  case measure => simp [intOf]; omega
            · have g1 : ((j : Int) == 0) = false := by simp; omega
              have g2 : decide ((j : Int) > 0) = true := decide_eq_true (by omega)
              have g3 : decide (0 < j) = true := decide_eq_true (by omega)
              have k3 : o = -1 ∨ o = 2 := by have := H0.out; omega
              clear H0 hj0
              rcases k3 with rfl | rfl
              · go_wp2_with (go_at_call 20; refine (HOV.out _).mono ?_; rintro _ w4 ⟨rfl, z4⟩)
                all_goals
                  go_roundw
                  case rel => exact ⟨j + 1, by go_num, by omega, Lib.hid (HZ.out.trans (z4.mono HZ.out.size))⟩
                  case measure => simp [intOf]; omega
              · go_wp2_with (go_at_call 20; refine (HOV.out _).mono ?_; rintro _ w4 ⟨rfl, z4⟩)
                all_goals
                  go_roundw
                  case rel => exact ⟨j + 1, by go_num, by omega, Lib.hid (HZ.out.trans (z4.mono HZ.out.size))⟩
                  case measure => simp [intOf]; omega
          · have RO2 := Lib.hid (RO.out.later HZ.out)
            have Z4 := Lib.hid (Z3.out.trans (HZ.out.mono Z3.out.size))
            clear RO HZ RA
            by_cases i0 : ii < 0
            · have g1 : decide (ii < 0) = true := decide_eq_true i0
              go_wp2
              go_ret
              exact ⟨rfl, Z4.out⟩
            · by_cases i1 : (no : Int) ≤ ii
              · have g1 : decide (ii < 0) = false := decide_eq_false i0
                have g2 : decide (ii ≥ (no : Int)) = true := decide_eq_true i1
                go_wp2
                go_ret
                exact ⟨rfl, Z4.out⟩
              · obtain ⟨i, rfl⟩ := Int.eq_ofNat_of_zero_le (show 0 ≤ ii by omega)
                have hio : i < no := by omega
                have hL : i < s.over.length := by rw [HNO.out]; exact hio
                obtain ⟨b, off, rfl, hbl, hc7⟩ := RO2.out.at hL
                have hok := O3.out _ (List.getElem_mem hL)
                have g1 : decide ((i : Int) < 0) = false := decide_eq_false i0
                have g2 : decide ((i : Int) ≥ (no : Int)) = false := decide_eq_false i1
                clear i0 i1
                generalize s.over[i] = f at hc7 hok
                obtain ⟨o, p, q, vv, xx, y, r⟩ := f
                have HC7 := Lib.hid hc7
                have HBL := Lib.hid hbl
                obtain ⟨a0, a1, a2, a3, a4, a5, a6⟩ := hc7
                unfold okO at hok
                simp only at a0 a1 a2 a3 a4 a5 a6 hok
                obtain ⟨k1, k2, k3, k4⟩ := hok
                have hov := fun w => Tells.of (over_any ⟨o, p, q, vv, xx, y, r⟩ w) (v' := .bool true) (by simp [k1])
                have HOV := Lib.hid hov
                clear hov
                rcases k2 with ⟨rfl, ho⟩ | ⟨hq1, hq2, rfl⟩
                · have m4 : (r != 4) = true := by
                    have : ¬ r = 4 := fun e => by have := k3 e; omega
                    simpa using this
                  rcases ho with rfl | rfl
                  · by_cases h2 : r = 2
                    · have m2 : (r != 2) = false := by simp [h2]
                      clear k3 k4 h2
                      go_wp2_with (go_at_call 20; refine (HOV.out _).mono ?_; rintro _ w4 ⟨rfl, z4⟩; obtain ⟨c0, c1, c2, c3, c4, c5, c6⟩ := HC7.out.same (z4.block _ HBL.out); simp only at c0 c2 c6)
                      go_ret
                      exact ⟨rfl, Z4.out.trans (z4.mono Z4.out.size)⟩
                    · have m2 : (r != 2) = true := by simp [h2]
                      clear k3 k4 h2
                      go_wp2_with (go_at_call 20; refine (HOV.out _).mono ?_; rintro _ w4 ⟨rfl, z4⟩; obtain ⟨c0, c1, c2, c3, c4, c5, c6⟩ := HC7.out.same (z4.block _ HBL.out); simp only at c0 c2 c6)
                      go_ret
                      exact ⟨rfl, Z4.out.trans (z4.mono Z4.out.size)⟩
                  · have m2 : (r != 2) = true := by
                      have : ¬ r = 2 := fun e => by have := k4 e; omega
                      simpa using this
                    clear k3 k4
                    go_wp2_with (go_at_call 20; refine (HOV.out _).mono ?_; rintro _ w4 ⟨rfl, z4⟩; obtain ⟨c0, c1, c2, c3, c4, c5, c6⟩ := HC7.out.same (z4.block _ HBL.out); simp only at c0 c2 c6)
                    go_ret
                    exact ⟨rfl, Z4.out.trans (z4.mono Z4.out.size)⟩
                · have m0 : (q == 0) = false := by simp; omega
                  have m1 : decide (q ≥ 1) = true := decide_eq_true (by omega)
                  have m3 : decide (q ≤ th) = true := decide_eq_true (by omega)
                  have m2 : (r != 2) = true := by
                    have : ¬ r = 2 := fun e => by have := k4 e; omega
                    simpa using this
                  by_cases h4 : r = 4
                  · have m4 : (r != 4) = false := by simp [h4]
                    clear k3 k4 h4
                    go_wp2_with (go_at_call 20; refine (HOV.out _).mono ?_; rintro _ w4 ⟨rfl, z4⟩; obtain ⟨c0, c1, c2, c3, c4, c5, c6⟩ := HC7.out.same (z4.block _ HBL.out); simp only at c0 c2 c6)
                    go_ret
                    exact ⟨rfl, Z4.out.trans (z4.mono Z4.out.size)⟩
                  · have m4 : (r != 4) = true := by simp [h4]
                    clear k3 k4 h4
                    go_wp2_with (go_at_call 20; refine (HOV.out _).mono ?_; rintro _ w4 ⟨rfl, z4⟩; obtain ⟨c0, c1, c2, c3, c4, c5, c6⟩ := HC7.out.same (z4.block _ HBL.out); simp only at c0 c2 c6)
                    go_ret
                    exact ⟨rfl, Z4.out.trans (z4.mono Z4.out.size)⟩
    · have d1 : decide ((n : Int) > 60) = false := decide_eq_false (by omega)
      have d2 : decide ((nw : Int) > 500) = true := decide_eq_true (by omega)
      go_wp2
      go_ret
      exact ⟨rfl, Z1.out⟩
  · have d1 : decide ((n : Int) > 60) = true := decide_eq_true (by omega)
    go_wp2
    go_ret
    exact ⟨rfl, Z1.out⟩
end Go.Proofs.Ytpeaahihjeplmaa
