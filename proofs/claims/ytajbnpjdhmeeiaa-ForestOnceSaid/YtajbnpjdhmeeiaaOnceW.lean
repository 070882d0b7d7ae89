/- The walk of ForestOnce. -/
import Derived.Test.YtajbnpjdhmeeiaaFoP
namespace Go.Proofs.Ytajbnpjdhmeeiaa
open Go.RowKit Go.Deep
theorem once_few (A : Option Addr) (c : Nat) (T : List Tsk) (k : Int) (w : World) (ha : Came w A T.length T) (h : few T = false) : Tells 4 #[.slice A T.length c, .int .i64 k] w (.bool true) := by
  have HA := Lib.hid ha
  have H := Lib.hid h
  clear ha h
  go_enter Try.func4, Try.ntmps4
  go_wp2_with fail
  refine (awake_any _).mono ?_
  rintro _ w1 ⟨rfl, z1⟩
  have Z := Lib.hid z1
  clear z1
  go_wp2_with fail
  refine (Gives.of (few_any A c w.heap.size T w1 (HA.out.2.2.2.below Z.out) HA.out.2.1 HA.out.2.2.1) (v' := .bool false) (by rw [H.out])).mono ?_
  rintro _ _ ⟨rfl, rfl⟩
  go_wp2
  go_ret
  exact ⟨rfl, Z.out⟩
theorem once_may (A : Option Addr) (c : Nat) (T : List Tsk) (k : Int) (w : World) (ha : Came w A T.length T) (h : few T = true) (hm : may T = false) : Tells 4 #[.slice A T.length c, .int .i64 k] w (.bool true) := by
  have HA := Lib.hid ha
  have H := Lib.hid h
  have HS := Lib.hid (few_sm h)
  have hs1 := (few_sm h).1
  have HM := Lib.hid hm
  clear ha h hm
  go_enter Try.func4, Try.ntmps4
  go_wp2_with fail
  refine (awake_any _).mono ?_
  rintro _ w1 ⟨rfl, z1⟩
  have Z := Lib.hid z1
  clear z1
  go_wp2_with fail
  refine (Gives.of (few_any A c w.heap.size T w1 (HA.out.2.2.2.below Z.out) HA.out.2.1 HA.out.2.2.1) (v' := .bool true) (by rw [H.out])).mono ?_
  rintro _ _ ⟨rfl, rfl⟩
  go_wp2_with fail
  refine (Tells.of (may_any A c w.heap.size T _ (HA.out.2.2.2.below Z.out) Z.out.size HS.out) (v' := .bool false) (by rw [HM.out])).mono ?_
  rintro _ w2 ⟨rfl, z2⟩
  replace Z := Lib.hid (Z.out.trans (z2.mono Z.out.size))
  clear z2
  go_wp2
  go_ret
  exact ⟨rfl, Z.out⟩
theorem once_lo (A : Option Addr) (c : Nat) (T : List Tsk) (k : Int) (w : World) (ha : Came w A T.length T) (h : few T = true) (hm : may T = true) (hk : k < 0) : Tells 4 #[.slice A T.length c, .int .i64 k] w (.bool true) := by
  have HA := Lib.hid ha
  have H := Lib.hid h
  have HS := Lib.hid (few_sm h)
  have hs1 := (few_sm h).1
  have HM := Lib.hid hm
  clear ha h hm
  go_enter Try.func4, Try.ntmps4
  go_wp2_with fail
  refine (awake_any _).mono ?_
  rintro _ w1 ⟨rfl, z1⟩
  have Z := Lib.hid z1
  clear z1
  go_wp2_with fail
  refine (Gives.of (few_any A c w.heap.size T w1 (HA.out.2.2.2.below Z.out) HA.out.2.1 HA.out.2.2.1) (v' := .bool true) (by rw [H.out])).mono ?_
  rintro _ _ ⟨rfl, rfl⟩
  go_wp2_with fail
  refine (Tells.of (may_any A c w.heap.size T _ (HA.out.2.2.2.below Z.out) Z.out.size HS.out) (v' := .bool true) (by rw [HM.out])).mono ?_
  rintro _ w2 ⟨rfl, z2⟩
  replace Z := Lib.hid (Z.out.trans (z2.mono Z.out.size))
  clear z2
  go_wp2
  go_ret
  exact ⟨rfl, Z.out⟩
theorem once_hi (A : Option Addr) (c : Nat) (T : List Tsk) (k : Int) (w : World) (ha : Came w A T.length T) (h : few T = true) (hm : may T = true) (hk : (T.length : Int) ≤ k) : Tells 4 #[.slice A T.length c, .int .i64 k] w (.bool true) := by
  have HA := Lib.hid ha
  have H := Lib.hid h
  have HS := Lib.hid (few_sm h)
  have hs1 := (few_sm h).1
  have HM := Lib.hid hm
  clear ha h hm
  have hk' : ¬ k < 0 := by omega
  go_enter Try.func4, Try.ntmps4
  go_wp2_with fail
  refine (awake_any _).mono ?_
  rintro _ w1 ⟨rfl, z1⟩
  have Z := Lib.hid z1
  clear z1
  go_wp2_with fail
  refine (Gives.of (few_any A c w.heap.size T w1 (HA.out.2.2.2.below Z.out) HA.out.2.1 HA.out.2.2.1) (v' := .bool true) (by rw [H.out])).mono ?_
  rintro _ _ ⟨rfl, rfl⟩
  go_wp2_with fail
  refine (Tells.of (may_any A c w.heap.size T _ (HA.out.2.2.2.below Z.out) Z.out.size HS.out) (v' := .bool true) (by rw [HM.out])).mono ?_
  rintro _ w2 ⟨rfl, z2⟩
  replace Z := Lib.hid (Z.out.trans (z2.mono Z.out.size))
  clear z2
  go_wp2
  go_ret
  exact ⟨rfl, Z.out⟩
set_option maxRecDepth 100000 in
set_option maxHeartbeats 4000000 in
theorem once_all (A : Option Addr) (c : Nat) (T : List Tsk) (k : Nat) (w : World) (ha : Came w A T.length T) (h : few T = true) (hm : may T = true) (hk : k < T.length) : Tells 4 #[.slice A T.length c, .int .i64 k] w (.bool true) := by
  obtain ⟨hl30, hwk, hok⟩ := may_parts hm
  have HO := Lib.hid hok
  have C1 := Lib.hid (LL_once hok (k := k) (by omega) (by omega))
  have C2 := Lib.hid (LL_len hok)
  have hk0 : decide ((k : Int) < 0) = false := decide_eq_false (by omega)
  have hk1 : decide (T.length ≤ k) = false := decide_eq_false (by omega)
  clear hok hwk
  have HA := Lib.hid ha
  have H := Lib.hid h
  have HS := Lib.hid (few_sm h)
  have hs1 := (few_sm h).1
  have HM := Lib.hid hm
  clear ha h hm
  go_enter Try.func4, Try.ntmps4
  go_wp2_with fail
  refine (awake_any _).mono ?_
  rintro _ w1 ⟨rfl, z1⟩
  have Z := Lib.hid z1
  clear z1
  go_wp2_with fail
  refine (Gives.of (few_any A c w.heap.size T w1 (HA.out.2.2.2.below Z.out) HA.out.2.1 HA.out.2.2.1) (v' := .bool true) (by rw [H.out])).mono ?_
  rintro _ _ ⟨rfl, rfl⟩
  go_wp2_with fail
  refine (Tells.of (may_any A c w.heap.size T _ (HA.out.2.2.2.below Z.out) Z.out.size HS.out) (v' := .bool true) (by rw [HM.out])).mono ?_
  rintro _ w2 ⟨rfl, z2⟩
  replace Z := Lib.hid (Z.out.trans (z2.mono Z.out.size))
  clear z2
  go_wp2_with fail
  have C := roots_any A c w.heap.size T w2 (HA.out.2.2.2.below Z.out) Z.out.size HS.out
  unfold rts at C
  rw [if_pos HM.out] at C
  refine C.mono ?_
  rintro _ w3 ⟨R, e, rfl, hr, z2⟩
  replace Z := Lib.hid (Z.out.trans (z2.mono Z.out.size))
  have HR := Lib.hid hr
  have hrl := rtN_le T T.length
  clear z2 hr C
  go_wp2_with fail
  go_loopw [8, 9, 10] (fun a b i wr => ∃ j : Nat, j ≤ (rtN T T.length).length ∧ i = .int .i64 j ∧ a = .int .i64 ((LJ T j).count (k : Int)) ∧ b = .int .i64 (LJ T j).length ∧ Below w3.heap.size w3 wr) (fun _ _ i _ => (rtN T T.length).length - (intOf i).toNat)
  case atStart => exact ⟨0, Nat.zero_le _, rfl, rfl, rfl, Below.refl _ _⟩
  case round =>
    obtain ⟨j, hj, rfl, rfl, rfl, hb⟩ := hrel
    have HB := Lib.hid hb
    clear hb
    by_cases hlt : j < (rtN T T.length).length
    · obtain ⟨rb, ro, rfl, hrl2, rc⟩ := (HR.out.below HB.out).at hlt
      obtain ⟨q, hq, hql, _⟩ := rtN_at hlt
      have s1 := LJ_succ hlt
      have s2 := LJ_le hlt
      rw [hq] at rc s1 s2
      rw [Int.toNat_natCast] at s1 s2
      rw [C2.out] at s2
      have S1 := Lib.hid s1
      clear hq s1
      have ZZ := Lib.hid (Z.out.trans (HB.out.mono Z.out.size))
      go_wp2_with fail
      have C := under_any A c w.heap.size T q _ (HA.out.2.2.2.below ZZ.out) ZZ.out.size HS.out
      rw [und_yes HM.out hql] at C
      refine C.mono ?_
      rintro _ w5 ⟨R5, e5, rfl, hr5, z5⟩
      have HR5 := Lib.hid hr5
      have HB5 := Lib.hid (HB.out.trans (z5.mono HB.out.size))
      have hc1 : (LJ T j).count (k : Int) ≤ (LJ T j).length := List.count_le_length
      clear z5 hr5 C HB ZZ rc
      generalize hU : U1 T q = U at *
      have HU := Lib.hid hU
      clear hU
      go_wp2_with fail
      go_loop [8, 12] (fun a i => ∃ m : Nat, m ≤ U.length ∧ i = .int .i64 m ∧ a = .int .i64 ((LJ T j).count (k : Int) + (U.take m).count (k : Int) : Nat)) (fun _ i => U.length - (intOf i).toNat)
      case atStart => exact ⟨0, Nat.zero_le _, rfl, by simp⟩
      case round =>
        obtain ⟨m, hm, rfl, rfl⟩ := hrel
        have hc2 : (U.take m).count (k : Int) ≤ (U.take m).length := List.count_le_length
        have hc3 : (U.take m).length ≤ U.length := by simp; omega
        by_cases hml : m < U.length
        · obtain ⟨ub, uo, rfl, _, uc⟩ := HR5.out.at hml
          have CT := Lib.hid (count_take hml (k : Int))
          generalize hx : U[m] = x at *
          have HX := Lib.hid hx
          clear hx
          by_cases hxk : x = k
          · subst hxk
            go_wp2
            go_round
            case rel => exact ⟨m + 1, by omega, by go_num, by rw [CT.out, if_pos rfl]; go_num⟩
            case measure => simp [intOf]; omega
          · have hxk' : (x == (k : Int)) = false := by simpa using hxk
            have HXK := Lib.hid hxk
            clear hxk
            go_wp2
            go_round
            case rel => exact ⟨m + 1, by omega, by go_num, by rw [CT.out, if_neg HXK.out]; rfl⟩
            case measure => simp [intOf]; omega
        · go_wp2
          go_roundw
          case rel => exact ⟨j + 1, by omega, by go_num, by rw [S1.out, List.count_append, List.take_of_length_le (by omega)], by rw [S1.out, List.length_append]; go_num, HB5.out⟩
          case measure => simp [intOf]; omega
    · obtain rfl : j = (rtN T T.length).length := by omega
      have ZZ := Lib.hid (Z.out.trans (HB.out.mono Z.out.size))
      rw [LJ_end, C1.out, C2.out]
      have hp1 := pa_lt HO.out (k := k) (by omega)
      have hp2 := pa_ge T k
      go_wp2_with fail
      refine (Tells.of (parent_any A c w.heap.size T k _ (HA.out.2.2.2.below ZZ.out) ZZ.out.size HS.out) (v' := .int .i64 (pa T k)) (by rw [par_yes HM.out])).mono ?_
      rintro _ w6 ⟨rfl, z6⟩
      replace ZZ := Lib.hid (ZZ.out.trans (z6.mono ZZ.out.size))
      clear z6
      go_wp2
      go_ret
      exact ⟨rfl, ZZ.out⟩
theorem forestOnce_walk (A : Option Addr) (n c : Nat) (T : List Tsk) (k : Int) (w : World) (ha : Came w A n T) : Tells 4 #[.slice A n c, .int .i64 k] w (.bool true) := by
  obtain rfl := ha.1
  cases h : few T
  · exact once_few A c T k w ha h
  · cases hm : may T
    · exact once_may A c T k w ha h hm
    · by_cases h1 : k < 0
      · exact once_lo A c T k w ha h hm h1
      · by_cases h2 : (T.length : Int) ≤ k
        · exact once_hi A c T k w ha h hm h2
        · obtain ⟨q, rfl⟩ : ∃ q : Nat, k = q := ⟨k.toNat, by omega⟩
          exact once_all A c T q w ha h hm (by omega)
end Go.Proofs.Ytajbnpjdhmeeiaa
