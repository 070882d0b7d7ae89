/- The walk of ForestSums. -/
import Derived.Test.YtajbnpjdhmeeiaaFoP
namespace Go.Proofs.Ytajbnpjdhmeeiaa
open Go.RowKit Go.Deep
theorem LJ_mem {T : List Tsk} (h : okP T.length (sp T)) {j : Nat} (x : Int) (hx : x ∈ LJ T j) : 0 ≤ x ∧ x < T.length := by
  obtain ⟨r, hr, hx⟩ := List.mem_flatMap.1 hx
  have h1 := mem_rtN.1 (List.mem_of_mem_take hr)
  have := U1_in h (r := r.toNat) (by omega) hx
  omega
theorem sums_few (A : Option Addr) (c : Nat) (T : List Tsk) (w : World) (ha : Came w A T.length T) (h : few T = false) : Tells 9 #[.slice A T.length c] w (.bool true) := by
  have HA := Lib.hid ha
  have H := Lib.hid h
  clear ha h
  go_enter Try.func9, Try.ntmps9
  go_wp2_with fail
  refine (awake_any _).mono ?_
  rintro _ w1 ⟨rfl, z1⟩
  have Z := Lib.hid z1
  clear z1
  go_wp2_with fail
  refine (Gives.of (few_any A c w.heap.size T w1 (HA.out.2.2.2.below Z.out) HA.out.2.1 HA.out.2.2.1) (v' := .bool false) (by rw [H.out])).mono ?_
  rintro _ _ ⟨rfl, rfl⟩
  go_wp2
  go_ret
  exact ⟨rfl, Z.out⟩
theorem sums_may (A : Option Addr) (c : Nat) (T : List Tsk) (w : World) (ha : Came w A T.length T) (h : few T = true) (hm : may T = false) : Tells 9 #[.slice A T.length c] w (.bool true) := by
  have HA := Lib.hid ha
  have H := Lib.hid h
  have HS := Lib.hid (few_sm h)
  have hs1 := (few_sm h).1
  have HM := Lib.hid hm
  clear ha h hm
  go_enter Try.func9, Try.ntmps9
  go_wp2_with fail
  refine (awake_any _).mono ?_
  rintro _ w1 ⟨rfl, z1⟩
  have Z := Lib.hid z1
  clear z1
  go_wp2_with fail
  refine (Gives.of (few_any A c w.heap.size T w1 (HA.out.2.2.2.below Z.out) HA.out.2.1 HA.out.2.2.1) (v' := .bool true) (by rw [H.out])).mono ?_
  rintro _ _ ⟨rfl, rfl⟩
  go_wp2_with fail
  refine (Tells.of (sums_any A c w.heap.size T _ (HA.out.2.2.2.below Z.out) Z.out.size HS.out) (v' := .tuple #[.int .i64 0, .int .i64 0]) (by unfold sms; rw [HM.out]; rfl)).mono ?_
  rintro _ w2 ⟨rfl, z2⟩
  replace Z := Lib.hid (Z.out.trans (z2.mono Z.out.size))
  clear z2
  go_wp2_with fail
  refine (Tells.of (may_any A c w.heap.size T _ (HA.out.2.2.2.below Z.out) Z.out.size HS.out) (v' := .bool false) (by rw [HM.out])).mono ?_
  rintro _ w3 ⟨rfl, z2⟩
  replace Z := Lib.hid (Z.out.trans (z2.mono Z.out.size))
  clear z2
  go_wp2
  go_ret
  exact ⟨rfl, Z.out⟩
set_option maxRecDepth 100000 in
set_option maxHeartbeats 4000000 in
theorem sums_all (A : Option Addr) (c : Nat) (T : List Tsk) (w : World) (ha : Came w A T.length T) (h : few T = true) (hm : may T = true) : Tells 9 #[.slice A T.length c] w (.bool true) := by
  obtain ⟨hl30, hwk, hok⟩ := may_parts hm
  have HO := Lib.hid hok
  have HW := Lib.hid hwk
  have C1 := Lib.hid (wsm_LL hok)
  have C2 := Lib.hid (LL_len hok)
  clear hok hwk
  have HA := Lib.hid ha
  have H := Lib.hid h
  have HS := Lib.hid (few_sm h)
  have hs1 := (few_sm h).1
  have HM := Lib.hid hm
  clear ha h hm
  go_enter Try.func9, Try.ntmps9
  go_wp2_with fail
  refine (awake_any _).mono ?_
  rintro _ w1 ⟨rfl, z1⟩
  have Z := Lib.hid z1
  clear z1
  go_wp2_with fail
  refine (Gives.of (few_any A c w.heap.size T w1 (HA.out.2.2.2.below Z.out) HA.out.2.1 HA.out.2.2.1) (v' := .bool true) (by rw [H.out])).mono ?_
  rintro _ _ ⟨rfl, rfl⟩
  go_wp2_with fail
  refine (Tells.of (sums_any A c w.heap.size T _ (HA.out.2.2.2.below Z.out) Z.out.size HS.out) (v' := .tuple #[.int .i64 T.length, .int .i64 (smN T T.length)]) (by unfold sms; rw [HM.out]; rfl)).mono ?_
  rintro _ w8 ⟨rfl, z2⟩
  replace Z := Lib.hid (Z.out.trans (z2.mono Z.out.size))
  clear z2
  go_wp2_with fail
  refine (Tells.of (may_any A c w.heap.size T _ (HA.out.2.2.2.below Z.out) Z.out.size HS.out) (v' := .bool true) (by rw [HM.out])).mono ?_
  rintro _ w2 ⟨rfl, z2⟩
  replace Z := Lib.hid (Z.out.trans (z2.mono Z.out.size))
  clear z2
  go_wp2_with fail
  have C := roots_any A c w.heap.size T w2 (HA.out.2.2.2.below Z.out) Z.out.size HS.out
  unfold rts at C
  rw [if_pos HM.out] at C
  refine C.mono ?_
  rintro _ w3 ⟨R, e, rfl, hr, z2⟩
  replace Z := Lib.hid (Z.out.trans (z2.mono Z.out.size))
  have HR := Lib.hid hr
  have hrl := rtN_le T T.length
  clear z2 hr C
  go_wp2_with fail
  go_loopw [8, 9, 10] (fun a b i wr => ∃ j : Nat, j ≤ (rtN T T.length).length ∧ i = .int .i64 j ∧ a = .int .i64 (LJ T j).length ∧ b = .int .i64 (wsm T (LJ T j)) ∧ Below w3.heap.size w3 wr) (fun _ _ i _ => (rtN T T.length).length - (intOf i).toNat)
  case atStart => exact ⟨0, Nat.zero_le _, rfl, rfl, rfl, Below.refl _ _⟩
  case round =>
    obtain ⟨j, hj, rfl, rfl, rfl, hb⟩ := hrel
    have HB := Lib.hid hb
    clear hb
    by_cases hlt : j < (rtN T T.length).length
    · obtain ⟨rb, ro, rfl, hrl2, rc⟩ := (HR.out.below HB.out).at hlt
      obtain ⟨q, hq, hql, _⟩ := rtN_at hlt
      have s1 := LJ_succ hlt
      have s2 := LJ_le hlt
      rw [hq] at rc s1 s2
      rw [Int.toNat_natCast] at s1 s2
      rw [C2.out] at s2
      have S1 := Lib.hid s1
      clear hq s1
      have ZZ := Lib.hid (Z.out.trans (HB.out.mono Z.out.size))
      go_wp2_with fail
      have C := under_any A c w.heap.size T q _ (HA.out.2.2.2.below ZZ.out) ZZ.out.size HS.out
      rw [und_yes HM.out hql] at C
      refine C.mono ?_
      rintro _ w5 ⟨R5, e5, rfl, hr5, z5⟩
      have HR5 := Lib.hid hr5
      have HB5 := Lib.hid (HB.out.trans (z5.mono HB.out.size))
      have Z5 := Lib.hid (Z.out.trans (HB5.out.mono Z.out.size))
      obtain ⟨b1, b2⟩ := wsm_le HW.out (LJ T j) (LJ_mem HO.out)
      have UI := Lib.hid (fun x (hx : x ∈ U1 T q) => (show 0 ≤ x ∧ x < T.length from by have := U1_in HO.out hql hx; omega))
      clear z5 hr5 C HB ZZ rc
      generalize hU : U1 T q = U at *
      have HU := Lib.hid hU
      clear hU
      go_wp2_with fail
      go_loop [9, 12] (fun a i => ∃ m : Nat, m ≤ U.length ∧ i = .int .i64 m ∧ a = .int .i64 (wsm T (LJ T j) + wsm T (U.take m))) (fun _ i => U.length - (intOf i).toNat)
      case atStart => exact ⟨0, Nat.zero_le _, rfl, by simp [wsm]⟩
      case round =>
        obtain ⟨m, hm, rfl, rfl⟩ := hrel
        obtain ⟨b3, b4⟩ := wsm_le HW.out (U.take m) (fun x hx => UI.out x (List.mem_of_mem_take hx))
        have hc3 : (U.take m).length ≤ U.length := by simp; omega
        by_cases hml : m < U.length
        · obtain ⟨ub, uo, rfl, _, uc⟩ := HR5.out.at hml
          obtain ⟨x, hx⟩ : ∃ x : Nat, U[m] = (x : Int) := ⟨U[m].toNat, by have := UI.out _ (List.getElem_mem hml); omega⟩
          have hxl : x < T.length := by have := UI.out _ (List.getElem_mem hml); omega
          have wt := wsm_take (T := T) hml
          rw [hx, wsm_one x hxl] at wt
          rw [hx] at uc
          have WT := Lib.hid wt
          obtain ⟨n1, n2⟩ := wk_at HW.out hxl
          obtain ⟨tb, to, tK, tc, rfl, htl, t0, _, _⟩ := (HA.out.2.2.2.below Z5.out).at hxl
          have hx0 : ¬ (x : Int) < 0 := by omega
          have hx1 : ¬ T.length ≤ x := by omega
          clear hx wt
          go_wp2
          go_round
          case rel => exact ⟨m + 1, by omega, by go_num, by rw [WT.out]; go_num⟩
          case measure => simp [intOf]; omega
        · go_wp2
          go_roundw
          case rel => exact ⟨j + 1, by omega, by go_num, by rw [S1.out, List.length_append]; go_num, by rw [S1.out, wsm_append, List.take_of_length_le (by omega)], HB5.out⟩
          case measure => simp [intOf]; omega
    · obtain rfl : j = (rtN T T.length).length := by omega
      have ZZ := Lib.hid (Z.out.trans (HB.out.mono Z.out.size))
      rw [LJ_end, C1.out, C2.out]
      go_wp2
      go_ret
      exact ⟨rfl, ZZ.out⟩
theorem forestSums_walk (A : Option Addr) (n c : Nat) (T : List Tsk) (w : World) (ha : Came w A n T) : Tells 9 #[.slice A n c] w (.bool true) := by
  obtain rfl := ha.1
  cases h : few T
  · exact sums_few A c T w ha h
  · cases hm : may T
    · exact sums_may A c T w ha h hm
    · exact sums_all A c T w ha h hm
end Go.Proofs.Ytajbnpjdhmeeiaa
