/- The walk of WaitMissed. -/
import Derived.Test.YtpnmgpmmaiinmaaWtF
import Derived.Test.YtpnmgpmmaiinmaaPuL
import Derived.Test.YtpnmgpmmaiinmaaFrH2
import Derived.IntWalk
import Derived.Deep.RegionHeld3
namespace Go.Proofs.Ytpnmgpmmaiinmaa
open Go.RowKit Go.Deep
theorem missed_big (W D J S q e : Int) (A : Option Addr) (n c : Nat) (m : List Int) (w : World) (hm : Rd w A m) (hn : m.length = n) (hs : 500 < n) : Tells 5 #[cf W D J S, .slice A n c, .int .i64 q, .int .u64 e] w (.bool true) := by
  have LM0 := Lib.hid hm
  have HN := Lib.hid hn
  clear hm hn
  have hd : decide ((500 : Int) < (n : Int)) = true := decide_eq_true (by omega)
  go_enter Try.func5, Try.ntmps5
  go_wp2_with fail
  refine (awake_any _).mono ?_
  rintro _ w1 ⟨rfl, z⟩
  have BX := Lib.hid ((Bx.mk w W D J S 23).below z)
  replace z := (box_below w _).trans (z.mono (by simp))
  have Z := Lib.hid z
  have LM := Lib.hid (LM0.out.below z)
  clear z LM0
  obtain ⟨gx, x_0, x_1, x_2, x_3⟩ := BX.out
  go_wp2_with fail
  refine (begin_any 5 q 0 _).mono ?_
  rintro _ w2 ⟨rfl, z⟩
  clear gx x_0 x_1 x_2 x_3
  replace Z := Lib.hid (Z.out.trans (z.mono Z.out.size))
  replace BX := Lib.hid (BX.out.below z)
  replace LM := Lib.hid (LM.out.below z)
  clear z
  go_wp2
  go_ret
  exact ⟨rfl, Z.out.alloc Z.out.size _⟩
theorem missed_no (W D J S q e : Int) (A : Option Addr) (n c : Nat) (m : List Int) (w : World) (hm : Rd w A m) (hn : m.length = n) (hs : n ≤ 500) (ho : okw W D J S m q = false) : Tells 5 #[cf W D J S, .slice A n c, .int .i64 q, .int .u64 e] w (.bool true) := by
  have LM0 := Lib.hid hm
  have HN := Lib.hid hn
  clear hm hn
  have hd : decide ((500 : Int) < (n : Int)) = false := decide_eq_false (by omega)
  have HO := Lib.hid ho
  clear ho
  go_enter Try.func5, Try.ntmps5
  go_wp2_with fail
  refine (awake_any _).mono ?_
  rintro _ w1 ⟨rfl, z⟩
  have BX := Lib.hid ((Bx.mk w W D J S 23).below z)
  replace z := (box_below w _).trans (z.mono (by simp))
  have Z := Lib.hid z
  have LM := Lib.hid (LM0.out.below z)
  clear z LM0
  obtain ⟨gx, x_0, x_1, x_2, x_3⟩ := BX.out
  go_wp2_with fail
  refine (begin_any 5 q 0 _).mono ?_
  rintro _ w2 ⟨rfl, z⟩
  clear gx x_0 x_1 x_2 x_3
  replace Z := Lib.hid (Z.out.trans (z.mono Z.out.size))
  replace BX := Lib.hid (BX.out.below z)
  replace LM := Lib.hid (LM.out.below z)
  clear z
  obtain ⟨gx, x_0, x_1, x_2, x_3⟩ := BX.out
  go_wp2_with fail
  refine (Tells.of (goes_any W D J S 5 5 A n c m (fbg 5 q 0) _ HN.out) (v' := .bool false) (by rw [goes_begun, HO.out])).mono ?_
  rintro _ w3 ⟨rfl, z⟩
  clear gx x_0 x_1 x_2 x_3
  have BF := Lib.hid ((Bf.new w2 (fbg 5 q 0)).after z)
  replace z := keep_call z (bel_alloc w2 _)
  replace Z := Lib.hid (Z.out.trans (z.mono Z.out.size))
  replace BX := Lib.hid (BX.out.below z)
  replace LM := Lib.hid (LM.out.below z)
  clear z
  go_wp2
  go_ret
  exact ⟨rfl, Z.out⟩
theorem missed_same (W D J S q e : Int) (A : Option Addr) (n c : Nat) (m : List Int) (w : World) (hm : Rd w A m) (hn : m.length = n) (hs : n ≤ 500) (ho : okw W D J S m q = true) (hq : e / 65536 = at0 m 2 / 65536) : Tells 5 #[cf W D J S, .slice A n c, .int .i64 q, .int .u64 e] w (.bool true) := by
  have LM0 := Lib.hid hm
  have HN := Lib.hid hn
  clear hm hn
  have hd : decide ((500 : Int) < (n : Int)) = false := decide_eq_false (by omega)
  have HO := Lib.hid ho
  have HS := Lib.hid hs
  obtain ⟨P, hP⟩ : ∃ P, e / 65536 = P := ⟨_, rfl⟩
  have HP := Lib.hid hP
  have HP2 := Lib.hid (hq.symm.trans hP)
  clear ho hs hP hq
  go_enter Try.func5, Try.ntmps5
  go_wp2_with fail
  refine (awake_any _).mono ?_
  rintro _ w1 ⟨rfl, z⟩
  have BX := Lib.hid ((Bx.mk w W D J S 23).below z)
  replace z := (box_below w _).trans (z.mono (by simp))
  have Z := Lib.hid z
  have LM := Lib.hid (LM0.out.below z)
  clear z LM0
  obtain ⟨gx, x_0, x_1, x_2, x_3⟩ := BX.out
  go_wp2_with fail
  refine (begin_any 5 q 0 _).mono ?_
  rintro _ w2 ⟨rfl, z⟩
  clear gx x_0 x_1 x_2 x_3
  replace Z := Lib.hid (Z.out.trans (z.mono Z.out.size))
  replace BX := Lib.hid (BX.out.below z)
  replace LM := Lib.hid (LM.out.below z)
  clear z
  obtain ⟨gx, x_0, x_1, x_2, x_3⟩ := BX.out
  go_wp2_with fail
  refine (Tells.of (goes_any W D J S 5 5 A n c m (fbg 5 q 0) _ HN.out) (v' := .bool true) (by rw [goes_begun, HO.out])).mono ?_
  rintro _ w3 ⟨rfl, z⟩
  clear gx x_0 x_1 x_2 x_3
  have BF := Lib.hid ((Bf.new w2 (fbg 5 q 0)).after z)
  replace z := keep_call z (bel_alloc w2 _)
  replace Z := Lib.hid (Z.out.trans (z.mono Z.out.size))
  replace BX := Lib.hid (BX.out.below z)
  replace LM := Lib.hid (LM.out.below z)
  clear z
  go_wp2_with fail
  refine (Tells.of (epoch_any e _).tells (v' := .int .u64 P) (by rw [HP.out])).mono ?_
  rintro _ w4 ⟨rfl, z⟩
  replace Z := Lib.hid (Z.out.trans (z.mono Z.out.size))
  replace BX := Lib.hid (BX.out.below z)
  replace LM := Lib.hid (LM.out.below z)
  replace BF := Lib.hid (BF.out.after z)
  clear z
  go_wp2_with fail
  refine (load_any A n c m 2 _ LM.out HN.out HS.out).mono ?_
  rintro _ w5 ⟨rfl, z⟩
  replace Z := Lib.hid (Z.out.trans (z.mono Z.out.size))
  replace BX := Lib.hid (BX.out.below z)
  replace LM := Lib.hid (LM.out.below z)
  replace BF := Lib.hid (BF.out.after z)
  clear z
  go_wp2_with fail
  refine (Tells.of (epoch_any (at0 m 2) _).tells (v' := .int .u64 P) (by rw [HP2.out])).mono ?_
  rintro _ w6 ⟨rfl, z⟩
  replace Z := Lib.hid (Z.out.trans (z.mono Z.out.size))
  replace BX := Lib.hid (BX.out.below z)
  replace LM := Lib.hid (LM.out.below z)
  replace BF := Lib.hid (BF.out.after z)
  clear z
  go_wp2
  go_ret
  exact ⟨rfl, Z.out⟩
set_option maxHeartbeats 1000000 in
theorem missed_main (W D J S q e : Int) (A : Option Addr) (n c : Nat) (m : List Int) (w : World) (hm : Rd w A m) (hn : m.length = n) (hs : n ≤ 500) (hu : UM m) (ho : okw W D J S m q = true) (hq : ¬ e / 65536 = at0 m 2 / 65536) : Tells 5 #[cf W D J S, .slice A n c, .int .i64 q, .int .u64 e] w (.bool true) := by
  have hlong := okw_long ho
  obtain ⟨m1, hm1⟩ : ∃ m1, m1 = put m 2 e := ⟨_, rfl⟩
  have ho1 : okw W D J S m1 q = true := by rw [hm1]; exact okw_put ho _ _
  have ea : at0 m1 2 = e := by rw [hm1]; exact at0_put _ (by omega) (by omega)
  have e1 := waitS_0 (v := 0) (x := 0) (y := 0) ho
  have e2 := waitS_1 (v := 0) (x := at0 m 2) (y := 0) ho1
  rw [ea, if_neg hq] at e2
  have hul := at0_U hu 2
  have hn1 : m1.length = n := by rw [hm1, len_put]; exact hn
  obtain ⟨P, hP⟩ : ∃ P, e / 65536 = P := ⟨_, rfl⟩
  obtain ⟨Q, hQ⟩ : ∃ Q, at0 m 2 / 65536 = Q := ⟨_, rfl⟩
  rw [hP, hQ] at hq
  have hpq : (P == Q) = false := by simpa using hq
  have HQ := Lib.hid hQ
  have HLL := Lib.hid (show at0 m 2 = at0 m 2 from rfl)
  have LM0 := Lib.hid hm
  have HN := Lib.hid hn
  clear hm hn
  have hd : decide ((500 : Int) < (n : Int)) = false := decide_eq_false (by omega)
  have HO := Lib.hid ho
  have HS := Lib.hid hs
  have HP := Lib.hid hP
  have HE1 := Lib.hid e1
  have HE2 := Lib.hid e2
  have HN1 := Lib.hid hn1
  have HM1 := Lib.hid hm1
  have HUL := Lib.hid hul
  clear ho hs hP hQ e1 e2 hn1 hm1 hul hu hq ho1 ea hlong
  go_enter Try.func5, Try.ntmps5
  go_wp2_with fail
  refine (awake_any _).mono ?_
  rintro _ w1 ⟨rfl, z⟩
  have BX := Lib.hid ((Bx.mk w W D J S 23).below z)
  replace z := (box_below w _).trans (z.mono (by simp))
  have Z := Lib.hid z
  have LM := Lib.hid (LM0.out.below z)
  clear z LM0
  obtain ⟨gx, x_0, x_1, x_2, x_3⟩ := BX.out
  go_wp2_with fail
  refine (begin_any 5 q 0 _).mono ?_
  rintro _ w2 ⟨rfl, z⟩
  clear gx x_0 x_1 x_2 x_3
  replace Z := Lib.hid (Z.out.trans (z.mono Z.out.size))
  replace BX := Lib.hid (BX.out.below z)
  replace LM := Lib.hid (LM.out.below z)
  clear z
  obtain ⟨gx, x_0, x_1, x_2, x_3⟩ := BX.out
  go_wp2_with fail
  refine (Tells.of (goes_any W D J S 5 5 A n c m (fbg 5 q 0) _ HN.out) (v' := .bool true) (by rw [goes_begun, HO.out])).mono ?_
  rintro _ w3 ⟨rfl, z⟩
  clear gx x_0 x_1 x_2 x_3
  have BF := Lib.hid ((Bf.new w2 (fbg 5 q 0)).after z)
  replace z := keep_call z (bel_alloc w2 _)
  replace Z := Lib.hid (Z.out.trans (z.mono Z.out.size))
  replace BX := Lib.hid (BX.out.below z)
  replace LM := Lib.hid (LM.out.below z)
  clear z
  go_wp2_with fail
  refine (Tells.of (epoch_any e _).tells (v' := .int .u64 P) (by rw [HP.out])).mono ?_
  rintro _ w4 ⟨rfl, z⟩
  replace Z := Lib.hid (Z.out.trans (z.mono Z.out.size))
  replace BX := Lib.hid (BX.out.below z)
  replace LM := Lib.hid (LM.out.below z)
  replace BF := Lib.hid (BF.out.after z)
  clear z
  go_wp2_with fail
  refine (load_any A n c m 2 _ LM.out HN.out HS.out).mono ?_
  rintro _ w5 ⟨rfl, z⟩
  replace Z := Lib.hid (Z.out.trans (z.mono Z.out.size))
  replace BX := Lib.hid (BX.out.below z)
  replace LM := Lib.hid (LM.out.below z)
  replace BF := Lib.hid (BF.out.after z)
  clear z
  go_wp2_with fail
  refine (Tells.of (epoch_any (at0 m 2) _).tells (v' := .int .u64 Q) (by rw [HQ.out])).mono ?_
  rintro _ w6 ⟨rfl, z⟩
  replace Z := Lib.hid (Z.out.trans (z.mono Z.out.size))
  replace BX := Lib.hid (BX.out.below z)
  replace LM := Lib.hid (LM.out.below z)
  replace BF := Lib.hid (BF.out.after z)
  clear z
  obtain ⟨gx, x_0, x_1, x_2, x_3⟩ := BX.out
  obtain ⟨a0, a1, a2, a3, a4, a5, a6⟩ := BF.out.cells
  have la := BF.out.lt
  simp only [fbg] at a0 a1 a2 a3 a4 a5 a6
  go_wp2_with fail
  refine (wait_n (f := fbg 5 q 0) LM.out HN.out HS.out ⟨U0, U0, U0⟩ HE1.out).mono ?_
  rintro _ w7 ⟨A7, c7, rfl, hn7, z⟩
  clear gx x_0 x_1 x_2 x_3 a0 a1 a2 a3 a4 a5 a6 la
  replace Z := Lib.hid (Z.out.trans (z.mono Z.out.size))
  replace BX := Lib.hid (BX.out.below z)
  replace LM := Lib.hid (LM.out.below z)
  replace BF := Lib.hid (BF.out.after z)
  have LA := Lib.hid hn7.rd
  clear hn7 z
  obtain ⟨gx, x_0, x_1, x_2, x_3⟩ := BX.out
  go_wp2_with fail
  refine (store_new A7 n c7 m 2 e _ (LA.out.alloc _) HN.out HS.out).mono ?_
  rintro _ w8 ⟨g8, rfl, hg8, hb8, z⟩
  clear gx x_0 x_1 x_2 x_3
  have BG := Lib.hid ((Bf.new w7 ⟨5, 1, q, 0, at0 m 2, 0, 0⟩).after z)
  replace z := keep_call z (bel_alloc w7 _)
  replace Z := Lib.hid (Z.out.trans (z.mono Z.out.size))
  replace BX := Lib.hid (BX.out.below z)
  replace LM := Lib.hid (LM.out.below z)
  replace BF := Lib.hid (BF.out.after z)
  replace LA := Lib.hid (LA.out.below z)
  have L1 := Lib.hid (show Rd w8 (some ⟨g8, 0, none⟩) m1 by rw [HM1.out]; exact hb8.rd)
  clear hg8 hb8 z
  obtain ⟨gx, x_0, x_1, x_2, x_3⟩ := BX.out
  obtain ⟨b0, b1, b2, b3, b4, b5, b6⟩ := BG.out.cells
  have lb := BG.out.lt
  simp only at b0 b1 b2 b3 b4 b5 b6
  go_wp2_with fail
  refine (wait_n L1.out HN1.out HS.out ⟨U0, HUL.out, U0⟩ HE2.out).mono ?_
  rintro _ w9 ⟨A9, c9, rfl, hn9, z⟩
  clear gx x_0 x_1 x_2 x_3 b0 b1 b2 b3 b4 b5 b6 lb
  replace Z := Lib.hid (Z.out.trans (z.mono Z.out.size))
  replace BX := Lib.hid (BX.out.below z)
  replace LM := Lib.hid (LM.out.below z)
  replace BF := Lib.hid (BF.out.after z)
  replace LA := Lib.hid (LA.out.below z)
  replace BG := Lib.hid (BG.out.after z)
  replace L1 := Lib.hid (L1.out.below z)
  have LB := Lib.hid hn9.rd
  clear hn9 z
  go_wp2_with fail
  refine (ret_of (same_any A9 (some ⟨g8, 0, none⟩) n c9 n n m1 m1 _ (LB.out.alloc _) (L1.out.alloc _) HN1.out HN1.out (by have := HS.out; omega)) (v' := .bool true) (by simp)).mono ?_
  rintro _ w10 ⟨rfl, z⟩
  have BH := Lib.hid ((Bf.new w9 ⟨5, 0, q, 0, 0, 0, 4⟩).after z)
  replace z := keep_call z (bel_alloc w9 _)
  replace Z := Lib.hid (Z.out.trans (z.mono Z.out.size))
  replace BX := Lib.hid (BX.out.below z)
  replace LM := Lib.hid (LM.out.below z)
  replace BF := Lib.hid (BF.out.after z)
  replace LA := Lib.hid (LA.out.below z)
  replace BG := Lib.hid (BG.out.after z)
  replace L1 := Lib.hid (L1.out.below z)
  replace LB := Lib.hid (LB.out.below z)
  clear z
  go_wp2
  go_ret
  exact ⟨rfl, Z.out⟩
theorem missed_walk (W D J S q e : Int) (A : Option Addr) (n c : Nat) (m : List Int) (w : World) (hm : Rd w A m) (hn : m.length = n) (hu : UM m) : Tells 5 #[cf W D J S, .slice A n c, .int .i64 q, .int .u64 e] w (.bool true) := by
  by_cases hs : n ≤ 500
  · cases ho : okw W D J S m q
    · exact missed_no W D J S q e A n c m w hm hn hs ho
    · by_cases hq : e / 65536 = at0 m 2 / 65536
      · exact missed_same W D J S q e A n c m w hm hn hs ho hq
      · exact missed_main W D J S q e A n c m w hm hn hs hu ho hq
  · exact missed_big W D J S q e A n c m w hm hn (by omega)
end Go.Proofs.Ytpnmgpmmaiinmaa
