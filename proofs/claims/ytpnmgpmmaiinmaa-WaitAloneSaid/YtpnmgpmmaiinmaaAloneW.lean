/- The walk of WaitAlone. -/
import Derived.Test.YtpnmgpmmaiinmaaWtF
import Derived.Test.YtpnmgpmmaiinmaaCuL
import Derived.Test.YtpnmgpmmaiinmaaPuL
import Derived.Test.YtpnmgpmmaiinmaaFrH2
import Derived.IntWalk
import Derived.Deep.RegionHeld3
namespace Go.Proofs.Ytpnmgpmmaiinmaa
open Go.RowKit Go.Deep
theorem alone_big (W D J S q v : Int) (A : Option Addr) (n c : Nat) (m : List Int) (w : World) (hm : Rd w A m) (hn : m.length = n) (hs : 500 < n) : Tells 4 #[cf W D J S, .slice A n c, .int .i64 q, .int .u64 v] w (.bool true) := by
  have LM0 := Lib.hid hm
  have HN := Lib.hid hn
  clear hm hn
  have hd : decide ((500 : Int) < (n : Int)) = true := decide_eq_true (by omega)
  go_enter Try.func4, Try.ntmps4
  go_wp2_with fail
  refine (awake_any _).mono ?_
  rintro _ w1 ⟨rfl, z⟩
  have BX := Lib.hid ((Bx.mk w W D J S 23).below z)
  replace z := (box_below w _).trans (z.mono (by simp))
  have Z := Lib.hid z
  have LM := Lib.hid (LM0.out.below z)
  clear z LM0
  obtain ⟨gx, x_0, x_1, x_2, x_3⟩ := BX.out
  go_wp2_with fail
  refine (begin_any 5 q 0 _).mono ?_
  rintro _ w2 ⟨rfl, z⟩
  clear gx x_0 x_1 x_2 x_3
  replace Z := Lib.hid (Z.out.trans (z.mono Z.out.size))
  replace BX := Lib.hid (BX.out.below z)
  replace LM := Lib.hid (LM.out.below z)
  clear z
  go_wp2
  go_ret
  exact ⟨rfl, Z.out.alloc Z.out.size _⟩
theorem alone_no (W D J S q v : Int) (A : Option Addr) (n c : Nat) (m : List Int) (w : World) (hm : Rd w A m) (hn : m.length = n) (hs : n ≤ 500) (ho : okw W D J S m q = false) : Tells 4 #[cf W D J S, .slice A n c, .int .i64 q, .int .u64 v] w (.bool true) := by
  have LM0 := Lib.hid hm
  have HN := Lib.hid hn
  clear hm hn
  have hd : decide ((500 : Int) < (n : Int)) = false := decide_eq_false (by omega)
  have HO := Lib.hid ho
  clear ho
  go_enter Try.func4, Try.ntmps4
  go_wp2_with fail
  refine (awake_any _).mono ?_
  rintro _ w1 ⟨rfl, z⟩
  have BX := Lib.hid ((Bx.mk w W D J S 23).below z)
  replace z := (box_below w _).trans (z.mono (by simp))
  have Z := Lib.hid z
  have LM := Lib.hid (LM0.out.below z)
  clear z LM0
  obtain ⟨gx, x_0, x_1, x_2, x_3⟩ := BX.out
  go_wp2_with fail
  refine (begin_any 5 q 0 _).mono ?_
  rintro _ w2 ⟨rfl, z⟩
  clear gx x_0 x_1 x_2 x_3
  replace Z := Lib.hid (Z.out.trans (z.mono Z.out.size))
  replace BX := Lib.hid (BX.out.below z)
  replace LM := Lib.hid (LM.out.below z)
  clear z
  obtain ⟨gx, x_0, x_1, x_2, x_3⟩ := BX.out
  go_wp2_with fail
  refine (Tells.of (goes_any W D J S 5 5 A n c m (fbg 5 q 0) _ HN.out) (v' := .bool false) (by rw [goes_begun, HO.out])).mono ?_
  rintro _ w3 ⟨rfl, z⟩
  clear gx x_0 x_1 x_2 x_3
  have BF := Lib.hid ((Bf.new w2 (fbg 5 q 0)).after z)
  replace z := keep_call z (bel_alloc w2 _)
  replace Z := Lib.hid (Z.out.trans (z.mono Z.out.size))
  replace BX := Lib.hid (BX.out.below z)
  replace LM := Lib.hid (LM.out.below z)
  clear z
  go_wp2
  go_ret
  exact ⟨rfl, Z.out⟩
theorem alone_by (W D J S q : Int) (A : Option Addr) (n c : Nat) (m : List Int) (w : World) (hm : Rd w A m) (hn : m.length = n) (hs : n ≤ 500) (ho : okw W D J S m q = true) : Tells 4 #[cf W D J S, .slice A n c, .int .i64 q, .int .u64 0] w (.bool true) := by
  have LM0 := Lib.hid hm
  have HN := Lib.hid hn
  clear hm hn
  have hd : decide ((500 : Int) < (n : Int)) = false := decide_eq_false (by omega)
  have HO := Lib.hid ho
  clear ho
  go_enter Try.func4, Try.ntmps4
  go_wp2_with fail
  refine (awake_any _).mono ?_
  rintro _ w1 ⟨rfl, z⟩
  have BX := Lib.hid ((Bx.mk w W D J S 23).below z)
  replace z := (box_below w _).trans (z.mono (by simp))
  have Z := Lib.hid z
  have LM := Lib.hid (LM0.out.below z)
  clear z LM0
  obtain ⟨gx, x_0, x_1, x_2, x_3⟩ := BX.out
  go_wp2_with fail
  refine (begin_any 5 q 0 _).mono ?_
  rintro _ w2 ⟨rfl, z⟩
  clear gx x_0 x_1 x_2 x_3
  replace Z := Lib.hid (Z.out.trans (z.mono Z.out.size))
  replace BX := Lib.hid (BX.out.below z)
  replace LM := Lib.hid (LM.out.below z)
  clear z
  obtain ⟨gx, x_0, x_1, x_2, x_3⟩ := BX.out
  go_wp2_with fail
  refine (Tells.of (goes_any W D J S 5 5 A n c m (fbg 5 q 0) _ HN.out) (v' := .bool true) (by rw [goes_begun, HO.out])).mono ?_
  rintro _ w3 ⟨rfl, z⟩
  clear gx x_0 x_1 x_2 x_3
  have BF := Lib.hid ((Bf.new w2 (fbg 5 q 0)).after z)
  replace z := keep_call z (bel_alloc w2 _)
  replace Z := Lib.hid (Z.out.trans (z.mono Z.out.size))
  replace BX := Lib.hid (BX.out.below z)
  replace LM := Lib.hid (LM.out.below z)
  clear z
  go_wp2
  go_ret
  exact ⟨rfl, Z.out⟩
set_option maxHeartbeats 2000000 in
theorem alone_main (W D J S q v : Int) (A : Option Addr) (n c : Nat) (m : List Int) (w : World) (hm : Rd w A m) (hn : m.length = n) (hs : n ≤ 500) (hu : UM m) (hvu : U v) (ho : okw W D J S m q = true) (hv : ¬ v = 0) : Tells 4 #[cf W D J S, .slice A n c, .int .i64 q, .int .u64 v] w (.bool true) := by
  have hlong := okw_long ho
  have hpk := pkI_lim ho
  have hwho := okw_who ho
  have hpo := pkI_ow ho
  obtain ⟨m0, hm0⟩ : ∃ m0, m0 = put m (pkI D J q) 0 := ⟨_, rfl⟩
  have k0 : okw W D J S m0 q = true := by rw [hm0]; exact okw_put ho _ _
  have n0 : m0.length = n := by rw [hm0, len_put]; exact hn
  have z0 : at0 m0 (pkI D J q) = 0 := by rw [hm0]; exact at0_put _ (by omega) (by omega)
  have um0 : UM m0 := by rw [hm0]; exact put_U hu _ U0
  obtain ⟨E, hE⟩ : ∃ E, at0 m0 2 = E := ⟨_, rfl⟩
  have ue : U E := by rw [← hE]; exact at0_U um0 2
  have i3 := wait_3 k0
  rw [hE] at i3
  obtain ⟨T, hT⟩ : ∃ T, st E q = T := ⟨_, rfl⟩
  rw [hT] at i3
  have ut : U T := by rw [← hT]; exact st_u _ _ ue
  have hid : st T q = T := by rw [← hT]; exact st_idem ue.1 hwho.1 (by omega)
  have hep : T / 65536 = E / 65536 := by rw [← hT]; exact st_epoch _ _
  obtain ⟨m3, hm3⟩ : ∃ m3, m3 = put m0 2 T := ⟨_, rfl⟩
  rw [← hm3] at i3
  have k3 : okw W D J S m3 q = true := by rw [hm3]; exact okw_put k0 _ _
  have n3 : m3.length = n := by rw [hm3, len_put]; exact n0
  have t3 : at0 m3 2 = T := by rw [hm3]; exact at0_put _ (by omega) (by omega)
  have z3 : at0 m3 (pkI D J q) = 0 := by rw [hm3, at0_put_ne _ _ (by omega)]; exact z0
  have um3 : UM m3 := by rw [hm3]; exact put_U um0 _ ut
  have s4 := waitS_3 (v := 0) (x := E) (y := E) k3
  rw [if_pos z3] at s4
  obtain ⟨m4, hm4⟩ : ∃ m4, m4 = put m3 (pkI D J q) v := ⟨_, rfl⟩
  have k4 : okw W D J S m4 q = true := by rw [hm4]; exact okw_put k3 _ _
  have n4 : m4.length = n := by rw [hm4, len_put]; exact n3
  have z4 : at0 m4 (pkI D J q) = v := by rw [hm4]; exact at0_put _ (by omega) (by omega)
  have s5 := waitS_3 (v := 0) (x := E) (y := 0) k4
  rw [z4, if_neg hv] at s5
  have s6 := waitS_4 (v := 0) (x := E) (y := v) k4
  obtain ⟨m5, hm5⟩ : ∃ m5, m5 = put m4 (pkI D J q) 0 := ⟨_, rfl⟩
  rw [← hm5] at s6
  have k5 : okw W D J S m5 q = true := by rw [hm5]; exact okw_put k4 _ _
  have n5 : m5.length = n := by rw [hm5, len_put]; exact n4
  have z5 : at0 m5 (pkI D J q) = 0 := by rw [hm5]; exact at0_put _ (by omega) (by omega)
  have t5 : at0 m5 2 = T := by rw [hm5, at0_put_ne _ _ (by omega), hm4, at0_put_ne _ _ (by omega)]; exact t3
  have um5 : UM m5 := by rw [hm5]; exact put_U (by rw [hm4]; exact put_U um3 _ hvu) _ U0
  have w3 : wts W D J S m3 q = true := by unfold wts; rw [k3, t3, hid]; simp
  have w5 : wts W D J S m5 q = true := by unfold wts; rw [k5, t5, hid]; simp
  have HU := Lib.hid (fun j => waitN_U (W := W) (D := D) (J := J) (S := S) (s := (m0, fbg 5 q 0)) um0 ⟨U0, U0, U0⟩ j)
  have HPL := Lib.hid (fun j => (waitN_len W D J S j (m0, fbg 5 q 0)).trans n0)
  obtain ⟨P, hP⟩ : ∃ P, E / 65536 = P := ⟨_, rfl⟩
  have hPT : T / 65536 = P := hep.trans hP
  have hPP : (P == P) = true := by simp
  have hv0 : (v == 0) = false := by simpa using hv
  have HM0 := Lib.hid (show m0 = put m (ow W D J S q 2) 0 by rw [hpo]; exact hm0)
  have HM4 := Lib.hid (show m4 = put m3 (ow W D J S q 2) v by rw [hpo]; exact hm4)
  have HZ5 := Lib.hid (show at0 m5 (ow W D J S q 2) = 0 by rw [hpo]; exact z5)
  have LM0 := Lib.hid hm
  have HN := Lib.hid hn
  clear hm hn
  have hd : decide ((500 : Int) < (n : Int)) = false := decide_eq_false (by omega)
  have HO := Lib.hid ho
  have HS := Lib.hid hs
  have HN0 := Lib.hid n0
  have HE := Lib.hid hE
  have HUE := Lib.hid ue
  have HI3 := Lib.hid i3
  have HN3 := Lib.hid n3
  have HT3 := Lib.hid t3
  have HUM3 := Lib.hid um3
  have HE4 := Lib.hid s4
  have HN4 := Lib.hid n4
  have HE5 := Lib.hid s5
  have HE6 := Lib.hid s6
  have HN5 := Lib.hid n5
  have HUM5 := Lib.hid um5
  have HW3 := Lib.hid w3
  have HW5 := Lib.hid w5
  have HP := Lib.hid hP
  have HPT := Lib.hid hPT
  have HVU := Lib.hid hvu
  have HV := Lib.hid hv
  clear ho hs n0 hE ue i3 n3 t3 um3 s4 n4 s5 s6 n5 um5 w3 w5 hP hPT hvu hv hlong hpk hwho hpo hm0 k0 z0 um0 hT ut hid hep hm3 k3 z3 hm4 k4 z4 hm5 k5 z5 t5 hu
  go_enter Try.func4, Try.ntmps4
  go_wp2_with fail
  refine (awake_any _).mono ?_
  rintro _ w1 ⟨rfl, z⟩
  have BX := Lib.hid ((Bx.mk w W D J S 23).below z)
  replace z := (box_below w _).trans (z.mono (by simp))
  have Z := Lib.hid z
  have LM := Lib.hid (LM0.out.below z)
  clear z LM0
  obtain ⟨gx, x_0, x_1, x_2, x_3⟩ := BX.out
  go_wp2_with fail
  refine (begin_any 5 q 0 _).mono ?_
  rintro _ w2 ⟨rfl, z⟩
  clear gx x_0 x_1 x_2 x_3
  replace Z := Lib.hid (Z.out.trans (z.mono Z.out.size))
  replace BX := Lib.hid (BX.out.below z)
  replace LM := Lib.hid (LM.out.below z)
  clear z
  obtain ⟨gx, x_0, x_1, x_2, x_3⟩ := BX.out
  have HBX := Lib.hid (Nat.ne_of_lt BX.out.1)
  have hzf := Lib.hid Z.out.size
  go_wp2_with fail
  refine (Tells.of (goes_any W D J S 5 5 A n c m (fbg 5 q 0) _ HN.out) (v' := .bool true) (by rw [goes_begun, HO.out])).mono ?_
  rintro _ w3 ⟨rfl, z⟩
  clear gx x_0 x_1 x_2 x_3
  have BF := Lib.hid ((Bf.new w2 (fbg 5 q 0)).after z)
  replace z := keep_call z (bel_alloc w2 _)
  replace Z := Lib.hid (Z.out.trans (z.mono Z.out.size))
  replace BX := Lib.hid (BX.out.below z)
  replace LM := Lib.hid (LM.out.below z)
  clear z
  obtain ⟨gx, x_0, x_1, x_2, x_3⟩ := BX.out
  go_wp2_with fail
  refine (park_any W D J S q _).mono ?_
  rintro _ w4 ⟨rfl, z⟩
  clear gx x_0 x_1 x_2 x_3
  replace Z := Lib.hid (Z.out.trans (z.mono Z.out.size))
  replace BX := Lib.hid (BX.out.below z)
  replace LM := Lib.hid (LM.out.below z)
  replace BF := Lib.hid (BF.out.after z)
  clear z
  have HBF := Lib.hid BF.out.lt
  go_wp2_with fail
  refine (store_new A n c m _ 0 _ LM.out HN.out HS.out).mono ?_
  rintro _ w5 ⟨g5, rfl, hg5, hb5, z⟩
  replace Z := Lib.hid (Z.out.trans (z.mono Z.out.size))
  replace BX := Lib.hid (BX.out.below z)
  replace LM := Lib.hid (LM.out.below z)
  replace BF := Lib.hid (BF.out.after z)
  have L0 := Lib.hid (show Rd w5 (some ⟨g5, 0, none⟩) m0 by rw [HM0.out]; exact hb5.rd)
  have LX := Lib.hid (show Rx 0 w2.heap.size w5 (some ⟨g5, 0, none⟩) m0 from Bk.rx (by rw [HM0.out]; exact hb5) (Nat.ne_of_gt (Nat.lt_of_lt_of_le HBF.out hg5)) (Nat.zero_le _))
  clear hg5 hb5 z
  clear LM
  have HBB := Lib.hid BF.out.lt
  go_wp2
  go_loopw [12, 11] (fun i s wr => ∃ (j : Nat) (A : Option Addr) (c : Nat), i = .int .i64 j ∧ s = .slice A n c ∧ j ≤ 3 ∧ Hid (Rd wr A (itN (waitS W D J S) j (m0, fbg 5 q 0)).1) ∧ Hid (Bf wr w2.heap.size (itN (waitS W D J S) j (m0, fbg 5 q 0)).2) ∧ Hid (Kb w2.heap.size w5 wr)) (fun i _ _ => 3 - (intOf i).toNat)
  case atStart =>
    exact ⟨0, (some ⟨g5, 0, none⟩), n, rfl, rfl, by omega, L0, BF, Lib.hid (Kb.refl _ _)⟩
  case round =>
    clear BF L0
    obtain ⟨j, A, c, rfl, rfl, hj, LA, BF, KB⟩ := hrel
    by_cases hlt : j < 3
    · have HUj := Lib.hid (HU.out j).2
      have HLj := Lib.hid (HPL.out j)
      have HE := Lib.hid (itN_succ (waitS W D J S) j (m0, fbg 5 q 0))
      generalize (itN (waitS W D J S) j (m0, fbg 5 q 0)).1 = M at *
      generalize (itN (waitS W D J S) j (m0, fbg 5 q 0)).2 = F at *
      obtain ⟨M', F', HP⟩ : ∃ M' F', Hid (waitS W D J S M F = (M', F')) := ⟨_, _, Lib.hid rfl⟩
      obtain ⟨_, b0, b1, b2, b3⟩ := BX.out.kb KB.out HBX.out
      obtain ⟨d0, d1, d2, d3, d4, d5, d6⟩ := BF.out.cells
      have lBF := BF.out.lt
      have lBX := (BX.out.kb KB.out HBX.out).1
      go_wp2_with fail
      refine (wait_n LA.out HLj.out HS.out HUj.out HP.out).mono ?_
      rintro _ w7 ⟨A', c', rfl, hn7, z⟩
      have BF3 := BF.out.after z
      clear b0 b1 b2 b3 d0 d1 d2 d3 d4 d5 d6 lBF lBX
      obtain ⟨d0, d1, d2, d3, d4, d5, d6⟩ := BF3.cells
      have fz := BF3.free
      have lBF := BF3.lt
      have HN := Lib.hid (hn7.pf BF.out.lt F')
      have HB3 := Lib.hid (BF3.pf F')
      have HK3 := Lib.hid ((KB.out.call HBB.out z).pf F')
      clear hn7 BF3 z
      go_wp2_with fail
      go_roundw
      case rel => exact ⟨j + 1, A', c', by go_num, rfl, by omega, by rw [HE.out, HP.out]; exact Lib.hid HN.out.rd, by rw [HE.out, HP.out]; exact HB3, HK3⟩
      case measure => simp [intOf]; omega
    · obtain rfl : j = 3 := by omega
      replace BX := Lib.hid (BX.out.kb KB.out HBX.out)
      replace LX := Lib.hid (LX.out.kb KB.out)
      replace Z := Lib.hid (Z.out.trans (KB.out.low.mono hzf.out))
      clear KB HBB hj hlt
      rw [HI3.out] at LA BF
      simp only at LA BF
      go_wp2_with fail
      refine (load_any A n c m3 2 _ LA.out HN3.out HS.out).mono ?_
      rintro _ w8 ⟨rfl, z⟩
      replace Z := Lib.hid (Z.out.trans (z.mono Z.out.size))
      replace BX := Lib.hid (BX.out.below z)
      replace LX := Lib.hid (LX.out.after z)
      replace BF := Lib.hid (BF.out.after z)
      replace LA := Lib.hid (LA.out.below z)
      clear z
      go_wp2_with fail
      refine (Tells.of (epoch_any (at0 m3 2) _).tells (v' := .int .u64 P) (by rw [HT3.out, HPT.out])).mono ?_
      rintro _ w9 ⟨rfl, z⟩
      replace Z := Lib.hid (Z.out.trans (z.mono Z.out.size))
      replace BX := Lib.hid (BX.out.below z)
      replace LX := Lib.hid (LX.out.after z)
      replace BF := Lib.hid (BF.out.after z)
      replace LA := Lib.hid (LA.out.below z)
      clear z
      go_wp2_with fail
      refine (load_any (some ⟨g5, 0, none⟩) n n m0 2 _ LX.out.rd HN0.out HS.out).mono ?_
      rintro _ w10 ⟨rfl, z⟩
      replace Z := Lib.hid (Z.out.trans (z.mono Z.out.size))
      replace BX := Lib.hid (BX.out.below z)
      replace LX := Lib.hid (LX.out.after z)
      replace BF := Lib.hid (BF.out.after z)
      replace LA := Lib.hid (LA.out.below z)
      clear z
      go_wp2_with fail
      refine (Tells.of (epoch_any (at0 m0 2) _).tells (v' := .int .u64 P) (by rw [HE.out, HP.out])).mono ?_
      rintro _ w11 ⟨rfl, z⟩
      replace Z := Lib.hid (Z.out.trans (z.mono Z.out.size))
      replace BX := Lib.hid (BX.out.below z)
      replace LX := Lib.hid (LX.out.after z)
      replace BF := Lib.hid (BF.out.after z)
      replace LA := Lib.hid (LA.out.below z)
      clear z
      obtain ⟨gx, x_0, x_1, x_2, x_3⟩ := BX.out
      obtain ⟨a0, a1, a2, a3, a4, a5, a6⟩ := BF.out.cells
      have la := BF.out.lt
      go_wp2_with fail
      refine (wait_n (f := ⟨5, 3, q, 0, E, E, 0⟩) LA.out HN3.out HS.out ⟨U0, HUE.out, HUE.out⟩ HE4.out).mono ?_
      rintro _ w12 ⟨A12, c12, rfl, hn12, z⟩
      clear gx x_0 x_1 x_2 x_3 a0 a1 a2 a3 a4 a5 a6 la
      replace Z := Lib.hid (Z.out.trans (z.mono Z.out.size))
      replace BX := Lib.hid (BX.out.below z)
      replace LX := Lib.hid (LX.out.after z)
      replace BF := Lib.hid (BF.out.after z)
      replace LA := Lib.hid (LA.out.below z)
      have LK := Lib.hid hn12.rd
      clear hn12 z
      obtain ⟨a0, a1, a2, a3, a4, a5, a6⟩ := BF.out.cells
      have la := BF.out.lt
      go_wp2_with fail
      refine (Tells.of (prk_any ⟨5, 3, q, 0, E, E, 0⟩ _) (v' := .bool true) (by rfl)).mono ?_
      rintro _ w13 ⟨rfl, z⟩
      clear a0 a1 a2 a3 a4 a5 a6 la
      have BG := Lib.hid ((Bf.new w12 ⟨5, 3, q, 0, E, 0, 0⟩).after z)
      replace z := keep_call z (bel_alloc w12 _)
      replace Z := Lib.hid (Z.out.trans (z.mono Z.out.size))
      replace BX := Lib.hid (BX.out.below z)
      replace LX := Lib.hid (LX.out.after z)
      replace BF := Lib.hid (BF.out.after z)
      replace LA := Lib.hid (LA.out.below z)
      replace LK := Lib.hid (LK.out.below z)
      clear z
      obtain ⟨gx, x_0, x_1, x_2, x_3⟩ := BX.out
      obtain ⟨b0, b1, b2, b3, b4, b5, b6⟩ := BG.out.cells
      have lb := BG.out.lt
      go_wp2_with fail
      refine (Tells.of (waits_any W D J S q A n c m3 _ LA.out HN3.out HS.out HUM3.out) (v' := .bool true) (by rw [HW3.out])).mono ?_
      rintro _ w14 ⟨rfl, z⟩
      clear gx x_0 x_1 x_2 x_3 b0 b1 b2 b3 b4 b5 b6 lb
      replace Z := Lib.hid (Z.out.trans (z.mono Z.out.size))
      replace BX := Lib.hid (BX.out.below z)
      replace LX := Lib.hid (LX.out.after z)
      replace BF := Lib.hid (BF.out.after z)
      replace LA := Lib.hid (LA.out.below z)
      replace LK := Lib.hid (LK.out.below z)
      replace BG := Lib.hid (BG.out.after z)
      clear z
      obtain ⟨b0, b1, b2, b3, b4, b5, b6⟩ := BG.out.cells
      have lb := BG.out.lt
      go_wp2_with fail
      refine (Tells.of (prk_any ⟨5, 3, q, 0, E, 0, 0⟩ _) (v' := .bool true) (by rfl)).mono ?_
      rintro _ w15 ⟨rfl, z⟩
      clear b0 b1 b2 b3 b4 b5 b6 lb
      replace Z := Lib.hid (Z.out.trans (z.mono Z.out.size))
      replace BX := Lib.hid (BX.out.below z)
      replace LX := Lib.hid (LX.out.after z)
      replace BF := Lib.hid (BF.out.after z)
      replace LA := Lib.hid (LA.out.below z)
      replace LK := Lib.hid (LK.out.below z)
      replace BG := Lib.hid (BG.out.after z)
      clear z
      go_wp2_with fail
      refine (ret_of (same_any A12 A n c12 n c m3 m3 _ LK.out LA.out HN3.out HN3.out (by have := HS.out; omega)) (v' := .bool true) (by simp)).mono ?_
      rintro _ w16 ⟨rfl, z⟩
      replace Z := Lib.hid (Z.out.trans (z.mono Z.out.size))
      replace BX := Lib.hid (BX.out.below z)
      replace LX := Lib.hid (LX.out.after z)
      replace BF := Lib.hid (BF.out.after z)
      replace LA := Lib.hid (LA.out.below z)
      replace LK := Lib.hid (LK.out.below z)
      replace BG := Lib.hid (BG.out.after z)
      clear z
      go_upto_region 14 with fail
      have HGX := Lib.hid BX.out.1
      go_cut [17, 18] from 89 to 100 (fun x t wz => Hid (Cu w16 n m4 ⟨5, 4, q, 0, E, v, 0⟩ x t wz))
      case first =>
        have HKc := Lib.hid (show ∀ x', Below w16.heap.size w16 x' → (fun w' => w'.cell? ⟨w.heap.size, 0, none⟩ = some (.int .i64 W) ∧ w'.cell? ⟨w.heap.size, 1, none⟩ = some (.int .i64 D) ∧ w'.cell? ⟨w.heap.size, 2, none⟩ = some (.int .i64 J) ∧ w'.cell? ⟨w.heap.size, 3, none⟩ = some (.int .i64 S) ∧ w'.cell? ⟨w12.heap.size, 0, none⟩ = some (.int .i64 5) ∧ w'.cell? ⟨w12.heap.size, 1, none⟩ = some (.int .i64 3) ∧ w'.cell? ⟨w12.heap.size, 2, none⟩ = some (.int .i64 q) ∧ w'.cell? ⟨w12.heap.size, 3, none⟩ = some (.int .u64 0) ∧ w'.cell? ⟨w12.heap.size, 4, none⟩ = some (.int .u64 E) ∧ w'.cell? ⟨w12.heap.size, 5, none⟩ = some (.int .u64 0) ∧ w'.cell? ⟨w12.heap.size, 6, none⟩ = some (.int .i64 0) ∧ Below w16.heap.size w16 w') x' from fun x' hx => by
          obtain ⟨_, e0, e1, e2, e3⟩ := BX.out.below hx
          obtain ⟨g0, g1, g2, g3, g4, g5, g6⟩ := (BG.out.after hx).cells
          exact ⟨e0, e1, e2, e3, g0, g1, g2, g3, g4, g5, g6, hx⟩)
        have hHeld0 := HKc.out _ (Below.refl _ _)
        have ZC := Lib.hid (Below.refl w16.heap.size w16).drew
        refine wp_region_held_drew (S := fun w' => w'.cell? ⟨w.heap.size, 0, none⟩ = some (.int .i64 W) ∧ w'.cell? ⟨w.heap.size, 1, none⟩ = some (.int .i64 D) ∧ w'.cell? ⟨w.heap.size, 2, none⟩ = some (.int .i64 J) ∧ w'.cell? ⟨w.heap.size, 3, none⟩ = some (.int .i64 S) ∧ w'.cell? ⟨w12.heap.size, 0, none⟩ = some (.int .i64 5) ∧ w'.cell? ⟨w12.heap.size, 1, none⟩ = some (.int .i64 3) ∧ w'.cell? ⟨w12.heap.size, 2, none⟩ = some (.int .i64 q) ∧ w'.cell? ⟨w12.heap.size, 3, none⟩ = some (.int .u64 0) ∧ w'.cell? ⟨w12.heap.size, 4, none⟩ = some (.int .u64 E) ∧ w'.cell? ⟨w12.heap.size, 5, none⟩ = some (.int .u64 0) ∧ w'.cell? ⟨w12.heap.size, 6, none⟩ = some (.int .i64 0) ∧ Below w16.heap.size w16 w') (by kernel_rfl) (hd_drew HKc.out (fun _ h => h.2.2.2.2.2.2.2.2.2.2.2) hHeld0) (fun hHeld => ?_)
        refine wpAnyH_take (i := 0) (oi := { dst := some 90, op := Go.Op.load 23 (Go.Operand.tmp 4), type := 23, pos := "law.go:58", after := #[], guard := none }) (v := ?vqb1) rfl (by kernel_rfl) (by kernel_rfl) (by kernel_rfl) (fun _ _ _ h => h) (Or.inl ⟨by rfl, ?yqb1⟩) (by assumption) ?rqb1
        case yqb1 => (intro w hSw; (try dsimp only at hSw); go_simp; (try with_reducible rfl))
        (try simp only [Act.put, List.setIfInBounds_toArray, List.set_cons_zero, List.set_cons_succ])
        refine wpAnyH_take (i := 1) (oi := { dst := some 91, op := Go.Op.move (Go.Operand.tmp 14), type := 25, pos := "law.go:58", after := #[], guard := none }) (v := ?vqb2) rfl (by kernel_rfl) (by kernel_rfl) (by kernel_rfl) (fun _ _ _ h => h) (Or.inl ⟨by rfl, ?yqb2⟩) (by assumption) ?rqb2
        case yqb2 => (intro w hSw; (try dsimp only at hSw); go_simp; (try with_reducible rfl))
        (try simp only [Act.put, List.setIfInBounds_toArray, List.set_cons_zero, List.set_cons_succ])
        refine wpAnyH_take (i := 2) (oi := { dst := some 92, op := Go.Op.load 23 (Go.Operand.tmp 4), type := 23, pos := "law.go:58", after := #[], guard := none }) (v := ?vqb3) rfl (by kernel_rfl) (by kernel_rfl) (by kernel_rfl) (fun _ _ _ h => h) (Or.inl ⟨by rfl, ?yqb3⟩) (by assumption) ?rqb3
        case yqb3 => (intro w hSw; (try dsimp only at hSw); go_simp; (try with_reducible rfl))
        (try simp only [Act.put, List.setIfInBounds_toArray, List.set_cons_zero, List.set_cons_succ])
        refine wpAnyH_take (i := 3) (oi := { dst := some 93, op := Go.Op.move (Go.Operand.tmp 2), type := 3, pos := "law.go:58", after := #[], guard := none }) (v := ?vqb4) rfl (by kernel_rfl) (by kernel_rfl) (by kernel_rfl) (fun _ _ _ h => h) (Or.inl ⟨by rfl, ?yqb4⟩) (by assumption) ?rqb4
        case yqb4 => (intro w hSw; (try dsimp only at hSw); go_simp; (try with_reducible rfl))
        (try simp only [Act.put, List.setIfInBounds_toArray, List.set_cons_zero, List.set_cons_succ])
        refine wpAnyH_take (i := 5) (oi := { dst := some 95, op := Go.Op.move (Go.Operand.tmp 3), type := 26, pos := "law.go:58", after := #[], guard := none }) (v := ?vqb5) rfl (by kernel_rfl) (by kernel_rfl) (by kernel_rfl) (fun _ _ _ h => h) (Or.inl ⟨by rfl, ?yqb5⟩) (by assumption) ?rqb5
        case yqb5 => (intro w hSw; (try dsimp only at hSw); go_simp; (try with_reducible rfl))
        (try simp only [Act.put, List.setIfInBounds_toArray, List.set_cons_zero, List.set_cons_succ])
        refine wpAnyH_take (i := 7) (oi := { dst := some 97, op := Go.Op.load 28 (Go.Operand.tmp 15), type := 28, pos := "law.go:58", after := #[], guard := none }) (v := ?vqb6) rfl (by kernel_rfl) (by kernel_rfl) (by kernel_rfl) (fun _ _ _ h => h) (Or.inl ⟨by rfl, ?yqb6⟩) (by assumption) ?rqb6
        case yqb6 => (intro w hSw; (try dsimp only at hSw); go_simp; (try with_reducible rfl))
        (try simp only [Act.put, List.setIfInBounds_toArray, List.set_cons_zero, List.set_cons_succ])
        refine wpAnyH_ready (rs := [4, 12]) (by kernel_rfl) (by simp) ?_
        refine (AllReadyH.cons (o := { dst := some 94, op := Go.Op.call { callee := Go.Callee.value (Go.Operand.func 20), args := #[Go.Operand.tmp 92, Go.Operand.tmp 93], argTypes := #[23, 3] }, type := 3, pos := "law.go:58", after := #[{ on := 2, ground := Go.Ground.data }, { on := 3, ground := Go.Ground.data }], guard := none }) rfl (fun K hK => ?_) (AllReadyH.cons (o := { dst := some 18, op := Go.Op.alloc 28, type := 0, pos := "law.go:58", after := #[], guard := none }) rfl (fun K hK => ?_) AllReadyH.nil))
        · go_simp
          refine (park_any W D J S q _).mono ?_
          rintro e wa ⟨rfl, zb⟩
          go_wp2_with fail
          replace ZC := Lib.hid (keep_call zb ZC.out)
          clear zb
          refine hK.out _ _ (HKc.out _ ZC.out) (fun hHeld2 => ?_)
          clear hK K hHeld
          have hHeld := hHeld2
          clear hHeld2
          (try simp only [Act.put, List.setIfInBounds_toArray, List.set_cons_zero, List.set_cons_succ])
          refine wpAnyH_ready (rs := [6, 12]) (by kernel_rfl) (by simp) ?_
          refine (AllReadyH.cons (o := { dst := some 96, op := Go.Op.call { callee := Go.Callee.value (Go.Operand.func 19), args := #[Go.Operand.tmp 91, Go.Operand.tmp 94, Go.Operand.tmp 95], argTypes := #[25, 3, 26] }, type := 25, pos := "law.go:58", after := #[{ on := 1, ground := Go.Ground.data }, { on := 4, ground := Go.Ground.data }, { on := 5, ground := Go.Ground.data }, { on := 4, ground := Go.Ground.chain }], guard := none }) rfl (fun K hK => ?_) (AllReadyH.cons (o := { dst := some 18, op := Go.Op.alloc 28, type := 0, pos := "law.go:58", after := #[], guard := none }) rfl (fun K hK => ?_) AllReadyH.nil))
          · go_simp
            refine (store_new A12 n c12 m3 _ v _ (LK.out.below ZC.out) HN3.out HS.out).mono ?_
            rintro e wb ⟨k, rfl, hk0, hk, zb⟩
            go_wp2_with fail
            have LB := Lib.hid (show Rd wb (some ⟨k, 0, none⟩) m4 by rw [HM4.out]; exact hk.rd)
            clear hk hk0
            replace ZC := Lib.hid (keep_call zb ZC.out)
            clear zb
            refine hK.out _ _ (HKc.out _ ZC.out) (fun hHeld2 => ?_)
            clear hK K hHeld
            have hHeld := hHeld2
            clear hHeld2
            (try simp only [Act.put, List.setIfInBounds_toArray, List.set_cons_zero, List.set_cons_succ])
            refine wpAnyH_ready (rs := [8, 12]) (by kernel_rfl) (by simp) ?_
            refine (AllReadyH.cons (o := { dst := some 98, op := Go.Op.call { callee := Go.Callee.value (Go.Operand.func 10), args := #[Go.Operand.tmp 90, Go.Operand.tmp 96, Go.Operand.tmp 97], argTypes := #[23, 25, 28] }, type := 30, pos := "law.go:58", after := #[{ on := 0, ground := Go.Ground.data }, { on := 6, ground := Go.Ground.data }, { on := 7, ground := Go.Ground.data }, { on := 6, ground := Go.Ground.chain }], guard := none }) rfl (fun K hK => ?_) (AllReadyH.cons (o := { dst := some 18, op := Go.Op.alloc 28, type := 0, pos := "law.go:58", after := #[], guard := none }) rfl (fun K hK => ?_) AllReadyH.nil))
            · go_simp
              refine (wait_n (f := ⟨5, 3, q, 0, E, 0, 0⟩) LB.out HN4.out HS.out ⟨U0, HUE.out, U0⟩ HE5.out).mono ?_
              rintro e wo ⟨A9, c9, rfl, hn9, zb⟩
              go_wp2_with fail
              have HN9 := Lib.hid hn9
              clear hn9
              replace ZC := Lib.hid (keep_call zb ZC.out)
              clear zb
              refine hK.out _ _ (HKc.out _ ZC.out) (fun hHeld2 => ?_)
              clear hK K hHeld
              have hHeld := hHeld2
              clear hHeld2
              (try simp only [Act.put, List.setIfInBounds_toArray, List.set_cons_zero, List.set_cons_succ])
              refine wpAnyH_take (i := 9) (oi := { dst := some 89, op := Go.Op.move (Go.Operand.tmp 98), type := 30, pos := "law.go:58", after := #[{ on := 8, ground := Go.Ground.data }], guard := none }) (v := ?vqb7) rfl (by kernel_rfl) (by kernel_rfl) (by kernel_rfl) (fun _ _ _ h => h) (Or.inl ⟨by rfl, ?yqb7⟩) (by assumption) ?rqb7
              case yqb7 => (intro w hSw; (try dsimp only at hSw); go_simp; (try with_reducible rfl))
              (try simp only [Act.put, List.setIfInBounds_toArray, List.set_cons_zero, List.set_cons_succ])
              refine wpAnyH_take (i := 10) (oi := { dst := some 99, op := Go.Op.extract (Go.Operand.tmp 89) 0, type := 25, pos := "law.go:58", after := #[{ on := 9, ground := Go.Ground.data }], guard := none }) (v := ?vqb8) rfl (by kernel_rfl) (by kernel_rfl) (by kernel_rfl) (fun _ _ _ h => h) (Or.inl ⟨by rfl, ?yqb8⟩) (by assumption) ?rqb8
              case yqb8 => (intro w hSw; (try dsimp only at hSw); go_simp; (try with_reducible rfl))
              (try simp only [Act.put, List.setIfInBounds_toArray, List.set_cons_zero, List.set_cons_succ])
              refine wpAnyH_take (i := 11) (oi := { dst := some 100, op := Go.Op.extract (Go.Operand.tmp 89) 1, type := 28, pos := "law.go:58", after := #[{ on := 9, ground := Go.Ground.data }, { on := 13, ground := Go.Ground.gcOnly Go.Departure.lateStores }], guard := none }) (v := ?vqb9) rfl (by kernel_rfl) (by kernel_rfl) (by kernel_rfl) (fun _ _ _ h => h) (Or.inl ⟨by rfl, ?yqb9⟩) (by assumption) ?rqb9
              case yqb9 => (intro w hSw; (try dsimp only at hSw); go_simp; (try with_reducible rfl))
              (try simp only [Act.put, List.setIfInBounds_toArray, List.set_cons_zero, List.set_cons_succ])
              refine wpAnyH_ready (rs := [12]) (by kernel_rfl) (by simp) ?_
              refine (AllReadyH.cons (o := { dst := some 18, op := Go.Op.alloc 28, type := 0, pos := "law.go:58", after := #[], guard := none }) rfl (fun K hK => ?_) AllReadyH.nil)
              go_simp
              have HGS := Lib.hid (show w16.heap.size ≤ wo.heap.size from ZC.out.size)
              have ZO := ZC
              have EO := Lib.hid (show Bf (wo.alloc (.cells #[.int .i64 0, .int .i64 0, .int .i64 0, .int .u64 0, .int .u64 0, .int .u64 0, .int .i64 0] 28)) wo.heap.size f0 from Bf.new wo f0)
              replace ZC := Lib.hid (ZO.out.alloc ZO.out.size (.cells #[.int .i64 0, .int .i64 0, .int .i64 0, .int .u64 0, .int .u64 0, .int .u64 0, .int .i64 0] 28))
              refine hK.out _ _ (HKc.out _ ZC.out) (fun hHeld2 => ?_)
              clear hK K hHeld
              have hHeld := hHeld2
              clear hHeld2
              (try simp only [Act.put, List.setIfInBounds_toArray, List.set_cons_zero, List.set_cons_succ])
              refine wpAnyH_take (i := 13) (oi := { dst := some 17, op := Go.Op.assign (Go.Operand.tmp 99), type := 25, pos := "law.go:58", after := #[{ on := 10, ground := Go.Ground.data }, { on := 8, ground := Go.Ground.chain }, { on := 0, ground := Go.Ground.phase }, { on := 1, ground := Go.Ground.phase }, { on := 2, ground := Go.Ground.phase }, { on := 3, ground := Go.Ground.phase }, { on := 4, ground := Go.Ground.phase }, { on := 5, ground := Go.Ground.phase }, { on := 6, ground := Go.Ground.phase }, { on := 7, ground := Go.Ground.phase }, { on := 8, ground := Go.Ground.phase }, { on := 9, ground := Go.Ground.phase }, { on := 10, ground := Go.Ground.phase }, { on := 11, ground := Go.Ground.textOnly Go.Departure.lateStores }, { on := 12, ground := Go.Ground.phase }], guard := none }) (v := ?vqb10) rfl (by kernel_rfl) (by kernel_rfl) (by kernel_rfl) (fun _ _ _ h => h) (Or.inl ⟨by rfl, ?yqb10⟩) (by assumption) ?rqb10
              case yqb10 => (intro w hSw; (try dsimp only at hSw); go_simp; (try with_reducible rfl))
              (try simp only [Act.put, List.setIfInBounds_toArray, List.set_cons_zero, List.set_cons_succ])
              refine wpAnyH_ready (rs := [14]) (by kernel_rfl) (by simp) ?_
              refine (AllReadyH.cons (o := { dst := none, op := Go.Op.store 28 (Go.Operand.tmp 18) (Go.Operand.tmp 100), type := 0, pos := "law.go:58", after := #[{ on := 12, ground := Go.Ground.data }, { on := 11, ground := Go.Ground.data }, { on := 13, ground := Go.Ground.chain }, { on := 0, ground := Go.Ground.phase }, { on := 1, ground := Go.Ground.phase }, { on := 2, ground := Go.Ground.phase }, { on := 3, ground := Go.Ground.phase }, { on := 4, ground := Go.Ground.phase }, { on := 5, ground := Go.Ground.phase }, { on := 6, ground := Go.Ground.phase }, { on := 7, ground := Go.Ground.phase }, { on := 8, ground := Go.Ground.phase }, { on := 9, ground := Go.Ground.phase }, { on := 10, ground := Go.Ground.phase }, { on := 11, ground := Go.Ground.phase }, { on := 12, ground := Go.Ground.phase }, { on := 13, ground := Go.Ground.phase }], guard := none }) rfl (fun K hK => ?_) AllReadyH.nil)
              go_simp
              refine hK.out _ _ (HKc.out _ (ZO.out.alloc ZO.out.size _)) (fun hHeld2 => ?_)
              clear hK K hHeld
              have hHeld := hHeld2
              clear hHeld2
              (try simp only [Act.put, List.setIfInBounds_toArray, List.set_cons_zero, List.set_cons_succ])
              refine wpAnyH_done (by kernel_rfl) ?_ _
              go_wp2_with fail
              go_meet
              exact Lib.hid (Cu.last ⟨5, 4, q, 0, E, v, 0⟩ HN9.out ZO.out)
            · go_simp
              have HGS := Lib.hid (show w16.heap.size ≤ wb.heap.size from ZC.out.size)
              have ZO := ZC
              have EO := Lib.hid (show Bf (wb.alloc (.cells #[.int .i64 0, .int .i64 0, .int .i64 0, .int .u64 0, .int .u64 0, .int .u64 0, .int .i64 0] 28)) wb.heap.size f0 from Bf.new wb f0)
              replace ZC := Lib.hid (ZO.out.alloc ZO.out.size (.cells #[.int .i64 0, .int .i64 0, .int .i64 0, .int .u64 0, .int .u64 0, .int .u64 0, .int .i64 0] 28))
              refine hK.out _ _ (HKc.out _ ZC.out) (fun hHeld2 => ?_)
              clear hK K hHeld
              have hHeld := hHeld2
              clear hHeld2
              (try simp only [Act.put, List.setIfInBounds_toArray, List.set_cons_zero, List.set_cons_succ])
              refine wpAnyH_ready (rs := [8]) (by kernel_rfl) (by simp) ?_
              refine (AllReadyH.cons (o := { dst := some 98, op := Go.Op.call { callee := Go.Callee.value (Go.Operand.func 10), args := #[Go.Operand.tmp 90, Go.Operand.tmp 96, Go.Operand.tmp 97], argTypes := #[23, 25, 28] }, type := 30, pos := "law.go:58", after := #[{ on := 0, ground := Go.Ground.data }, { on := 6, ground := Go.Ground.data }, { on := 7, ground := Go.Ground.data }, { on := 6, ground := Go.Ground.chain }], guard := none }) rfl (fun K hK => ?_) AllReadyH.nil)
              go_simp
              refine (wait_n (f := ⟨5, 3, q, 0, E, 0, 0⟩) (LB.out.alloc _) HN4.out HS.out ⟨U0, HUE.out, U0⟩ HE5.out).mono ?_
              rintro e wo ⟨A9, c9, rfl, hn9, zb⟩
              go_wp2_with fail
              have HN9 := Lib.hid hn9
              clear hn9
              have HLT := Lib.hid EO.out.lt
              replace ZC := Lib.hid (keep_call zb ZC.out)
              replace EO := Lib.hid (EO.out.after zb)
              obtain ⟨d0, d1, d2, d3, d4, d5, d6⟩ := EO.out.cells
              have fz := EO.out.free
              have ld := EO.out.lt
              clear zb
              refine hK.out _ _ (HKc.out _ ZC.out) (fun hHeld2 => ?_)
              clear hK K hHeld
              have hHeld := hHeld2
              clear hHeld2
              (try simp only [Act.put, List.setIfInBounds_toArray, List.set_cons_zero, List.set_cons_succ])
              refine wpAnyH_take (i := 9) (oi := { dst := some 89, op := Go.Op.move (Go.Operand.tmp 98), type := 30, pos := "law.go:58", after := #[{ on := 8, ground := Go.Ground.data }], guard := none }) (v := ?vqb11) rfl (by kernel_rfl) (by kernel_rfl) (by kernel_rfl) (fun _ _ _ h => h) (Or.inl ⟨by rfl, ?yqb11⟩) (by assumption) ?rqb11
              case yqb11 => (intro w hSw; (try dsimp only at hSw); go_simp; (try with_reducible rfl))
              (try simp only [Act.put, List.setIfInBounds_toArray, List.set_cons_zero, List.set_cons_succ])
              refine wpAnyH_take (i := 10) (oi := { dst := some 99, op := Go.Op.extract (Go.Operand.tmp 89) 0, type := 25, pos := "law.go:58", after := #[{ on := 9, ground := Go.Ground.data }], guard := none }) (v := ?vqb12) rfl (by kernel_rfl) (by kernel_rfl) (by kernel_rfl) (fun _ _ _ h => h) (Or.inl ⟨by rfl, ?yqb12⟩) (by assumption) ?rqb12
              case yqb12 => (intro w hSw; (try dsimp only at hSw); go_simp; (try with_reducible rfl))
              (try simp only [Act.put, List.setIfInBounds_toArray, List.set_cons_zero, List.set_cons_succ])
              refine wpAnyH_take (i := 11) (oi := { dst := some 100, op := Go.Op.extract (Go.Operand.tmp 89) 1, type := 28, pos := "law.go:58", after := #[{ on := 9, ground := Go.Ground.data }, { on := 13, ground := Go.Ground.gcOnly Go.Departure.lateStores }], guard := none }) (v := ?vqb13) rfl (by kernel_rfl) (by kernel_rfl) (by kernel_rfl) (fun _ _ _ h => h) (Or.inl ⟨by rfl, ?yqb13⟩) (by assumption) ?rqb13
              case yqb13 => (intro w hSw; (try dsimp only at hSw); go_simp; (try with_reducible rfl))
              (try simp only [Act.put, List.setIfInBounds_toArray, List.set_cons_zero, List.set_cons_succ])
              refine wpAnyH_take (i := 13) (oi := { dst := some 17, op := Go.Op.assign (Go.Operand.tmp 99), type := 25, pos := "law.go:58", after := #[{ on := 10, ground := Go.Ground.data }, { on := 8, ground := Go.Ground.chain }, { on := 0, ground := Go.Ground.phase }, { on := 1, ground := Go.Ground.phase }, { on := 2, ground := Go.Ground.phase }, { on := 3, ground := Go.Ground.phase }, { on := 4, ground := Go.Ground.phase }, { on := 5, ground := Go.Ground.phase }, { on := 6, ground := Go.Ground.phase }, { on := 7, ground := Go.Ground.phase }, { on := 8, ground := Go.Ground.phase }, { on := 9, ground := Go.Ground.phase }, { on := 10, ground := Go.Ground.phase }, { on := 11, ground := Go.Ground.textOnly Go.Departure.lateStores }, { on := 12, ground := Go.Ground.phase }], guard := none }) (v := ?vqb14) rfl (by kernel_rfl) (by kernel_rfl) (by kernel_rfl) (fun _ _ _ h => h) (Or.inl ⟨by rfl, ?yqb14⟩) (by assumption) ?rqb14
              case yqb14 => (intro w hSw; (try dsimp only at hSw); go_simp; (try with_reducible rfl))
              (try simp only [Act.put, List.setIfInBounds_toArray, List.set_cons_zero, List.set_cons_succ])
              refine wpAnyH_ready (rs := [14]) (by kernel_rfl) (by simp) ?_
              refine (AllReadyH.cons (o := { dst := none, op := Go.Op.store 28 (Go.Operand.tmp 18) (Go.Operand.tmp 100), type := 0, pos := "law.go:58", after := #[{ on := 12, ground := Go.Ground.data }, { on := 11, ground := Go.Ground.data }, { on := 13, ground := Go.Ground.chain }, { on := 0, ground := Go.Ground.phase }, { on := 1, ground := Go.Ground.phase }, { on := 2, ground := Go.Ground.phase }, { on := 3, ground := Go.Ground.phase }, { on := 4, ground := Go.Ground.phase }, { on := 5, ground := Go.Ground.phase }, { on := 6, ground := Go.Ground.phase }, { on := 7, ground := Go.Ground.phase }, { on := 8, ground := Go.Ground.phase }, { on := 9, ground := Go.Ground.phase }, { on := 10, ground := Go.Ground.phase }, { on := 11, ground := Go.Ground.phase }, { on := 12, ground := Go.Ground.phase }, { on := 13, ground := Go.Ground.phase }], guard := none }) rfl (fun K hK => ?_) AllReadyH.nil)
              go_simp
              refine hK.out _ _ (hd_set7g HKc.out HGS.out _ _ _ _ _ _ _ ZC.out) (fun hHeld2 => ?_)
              clear hK K hHeld
              have hHeld := hHeld2
              clear hHeld2
              (try simp only [Act.put, List.setIfInBounds_toArray, List.set_cons_zero, List.set_cons_succ])
              refine wpAnyH_done (by kernel_rfl) ?_ _
              go_wp2_with fail
              go_meet
              exact Lib.hid (Cu.box ⟨5, 4, q, 0, E, v, 0⟩ EO.out HGS.out HN9.out HLT.out ZC.out)
          · go_simp
            have HGS := Lib.hid (show w16.heap.size ≤ wa.heap.size from ZC.out.size)
            have ZO := ZC
            have EO := Lib.hid (show Bf (wa.alloc (.cells #[.int .i64 0, .int .i64 0, .int .i64 0, .int .u64 0, .int .u64 0, .int .u64 0, .int .i64 0] 28)) wa.heap.size f0 from Bf.new wa f0)
            replace ZC := Lib.hid (ZO.out.alloc ZO.out.size (.cells #[.int .i64 0, .int .i64 0, .int .i64 0, .int .u64 0, .int .u64 0, .int .u64 0, .int .i64 0] 28))
            refine hK.out _ _ (HKc.out _ ZC.out) (fun hHeld2 => ?_)
            clear hK K hHeld
            have hHeld := hHeld2
            clear hHeld2
            (try simp only [Act.put, List.setIfInBounds_toArray, List.set_cons_zero, List.set_cons_succ])
            refine wpAnyH_ready (rs := [6]) (by kernel_rfl) (by simp) ?_
            refine (AllReadyH.cons (o := { dst := some 96, op := Go.Op.call { callee := Go.Callee.value (Go.Operand.func 19), args := #[Go.Operand.tmp 91, Go.Operand.tmp 94, Go.Operand.tmp 95], argTypes := #[25, 3, 26] }, type := 25, pos := "law.go:58", after := #[{ on := 1, ground := Go.Ground.data }, { on := 4, ground := Go.Ground.data }, { on := 5, ground := Go.Ground.data }, { on := 4, ground := Go.Ground.chain }], guard := none }) rfl (fun K hK => ?_) AllReadyH.nil)
            go_simp
            refine (store_new A12 n c12 m3 _ v _ (LK.out.below ZC.out) HN3.out HS.out).mono ?_
            rintro e wb ⟨k, rfl, hk0, hk, zb⟩
            go_wp2_with fail
            have LB := Lib.hid (show Rd wb (some ⟨k, 0, none⟩) m4 by rw [HM4.out]; exact hk.rd)
            clear hk hk0
            replace ZC := Lib.hid (keep_call zb ZC.out)
            replace EO := Lib.hid (EO.out.after zb)
            clear zb
            refine hK.out _ _ (HKc.out _ ZC.out) (fun hHeld2 => ?_)
            clear hK K hHeld
            have hHeld := hHeld2
            clear hHeld2
            (try simp only [Act.put, List.setIfInBounds_toArray, List.set_cons_zero, List.set_cons_succ])
            refine wpAnyH_ready (rs := [8]) (by kernel_rfl) (by simp) ?_
            refine (AllReadyH.cons (o := { dst := some 98, op := Go.Op.call { callee := Go.Callee.value (Go.Operand.func 10), args := #[Go.Operand.tmp 90, Go.Operand.tmp 96, Go.Operand.tmp 97], argTypes := #[23, 25, 28] }, type := 30, pos := "law.go:58", after := #[{ on := 0, ground := Go.Ground.data }, { on := 6, ground := Go.Ground.data }, { on := 7, ground := Go.Ground.data }, { on := 6, ground := Go.Ground.chain }], guard := none }) rfl (fun K hK => ?_) AllReadyH.nil)
            go_simp
            refine (wait_n (f := ⟨5, 3, q, 0, E, 0, 0⟩) LB.out HN4.out HS.out ⟨U0, HUE.out, U0⟩ HE5.out).mono ?_
            rintro e wo ⟨A9, c9, rfl, hn9, zb⟩
            go_wp2_with fail
            have HN9 := Lib.hid hn9
            clear hn9
            have HLT := Lib.hid EO.out.lt
            replace ZC := Lib.hid (keep_call zb ZC.out)
            replace EO := Lib.hid (EO.out.after zb)
            obtain ⟨d0, d1, d2, d3, d4, d5, d6⟩ := EO.out.cells
            have fz := EO.out.free
            have ld := EO.out.lt
            clear zb
            refine hK.out _ _ (HKc.out _ ZC.out) (fun hHeld2 => ?_)
            clear hK K hHeld
            have hHeld := hHeld2
            clear hHeld2
            (try simp only [Act.put, List.setIfInBounds_toArray, List.set_cons_zero, List.set_cons_succ])
            refine wpAnyH_take (i := 9) (oi := { dst := some 89, op := Go.Op.move (Go.Operand.tmp 98), type := 30, pos := "law.go:58", after := #[{ on := 8, ground := Go.Ground.data }], guard := none }) (v := ?vqb15) rfl (by kernel_rfl) (by kernel_rfl) (by kernel_rfl) (fun _ _ _ h => h) (Or.inl ⟨by rfl, ?yqb15⟩) (by assumption) ?rqb15
            case yqb15 => (intro w hSw; (try dsimp only at hSw); go_simp; (try with_reducible rfl))
            (try simp only [Act.put, List.setIfInBounds_toArray, List.set_cons_zero, List.set_cons_succ])
            refine wpAnyH_take (i := 10) (oi := { dst := some 99, op := Go.Op.extract (Go.Operand.tmp 89) 0, type := 25, pos := "law.go:58", after := #[{ on := 9, ground := Go.Ground.data }], guard := none }) (v := ?vqb16) rfl (by kernel_rfl) (by kernel_rfl) (by kernel_rfl) (fun _ _ _ h => h) (Or.inl ⟨by rfl, ?yqb16⟩) (by assumption) ?rqb16
            case yqb16 => (intro w hSw; (try dsimp only at hSw); go_simp; (try with_reducible rfl))
            (try simp only [Act.put, List.setIfInBounds_toArray, List.set_cons_zero, List.set_cons_succ])
            refine wpAnyH_take (i := 11) (oi := { dst := some 100, op := Go.Op.extract (Go.Operand.tmp 89) 1, type := 28, pos := "law.go:58", after := #[{ on := 9, ground := Go.Ground.data }, { on := 13, ground := Go.Ground.gcOnly Go.Departure.lateStores }], guard := none }) (v := ?vqb17) rfl (by kernel_rfl) (by kernel_rfl) (by kernel_rfl) (fun _ _ _ h => h) (Or.inl ⟨by rfl, ?yqb17⟩) (by assumption) ?rqb17
            case yqb17 => (intro w hSw; (try dsimp only at hSw); go_simp; (try with_reducible rfl))
            (try simp only [Act.put, List.setIfInBounds_toArray, List.set_cons_zero, List.set_cons_succ])
            refine wpAnyH_take (i := 13) (oi := { dst := some 17, op := Go.Op.assign (Go.Operand.tmp 99), type := 25, pos := "law.go:58", after := #[{ on := 10, ground := Go.Ground.data }, { on := 8, ground := Go.Ground.chain }, { on := 0, ground := Go.Ground.phase }, { on := 1, ground := Go.Ground.phase }, { on := 2, ground := Go.Ground.phase }, { on := 3, ground := Go.Ground.phase }, { on := 4, ground := Go.Ground.phase }, { on := 5, ground := Go.Ground.phase }, { on := 6, ground := Go.Ground.phase }, { on := 7, ground := Go.Ground.phase }, { on := 8, ground := Go.Ground.phase }, { on := 9, ground := Go.Ground.phase }, { on := 10, ground := Go.Ground.phase }, { on := 11, ground := Go.Ground.textOnly Go.Departure.lateStores }, { on := 12, ground := Go.Ground.phase }], guard := none }) (v := ?vqb18) rfl (by kernel_rfl) (by kernel_rfl) (by kernel_rfl) (fun _ _ _ h => h) (Or.inl ⟨by rfl, ?yqb18⟩) (by assumption) ?rqb18
            case yqb18 => (intro w hSw; (try dsimp only at hSw); go_simp; (try with_reducible rfl))
            (try simp only [Act.put, List.setIfInBounds_toArray, List.set_cons_zero, List.set_cons_succ])
            refine wpAnyH_ready (rs := [14]) (by kernel_rfl) (by simp) ?_
            refine (AllReadyH.cons (o := { dst := none, op := Go.Op.store 28 (Go.Operand.tmp 18) (Go.Operand.tmp 100), type := 0, pos := "law.go:58", after := #[{ on := 12, ground := Go.Ground.data }, { on := 11, ground := Go.Ground.data }, { on := 13, ground := Go.Ground.chain }, { on := 0, ground := Go.Ground.phase }, { on := 1, ground := Go.Ground.phase }, { on := 2, ground := Go.Ground.phase }, { on := 3, ground := Go.Ground.phase }, { on := 4, ground := Go.Ground.phase }, { on := 5, ground := Go.Ground.phase }, { on := 6, ground := Go.Ground.phase }, { on := 7, ground := Go.Ground.phase }, { on := 8, ground := Go.Ground.phase }, { on := 9, ground := Go.Ground.phase }, { on := 10, ground := Go.Ground.phase }, { on := 11, ground := Go.Ground.phase }, { on := 12, ground := Go.Ground.phase }, { on := 13, ground := Go.Ground.phase }], guard := none }) rfl (fun K hK => ?_) AllReadyH.nil)
            go_simp
            refine hK.out _ _ (hd_set7g HKc.out HGS.out _ _ _ _ _ _ _ ZC.out) (fun hHeld2 => ?_)
            clear hK K hHeld
            have hHeld := hHeld2
            clear hHeld2
            (try simp only [Act.put, List.setIfInBounds_toArray, List.set_cons_zero, List.set_cons_succ])
            refine wpAnyH_done (by kernel_rfl) ?_ _
            go_wp2_with fail
            go_meet
            exact Lib.hid (Cu.box ⟨5, 4, q, 0, E, v, 0⟩ EO.out HGS.out HN9.out HLT.out ZC.out)
        · go_simp
          have HGS := Lib.hid (show w16.heap.size ≤ w16.heap.size from ZC.out.size)
          have ZO := ZC
          have EO := Lib.hid (show Bf (w16.drew.alloc (.cells #[.int .i64 0, .int .i64 0, .int .i64 0, .int .u64 0, .int .u64 0, .int .u64 0, .int .i64 0] 28)) w16.heap.size f0 from Bf.new w16.drew f0)
          replace ZC := Lib.hid (ZO.out.alloc ZO.out.size (.cells #[.int .i64 0, .int .i64 0, .int .i64 0, .int .u64 0, .int .u64 0, .int .u64 0, .int .i64 0] 28))
          refine hK.out _ _ (HKc.out _ ZC.out) (fun hHeld2 => ?_)
          clear hK K hHeld
          have hHeld := hHeld2
          clear hHeld2
          (try simp only [Act.put, List.setIfInBounds_toArray, List.set_cons_zero, List.set_cons_succ])
          refine wpAnyH_ready (rs := [4]) (by kernel_rfl) (by simp) ?_
          refine (AllReadyH.cons (o := { dst := some 94, op := Go.Op.call { callee := Go.Callee.value (Go.Operand.func 20), args := #[Go.Operand.tmp 92, Go.Operand.tmp 93], argTypes := #[23, 3] }, type := 3, pos := "law.go:58", after := #[{ on := 2, ground := Go.Ground.data }, { on := 3, ground := Go.Ground.data }], guard := none }) rfl (fun K hK => ?_) AllReadyH.nil)
          go_simp
          refine (park_any W D J S q _).mono ?_
          rintro e wa ⟨rfl, zb⟩
          go_wp2_with fail
          replace ZC := Lib.hid (keep_call zb ZC.out)
          replace EO := Lib.hid (EO.out.after zb)
          clear zb
          refine hK.out _ _ (HKc.out _ ZC.out) (fun hHeld2 => ?_)
          clear hK K hHeld
          have hHeld := hHeld2
          clear hHeld2
          (try simp only [Act.put, List.setIfInBounds_toArray, List.set_cons_zero, List.set_cons_succ])
          refine wpAnyH_ready (rs := [6]) (by kernel_rfl) (by simp) ?_
          refine (AllReadyH.cons (o := { dst := some 96, op := Go.Op.call { callee := Go.Callee.value (Go.Operand.func 19), args := #[Go.Operand.tmp 91, Go.Operand.tmp 94, Go.Operand.tmp 95], argTypes := #[25, 3, 26] }, type := 25, pos := "law.go:58", after := #[{ on := 1, ground := Go.Ground.data }, { on := 4, ground := Go.Ground.data }, { on := 5, ground := Go.Ground.data }, { on := 4, ground := Go.Ground.chain }], guard := none }) rfl (fun K hK => ?_) AllReadyH.nil)
          go_simp
          refine (store_new A12 n c12 m3 _ v _ (LK.out.below ZC.out) HN3.out HS.out).mono ?_
          rintro e wb ⟨k, rfl, hk0, hk, zb⟩
          go_wp2_with fail
          have LB := Lib.hid (show Rd wb (some ⟨k, 0, none⟩) m4 by rw [HM4.out]; exact hk.rd)
          clear hk hk0
          replace ZC := Lib.hid (keep_call zb ZC.out)
          replace EO := Lib.hid (EO.out.after zb)
          clear zb
          refine hK.out _ _ (HKc.out _ ZC.out) (fun hHeld2 => ?_)
          clear hK K hHeld
          have hHeld := hHeld2
          clear hHeld2
          (try simp only [Act.put, List.setIfInBounds_toArray, List.set_cons_zero, List.set_cons_succ])
          refine wpAnyH_ready (rs := [8]) (by kernel_rfl) (by simp) ?_
          refine (AllReadyH.cons (o := { dst := some 98, op := Go.Op.call { callee := Go.Callee.value (Go.Operand.func 10), args := #[Go.Operand.tmp 90, Go.Operand.tmp 96, Go.Operand.tmp 97], argTypes := #[23, 25, 28] }, type := 30, pos := "law.go:58", after := #[{ on := 0, ground := Go.Ground.data }, { on := 6, ground := Go.Ground.data }, { on := 7, ground := Go.Ground.data }, { on := 6, ground := Go.Ground.chain }], guard := none }) rfl (fun K hK => ?_) AllReadyH.nil)
          go_simp
          refine (wait_n (f := ⟨5, 3, q, 0, E, 0, 0⟩) LB.out HN4.out HS.out ⟨U0, HUE.out, U0⟩ HE5.out).mono ?_
          rintro e wo ⟨A9, c9, rfl, hn9, zb⟩
          go_wp2_with fail
          have HN9 := Lib.hid hn9
          clear hn9
          have HLT := Lib.hid EO.out.lt
          replace ZC := Lib.hid (keep_call zb ZC.out)
          replace EO := Lib.hid (EO.out.after zb)
          obtain ⟨d0, d1, d2, d3, d4, d5, d6⟩ := EO.out.cells
          have fz := EO.out.free
          have ld := EO.out.lt
          clear zb
          refine hK.out _ _ (HKc.out _ ZC.out) (fun hHeld2 => ?_)
          clear hK K hHeld
          have hHeld := hHeld2
          clear hHeld2
          (try simp only [Act.put, List.setIfInBounds_toArray, List.set_cons_zero, List.set_cons_succ])
          refine wpAnyH_take (i := 9) (oi := { dst := some 89, op := Go.Op.move (Go.Operand.tmp 98), type := 30, pos := "law.go:58", after := #[{ on := 8, ground := Go.Ground.data }], guard := none }) (v := ?vqb19) rfl (by kernel_rfl) (by kernel_rfl) (by kernel_rfl) (fun _ _ _ h => h) (Or.inl ⟨by rfl, ?yqb19⟩) (by assumption) ?rqb19
          case yqb19 => (intro w hSw; (try dsimp only at hSw); go_simp; (try with_reducible rfl))
          (try simp only [Act.put, List.setIfInBounds_toArray, List.set_cons_zero, List.set_cons_succ])
          refine wpAnyH_take (i := 10) (oi := { dst := some 99, op := Go.Op.extract (Go.Operand.tmp 89) 0, type := 25, pos := "law.go:58", after := #[{ on := 9, ground := Go.Ground.data }], guard := none }) (v := ?vqb20) rfl (by kernel_rfl) (by kernel_rfl) (by kernel_rfl) (fun _ _ _ h => h) (Or.inl ⟨by rfl, ?yqb20⟩) (by assumption) ?rqb20
          case yqb20 => (intro w hSw; (try dsimp only at hSw); go_simp; (try with_reducible rfl))
          (try simp only [Act.put, List.setIfInBounds_toArray, List.set_cons_zero, List.set_cons_succ])
          refine wpAnyH_take (i := 11) (oi := { dst := some 100, op := Go.Op.extract (Go.Operand.tmp 89) 1, type := 28, pos := "law.go:58", after := #[{ on := 9, ground := Go.Ground.data }, { on := 13, ground := Go.Ground.gcOnly Go.Departure.lateStores }], guard := none }) (v := ?vqb21) rfl (by kernel_rfl) (by kernel_rfl) (by kernel_rfl) (fun _ _ _ h => h) (Or.inl ⟨by rfl, ?yqb21⟩) (by assumption) ?rqb21
          case yqb21 => (intro w hSw; (try dsimp only at hSw); go_simp; (try with_reducible rfl))
          (try simp only [Act.put, List.setIfInBounds_toArray, List.set_cons_zero, List.set_cons_succ])
          refine wpAnyH_take (i := 13) (oi := { dst := some 17, op := Go.Op.assign (Go.Operand.tmp 99), type := 25, pos := "law.go:58", after := #[{ on := 10, ground := Go.Ground.data }, { on := 8, ground := Go.Ground.chain }, { on := 0, ground := Go.Ground.phase }, { on := 1, ground := Go.Ground.phase }, { on := 2, ground := Go.Ground.phase }, { on := 3, ground := Go.Ground.phase }, { on := 4, ground := Go.Ground.phase }, { on := 5, ground := Go.Ground.phase }, { on := 6, ground := Go.Ground.phase }, { on := 7, ground := Go.Ground.phase }, { on := 8, ground := Go.Ground.phase }, { on := 9, ground := Go.Ground.phase }, { on := 10, ground := Go.Ground.phase }, { on := 11, ground := Go.Ground.textOnly Go.Departure.lateStores }, { on := 12, ground := Go.Ground.phase }], guard := none }) (v := ?vqb22) rfl (by kernel_rfl) (by kernel_rfl) (by kernel_rfl) (fun _ _ _ h => h) (Or.inl ⟨by rfl, ?yqb22⟩) (by assumption) ?rqb22
          case yqb22 => (intro w hSw; (try dsimp only at hSw); go_simp; (try with_reducible rfl))
          (try simp only [Act.put, List.setIfInBounds_toArray, List.set_cons_zero, List.set_cons_succ])
          refine wpAnyH_ready (rs := [14]) (by kernel_rfl) (by simp) ?_
          refine (AllReadyH.cons (o := { dst := none, op := Go.Op.store 28 (Go.Operand.tmp 18) (Go.Operand.tmp 100), type := 0, pos := "law.go:58", after := #[{ on := 12, ground := Go.Ground.data }, { on := 11, ground := Go.Ground.data }, { on := 13, ground := Go.Ground.chain }, { on := 0, ground := Go.Ground.phase }, { on := 1, ground := Go.Ground.phase }, { on := 2, ground := Go.Ground.phase }, { on := 3, ground := Go.Ground.phase }, { on := 4, ground := Go.Ground.phase }, { on := 5, ground := Go.Ground.phase }, { on := 6, ground := Go.Ground.phase }, { on := 7, ground := Go.Ground.phase }, { on := 8, ground := Go.Ground.phase }, { on := 9, ground := Go.Ground.phase }, { on := 10, ground := Go.Ground.phase }, { on := 11, ground := Go.Ground.phase }, { on := 12, ground := Go.Ground.phase }, { on := 13, ground := Go.Ground.phase }], guard := none }) rfl (fun K hK => ?_) AllReadyH.nil)
          go_simp
          refine hK.out _ _ (hd_set7g HKc.out HGS.out _ _ _ _ _ _ _ ZC.out) (fun hHeld2 => ?_)
          clear hK K hHeld
          have hHeld := hHeld2
          clear hHeld2
          (try simp only [Act.put, List.setIfInBounds_toArray, List.set_cons_zero, List.set_cons_succ])
          refine wpAnyH_done (by kernel_rfl) ?_ _
          go_wp2_with fail
          go_meet
          exact Lib.hid (Cu.box ⟨5, 4, q, 0, E, v, 0⟩ EO.out HGS.out HN9.out HLT.out ZC.out)
      case rest =>
        clear BF BG LX LA LK
        obtain ⟨gb, Ag, cg, rfl, rfl, hE, hB, hR, hz⟩ := hcut.out
        replace BX := Lib.hid (BX.out.below hz)
        replace Z := Lib.hid (Z.out.trans (hz.mono Z.out.size))
        have BH := Lib.hid hB
        have LB := Lib.hid hR
        have Hgb := Lib.hid hE
        clear hE hB hR hz hcut
        have HNX := Lib.hid (Nat.ne_of_lt (Nat.lt_of_lt_of_le HGX.out Hgb.out))
        have HZG := Lib.hid (Nat.le_of_lt (Nat.lt_of_lt_of_le HGX.out Hgb.out))
        have HLT := Lib.hid BH.out.lt
        obtain ⟨gx, x_0, x_1, x_2, x_3⟩ := BX.out
        obtain ⟨d0, d1, d2, d3, d4, d5, d6⟩ := BH.out.cells
        have ld := BH.out.lt
        go_wp2_with fail
        refine (wait_n (f := ⟨5, 4, q, 0, E, v, 0⟩) LB.out.rd HN4.out HS.out ⟨U0, HUE.out, HVU.out⟩ HE6.out).mono ?_
        rintro _ w21 ⟨A21, c21, rfl, hn21, z⟩
        clear gx x_0 x_1 x_2 x_3 d0 d1 d2 d3 d4 d5 d6 ld
        replace Z := Lib.hid (Z.out.trans (z.mono Z.out.size))
        replace BX := Lib.hid (BX.out.below z)
        replace BH := Lib.hid (BH.out.after z)
        replace LB := Lib.hid (LB.out.after z)
        have LC := Lib.hid (hn21.rx (lo := 0) (g := gb) (Nat.zero_le _) (.inl HLT.out))
        clear hn21 z
        obtain ⟨d0, d1, d2, d3, d4, d5, d6⟩ := BH.out.cells
        have ld := BH.out.lt
        have fz := BH.out.free
        go_upto_region 16 with fail
        change Code.wp _ _ _ _ (pf w21 gb ⟨5, 0, q, 0, 0, 0, 1⟩)
        have KB := Lib.hid ((Kb.refl gb w21).pf ⟨5, 0, q, 0, 0, 0, 1⟩)
        replace BH := Lib.hid (BH.out.pf ⟨5, 0, q, 0, 0, 0, 1⟩)
        replace Z := Lib.hid (Z.out.trans (KB.out.low.mono HZG.out))
        replace BX := Lib.hid (BX.out.kb KB.out HNX.out)
        replace LB := Lib.hid (LB.out.kb KB.out)
        replace LC := Lib.hid (LC.out.kb KB.out)
        clear d0 d1 d2 d3 d4 d5 d6 ld
        generalize pf w21 gb ⟨5, 0, q, 0, 0, 0, 1⟩ = w22 at BX BH LB LC Z ⊢
        clear KB fz
        obtain ⟨gx, x_0, x_1, x_2, x_3⟩ := BX.out
        obtain ⟨d0, d1, d2, d3, d4, d5, d6⟩ := BH.out.cells
        have ld := BH.out.lt
        go_wp2_with fail
        refine (park_any W D J S q _).mono ?_
        rintro _ w23 ⟨rfl, z⟩
        clear gx x_0 x_1 x_2 x_3 d0 d1 d2 d3 d4 d5 d6 ld
        replace Z := Lib.hid (Z.out.trans (z.mono Z.out.size))
        replace BX := Lib.hid (BX.out.below z)
        replace BH := Lib.hid (BH.out.after z)
        replace LB := Lib.hid (LB.out.after z)
        replace LC := Lib.hid (LC.out.after z)
        clear z
        obtain ⟨gx, x_0, x_1, x_2, x_3⟩ := BX.out
        go_wp2_with fail
        refine (ret_of (load_any A21 n c21 m5 _ _ LC.out.rd HN5.out HS.out) (v' := .int .u64 0) (by rw [HZ5.out])).mono ?_
        rintro _ w24 ⟨rfl, z⟩
        clear gx x_0 x_1 x_2 x_3
        replace Z := Lib.hid (Z.out.trans (z.mono Z.out.size))
        replace BX := Lib.hid (BX.out.below z)
        replace BH := Lib.hid (BH.out.after z)
        replace LB := Lib.hid (LB.out.after z)
        replace LC := Lib.hid (LC.out.after z)
        clear z
        obtain ⟨gx, x_0, x_1, x_2, x_3⟩ := BX.out
        go_wp2_with fail
        refine (Tells.of (waits_any W D J S q A21 n c21 m5 _ LC.out.rd HN5.out HS.out HUM5.out) (v' := .bool true) (by rw [HW5.out])).mono ?_
        rintro _ w25 ⟨rfl, z⟩
        clear gx x_0 x_1 x_2 x_3
        replace Z := Lib.hid (Z.out.trans (z.mono Z.out.size))
        replace BX := Lib.hid (BX.out.below z)
        replace BH := Lib.hid (BH.out.after z)
        replace LB := Lib.hid (LB.out.after z)
        replace LC := Lib.hid (LC.out.after z)
        clear z
        go_wp2
        go_ret
        exact ⟨rfl, Z.out⟩
theorem alone_walk (W D J S q v : Int) (A : Option Addr) (n c : Nat) (m : List Int) (w : World) (hm : Rd w A m) (hn : m.length = n) (hu : UM m) (hvu : U v) : Tells 4 #[cf W D J S, .slice A n c, .int .i64 q, .int .u64 v] w (.bool true) := by
  by_cases hs : n ≤ 500
  · cases ho : okw W D J S m q
    · exact alone_no W D J S q v A n c m w hm hn hs ho
    · by_cases hv : v = 0
      · subst hv
        exact alone_by W D J S q A n c m w hm hn hs ho
      · exact alone_main W D J S q v A n c m w hm hn hs hu hvu ho hv
  · exact alone_big W D J S q v A n c m w hm hn (by omega)
end Go.Proofs.Ytpnmgpmmaiinmaa
