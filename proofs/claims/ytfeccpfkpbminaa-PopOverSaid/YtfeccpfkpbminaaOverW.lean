/- The walk of PopOver. -/
import Derived.Test.YtfeccpfkpbminaaPoH
import Derived.Test.YtfeccpfkpbminaaSaL
namespace Go.Proofs.Ytfeccpfkpbminaa
open Go.RowKit Go.Deep
theorem over_big (W D J S a : Int) (A : Option Addr) (n c : Nat) (m : List Int) (w : World) (hm : Rd w A m) (hn : 500 < n) : Tells 7 #[cf W D J S, .slice A n c, .int .i64 a] w (.bool true) := by
  have hd : decide ((500 : Int) < (n : Int)) = true := decide_eq_true (by omega)
  have LM := Lib.hid hm
  clear hm
  go_enter Try.func7, Try.ntmps7
  go_wp2_with fail
  refine (awake_any _).mono ?_
  rintro _ w1 ⟨rfl, z⟩
  have BX := Lib.hid ((Bx.mk w W D J S 23).below z)
  replace z := (box_below w _).trans (z.mono (by simp))
  have Z := Lib.hid z
  replace LM := Lib.hid (LM.out.below z)
  clear z
  go_wp2_with fail
  refine (begin_any 1 a 0 _).mono ?_
  rintro _ w2 ⟨rfl, z⟩
  replace Z := Lib.hid (Z.out.trans (z.mono Z.out.size))
  replace BX := Lib.hid (BX.out.below z)
  replace LM := Lib.hid (LM.out.below z)
  clear z
  have hgf := Lib.hid (show w.heap.size < w2.heap.size from BX.out.1)
  have hzf := Lib.hid Z.out.size
  have HBX := Lib.hid (Nat.ne_of_lt hgf.out)
  replace Z := Lib.hid (Z.out.trans ((bel_alloc w2 (.cells #[.int .i64 1, .int .i64 0, .int .i64 a, .int .u64 0, .int .u64 0, .int .u64 0, .int .i64 0] 28)).mono Z.out.size))
  go_wp2
  go_ret
  exact ⟨rfl, Z.out⟩
theorem over_none (W D J S a : Int) (A : Option Addr) (n c : Nat) (m : List Int) (w : World) (hm : Rd w A m) (hn : m.length = n) (hs : n ≤ 500) (hg : goes W D J S m (fbg 1 a 0) 1 7 = false) : Tells 7 #[cf W D J S, .slice A n c, .int .i64 a] w (.bool true) := by
  have HG := Lib.hid hg
  clear hg
  have hd : decide ((500 : Int) < (n : Int)) = false := decide_eq_false (by omega)
  have LM := Lib.hid hm
  clear hm
  go_enter Try.func7, Try.ntmps7
  go_wp2_with fail
  refine (awake_any _).mono ?_
  rintro _ w1 ⟨rfl, z⟩
  have BX := Lib.hid ((Bx.mk w W D J S 23).below z)
  replace z := (box_below w _).trans (z.mono (by simp))
  have Z := Lib.hid z
  replace LM := Lib.hid (LM.out.below z)
  clear z
  go_wp2_with fail
  refine (begin_any 1 a 0 _).mono ?_
  rintro _ w2 ⟨rfl, z⟩
  replace Z := Lib.hid (Z.out.trans (z.mono Z.out.size))
  replace BX := Lib.hid (BX.out.below z)
  replace LM := Lib.hid (LM.out.below z)
  clear z
  have hgf := Lib.hid (show w.heap.size < w2.heap.size from BX.out.1)
  have hzf := Lib.hid Z.out.size
  have HBX := Lib.hid (Nat.ne_of_lt hgf.out)
  obtain ⟨gx, x_0, x_1, x_2, x_3⟩ := BX.out
  go_wp2_with fail
  refine (Tells.of (goes_any W D J S 1 7 A n c m (fbg 1 a 0) _ hn) (v' := .bool false) (by rw [HG.out])).mono ?_
  rintro _ w3 ⟨rfl, z⟩
  clear gx x_0 x_1 x_2 x_3
  have BF := Lib.hid ((Bf.new w2 (fbg 1 a 0)).after z)
  replace z := keep_call z (bel_alloc w2 _)
  replace Z := Lib.hid (Z.out.trans (z.mono Z.out.size))
  replace BX := Lib.hid (BX.out.below z)
  replace LM := Lib.hid (LM.out.below z)
  clear z
  go_wp2
  go_ret
  exact ⟨rfl, Z.out⟩
set_option maxHeartbeats 1000000 in
theorem over_some (W D J S a : Int) (A : Option Addr) (n c : Nat) (m : List Int) (w : World) (hm : Rd w A m) (hn : m.length = n) (hs : n ≤ 500) (hu : UM m) (hg : goes W D J S m (fbg 1 a 0) 1 7 = true) : Tells 7 #[cf W D J S, .slice A n c, .int .i64 a] w (.bool true) := by
  have HG := Lib.hid hg
  have hov := pop_over (v := 0) (goes_iff.1 hg).1
  obtain ⟨F, hF⟩ : ∃ F, (itN (popS W D J S) 7 (m, fbg 1 a 0)).2 = F := ⟨_, rfl⟩
  have HU := Lib.hid (fun k => popN_U (W := W) (D := D) (J := J) (S := S) (s := (m, fbg 1 a 0)) hu ⟨U0, U0, U0⟩ k)
  have HPL := Lib.hid (fun k => (popN_len W D J S k (m, fbg 1 a 0)).trans hn)
  have hw : (fbg 1 a 0).who = a := rfl
  rw [hw] at hov
  rw [hF] at hov
  have HF := Lib.hid hF
  clear hF hw hg hu
  obtain ⟨fo, fp, fq, fv, fx, fy, fs⟩ := F
  simp only at hov
  have hnn : ((n : Int) == (n : Int)) = true := by simp
  have key : fs ≠ 0 := by rcases hov with h | ⟨h, _⟩ <;> omega
  have HKE := Lib.hid (show (fs != 0) = true by simpa using key)
  clear key
  have hd : decide ((500 : Int) < (n : Int)) = false := decide_eq_false (by omega)
  have LM := Lib.hid hm
  clear hm
  go_enter Try.func7, Try.ntmps7
  go_wp2_with fail
  refine (awake_any _).mono ?_
  rintro _ w1 ⟨rfl, z⟩
  have BX := Lib.hid ((Bx.mk w W D J S 23).below z)
  replace z := (box_below w _).trans (z.mono (by simp))
  have Z := Lib.hid z
  replace LM := Lib.hid (LM.out.below z)
  clear z
  go_wp2_with fail
  refine (begin_any 1 a 0 _).mono ?_
  rintro _ w2 ⟨rfl, z⟩
  replace Z := Lib.hid (Z.out.trans (z.mono Z.out.size))
  replace BX := Lib.hid (BX.out.below z)
  replace LM := Lib.hid (LM.out.below z)
  clear z
  have hgf := Lib.hid (show w.heap.size < w2.heap.size from BX.out.1)
  have hzf := Lib.hid Z.out.size
  have HBX := Lib.hid (Nat.ne_of_lt hgf.out)
  obtain ⟨gx, x_0, x_1, x_2, x_3⟩ := BX.out
  go_wp2_with fail
  refine (Tells.of (goes_any W D J S 1 7 A n c m (fbg 1 a 0) _ hn) (v' := .bool true) (by rw [HG.out])).mono ?_
  rintro _ w3 ⟨rfl, z⟩
  clear gx x_0 x_1 x_2 x_3
  have BF := Lib.hid ((Bf.new w2 (fbg 1 a 0)).after z)
  replace z := keep_call z (bel_alloc w2 _)
  replace Z := Lib.hid (Z.out.trans (z.mono Z.out.size))
  replace BX := Lib.hid (BX.out.below z)
  replace LM := Lib.hid (LM.out.below z)
  clear z
  have HBB := Lib.hid BF.out.lt
  go_wp2
  go_loopw [10, 9] (fun i s wr => ∃ (j : Nat) (A : Option Addr) (c : Nat), i = .int .i64 j ∧ s = .slice A n c ∧ j ≤ 7 ∧ Hid (Rd wr A (itN (popS W D J S) j (m, fbg 1 a 0)).1) ∧ Hid (Bf wr w2.heap.size (itN (popS W D J S) j (m, fbg 1 a 0)).2) ∧ Hid (Kb w2.heap.size w3 wr)) (fun i _ _ => 7 - (intOf i).toNat)
  case atStart =>
    exact ⟨0, A, c, rfl, rfl, by omega, LM, BF, Lib.hid (Kb.refl _ _)⟩
  case round =>
    clear BF LM
    obtain ⟨j, A, c, rfl, rfl, hj, LA, BF, KB⟩ := hrel
    by_cases hlt : j < 7
    · have HUj := Lib.hid (HU.out j).2
      have HLj := Lib.hid (HPL.out j)
      have HE := Lib.hid (itN_succ (popS W D J S) j (m, fbg 1 a 0))
      generalize (itN (popS W D J S) j (m, fbg 1 a 0)).1 = M at *
      generalize (itN (popS W D J S) j (m, fbg 1 a 0)).2 = F at *
      obtain ⟨M', F', HP⟩ : ∃ M' F', Hid (popS W D J S M F = (M', F')) := ⟨_, _, Lib.hid rfl⟩
      obtain ⟨_, b0, b1, b2, b3⟩ := BX.out.kb KB.out HBX.out
      obtain ⟨d0, d1, d2, d3, d4, d5, d6⟩ := BF.out.cells
      have lBF := BF.out.lt
      have lBX := (BX.out.kb KB.out HBX.out).1
      go_wp2_with fail
      refine (pop_n LA.out HLj.out hs HUj.out HP.out).mono ?_
      rintro _ w7 ⟨A', c', rfl, hn7, z⟩
      have BF3 := BF.out.after z
      clear b0 b1 b2 b3 d0 d1 d2 d3 d4 d5 d6 lBF lBX
      obtain ⟨d0, d1, d2, d3, d4, d5, d6⟩ := BF3.cells
      have fz := BF3.free
      have lBF := BF3.lt
      have HN := Lib.hid (hn7.pf BF.out.lt F')
      have HB3 := Lib.hid (BF3.pf F')
      have HK3 := Lib.hid ((KB.out.call HBB.out z).pf F')
      clear hn7 BF3 z
      go_wp2_with fail
      go_roundw
      case rel => exact ⟨j + 1, A', c', by go_num, rfl, by omega, by rw [HE.out, HP.out]; exact Lib.hid HN.out.rd, by rw [HE.out, HP.out]; exact HB3, HK3⟩
      case measure => simp [intOf]; omega
    · obtain rfl : j = 7 := by omega
      replace BX := Lib.hid (BX.out.kb KB.out HBX.out)
      replace Z := Lib.hid (Z.out.trans (KB.out.low.mono hzf.out))
      clear KB HBB hj hlt
      rw [HF.out] at BF
      obtain ⟨a0, a1, a2, a3, a4, a5, a6⟩ := BF.out.cells
      have la := BF.out.lt
      simp only at a0 a1 a2 a3 a4 a5 a6
      go_wp2_with fail
      refine (Tells.of (over_any ⟨fo, fp, fq, fv, fx, fy, fs⟩ _) (v' := .bool true) (by rw [← HKE.out])).mono ?_
      rintro _ w8 ⟨rfl, z⟩
      clear a0 a1 a2 a3 a4 a5 a6 la
      replace Z := Lib.hid (Z.out.trans (z.mono Z.out.size))
      replace BX := Lib.hid (BX.out.below z)
      replace BF := Lib.hid (BF.out.after z)
      replace LA := Lib.hid (LA.out.below z)
      clear z
      obtain ⟨a0, a1, a2, a3, a4, a5, a6⟩ := BF.out.cells
      have la := BF.out.lt
      simp only at a0 a1 a2 a3 a4 a5 a6
      rcases hov with rfl | ⟨rfl, rfl⟩
      all_goals
        go_wp2
        go_ret
        exact ⟨rfl, Z.out⟩
theorem over_walk (W D J S a : Int) (A : Option Addr) (n c : Nat) (m : List Int) (w : World) (hm : Rd w A m) (hn : m.length = n) (hu : UM m) : Tells 7 #[cf W D J S, .slice A n c, .int .i64 a] w (.bool true) := by
  by_cases hs : n ≤ 500
  · cases hg : goes W D J S m (fbg 1 a 0) 1 7 with
    | false => exact over_none W D J S a A n c m w hm hn hs hg
    | true => exact over_some W D J S a A n c m w hm hn hs hu hg
  · exact over_big W D J S a A n c m w hm (by omega)
end Go.Proofs.Ytfeccpfkpbminaa
