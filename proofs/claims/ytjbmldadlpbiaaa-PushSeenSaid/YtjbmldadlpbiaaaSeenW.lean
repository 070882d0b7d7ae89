/- The walk of PushSeen. -/
import Derived.Test.YtjbmldadlpbiaaaOtherW
namespace Go.Proofs.Ytjbmldadlpbiaaa
open Go.RowKit Go.Deep
theorem no_below {W D J S x : Int} {m : List Int} (h : 500 < m.length) : lst W D J S m x = none := by
  refine lst_no (fun hk => ?_)
  obtain ⟨hm, hl, _, _⟩ := okw_iff.1 hk
  obtain ⟨hW, hD, hJ, hS⟩ := may_lim hm
  have := (bg_lim hD hJ (x := W) (by omega)).2
  omega
theorem seen_big (W D J S a v : Int) (A : Option Addr) (n c : Nat) (m : List Int) (w : World) (hm : Rd w A m) (hn : m.length = n) (hs : 500 < n) : Tells 7 #[cf W D J S, .slice A n c, .int .i64 a, .int .u64 v] w (.bool true) := by
  have hd : decide ((500 : Int) < (n : Int)) = true := decide_eq_true (by omega)
  have hl : lst W D J S m a = none := no_below (by omega)
  have HL := Lib.hid hl
  have LM := Lib.hid hm
  clear hl hm
  go_enter Try.func7, Try.ntmps7
  go_wp2_with fail
  refine (awake_any _).mono ?_
  rintro _ w1 ⟨rfl, z⟩
  have BX := Lib.hid ((Bx.mk w W D J S 23).below z)
  replace z := (box_below w _).trans (z.mono (by simp))
  have Z := Lib.hid z
  replace LM := Lib.hid (LM.out.below z)
  clear z
  obtain ⟨gx, x_0, x_1, x_2, x_3⟩ := BX.out
  go_wp2_with fail
  refine (list_n LM.out hn HL.out rfl rfl).mono ?_
  rintro _ w2 ⟨A2, c2, rfl, hc2, hr2, z⟩
  clear gx x_0 x_1 x_2 x_3
  replace Z := Lib.hid (Z.out.trans (z.mono Z.out.size))
  replace BX := Lib.hid (BX.out.below z)
  replace LM := Lib.hid (LM.out.below z)
  clear z
  go_wp2
  go_ret
  exact ⟨rfl, Z.out⟩
theorem seen_none (W D J S a v : Int) (A : Option Addr) (n c : Nat) (m : List Int) (w : World) (hm : Rd w A m) (hn : m.length = n) (hs : n ≤ 500) (hl : lst W D J S m a = none) : Tells 7 #[cf W D J S, .slice A n c, .int .i64 a, .int .u64 v] w (.bool true) := by
  have hd : decide ((500 : Int) < (n : Int)) = false := decide_eq_false (by omega)
  have HL := Lib.hid hl
  have LM := Lib.hid hm
  clear hl hm
  go_enter Try.func7, Try.ntmps7
  go_wp2_with fail
  refine (awake_any _).mono ?_
  rintro _ w1 ⟨rfl, z⟩
  have BX := Lib.hid ((Bx.mk w W D J S 23).below z)
  replace z := (box_below w _).trans (z.mono (by simp))
  have Z := Lib.hid z
  replace LM := Lib.hid (LM.out.below z)
  clear z
  obtain ⟨gx, x_0, x_1, x_2, x_3⟩ := BX.out
  go_wp2_with fail
  refine (list_n LM.out hn HL.out rfl rfl).mono ?_
  rintro _ w2 ⟨A2, c2, rfl, hc2, hr2, z⟩
  clear gx x_0 x_1 x_2 x_3
  replace Z := Lib.hid (Z.out.trans (z.mono Z.out.size))
  replace BX := Lib.hid (BX.out.below z)
  replace LM := Lib.hid (LM.out.below z)
  clear z
  go_wp2
  go_ret
  exact ⟨rfl, Z.out⟩
theorem seen_full (W D J S a v : Int) (A : Option Addr) (n c : Nat) (m l : List Int) (w : World) (hm : Rd w A m) (hn : m.length = n) (hs : n ≤ 500) (hl : lst W D J S m a = some l) (hD : D ≤ l.length) : Tells 7 #[cf W D J S, .slice A n c, .int .i64 a, .int .u64 v] w (.bool true) := by
  have hd : decide ((500 : Int) < (n : Int)) = false := decide_eq_false (by omega)
  have hdl : decide (D ≤ (l.length : Int)) = true := decide_eq_true hD
  have HL := Lib.hid hl
  have LM := Lib.hid hm
  clear hl hm hD
  go_enter Try.func7, Try.ntmps7
  go_wp2_with fail
  refine (awake_any _).mono ?_
  rintro _ w1 ⟨rfl, z⟩
  have BX := Lib.hid ((Bx.mk w W D J S 23).below z)
  replace z := (box_below w _).trans (z.mono (by simp))
  have Z := Lib.hid z
  replace LM := Lib.hid (LM.out.below z)
  clear z
  obtain ⟨gx, x_0, x_1, x_2, x_3⟩ := BX.out
  go_wp2_with fail
  refine (list_n LM.out hn HL.out rfl rfl).mono ?_
  rintro _ w2 ⟨A2, c2, rfl, hc2, hr2, z⟩
  clear gx x_0 x_1 x_2 x_3
  replace Z := Lib.hid (Z.out.trans (z.mono Z.out.size))
  replace BX := Lib.hid (BX.out.below z)
  replace LM := Lib.hid (LM.out.below z)
  simp only [Option.getD_some] at hr2 hc2 ⊢
  have LL := Lib.hid hr2
  clear z hr2 hc2
  obtain ⟨gx, x_0, x_1, x_2, x_3⟩ := BX.out
  go_wp2
  go_ret
  exact ⟨rfl, Z.out⟩
set_option maxHeartbeats 1000000 in
theorem seen_main (W D J S a v : Int) (A : Option Addr) (n c : Nat) (m l : List Int) (w : World) (hm : Rd w A m) (hn : m.length = n) (hs : n ≤ 500) (hu : UM m) (hv : U v) (hl : lst W D J S m a = some l) (hD : (l.length : Int) < D) : Tells 7 #[cf W D J S, .slice A n c, .int .i64 a, .int .u64 v] w (.bool true) := by
  have hd : decide ((500 : Int) < (n : Int)) = false := decide_eq_false (by omega)
  have hdl : decide (D ≤ (l.length : Int)) = false := decide_eq_false (by omega)
  have HU := Lib.hid (fun k => pushN_U (W := W) (D := D) (J := J) (S := S) (s := (m, fbg 0 a v)) hu ⟨hv, U0, U0⟩ k)
  have HPL := Lib.hid (fun k => (pushN_len W D J S k (m, fbg 0 a v)).trans hn)
  have HLEN := Lib.hid (lst_len hu hl)
  have HSE := Lib.hid (push_seen (v := v) hu hl hD)
  have HL := Lib.hid hl
  have LM := Lib.hid hm
  clear hl hm hD hu hv
  go_enter Try.func7, Try.ntmps7
  go_wp2_with fail
  refine (awake_any _).mono ?_
  rintro _ w1 ⟨rfl, z⟩
  have BX := Lib.hid ((Bx.mk w W D J S 23).below z)
  replace z := (box_below w _).trans (z.mono (by simp))
  have Z := Lib.hid z
  replace LM := Lib.hid (LM.out.below z)
  clear z
  obtain ⟨gx, x_0, x_1, x_2, x_3⟩ := BX.out
  go_wp2_with fail
  refine (list_n LM.out hn HL.out rfl rfl).mono ?_
  rintro _ w2 ⟨A2, c2, rfl, hc2, hr2, z⟩
  clear gx x_0 x_1 x_2 x_3
  replace Z := Lib.hid (Z.out.trans (z.mono Z.out.size))
  replace BX := Lib.hid (BX.out.below z)
  replace LM := Lib.hid (LM.out.below z)
  simp only [Option.getD_some] at hr2 hc2 ⊢
  have LL := Lib.hid hr2
  clear z hr2 hc2
  obtain ⟨gx, x_0, x_1, x_2, x_3⟩ := BX.out
  go_wp2_with fail
  refine (begin_any 0 a v _).mono ?_
  rintro _ w3 ⟨rfl, z⟩
  clear gx x_0 x_1 x_2 x_3
  replace Z := Lib.hid (Z.out.trans (z.mono Z.out.size))
  replace BX := Lib.hid (BX.out.below z)
  replace LM := Lib.hid (LM.out.below z)
  replace LL := Lib.hid (LL.out.below z)
  clear z
  have hgf := Lib.hid (show w.heap.size < w3.heap.size from BX.out.1)
  have hzf := Lib.hid Z.out.size
  replace LL := Lib.hid (LL.out.rx (g := w3.heap.size) (Nat.le_refl _))
  obtain ⟨ws, hws⟩ : ∃ ws, ws = w3.alloc (.cells #[.int .i64 (fbg 0 a v).op, .int .i64 (fbg 0 a v).pc, .int .i64 (fbg 0 a v).who, .int .u64 (fbg 0 a v).val, .int .u64 (fbg 0 a v).x, .int .u64 (fbg 0 a v).y, .int .i64 (fbg 0 a v).res] 28) := ⟨_, rfl⟩
  have hz := box_below w3 (.cells #[.int .i64 (fbg 0 a v).op, .int .i64 (fbg 0 a v).pc, .int .i64 (fbg 0 a v).who, .int .u64 (fbg 0 a v).val, .int .u64 (fbg 0 a v).x, .int .u64 (fbg 0 a v).y, .int .i64 (fbg 0 a v).res] 28)
  rw [← hws] at hz
  have BF := Lib.hid (show Bf ws w3.heap.size (fbg 0 a v) by rw [hws]; exact Bf.new w3 (fbg 0 a v))
  have HBX := Lib.hid (Nat.ne_of_lt hgf.out)
  replace BX := Lib.hid (BX.out.below hz)
  replace LM := Lib.hid (LM.out.below hz)
  replace LL := Lib.hid (LL.out.after hz)
  replace Z := Lib.hid (Z.out.trans (hz.mono Z.out.size))
  have HBB := Lib.hid BF.out.lt
  have HW := Lib.hid hws
  clear hz hws
  go_wp2
  go_loopw [14, 13] (fun i s wr => ∃ (j : Nat) (A : Option Addr) (c : Nat), i = .int .i64 j ∧ s = .slice A n c ∧ j ≤ 3 ∧ Hid (Rd wr A (pushN W D J S j (m, fbg 0 a v)).1) ∧ Hid (Bf wr w3.heap.size (pushN W D J S j (m, fbg 0 a v)).2) ∧ Hid (Kb w3.heap.size ws wr)) (fun i _ _ => 3 - (intOf i).toNat)
  case atStart =>
    obtain rfl := HW.out
    exact ⟨0, A, c, rfl, rfl, by omega, LM, BF, Lib.hid (Kb.refl _ _)⟩
  case round =>
    clear BF LM
    obtain ⟨j, A, c, rfl, rfl, hj, LA, BF, KB⟩ := hrel
    by_cases hlt : j < 3
    · have HUj := Lib.hid (HU.out j).2
      have HLj := Lib.hid (HPL.out j)
      have HE := Lib.hid (pushN_succ W D J S j (m, fbg 0 a v))
      obtain ⟨hl1, hr1⟩ := HSE.out.1 (j + 1) (by omega)
      rw [pushN_succ] at hl1 hr1
      generalize (pushN W D J S j (m, fbg 0 a v)).1 = M at *
      generalize (pushN W D J S j (m, fbg 0 a v)).2 = F at *
      obtain ⟨M', F', hP⟩ : ∃ M' F', pushS W D J S M F = (M', F') := ⟨_, _, rfl⟩
      rw [hP] at hl1 hr1
      simp only at hl1 hr1
      have HL1 := Lib.hid hl1
      have HR1 := Lib.hid hr1
      have HP := Lib.hid hP
      have HLj2 := Lib.hid (show M'.length = n by have := pushS_len W D J S M F; rw [hP] at this; exact this.trans HLj.out)
      clear hP hl1 hr1
      obtain ⟨_, b0, b1, b2, b3⟩ := BX.out.kb KB.out HBX.out
      obtain ⟨d0, d1, d2, d3, d4, d5, d6⟩ := BF.out.cells
      have lBF := BF.out.lt
      have lBX := (BX.out.kb KB.out HBX.out).1
      go_wp2_with fail
      refine (step_n LA.out HLj.out hs HUj.out HP.out).mono ?_
      rintro _ w7 ⟨A', c', rfl, hn7, z⟩
      have BF3 := BF.out.after z
      clear b0 b1 b2 b3 d0 d1 d2 d3 d4 d5 d6 lBF lBX
      obtain ⟨d0, d1, d2, d3, d4, d5, d6⟩ := BF3.cells
      have fz := BF3.free
      have lBF := BF3.lt
      have HN := Lib.hid (hn7.pf BF.out.lt F').rd
      have HB3 := Lib.hid (BF3.pf F')
      have HK3 := Lib.hid ((KB.out.call HBB.out z).pf F')
      clear hn7 z BF3
      go_upto_region 11 with fail
      change Code.wp _ _ _ _ (pf w7 w3.heap.size F')
      have hN := HN.out
      have hB3 := HB3.out
      have hK3 := HK3.out
      clear d0 d1 d2 d3 d4 d5 d6 fz lBF BF LA KB HN HB3 HK3
      generalize pf w7 w3.heap.size F' = wp at hN hB3 hK3 ⊢
      have HN := Lib.hid hN
      have HB3 := Lib.hid hB3
      have HK3 := Lib.hid hK3
      obtain ⟨lBX, b0, b1, b2, b3⟩ := BX.out.kb hK3 HBX.out
      clear hN hB3 hK3
      go_wp2_with fail
      have hN := HN.out
      have hB3 := HB3.out
      have hK3 := HK3.out
      clear HN HB3 HK3 lBX b0 b1 b2 b3
      refine (list_n hN HLj2.out HL1.out rfl rfl).mono ?_
      rintro _ w8 ⟨A8, c8, rfl, hc8, hr8, z⟩
      simp only [Option.getD_some] at hr8 ⊢
      have LA := Lib.hid (hN.below z)
      have BF := Lib.hid (hB3.after z)
      have KB := Lib.hid (hK3.call HBB.out z)
      clear z hN hB3 hK3 hc8
      go_wp2_with fail
      refine (nums_eq hr8 (LL.out.kb KB.out).rd rfl (by have := HLEN.out; omega)).mono ?_
      rintro _ w9 ⟨rfl, q9, hq⟩
      have z := below_of_drewN hq
      replace LA := Lib.hid (LA.out.below z)
      replace BF := Lib.hid (BF.out.after z)
      replace KB := Lib.hid (KB.out.call HBB.out z)
      clear z hq hr8
      obtain ⟨d0, d1, d2, d3, d4, d5, d6⟩ := BF.out.cells
      have lBF := BF.out.lt
      go_wp2_with fail
      refine (Tells.of (over_any F' _) (v' := .bool false) (by rw [HR1.out]; rfl)).mono ?_
      rintro _ w10 ⟨rfl, z⟩
      replace LA := Lib.hid (LA.out.below z)
      replace BF := Lib.hid (BF.out.after z)
      replace KB := Lib.hid (KB.out.call HBB.out z)
      clear z d0 d1 d2 d3 d4 d5 d6 lBF
      go_wp2_with fail
      go_roundw
      case rel => exact ⟨j + 1, A', c', by go_num, rfl, by omega, by rw [HE.out, HP.out]; exact LA, by rw [HE.out, HP.out]; exact BF, KB⟩
      case measure => simp [intOf]; omega
    · obtain rfl : j = 3 := by omega
      clear hj hlt HW
      have HUj := Lib.hid (HU.out 3).2
      have HLj := Lib.hid (HPL.out 3)
      have HE := Lib.hid (pushN_succ W D J S 3 (m, fbg 0 a v))
      obtain ⟨hl1, hr1⟩ := HSE.out.2
      rw [pushN_succ] at hl1 hr1
      generalize (pushN W D J S 3 (m, fbg 0 a v)).1 = M at *
      generalize (pushN W D J S 3 (m, fbg 0 a v)).2 = F at *
      obtain ⟨M', F', hP⟩ : ∃ M' F', pushS W D J S M F = (M', F') := ⟨_, _, rfl⟩
      rw [hP] at hl1 hr1
      simp only at hl1 hr1
      have HL1 := Lib.hid hl1
      have HR1 := Lib.hid hr1
      have HP := Lib.hid hP
      have HLj2 := Lib.hid (show M'.length = n by have := pushS_len W D J S M F; rw [hP] at this; exact this.trans HLj.out)
      clear hP hl1 hr1
      obtain ⟨_, b0, b1, b2, b3⟩ := BX.out.kb KB.out HBX.out
      obtain ⟨d0, d1, d2, d3, d4, d5, d6⟩ := BF.out.cells
      have lBF := BF.out.lt
      have lBX := (BX.out.kb KB.out HBX.out).1
      go_wp2_with fail
      refine (step_n LA.out HLj.out hs HUj.out HP.out).mono ?_
      rintro _ w7 ⟨A', c', rfl, hn7, z⟩
      have BF3 := BF.out.after z
      clear b0 b1 b2 b3 d0 d1 d2 d3 d4 d5 d6 lBF lBX
      obtain ⟨d0, d1, d2, d3, d4, d5, d6⟩ := BF3.cells
      have fz := BF3.free
      have lBF := BF3.lt
      have HN := Lib.hid (hn7.pf BF.out.lt F').rd
      have HB3 := Lib.hid (BF3.pf F')
      have HK3 := Lib.hid ((KB.out.call HBB.out z).pf F')
      clear hn7 z BF3
      go_upto_region 16 with fail
      change Code.wp _ _ _ _ (pf w7 w3.heap.size F')
      have hN := HN.out
      have hB3 := HB3.out
      have hK3 := HK3.out
      clear d0 d1 d2 d3 d4 d5 d6 fz lBF BF LA KB HN HB3 HK3
      generalize pf w7 w3.heap.size F' = wp at hN hB3 hK3 ⊢
      have HN := Lib.hid hN
      have HB3 := Lib.hid hB3
      have HK3 := Lib.hid hK3
      obtain ⟨lBX, b0, b1, b2, b3⟩ := BX.out.kb hK3 HBX.out
      clear hN hB3 hK3
      go_wp2_with fail
      have hN := HN.out
      have hB3 := HB3.out
      have hK3 := HK3.out
      clear HN HB3 HK3 lBX b0 b1 b2 b3
      refine (list_n hN HLj2.out HL1.out rfl rfl).mono ?_
      rintro _ w8 ⟨A8, c8, rfl, hc8, hr8, z⟩
      simp only [Option.getD_some] at hr8 ⊢
      have LA := Lib.hid (hN.below z)
      have BF := Lib.hid (hB3.after z)
      have KB := Lib.hid (hK3.call HBB.out z)
      clear z hN hB3 hK3 hc8
      have LL2 := Lib.hid (LL.out.kb KB.out).rd
      have LQ := Lib.hid hr8
      have Z2 := Lib.hid (Z.out.trans (KB.out.low.mono hzf.out))
      clear hr8 LL Z LA KB
      obtain ⟨R1, e1, wa, hrun1, hown1, hb1⟩ := run_appN (Own.nil w8 w8.heap.size) c2 LL2.out rfl (by have := HLEN.out; omega) (Nat.le_refl _)
      simp only [Nat.zero_add, List.nil_append] at hrun1 hown1
      have za := bel_alloc wa (.cells #[.int .u64 v] 26)
      obtain ⟨R2, e2, wb, hrun2, hown2, hb2⟩ := run_appN (m := 1) (hown1.after za) 1 (rd_one wa v) rfl (by have := HLEN.out; omega) (Nat.le_trans hb1.size za.size)
      have HRUN1 := Lib.hid hrun1
      have HRUN2 := Lib.hid hrun2
      have HO2 := Lib.hid hown2.rd
      have zb : Below w8.heap.size w8 wb := (hb1.trans (za.mono hb1.size)).trans hb2
      clear hrun1 hrun2 hown1 hown2 hb1 hb2 za
      go_wp2_with (first | (at_builtin; (with_reducible refine wpList_append_run HRUN1.out ?_ ?_ ?_ ?_); exact ⟨_, _, rfl, rfl, rfl⟩; rfl; rfl) | (at_builtin; (with_reducible refine wpList_append_run HRUN2.out ?_ ?_ ?_ ?_); exact ⟨_, _, rfl, rfl, rfl⟩; rfl; rfl))
      have LQ2 := LQ.out.below zb
      replace BF := Lib.hid (BF.out.after zb)
      replace Z2 := Lib.hid (Z2.out.trans (zb.mono Z2.out.size))
      clear zb LQ
      refine (nums_eq LQ2 HO2.out (by simp) (by have := HLEN.out; omega)).mono ?_
      rintro _ w9 ⟨rfl, q9, hq⟩
      have z := below_of_drewN hq
      replace BF := Lib.hid (BF.out.after z)
      replace Z2 := Lib.hid (Z2.out.trans (z.mono Z2.out.size))
      clear z hq LQ2
      obtain ⟨d0, d1, d2, d3, d4, d5, d6⟩ := BF.out.cells
      have lBF := BF.out.lt
      rw [HR1.out] at d6
      go_wp2
      go_ret
      exact ⟨rfl, Z2.out⟩
theorem seen_walk (W D J S a v : Int) (A : Option Addr) (n c : Nat) (m : List Int) (w : World) (hm : Rd w A m) (hn : m.length = n) (hu : UM m) (hv : U v) : Tells 7 #[cf W D J S, .slice A n c, .int .i64 a, .int .u64 v] w (.bool true) := by
  by_cases hs : n ≤ 500
  · cases hl : lst W D J S m a with
    | none => exact seen_none W D J S a v A n c m w hm hn hs hl
    | some l =>
      by_cases hD : D ≤ (l.length : Int)
      · exact seen_full W D J S a v A n c m l w hm hn hs hl hD
      · exact seen_main W D J S a v A n c m l w hm hn hs hu hv hl (by omega)
  · exact seen_big W D J S a v A n c m w hm hn (by omega)
end Go.Proofs.Ytjbmldadlpbiaaa
