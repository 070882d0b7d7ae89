/- The walk of StealPush. -/
import Derived.Test.YtomlgglcfbdimaaDuL
import Derived.Deep.RegionHeld3
namespace Go.Proofs.Ytomlgglcfbdimaa
open Go.RowKit Go.Deep
theorem push_big_w (W D J S a d : Int) (A : Option Addr) (n c : Nat) (m : List Int) (w : World) (hm : Rd w A m) (hn : m.length = n) (hs : 500 < n) (hl : lst W D J S m a = none) : Tells 7 #[cf W D J S, .slice A n c, .int .i64 a, .int .u64 d] w (.bool true) := by
  have HL := Lib.hid hl
  clear hl
  have hd : decide ((500 : Int) < (n : Int)) = true := decide_eq_true (by omega)
  have LM := Lib.hid hm
  clear hm
  go_enter Try.func7, Try.ntmps7
  go_wp2_with fail
  refine (awake_any _).mono ?_
  rintro _ w1 ⟨rfl, z⟩
  have BX := Lib.hid ((Bx.mk w W D J S 23).below z)
  replace z := (box_below w _).trans (z.mono (by simp))
  have Z := Lib.hid z
  replace LM := Lib.hid (LM.out.below z)
  clear z
  obtain ⟨gx, x_0, x_1, x_2, x_3⟩ := BX.out
  go_wp2_with fail
  refine (list_n LM.out hn HL.out rfl rfl).mono ?_
  rintro _ w2 ⟨A2, c2, rfl, hc2, hr2, z⟩
  clear gx x_0 x_1 x_2 x_3
  replace Z := Lib.hid (Z.out.trans (z.mono Z.out.size))
  replace BX := Lib.hid (BX.out.below z)
  replace LM := Lib.hid (LM.out.below z)
  clear z hr2 hc2
  go_wp2
  go_ret
  exact ⟨rfl, Z.out⟩
theorem push_none_w (W D J S a d : Int) (A : Option Addr) (n c : Nat) (m : List Int) (w : World) (hm : Rd w A m) (hn : m.length = n) (hs : n ≤ 500) (hl : lst W D J S m a = none) : Tells 7 #[cf W D J S, .slice A n c, .int .i64 a, .int .u64 d] w (.bool true) := by
  have HL := Lib.hid hl
  clear hl
  have hd : decide ((500 : Int) < (n : Int)) = false := decide_eq_false (by omega)
  have LM := Lib.hid hm
  clear hm
  go_enter Try.func7, Try.ntmps7
  go_wp2_with fail
  refine (awake_any _).mono ?_
  rintro _ w1 ⟨rfl, z⟩
  have BX := Lib.hid ((Bx.mk w W D J S 23).below z)
  replace z := (box_below w _).trans (z.mono (by simp))
  have Z := Lib.hid z
  replace LM := Lib.hid (LM.out.below z)
  clear z
  obtain ⟨gx, x_0, x_1, x_2, x_3⟩ := BX.out
  go_wp2_with fail
  refine (list_n LM.out hn HL.out rfl rfl).mono ?_
  rintro _ w2 ⟨A2, c2, rfl, hc2, hr2, z⟩
  clear gx x_0 x_1 x_2 x_3
  replace Z := Lib.hid (Z.out.trans (z.mono Z.out.size))
  replace BX := Lib.hid (BX.out.below z)
  replace LM := Lib.hid (LM.out.below z)
  clear z hr2 hc2
  go_wp2
  go_ret
  exact ⟨rfl, Z.out⟩
theorem push_nil_w (W D J S a d : Int) (A : Option Addr) (n c : Nat) (m : List Int) (w : World) (hm : Rd w A m) (hn : m.length = n) (hs : n ≤ 500) (hl : lst W D J S m a = some []) : Tells 7 #[cf W D J S, .slice A n c, .int .i64 a, .int .u64 d] w (.bool true) := by
  have HL := Lib.hid hl
  clear hl
  have hd : decide ((500 : Int) < (n : Int)) = false := decide_eq_false (by omega)
  have LM := Lib.hid hm
  clear hm
  go_enter Try.func7, Try.ntmps7
  go_wp2_with fail
  refine (awake_any _).mono ?_
  rintro _ w1 ⟨rfl, z⟩
  have BX := Lib.hid ((Bx.mk w W D J S 23).below z)
  replace z := (box_below w _).trans (z.mono (by simp))
  have Z := Lib.hid z
  replace LM := Lib.hid (LM.out.below z)
  clear z
  obtain ⟨gx, x_0, x_1, x_2, x_3⟩ := BX.out
  go_wp2_with fail
  refine (list_n LM.out hn HL.out rfl rfl).mono ?_
  rintro _ w2 ⟨A2, c2, rfl, hc2, hr2, z⟩
  clear gx x_0 x_1 x_2 x_3
  replace Z := Lib.hid (Z.out.trans (z.mono Z.out.size))
  replace BX := Lib.hid (BX.out.below z)
  replace LM := Lib.hid (LM.out.below z)
  clear z hr2 hc2
  go_wp2
  go_ret
  exact ⟨rfl, Z.out⟩
set_option maxHeartbeats 2000000 in
theorem push_main_y (W D J S a d u : Int) (A : Option Addr) (n c : Nat) (m m' l : List Int) (w : World) (hm : Rd w A m) (hn : m.length = n) (g : Fr) (hs : n ≤ 500) (hu : UM m) (hv : U d) (hl : lst W D J S m a = some (u :: l)) (h1 : duo (stealS W D J S) (pushS W D J S) 4 (m, fbg 2 a 0, fbg 0 a d) = (m', ⟨2, 0, a, u, 0, 0, 1⟩, g)) (hD : ((u :: l).length : Int) < D) (hr : g.res = 1) (h2 : lst W D J S m' a = some (l ++ [d])) : Tells 7 #[cf W D J S, .slice A n c, .int .i64 a, .int .u64 d] w (.bool true) := by
  have hlen := lst_len hu hl
  have HU := Lib.hid (fun k => duo_inv (s1 := stealS W D J S) (s2 := pushS W D J S) (P := fun m => UM m ∧ m.length = n) (Q := UF) (fun m f h1 h2 => ⟨⟨(stealS_U h1.1 h2).1, (stealS_len _ _ _ _ _ _).trans h1.2⟩, (stealS_U h1.1 h2).2⟩) (fun m f h1 h2 => ⟨⟨(pushS_U h1.1 h2).1, (pushS_len _ _ _ _ _ _).trans h1.2⟩, (pushS_U h1.1 h2).2⟩) (s := (m, fbg 2 a 0, fbg 0 a d)) ⟨hu, hn⟩ ⟨U0, U0, U0⟩ ⟨hv, U0, U0⟩ k)
  obtain ⟨go, gp, gq, gv, gx, gy, gs⟩ := g
  simp only at hr
  subst hr
  have HI := Lib.hid h1
  have HL2 := Lib.hid h2
  obtain ⟨k1, hk1⟩ : ∃ k1, l.length = k1 := ⟨_, rfl⟩
  have HK := Lib.hid (show (u :: l).length = k1 + 1 by simp [hk1])
  have HK1 := Lib.hid hk1
  have HLEN := Lib.hid (show k1 ≤ 20 by simp only [List.length_cons] at hlen; omega)
  have hk0 : (((k1 + 1 : Nat) : Int) == 0) = false := by rw [beq_eq_false_iff_ne]; omega
  have hdl : decide ((k1 : Int) + 1 < D) = true := by
    simp only [List.length_cons, hk1] at hD
    exact decide_eq_true (by omega)
  clear h1 h2 hlen hu hk1 hv hD
  have HL := Lib.hid hl
  clear hl
  have hd : decide ((500 : Int) < (n : Int)) = false := decide_eq_false (by omega)
  have LM := Lib.hid hm
  clear hm
  go_enter Try.func7, Try.ntmps7
  go_wp2_with fail
  refine (awake_any _).mono ?_
  rintro _ w1 ⟨rfl, z⟩
  have BX := Lib.hid ((Bx.mk w W D J S 23).below z)
  replace z := (box_below w _).trans (z.mono (by simp))
  have Z := Lib.hid z
  replace LM := Lib.hid (LM.out.below z)
  clear z
  obtain ⟨gx, x_0, x_1, x_2, x_3⟩ := BX.out
  go_wp2_with fail
  refine (list_n LM.out hn HL.out HK.out rfl).mono ?_
  rintro _ w2 ⟨A2, c2, rfl, hc2, hr2, z⟩
  clear gx x_0 x_1 x_2 x_3
  replace Z := Lib.hid (Z.out.trans (z.mono Z.out.size))
  replace BX := Lib.hid (BX.out.below z)
  replace LM := Lib.hid (LM.out.below z)
  simp only [Option.getD_some] at hr2
  obtain ⟨ad, rfl, _, _⟩ := hr2 (by simp)
  have LL := Lib.hid hr2
  have HC := Lib.hid hc2
  clear z hr2 hc2
  go_wp2_with fail
  refine (begin_any 2 a 0 _).mono ?_
  rintro _ w3 ⟨rfl, z⟩
  replace Z := Lib.hid (Z.out.trans (z.mono Z.out.size))
  replace BX := Lib.hid (BX.out.below z)
  replace LM := Lib.hid (LM.out.below z)
  replace LL := Lib.hid (LL.out.below z)
  clear z
  replace LL := Lib.hid (LL.out.rx (Nat.le_refl w3.heap.size))
  have hgf := Lib.hid (show w.heap.size < w3.heap.size from BX.out.1)
  have hzf := Lib.hid Z.out.size
  go_wp2_with fail
  refine (begin_any 0 a d _).mono ?_
  rintro _ w4 ⟨rfl, z⟩
  have BF := Lib.hid ((Bf.new w3 (fbg 2 a 0)).after z)
  replace z := keep_call z (bel_alloc w3 _)
  replace Z := Lib.hid (Z.out.trans (z.mono Z.out.size))
  replace BX := Lib.hid (BX.out.below z)
  replace LM := Lib.hid (LM.out.below z)
  replace LL := Lib.hid (LL.out.after z)
  clear z
  replace LL := Lib.hid (LL.out.ru (Nat.le_refl w4.heap.size))
  have HGK := Lib.hid BF.out.lt
  have HBX1 := Lib.hid (Nat.ne_of_lt hgf.out)
  have HBX2 := Lib.hid (Nat.ne_of_lt BX.out.1)
  obtain ⟨ws, hws⟩ : ∃ ws, ws = w4.alloc (.cells #[.int .i64 (fbg 0 a d).op, .int .i64 (fbg 0 a d).pc, .int .i64 (fbg 0 a d).who, .int .u64 (fbg 0 a d).val, .int .u64 (fbg 0 a d).x, .int .u64 (fbg 0 a d).y, .int .i64 (fbg 0 a d).res] 28) := ⟨_, rfl⟩
  have hz := box_below w4 (.cells #[.int .i64 (fbg 0 a d).op, .int .i64 (fbg 0 a d).pc, .int .i64 (fbg 0 a d).who, .int .u64 (fbg 0 a d).val, .int .u64 (fbg 0 a d).x, .int .u64 (fbg 0 a d).y, .int .i64 (fbg 0 a d).res] 28)
  rw [← hws] at hz
  have BG := Lib.hid (show Bf ws w4.heap.size (fbg 0 a d) by rw [hws]; exact Bf.new w4 (fbg 0 a d))
  replace BX := Lib.hid (BX.out.below hz)
  replace LM := Lib.hid (LM.out.below hz)
  replace LL := Lib.hid (LL.out.after hz)
  replace BF := Lib.hid (BF.out.after hz)
  replace Z := Lib.hid (Z.out.trans (hz.mono Z.out.size))
  have HW := Lib.hid hws
  clear hz hws
  have HBB := Lib.hid BF.out.lt
  go_wp2
  go_loopw [15, 14] (fun i s wr => ∃ (j : Nat) (A : Option Addr) (c : Nat), i = .int .i64 j ∧ s = .slice A n c ∧ j ≤ 4 ∧ Hid (Rd wr A (duo (stealS W D J S) (pushS W D J S) j (m, fbg 2 a 0, fbg 0 a d)).1) ∧ Hid (Bf wr w3.heap.size (duo (stealS W D J S) (pushS W D J S) j (m, fbg 2 a 0, fbg 0 a d)).2.1) ∧ Hid (Bf wr w4.heap.size (duo (stealS W D J S) (pushS W D J S) j (m, fbg 2 a 0, fbg 0 a d)).2.2) ∧ Hid (K2 w3.heap.size w4.heap.size ws wr)) (fun i _ _ => 4 - (intOf i).toNat)
  case atStart =>
    obtain rfl := HW.out
    exact ⟨0, A, c, rfl, rfl, by omega, LM, BF, BG, Lib.hid (K2.refl _ _ _)⟩
  case round =>
    clear BF BG LM
    obtain ⟨j, A, c, rfl, rfl, hj, LA, BF, BG, KB⟩ := hrel
    by_cases hlt : j < 4
    · obtain ⟨⟨huM, hlM⟩, hfF, hfG⟩ := HU.out j
      have HLj := Lib.hid hlM
      have HUF := Lib.hid hfF
      have HUG := Lib.hid hfG
      obtain ⟨M', F', hP1⟩ : ∃ M' F', stealS W D J S (duo (stealS W D J S) (pushS W D J S) j (m, fbg 2 a 0, fbg 0 a d)).1 (duo (stealS W D J S) (pushS W D J S) j (m, fbg 2 a 0, fbg 0 a d)).2.1 = (M', F') := ⟨_, _, rfl⟩
      obtain ⟨M2, G', hP2⟩ : ∃ M2 G', pushS W D J S M' (duo (stealS W D J S) (pushS W D J S) j (m, fbg 2 a 0, fbg 0 a d)).2.2 = (M2, G') := ⟨_, _, rfl⟩
      have HE := Lib.hid (duo_one (k := j) (s := (m, fbg 2 a 0, fbg 0 a d)) (show duo (stealS W D J S) (pushS W D J S) j (m, fbg 2 a 0, fbg 0 a d) = ((duo (stealS W D J S) (pushS W D J S) j (m, fbg 2 a 0, fbg 0 a d)).1, (duo (stealS W D J S) (pushS W D J S) j (m, fbg 2 a 0, fbg 0 a d)).2.1, (duo (stealS W D J S) (pushS W D J S) j (m, fbg 2 a 0, fbg 0 a d)).2.2) from rfl) hP1 hP2)
      have HLj2 := Lib.hid (show M'.length = n by have h : (stealS W D J S (duo (stealS W D J S) (pushS W D J S) j (m, fbg 2 a 0, fbg 0 a d)).1 (duo (stealS W D J S) (pushS W D J S) j (m, fbg 2 a 0, fbg 0 a d)).2.1).1.length = (duo (stealS W D J S) (pushS W D J S) j (m, fbg 2 a 0, fbg 0 a d)).1.length := stealS_len _ _ _ _ _ _; rw [hP1] at h; exact h.trans hlM)
      have HP1 := Lib.hid hP1
      have HP2 := Lib.hid hP2
      clear hP1 hP2 huM hlM hfF hfG
      generalize (duo (stealS W D J S) (pushS W D J S) j (m, fbg 2 a 0, fbg 0 a d)).1 = M at *
      generalize (duo (stealS W D J S) (pushS W D J S) j (m, fbg 2 a 0, fbg 0 a d)).2.1 = F at *
      generalize (duo (stealS W D J S) (pushS W D J S) j (m, fbg 2 a 0, fbg 0 a d)).2.2 = G at *
      obtain ⟨lBX, b0, b1, b2, b3⟩ := BX.out.k2 KB.out HBX1.out HBX2.out
      obtain ⟨d0, d1, d2, d3, d4, d5, d6⟩ := BF.out.cells
      have lBF := BF.out.lt
      go_wp2_with fail
      refine (steal_n LA.out HLj.out hs HUF.out HP1.out).mono ?_
      rintro _ w7 ⟨A7, c7, rfl, hn7, z⟩
      have BF3 := BF.out.after z
      have BG3 := BG.out.after z
      clear b0 b1 b2 b3 d0 d1 d2 d3 d4 d5 d6 lBF lBX
      obtain ⟨d0, d1, d2, d3, d4, d5, d6⟩ := BF3.cells
      have fz := BF3.free
      have lBF := BF3.lt
      have hN := (hn7.pf BF.out.lt F').rd
      have hB3 := BF3.pf F'
      have hG3 := BG3.apart (Nat.ne_of_gt HGK.out) F'
      have hK3 := (KB.out.call HBB.out z).pfl F'
      clear hn7 z BG3
      go_upto_region 12 with fail
      change Code.wp _ _ _ _ (pf w7 w3.heap.size F')
      clear d0 d1 d2 d3 d4 d5 d6 fz lBF BF3 BF BG LA KB
      generalize pf w7 w3.heap.size F' = wp at hN hB3 hG3 hK3 ⊢
      have LA := Lib.hid hN
      have BF := Lib.hid hB3
      have BG := Lib.hid hG3
      have KB := Lib.hid hK3
      clear hN hB3 hG3 hK3
      obtain ⟨lBX, b0, b1, b2, b3⟩ := BX.out.k2 KB.out HBX1.out HBX2.out
      obtain ⟨d0, d1, d2, d3, d4, d5, d6⟩ := BG.out.cells
      have lBG := BG.out.lt
      go_wp2_with fail
      refine (step_n LA.out HLj2.out hs HUG.out HP2.out).mono ?_
      rintro _ w8 ⟨A8, c8, rfl, hn8, z⟩
      have BF3 := BF.out.after z
      have BG3 := BG.out.after z
      clear b0 b1 b2 b3 d0 d1 d2 d3 d4 d5 d6 lBG lBX
      obtain ⟨d0, d1, d2, d3, d4, d5, d6⟩ := BG3.cells
      have fz := BG3.free
      have lBG := BG3.lt
      have HN := Lib.hid ((hn8.pf BG.out.lt G').rd)
      have HG3 := Lib.hid (BG3.pf G')
      have HF3 := Lib.hid (BF3.apart (Nat.ne_of_lt HGK.out) G')
      have HK3 := Lib.hid ((KB.out.call HBB.out z).pfr HGK.out G')
      clear hn8 z BF3 BG3
      go_wp2_with fail
      go_roundw
      case rel => exact ⟨j + 1, A8, c8, by go_num, rfl, by omega, by rw [HE.out]; exact HN, by rw [HE.out]; exact HF3, by rw [HE.out]; exact HG3, HK3⟩
      case measure => simp [intOf]; omega
    · obtain rfl : j = 4 := by omega
      replace BX := Lib.hid (BX.out.k2 KB.out HBX1.out HBX2.out)
      replace LL := Lib.hid (LL.out.k2 KB.out)
      replace Z := Lib.hid (Z.out.trans (KB.out.low.mono hzf.out))
      clear KB HBB hj hlt HW
      have HML := Lib.hid (show m'.length = n by have := (HU.out 4).1.2; rw [HI.out] at this; exact this)
      rw [HI.out] at LA BF BG
      simp only at LA BF BG
      obtain ⟨gx, x_0, x_1, x_2, x_3⟩ := BX.out
      go_wp2_with fail
      refine (list_n (k := k1 + 1) LA.out HML.out HL2.out (by have := HK1.out; simp [this]) rfl).mono ?_
      rintro _ w9 ⟨A9, c9, rfl, hc9, hr9, z⟩
      clear gx x_0 x_1 x_2 x_3
      replace Z := Lib.hid (Z.out.trans (z.mono Z.out.size))
      replace BX := Lib.hid (BX.out.below z)
      replace LL := Lib.hid (LL.out.after z)
      replace BF := Lib.hid (BF.out.after z)
      replace BG := Lib.hid (BG.out.after z)
      replace LA := Lib.hid (LA.out.below z)
      simp only [Option.getD_some] at hr9
      have LQ := Lib.hid hr9
      clear z hr9 hc9
      have hc3 : ((k1 + 1 : Nat) : Int) ≤ (c2 : Int) := by have := HC.out; omega
      have hc4 : (k1 : Int) + 1 ≤ (c2 : Int) := by have := HC.out; omega
      have hc5 : (1 : Int) ≤ (k1 : Int) + 1 := by omega
      by_cases hcc : c2 = 1
      · have hk10 : k1 = 0 := by have := HC.out; omega
        subst hcc
        have HT := Lib.hid (show Rd w9 (some ad) l from fun hp => by have := HK1.out; omega)
        clear hk10
        obtain ⟨R1, e1, wa, hrun1, hown1, hb1⟩ := run_appN (Own.nil w9 w9.heap.size) 0 HT.out HK1.out (by have := HLEN.out; omega) (Nat.le_refl _)
        simp only [Nat.zero_add, List.nil_append] at hrun1 hown1
        have za := bel_alloc wa (.cells #[.int .u64 d] 26)
        obtain ⟨R2, e2, wb, hrun2, hown2, hb2⟩ := run_appN (m := 1) (hown1.after za) 1 (rd_one wa d) rfl (by have := HLEN.out; omega) (Nat.le_trans hb1.size za.size)
        have HRUN1 := Lib.hid hrun1
        have HRUN2 := Lib.hid hrun2
        have HO2 := Lib.hid hown2.rd
        have zb : Below w9.heap.size w9 wb := (hb1.trans (za.mono hb1.size)).trans hb2
        have BGa := Lib.hid (BG.out.after hb1)
        clear hrun1 hrun2 hown1 hown2 hb1 hb2 za
        obtain ⟨e0, e1, e2, e3, e4, e5, e6⟩ := BGa.out.cells
        have le := BGa.out.lt
        simp only at e0 e1 e2 e3 e4 e5 e6
        go_wp2_with (first | (at_builtin; (with_reducible refine wpList_append_run HRUN1.out ?_ ?_ ?_ ?_); exact ⟨_, _, rfl, rfl, rfl⟩; rfl; rfl) | (at_builtin; (with_reducible refine wpList_append_run HRUN2.out ?_ ?_ ?_ ?_); exact ⟨_, _, rfl, rfl, rfl⟩; rfl; rfl))
        clear e0 e1 e2 e3 e4 e5 e6 le
        clear BGa
        replace BX := Lib.hid (BX.out.below zb)
        replace LL := Lib.hid (LL.out.after zb)
        replace BF := Lib.hid (BF.out.after zb)
        replace BG := Lib.hid (BG.out.after zb)
        replace LA := Lib.hid (LA.out.below zb)
        replace LQ := Lib.hid (LQ.out.below zb)
        replace Z := Lib.hid (Z.out.trans (zb.mono Z.out.size))
        clear zb
        refine (nums_eq LQ.out HO2.out (by have := HK1.out; simp [this]) (by have := HLEN.out; omega)).mono ?_
        rintro _ w10 ⟨rfl, q10, hq⟩
        have z := below_of_drewN hq
        clear hq
        replace Z := Lib.hid (Z.out.trans (z.mono Z.out.size))
        replace BX := Lib.hid (BX.out.below z)
        replace LL := Lib.hid (LL.out.after z)
        replace BF := Lib.hid (BF.out.after z)
        replace BG := Lib.hid (BG.out.after z)
        replace LA := Lib.hid (LA.out.below z)
        replace LQ := Lib.hid (LQ.out.below z)
        clear z
        obtain ⟨ad2, hq2, _, _, hadl, hadc⟩ := LL.out (by simp)
        cases hq2
        have u0 : w10.cell? ad = some (.int .u64 u) := hadc 0 u rfl
        have hk9 : (0 : Int) < (k1 : Int) + 1 := by omega
        clear hadc
        have HKH := Lib.hid (show ∀ x', Below w10.heap.size w10 x' → (fun w' => w'.cell? ⟨w.heap.size, 1, none⟩ = some (.int .i64 D) ∧ w'.cell? ⟨w3.heap.size, 6, none⟩ = some (.int .i64 1) ∧ w'.cell? ⟨w3.heap.size, 3, none⟩ = some (.int .u64 u) ∧ w'.cell? ad = some (.int .u64 u) ∧ w'.cell? ⟨w4.heap.size, 0, none⟩ = some (.int .i64 go) ∧ w'.cell? ⟨w4.heap.size, 1, none⟩ = some (.int .i64 gp) ∧ w'.cell? ⟨w4.heap.size, 2, none⟩ = some (.int .i64 gq) ∧ w'.cell? ⟨w4.heap.size, 3, none⟩ = some (.int .u64 gv) ∧ w'.cell? ⟨w4.heap.size, 4, none⟩ = some (.int .u64 gx) ∧ w'.cell? ⟨w4.heap.size, 5, none⟩ = some (.int .u64 gy) ∧ w'.cell? ⟨w4.heap.size, 6, none⟩ = some (.int .i64 1) ∧ Below w10.heap.size w10 w') x' from fun x' hx => by
          obtain ⟨_, e0, e1, e2, e3⟩ := BX.out.below hx
          obtain ⟨f0, f1, f2, f3, f4, f5, f6⟩ := (BF.out.after hx).cells
          obtain ⟨g0, g1, g2, g3, g4, g5, g6⟩ := (BG.out.after hx).cells
          exact ⟨e1, f6, f3, (hx.cell (p := ad) hadl).trans u0, g0, g1, g2, g3, g4, g5, g6, hx⟩)
        clear u0 hadl
        go_wp2_with fail
        refine wp_region_held_drew (S := fun w' => w'.cell? ⟨w.heap.size, 1, none⟩ = some (.int .i64 D) ∧ w'.cell? ⟨w3.heap.size, 6, none⟩ = some (.int .i64 1) ∧ w'.cell? ⟨w3.heap.size, 3, none⟩ = some (.int .u64 u) ∧ w'.cell? ad = some (.int .u64 u) ∧ w'.cell? ⟨w4.heap.size, 0, none⟩ = some (.int .i64 go) ∧ w'.cell? ⟨w4.heap.size, 1, none⟩ = some (.int .i64 gp) ∧ w'.cell? ⟨w4.heap.size, 2, none⟩ = some (.int .i64 gq) ∧ w'.cell? ⟨w4.heap.size, 3, none⟩ = some (.int .u64 gv) ∧ w'.cell? ⟨w4.heap.size, 4, none⟩ = some (.int .u64 gx) ∧ w'.cell? ⟨w4.heap.size, 5, none⟩ = some (.int .u64 gy) ∧ w'.cell? ⟨w4.heap.size, 6, none⟩ = some (.int .i64 1) ∧ Below w10.heap.size w10 w') (by kernel_rfl) (HKH.out _ (keep_drew (Below.refl _ _))) (fun hHeld => ?_)
        refine wpAnyH_take (i := 0) (oi := { dst := some 89, op := Go.Op.fieldAddr 28 (Go.Operand.tmp 12) 6, type := 0, pos := "more.go:57", after := #[], guard := none }) (v := ?vspy0_0) rfl (by kernel_rfl) (by kernel_rfl) (by kernel_rfl) (fun _ _ _ h => h) (Or.inl ⟨by rfl, ?yspy0_0⟩) (by assumption) ?rspy0_0
        case yspy0_0 => (intro w hSw; (try dsimp only at hSw); go_simp; (try with_reducible rfl))
        (try simp only [Act.put, List.setIfInBounds_toArray, List.set_cons_zero, List.set_cons_succ])
        refine wpAnyH_take (i := 1) (oi := { dst := some 90, op := Go.Op.load 3 (Go.Operand.tmp 89), type := 3, pos := "more.go:57", after := #[{ on := 0, ground := Go.Ground.data }], guard := none }) (v := ?vspy0_1) rfl (by kernel_rfl) (by kernel_rfl) (by kernel_rfl) (fun _ _ _ h => h) (Or.inl ⟨by rfl, ?yspy0_1⟩) (by assumption) ?rspy0_1
        case yspy0_1 => (intro w hSw; (try dsimp only at hSw); go_simp; (try with_reducible rfl))
        (try simp only [Act.put, List.setIfInBounds_toArray, List.set_cons_zero, List.set_cons_succ])
        refine wpAnyH_take (i := 2) (oi := { dst := some 91, op := Go.Op.binOp Go.BinOp.eql 3 (Go.Operand.tmp 90) (Go.Operand.const (Go.Value.int Go.IntKind.i64 1)) 3, type := 4, pos := "more.go:57", after := #[{ on := 1, ground := Go.Ground.data }], guard := none }) (v := ?vspy0_2) rfl (by kernel_rfl) (by kernel_rfl) (by kernel_rfl) (fun _ _ _ h => h) (Or.inl ⟨by rfl, ?yspy0_2⟩) (by assumption) ?rspy0_2
        case yspy0_2 => (intro w hSw; (try dsimp only at hSw); go_simp; (try with_reducible rfl))
        (try simp only [Act.put, List.setIfInBounds_toArray, List.set_cons_zero, List.set_cons_succ])
        refine wpAnyH_take (i := 3) (oi := { dst := some 92, op := Go.Op.move (Go.Operand.tmp 91), type := 4, pos := "more.go:57", after := #[{ on := 2, ground := Go.Ground.data }], guard := none }) (v := ?vspy0_3) rfl (by kernel_rfl) (by kernel_rfl) (by kernel_rfl) (fun _ _ _ h => h) (Or.inl ⟨by rfl, ?yspy0_3⟩) (by assumption) ?rspy0_3
        case yspy0_3 => (intro w hSw; (try dsimp only at hSw); go_simp; (try with_reducible rfl))
        (try simp only [Act.put, List.setIfInBounds_toArray, List.set_cons_zero, List.set_cons_succ])
        refine wpAnyH_take (i := 4) (oi := { dst := some 93, op := Go.Op.fieldAddr 28 (Go.Operand.tmp 12) 3, type := 0, pos := "more.go:57", after := #[{ on := 3, ground := Go.Ground.guard }], guard := some (3, true) }) (v := ?vspy0_4) rfl (by kernel_rfl) (by kernel_rfl) (by kernel_rfl) (fun _ _ _ h => h) (Or.inl ⟨by rfl, ?yspy0_4⟩) (by assumption) ?rspy0_4
        case yspy0_4 => (intro w hSw; (try dsimp only at hSw); go_simp; (try with_reducible rfl))
        (try simp only [Act.put, List.setIfInBounds_toArray, List.set_cons_zero, List.set_cons_succ])
        refine wpAnyH_take (i := 5) (oi := { dst := some 94, op := Go.Op.load 26 (Go.Operand.tmp 93), type := 26, pos := "more.go:57", after := #[{ on := 4, ground := Go.Ground.data }, { on := 3, ground := Go.Ground.guard }], guard := some (3, true) }) (v := ?vspy0_5) rfl (by kernel_rfl) (by kernel_rfl) (by kernel_rfl) (fun _ _ _ h => h) (Or.inl ⟨by rfl, ?yspy0_5⟩) (by assumption) ?rspy0_5
        case yspy0_5 => (intro w hSw; (try dsimp only at hSw); go_simp; (try with_reducible rfl))
        (try simp only [Act.put, List.setIfInBounds_toArray, List.set_cons_zero, List.set_cons_succ])
        refine wpAnyH_take (i := 6) (oi := { dst := some 95, op := Go.Op.move (Go.Operand.tmp 10), type := 24, pos := "more.go:57", after := #[{ on := 3, ground := Go.Ground.guard }], guard := some (3, true) }) (v := ?vspy0_6) rfl (by kernel_rfl) (by kernel_rfl) (by kernel_rfl) (fun _ _ _ h => h) (Or.inl ⟨by rfl, ?yspy0_6⟩) (by assumption) ?rspy0_6
        case yspy0_6 => (intro w hSw; (try dsimp only at hSw); go_simp; (try with_reducible rfl))
        (try simp only [Act.put, List.setIfInBounds_toArray, List.set_cons_zero, List.set_cons_succ])
        refine wpAnyH_take (i := 7) (oi := { dst := some 96, op := Go.Op.indexAddr 24 (Go.Operand.tmp 95) (Go.Operand.const (Go.Value.int Go.IntKind.i64 0)), type := 0, pos := "more.go:57", after := #[{ on := 6, ground := Go.Ground.data }, { on := 3, ground := Go.Ground.guard }], guard := some (3, true) }) (v := ?vspy0_7) rfl (by kernel_rfl) (by kernel_rfl) (by kernel_rfl) (fun _ _ _ h => h) (Or.inl ⟨by rfl, ?yspy0_7⟩) (by assumption) ?rspy0_7
        case yspy0_7 => (intro w hSw; (try dsimp only at hSw); go_simp; (try with_reducible rfl))
        (try simp only [Act.put, List.setIfInBounds_toArray, List.set_cons_zero, List.set_cons_succ])
        refine wpAnyH_take (i := 8) (oi := { dst := some 97, op := Go.Op.load 26 (Go.Operand.tmp 96), type := 26, pos := "more.go:57", after := #[{ on := 7, ground := Go.Ground.data }, { on := 3, ground := Go.Ground.guard }], guard := some (3, true) }) (v := ?vspy0_8) rfl (by kernel_rfl) (by kernel_rfl) (by kernel_rfl) (fun _ _ _ h => h) (Or.inl ⟨by rfl, ?yspy0_8⟩) (by assumption) ?rspy0_8
        case yspy0_8 => (intro w hSw; (try dsimp only at hSw); go_simp; (try with_reducible rfl))
        (try simp only [Act.put, List.setIfInBounds_toArray, List.set_cons_zero, List.set_cons_succ])
        refine wpAnyH_take (i := 9) (oi := { dst := some 98, op := Go.Op.binOp Go.BinOp.eql 26 (Go.Operand.tmp 94) (Go.Operand.tmp 97) 26, type := 4, pos := "more.go:57", after := #[{ on := 5, ground := Go.Ground.data }, { on := 8, ground := Go.Ground.data }, { on := 3, ground := Go.Ground.guard }], guard := some (3, true) }) (v := ?vspy0_9) rfl (by kernel_rfl) (by kernel_rfl) (by kernel_rfl) (fun _ _ _ h => h) (Or.inl ⟨by rfl, ?yspy0_9⟩) (by assumption) ?rspy0_9
        case yspy0_9 => (intro w hSw; (try dsimp only at hSw); go_simp; (try with_reducible rfl))
        (try simp only [Act.put, List.setIfInBounds_toArray, List.set_cons_zero, List.set_cons_succ])
        refine wpAnyH_take (i := 10) (oi := { dst := some 99, op := Go.Op.pick (Go.Operand.tmp 92) (Go.Operand.tmp 98) (Go.Operand.const (Go.Value.bool false)), type := 4, pos := "more.go:57", after := #[{ on := 3, ground := Go.Ground.data }, { on := 9, ground := Go.Ground.data }], guard := none }) (v := ?vspy0_10) rfl (by kernel_rfl) (by kernel_rfl) (by kernel_rfl) (fun _ _ _ h => h) (Or.inl ⟨by rfl, ?yspy0_10⟩) (by assumption) ?rspy0_10
        case yspy0_10 => (intro w hSw; (try dsimp only at hSw); go_simp; (try with_reducible rfl))
        (try simp only [Act.put, List.setIfInBounds_toArray, List.set_cons_zero, List.set_cons_succ])
        refine wpAnyH_take (i := 11) (oi := { dst := some 100, op := Go.Op.move (Go.Operand.tmp 99), type := 4, pos := "more.go:57", after := #[{ on := 10, ground := Go.Ground.data }, { on := 3, ground := Go.Ground.chain }], guard := none }) (v := ?vspy0_11) rfl (by kernel_rfl) (by kernel_rfl) (by kernel_rfl) (fun _ _ _ h => h) (Or.inl ⟨by rfl, ?yspy0_11⟩) (by assumption) ?rspy0_11
        case yspy0_11 => (intro w hSw; (try dsimp only at hSw); go_simp; (try with_reducible rfl))
        (try simp only [Act.put, List.setIfInBounds_toArray, List.set_cons_zero, List.set_cons_succ])
        refine wpAnyH_take (i := 12) (oi := { dst := some 101, op := Go.Op.load 28 (Go.Operand.tmp 13), type := 28, pos := "more.go:57", after := #[{ on := 11, ground := Go.Ground.guard }], guard := some (11, true) }) (v := ?vspy0_12) rfl (by kernel_rfl) (by kernel_rfl) (by kernel_rfl) (fun _ _ _ h => h) (Or.inl ⟨by rfl, ?yspy0_12⟩) (by assumption) ?rspy0_12
        case yspy0_12 => (intro w hSw; (try dsimp only at hSw); go_simp; (try with_reducible rfl))
        (try simp only [Act.put, List.setIfInBounds_toArray, List.set_cons_zero, List.set_cons_succ])
        refine wpAnyH_ready (rs := [13]) (by kernel_rfl) (by simp) ?_
        refine AllReadyH.cons (o := { dst := some 102, op := Go.Op.call { callee := Go.Callee.value (Go.Operand.func 22), args := #[Go.Operand.tmp 101], argTypes := #[28] }, type := 4, pos := "more.go:57", after := #[{ on := 12, ground := Go.Ground.data }, { on := 11, ground := Go.Ground.chain }, { on := 11, ground := Go.Ground.guard }], guard := some (11, true) }) rfl (fun K hK => ?_) AllReadyH.nil
        go_simp
        refine (Tells.of (over_any ⟨go, gp, gq, gv, gx, gy, 1⟩ _) (v' := .bool true) (by rfl)).mono ?_
        rintro e w' ⟨rfl, hb⟩
        go_wp2_with fail
        refine hK.out _ _ (held_call HKH.out (fun _ h => h.2.2.2.2.2.2.2.2.2.2.2) hb hHeld) (fun hHeld2 => ?_)
        clear hK K hHeld
        have hHeld := hHeld2
        clear hHeld2
        (try simp only [Act.put, List.setIfInBounds_toArray, List.set_cons_zero, List.set_cons_succ])
        refine wpAnyH_take (i := 14) (oi := { dst := some 103, op := Go.Op.pick (Go.Operand.tmp 100) (Go.Operand.tmp 102) (Go.Operand.const (Go.Value.bool false)), type := 4, pos := "more.go:57", after := #[{ on := 11, ground := Go.Ground.data }, { on := 13, ground := Go.Ground.data }], guard := none }) (v := ?vspy0_14) rfl (by kernel_rfl) (by kernel_rfl) (by kernel_rfl) (fun _ _ _ h => h) (Or.inl ⟨by rfl, ?yspy0_14⟩) (by assumption) ?rspy0_14
        case yspy0_14 => (intro w hSw; (try dsimp only at hSw); go_simp; (try with_reducible rfl))
        (try simp only [Act.put, List.setIfInBounds_toArray, List.set_cons_zero, List.set_cons_succ])
        refine wpAnyH_take (i := 15) (oi := { dst := some 104, op := Go.Op.move (Go.Operand.tmp 103), type := 4, pos := "more.go:57", after := #[{ on := 14, ground := Go.Ground.data }, { on := 13, ground := Go.Ground.chain }], guard := none }) (v := ?vspy0_15) rfl (by kernel_rfl) (by kernel_rfl) (by kernel_rfl) (fun _ _ _ h => h) (Or.inl ⟨by rfl, ?yspy0_15⟩) (by assumption) ?rspy0_15
        case yspy0_15 => (intro w hSw; (try dsimp only at hSw); go_simp; (try with_reducible rfl))
        (try simp only [Act.put, List.setIfInBounds_toArray, List.set_cons_zero, List.set_cons_succ])
        refine wpAnyH_take (i := 16) (oi := { dst := some 105, op := Go.Op.fieldAddr 28 (Go.Operand.tmp 13) 6, type := 0, pos := "more.go:57", after := #[{ on := 15, ground := Go.Ground.guard }], guard := some (15, true) }) (v := ?vspy0_16) rfl (by kernel_rfl) (by kernel_rfl) (by kernel_rfl) (fun _ _ _ h => h) (Or.inl ⟨by rfl, ?yspy0_16⟩) (by assumption) ?rspy0_16
        case yspy0_16 => (intro w hSw; (try dsimp only at hSw); go_simp; (try with_reducible rfl))
        (try simp only [Act.put, List.setIfInBounds_toArray, List.set_cons_zero, List.set_cons_succ])
        refine wpAnyH_take (i := 17) (oi := { dst := some 106, op := Go.Op.load 3 (Go.Operand.tmp 105), type := 3, pos := "more.go:57", after := #[{ on := 16, ground := Go.Ground.data }, { on := 15, ground := Go.Ground.guard }], guard := some (15, true) }) (v := ?vspy0_17) rfl (by kernel_rfl) (by kernel_rfl) (by kernel_rfl) (fun _ _ _ h => h) (Or.inl ⟨by rfl, ?yspy0_17⟩) (by assumption) ?rspy0_17
        case yspy0_17 => (intro w hSw; (try dsimp only at hSw); go_simp; (try with_reducible rfl))
        (try simp only [Act.put, List.setIfInBounds_toArray, List.set_cons_zero, List.set_cons_succ])
        refine wpAnyH_take (i := 18) (oi := { dst := some 107, op := Go.Op.binOp Go.BinOp.eql 3 (Go.Operand.tmp 106) (Go.Operand.const (Go.Value.int Go.IntKind.i64 1)) 3, type := 4, pos := "more.go:57", after := #[{ on := 17, ground := Go.Ground.data }, { on := 15, ground := Go.Ground.guard }], guard := some (15, true) }) (v := ?vspy0_18) rfl (by kernel_rfl) (by kernel_rfl) (by kernel_rfl) (fun _ _ _ h => h) (Or.inl ⟨by rfl, ?yspy0_18⟩) (by assumption) ?rspy0_18
        case yspy0_18 => (intro w hSw; (try dsimp only at hSw); go_simp; (try with_reducible rfl))
        (try simp only [Act.put, List.setIfInBounds_toArray, List.set_cons_zero, List.set_cons_succ])
        refine wpAnyH_take (i := 19) (oi := { dst := some 108, op := Go.Op.move (Go.Operand.tmp 10), type := 24, pos := "more.go:57", after := #[{ on := 15, ground := Go.Ground.guard }], guard := some (15, true) }) (v := ?vspy0_19) rfl (by kernel_rfl) (by kernel_rfl) (by kernel_rfl) (fun _ _ _ h => h) (Or.inl ⟨by rfl, ?yspy0_19⟩) (by assumption) ?rspy0_19
        case yspy0_19 => (intro w hSw; (try dsimp only at hSw); go_simp; (try with_reducible rfl))
        (try simp only [Act.put, List.setIfInBounds_toArray, List.set_cons_zero, List.set_cons_succ])
        refine wpAnyH_take (i := 20) (oi := { dst := some 109, op := Go.Op.call { callee := Go.Callee.builtin Go.Builtin.len, args := #[Go.Operand.tmp 108], argTypes := #[24] }, type := 3, pos := "more.go:57", after := #[{ on := 19, ground := Go.Ground.data }, { on := 15, ground := Go.Ground.guard }], guard := some (15, true) }) (v := ?vspy0_20) rfl (by kernel_rfl) (by kernel_rfl) (by kernel_rfl) (fun _ _ _ h => h) (Or.inl ⟨by rfl, ?yspy0_20⟩) (by assumption) ?rspy0_20
        case yspy0_20 => (intro w hSw; (try dsimp only at hSw); go_simp; (try with_reducible rfl))
        (try simp only [Act.put, List.setIfInBounds_toArray, List.set_cons_zero, List.set_cons_succ])
        refine wpAnyH_take (i := 21) (oi := { dst := some 110, op := Go.Op.fieldAddr 23 (Go.Operand.tmp 4) 1, type := 0, pos := "more.go:57", after := #[{ on := 15, ground := Go.Ground.guard }], guard := some (15, true) }) (v := ?vspy0_21) rfl (by kernel_rfl) (by kernel_rfl) (by kernel_rfl) (fun _ _ _ h => h) (Or.inl ⟨by rfl, ?yspy0_21⟩) (by assumption) ?rspy0_21
        case yspy0_21 => (intro w hSw; (try dsimp only at hSw); go_simp; (try with_reducible rfl))
        (try simp only [Act.put, List.setIfInBounds_toArray, List.set_cons_zero, List.set_cons_succ])
        refine wpAnyH_take (i := 22) (oi := { dst := some 111, op := Go.Op.load 3 (Go.Operand.tmp 110), type := 3, pos := "more.go:57", after := #[{ on := 21, ground := Go.Ground.data }, { on := 15, ground := Go.Ground.guard }], guard := some (15, true) }) (v := ?vspy0_22) rfl (by kernel_rfl) (by kernel_rfl) (by kernel_rfl) (fun _ _ _ h => h) (Or.inl ⟨by rfl, ?yspy0_22⟩) (by assumption) ?rspy0_22
        case yspy0_22 => (intro w hSw; (try dsimp only at hSw); go_simp; (try with_reducible rfl))
        (try simp only [Act.put, List.setIfInBounds_toArray, List.set_cons_zero, List.set_cons_succ])
        refine wpAnyH_take (i := 23) (oi := { dst := some 112, op := Go.Op.binOp Go.BinOp.lss 3 (Go.Operand.tmp 109) (Go.Operand.tmp 111) 3, type := 4, pos := "more.go:57", after := #[{ on := 20, ground := Go.Ground.data }, { on := 22, ground := Go.Ground.data }, { on := 15, ground := Go.Ground.guard }], guard := some (15, true) }) (v := ?vspy0_23) rfl (by kernel_rfl) (by kernel_rfl) (by kernel_rfl) (fun _ _ _ h => h) (Or.inl ⟨by rfl, ?yspy0_23⟩) (by assumption) ?rspy0_23
        case yspy0_23 => (intro w hSw; (try dsimp only at hSw); go_simp; (try with_reducible rfl))
        (try simp only [Act.put, List.setIfInBounds_toArray, List.set_cons_zero, List.set_cons_succ])
        refine wpAnyH_take (i := 24) (oi := { dst := some 113, op := Go.Op.binOp Go.BinOp.eql 4 (Go.Operand.tmp 107) (Go.Operand.tmp 112) 4, type := 4, pos := "more.go:57", after := #[{ on := 18, ground := Go.Ground.data }, { on := 23, ground := Go.Ground.data }, { on := 15, ground := Go.Ground.guard }], guard := some (15, true) }) (v := ?vspy0_24) rfl (by kernel_rfl) (by kernel_rfl) (by kernel_rfl) (fun _ _ _ h => h) (Or.inl ⟨by rfl, ?yspy0_24⟩) (by assumption) ?rspy0_24
        case yspy0_24 => (intro w hSw; (try dsimp only at hSw); go_simp; (try with_reducible rfl))
        (try simp only [Act.put, List.setIfInBounds_toArray, List.set_cons_zero, List.set_cons_succ])
        refine wpAnyH_take (i := 25) (oi := { dst := some 114, op := Go.Op.pick (Go.Operand.tmp 104) (Go.Operand.tmp 113) (Go.Operand.const (Go.Value.bool false)), type := 4, pos := "more.go:57", after := #[{ on := 15, ground := Go.Ground.data }, { on := 24, ground := Go.Ground.data }], guard := none }) (v := ?vspy0_25) rfl (by kernel_rfl) (by kernel_rfl) (by kernel_rfl) (fun _ _ _ h => h) (Or.inl ⟨by rfl, ?yspy0_25⟩) (by assumption) ?rspy0_25
        case yspy0_25 => (intro w hSw; (try dsimp only at hSw); go_simp; (try with_reducible rfl))
        (try simp only [Act.put, List.setIfInBounds_toArray, List.set_cons_zero, List.set_cons_succ])
        refine wpAnyH_take (i := 26) (oi := { dst := some 115, op := Go.Op.move (Go.Operand.tmp 114), type := 4, pos := "more.go:57", after := #[{ on := 25, ground := Go.Ground.data }, { on := 15, ground := Go.Ground.chain }], guard := none }) (v := ?vspy0_26) rfl (by kernel_rfl) (by kernel_rfl) (by kernel_rfl) (fun _ _ _ h => h) (Or.inl ⟨by rfl, ?yspy0_26⟩) (by assumption) ?rspy0_26
        case yspy0_26 => (intro w hSw; (try dsimp only at hSw); go_simp; (try with_reducible rfl))
        (try simp only [Act.put, List.setIfInBounds_toArray, List.set_cons_zero, List.set_cons_succ])
        refine wpAnyH_take (i := 27) (oi := { dst := some 116, op := Go.Op.move (Go.Operand.tmp 17), type := 4, pos := "more.go:57", after := #[{ on := 26, ground := Go.Ground.guard }], guard := some (26, true) }) (v := ?vspy0_27) rfl (by kernel_rfl) (by kernel_rfl) (by kernel_rfl) (fun _ _ _ h => h) (Or.inl ⟨by rfl, ?yspy0_27⟩) (by assumption) ?rspy0_27
        case yspy0_27 => (intro w hSw; (try dsimp only at hSw); go_simp; (try with_reducible rfl))
        (try simp only [Act.put, List.setIfInBounds_toArray, List.set_cons_zero, List.set_cons_succ])
        refine wpAnyH_take (i := 28) (oi := { dst := some 117, op := Go.Op.pick (Go.Operand.tmp 115) (Go.Operand.tmp 116) (Go.Operand.const (Go.Value.bool false)), type := 4, pos := "more.go:57", after := #[{ on := 26, ground := Go.Ground.data }, { on := 27, ground := Go.Ground.data }], guard := none }) (v := ?vspy0_28) rfl (by kernel_rfl) (by kernel_rfl) (by kernel_rfl) (fun _ _ _ h => h) (Or.inl ⟨by rfl, ?yspy0_28⟩) (by assumption) ?rspy0_28
        case yspy0_28 => (intro w hSw; (try dsimp only at hSw); go_simp; (try with_reducible rfl))
        (try simp only [Act.put, List.setIfInBounds_toArray, List.set_cons_zero, List.set_cons_succ])
        refine wpAnyH_take (i := 29) (oi := { dst := some 118, op := Go.Op.move (Go.Operand.tmp 117), type := 4, pos := "more.go:57", after := #[{ on := 28, ground := Go.Ground.data }, { on := 26, ground := Go.Ground.chain }], guard := none }) (v := ?vspy0_29) rfl (by kernel_rfl) (by kernel_rfl) (by kernel_rfl) (fun _ _ _ h => h) (Or.inl ⟨by rfl, ?yspy0_29⟩) (by assumption) ?rspy0_29
        case yspy0_29 => (intro w hSw; (try dsimp only at hSw); go_simp; (try with_reducible rfl))
        (try simp only [Act.put, List.setIfInBounds_toArray, List.set_cons_zero, List.set_cons_succ])
        refine wpAnyH_take (i := 30) (oi := { dst := some 119, op := Go.Op.move (Go.Operand.tmp 19), type := 4, pos := "more.go:57", after := #[{ on := 29, ground := Go.Ground.guard }], guard := some (29, true) }) (v := ?vspy0_30) rfl (by kernel_rfl) (by kernel_rfl) (by kernel_rfl) (fun _ _ _ h => h) (Or.inl ⟨by rfl, ?yspy0_30⟩) (by assumption) ?rspy0_30
        case yspy0_30 => (intro w hSw; (try dsimp only at hSw); go_simp; (try with_reducible rfl))
        (try simp only [Act.put, List.setIfInBounds_toArray, List.set_cons_zero, List.set_cons_succ])
        refine wpAnyH_take (i := 31) (oi := { dst := some 120, op := Go.Op.pick (Go.Operand.tmp 118) (Go.Operand.tmp 119) (Go.Operand.const (Go.Value.bool false)), type := 4, pos := "more.go:57", after := #[{ on := 29, ground := Go.Ground.data }, { on := 30, ground := Go.Ground.data }], guard := none }) (v := ?vspy0_31) rfl (by kernel_rfl) (by kernel_rfl) (by kernel_rfl) (fun _ _ _ h => h) (Or.inl ⟨by rfl, ?yspy0_31⟩) (by assumption) ?rspy0_31
        case yspy0_31 => (intro w hSw; (try dsimp only at hSw); go_simp; (try with_reducible rfl))
        (try simp only [Act.put, List.setIfInBounds_toArray, List.set_cons_zero, List.set_cons_succ])
        refine wpAnyH_take (i := 32) (oi := { dst := some 8, op := Go.Op.assign (Go.Operand.tmp 120), type := 4, pos := "more.go:57", after := #[{ on := 31, ground := Go.Ground.data }, { on := 29, ground := Go.Ground.chain }, { on := 0, ground := Go.Ground.phase }, { on := 1, ground := Go.Ground.phase }, { on := 2, ground := Go.Ground.phase }, { on := 3, ground := Go.Ground.phase }, { on := 4, ground := Go.Ground.phase }, { on := 5, ground := Go.Ground.phase }, { on := 6, ground := Go.Ground.phase }, { on := 7, ground := Go.Ground.phase }, { on := 8, ground := Go.Ground.phase }, { on := 9, ground := Go.Ground.phase }, { on := 10, ground := Go.Ground.phase }, { on := 11, ground := Go.Ground.phase }, { on := 12, ground := Go.Ground.phase }, { on := 13, ground := Go.Ground.phase }, { on := 14, ground := Go.Ground.phase }, { on := 15, ground := Go.Ground.phase }, { on := 16, ground := Go.Ground.phase }, { on := 17, ground := Go.Ground.phase }, { on := 18, ground := Go.Ground.phase }, { on := 19, ground := Go.Ground.phase }, { on := 20, ground := Go.Ground.phase }, { on := 21, ground := Go.Ground.phase }, { on := 22, ground := Go.Ground.phase }, { on := 23, ground := Go.Ground.phase }, { on := 24, ground := Go.Ground.phase }, { on := 25, ground := Go.Ground.phase }, { on := 26, ground := Go.Ground.phase }, { on := 27, ground := Go.Ground.phase }, { on := 28, ground := Go.Ground.phase }, { on := 29, ground := Go.Ground.phase }, { on := 30, ground := Go.Ground.phase }, { on := 31, ground := Go.Ground.phase }], guard := none }) (v := ?vspy0_32) rfl (by kernel_rfl) (by kernel_rfl) (by kernel_rfl) (fun _ _ _ h => h) (Or.inl ⟨by rfl, ?yspy0_32⟩) (by assumption) ?rspy0_32
        case yspy0_32 => (intro w hSw; (try dsimp only at hSw); go_simp; (try with_reducible rfl))
        (try simp only [Act.put, List.setIfInBounds_toArray, List.set_cons_zero, List.set_cons_succ])
        refine wpAnyH_done (by kernel_rfl) ?_ _
        go_wp2
        go_ret
        exact ⟨rfl, Z.out.trans ((hHeld.2.2.2.2.2.2.2.2.2.2.2).mono Z.out.size)⟩
      · have HT := Lib.hid LL.out.rd.tail
        obtain ⟨R1, e1, wa, hrun1, hown1, hb1⟩ := run_appN (Own.nil w9 w9.heap.size) (c2 - 1) HT.out HK1.out (by have := HLEN.out; omega) (Nat.le_refl _)
        simp only [Nat.zero_add, List.nil_append] at hrun1 hown1
        have za := bel_alloc wa (.cells #[.int .u64 d] 26)
        obtain ⟨R2, e2, wb, hrun2, hown2, hb2⟩ := run_appN (m := 1) (hown1.after za) 1 (rd_one wa d) rfl (by have := HLEN.out; omega) (Nat.le_trans hb1.size za.size)
        have HRUN1 := Lib.hid hrun1
        have HRUN2 := Lib.hid hrun2
        have HO2 := Lib.hid hown2.rd
        have zb : Below w9.heap.size w9 wb := (hb1.trans (za.mono hb1.size)).trans hb2
        have BGa := Lib.hid (BG.out.after hb1)
        clear hrun1 hrun2 hown1 hown2 hb1 hb2 za
        obtain ⟨e0, e1, e2, e3, e4, e5, e6⟩ := BGa.out.cells
        have le := BGa.out.lt
        simp only at e0 e1 e2 e3 e4 e5 e6
        go_wp2_with (first | (at_builtin; (with_reducible refine wpList_append_run HRUN1.out ?_ ?_ ?_ ?_); exact ⟨_, _, rfl, rfl, rfl⟩; rfl; rfl) | (at_builtin; (with_reducible refine wpList_append_run HRUN2.out ?_ ?_ ?_ ?_); exact ⟨_, _, rfl, rfl, rfl⟩; rfl; rfl))
        clear e0 e1 e2 e3 e4 e5 e6 le
        clear BGa
        replace BX := Lib.hid (BX.out.below zb)
        replace LL := Lib.hid (LL.out.after zb)
        replace BF := Lib.hid (BF.out.after zb)
        replace BG := Lib.hid (BG.out.after zb)
        replace LA := Lib.hid (LA.out.below zb)
        replace LQ := Lib.hid (LQ.out.below zb)
        replace Z := Lib.hid (Z.out.trans (zb.mono Z.out.size))
        clear zb
        refine (nums_eq LQ.out HO2.out (by have := HK1.out; simp [this]) (by have := HLEN.out; omega)).mono ?_
        rintro _ w10 ⟨rfl, q10, hq⟩
        have z := below_of_drewN hq
        clear hq
        replace Z := Lib.hid (Z.out.trans (z.mono Z.out.size))
        replace BX := Lib.hid (BX.out.below z)
        replace LL := Lib.hid (LL.out.after z)
        replace BF := Lib.hid (BF.out.after z)
        replace BG := Lib.hid (BG.out.after z)
        replace LA := Lib.hid (LA.out.below z)
        replace LQ := Lib.hid (LQ.out.below z)
        clear z
        obtain ⟨ad2, hq2, _, _, hadl, hadc⟩ := LL.out (by simp)
        cases hq2
        have u0 : w10.cell? ad = some (.int .u64 u) := hadc 0 u rfl
        have hk9 : (0 : Int) < (k1 : Int) + 1 := by omega
        clear hadc
        have HKH := Lib.hid (show ∀ x', Below w10.heap.size w10 x' → (fun w' => w'.cell? ⟨w.heap.size, 1, none⟩ = some (.int .i64 D) ∧ w'.cell? ⟨w3.heap.size, 6, none⟩ = some (.int .i64 1) ∧ w'.cell? ⟨w3.heap.size, 3, none⟩ = some (.int .u64 u) ∧ w'.cell? ad = some (.int .u64 u) ∧ w'.cell? ⟨w4.heap.size, 0, none⟩ = some (.int .i64 go) ∧ w'.cell? ⟨w4.heap.size, 1, none⟩ = some (.int .i64 gp) ∧ w'.cell? ⟨w4.heap.size, 2, none⟩ = some (.int .i64 gq) ∧ w'.cell? ⟨w4.heap.size, 3, none⟩ = some (.int .u64 gv) ∧ w'.cell? ⟨w4.heap.size, 4, none⟩ = some (.int .u64 gx) ∧ w'.cell? ⟨w4.heap.size, 5, none⟩ = some (.int .u64 gy) ∧ w'.cell? ⟨w4.heap.size, 6, none⟩ = some (.int .i64 1) ∧ Below w10.heap.size w10 w') x' from fun x' hx => by
          obtain ⟨_, e0, e1, e2, e3⟩ := BX.out.below hx
          obtain ⟨f0, f1, f2, f3, f4, f5, f6⟩ := (BF.out.after hx).cells
          obtain ⟨g0, g1, g2, g3, g4, g5, g6⟩ := (BG.out.after hx).cells
          exact ⟨e1, f6, f3, (hx.cell (p := ad) hadl).trans u0, g0, g1, g2, g3, g4, g5, g6, hx⟩)
        clear u0 hadl
        go_wp2_with fail
        refine wp_region_held_drew (S := fun w' => w'.cell? ⟨w.heap.size, 1, none⟩ = some (.int .i64 D) ∧ w'.cell? ⟨w3.heap.size, 6, none⟩ = some (.int .i64 1) ∧ w'.cell? ⟨w3.heap.size, 3, none⟩ = some (.int .u64 u) ∧ w'.cell? ad = some (.int .u64 u) ∧ w'.cell? ⟨w4.heap.size, 0, none⟩ = some (.int .i64 go) ∧ w'.cell? ⟨w4.heap.size, 1, none⟩ = some (.int .i64 gp) ∧ w'.cell? ⟨w4.heap.size, 2, none⟩ = some (.int .i64 gq) ∧ w'.cell? ⟨w4.heap.size, 3, none⟩ = some (.int .u64 gv) ∧ w'.cell? ⟨w4.heap.size, 4, none⟩ = some (.int .u64 gx) ∧ w'.cell? ⟨w4.heap.size, 5, none⟩ = some (.int .u64 gy) ∧ w'.cell? ⟨w4.heap.size, 6, none⟩ = some (.int .i64 1) ∧ Below w10.heap.size w10 w') (by kernel_rfl) (HKH.out _ (keep_drew (Below.refl _ _))) (fun hHeld => ?_)
        refine wpAnyH_take (i := 0) (oi := { dst := some 89, op := Go.Op.fieldAddr 28 (Go.Operand.tmp 12) 6, type := 0, pos := "more.go:57", after := #[], guard := none }) (v := ?vspy1_0) rfl (by kernel_rfl) (by kernel_rfl) (by kernel_rfl) (fun _ _ _ h => h) (Or.inl ⟨by rfl, ?yspy1_0⟩) (by assumption) ?rspy1_0
        case yspy1_0 => (intro w hSw; (try dsimp only at hSw); go_simp; (try with_reducible rfl))
        (try simp only [Act.put, List.setIfInBounds_toArray, List.set_cons_zero, List.set_cons_succ])
        refine wpAnyH_take (i := 1) (oi := { dst := some 90, op := Go.Op.load 3 (Go.Operand.tmp 89), type := 3, pos := "more.go:57", after := #[{ on := 0, ground := Go.Ground.data }], guard := none }) (v := ?vspy1_1) rfl (by kernel_rfl) (by kernel_rfl) (by kernel_rfl) (fun _ _ _ h => h) (Or.inl ⟨by rfl, ?yspy1_1⟩) (by assumption) ?rspy1_1
        case yspy1_1 => (intro w hSw; (try dsimp only at hSw); go_simp; (try with_reducible rfl))
        (try simp only [Act.put, List.setIfInBounds_toArray, List.set_cons_zero, List.set_cons_succ])
        refine wpAnyH_take (i := 2) (oi := { dst := some 91, op := Go.Op.binOp Go.BinOp.eql 3 (Go.Operand.tmp 90) (Go.Operand.const (Go.Value.int Go.IntKind.i64 1)) 3, type := 4, pos := "more.go:57", after := #[{ on := 1, ground := Go.Ground.data }], guard := none }) (v := ?vspy1_2) rfl (by kernel_rfl) (by kernel_rfl) (by kernel_rfl) (fun _ _ _ h => h) (Or.inl ⟨by rfl, ?yspy1_2⟩) (by assumption) ?rspy1_2
        case yspy1_2 => (intro w hSw; (try dsimp only at hSw); go_simp; (try with_reducible rfl))
        (try simp only [Act.put, List.setIfInBounds_toArray, List.set_cons_zero, List.set_cons_succ])
        refine wpAnyH_take (i := 3) (oi := { dst := some 92, op := Go.Op.move (Go.Operand.tmp 91), type := 4, pos := "more.go:57", after := #[{ on := 2, ground := Go.Ground.data }], guard := none }) (v := ?vspy1_3) rfl (by kernel_rfl) (by kernel_rfl) (by kernel_rfl) (fun _ _ _ h => h) (Or.inl ⟨by rfl, ?yspy1_3⟩) (by assumption) ?rspy1_3
        case yspy1_3 => (intro w hSw; (try dsimp only at hSw); go_simp; (try with_reducible rfl))
        (try simp only [Act.put, List.setIfInBounds_toArray, List.set_cons_zero, List.set_cons_succ])
        refine wpAnyH_take (i := 4) (oi := { dst := some 93, op := Go.Op.fieldAddr 28 (Go.Operand.tmp 12) 3, type := 0, pos := "more.go:57", after := #[{ on := 3, ground := Go.Ground.guard }], guard := some (3, true) }) (v := ?vspy1_4) rfl (by kernel_rfl) (by kernel_rfl) (by kernel_rfl) (fun _ _ _ h => h) (Or.inl ⟨by rfl, ?yspy1_4⟩) (by assumption) ?rspy1_4
        case yspy1_4 => (intro w hSw; (try dsimp only at hSw); go_simp; (try with_reducible rfl))
        (try simp only [Act.put, List.setIfInBounds_toArray, List.set_cons_zero, List.set_cons_succ])
        refine wpAnyH_take (i := 5) (oi := { dst := some 94, op := Go.Op.load 26 (Go.Operand.tmp 93), type := 26, pos := "more.go:57", after := #[{ on := 4, ground := Go.Ground.data }, { on := 3, ground := Go.Ground.guard }], guard := some (3, true) }) (v := ?vspy1_5) rfl (by kernel_rfl) (by kernel_rfl) (by kernel_rfl) (fun _ _ _ h => h) (Or.inl ⟨by rfl, ?yspy1_5⟩) (by assumption) ?rspy1_5
        case yspy1_5 => (intro w hSw; (try dsimp only at hSw); go_simp; (try with_reducible rfl))
        (try simp only [Act.put, List.setIfInBounds_toArray, List.set_cons_zero, List.set_cons_succ])
        refine wpAnyH_take (i := 6) (oi := { dst := some 95, op := Go.Op.move (Go.Operand.tmp 10), type := 24, pos := "more.go:57", after := #[{ on := 3, ground := Go.Ground.guard }], guard := some (3, true) }) (v := ?vspy1_6) rfl (by kernel_rfl) (by kernel_rfl) (by kernel_rfl) (fun _ _ _ h => h) (Or.inl ⟨by rfl, ?yspy1_6⟩) (by assumption) ?rspy1_6
        case yspy1_6 => (intro w hSw; (try dsimp only at hSw); go_simp; (try with_reducible rfl))
        (try simp only [Act.put, List.setIfInBounds_toArray, List.set_cons_zero, List.set_cons_succ])
        refine wpAnyH_take (i := 7) (oi := { dst := some 96, op := Go.Op.indexAddr 24 (Go.Operand.tmp 95) (Go.Operand.const (Go.Value.int Go.IntKind.i64 0)), type := 0, pos := "more.go:57", after := #[{ on := 6, ground := Go.Ground.data }, { on := 3, ground := Go.Ground.guard }], guard := some (3, true) }) (v := ?vspy1_7) rfl (by kernel_rfl) (by kernel_rfl) (by kernel_rfl) (fun _ _ _ h => h) (Or.inl ⟨by rfl, ?yspy1_7⟩) (by assumption) ?rspy1_7
        case yspy1_7 => (intro w hSw; (try dsimp only at hSw); go_simp; (try with_reducible rfl))
        (try simp only [Act.put, List.setIfInBounds_toArray, List.set_cons_zero, List.set_cons_succ])
        refine wpAnyH_take (i := 8) (oi := { dst := some 97, op := Go.Op.load 26 (Go.Operand.tmp 96), type := 26, pos := "more.go:57", after := #[{ on := 7, ground := Go.Ground.data }, { on := 3, ground := Go.Ground.guard }], guard := some (3, true) }) (v := ?vspy1_8) rfl (by kernel_rfl) (by kernel_rfl) (by kernel_rfl) (fun _ _ _ h => h) (Or.inl ⟨by rfl, ?yspy1_8⟩) (by assumption) ?rspy1_8
        case yspy1_8 => (intro w hSw; (try dsimp only at hSw); go_simp; (try with_reducible rfl))
        (try simp only [Act.put, List.setIfInBounds_toArray, List.set_cons_zero, List.set_cons_succ])
        refine wpAnyH_take (i := 9) (oi := { dst := some 98, op := Go.Op.binOp Go.BinOp.eql 26 (Go.Operand.tmp 94) (Go.Operand.tmp 97) 26, type := 4, pos := "more.go:57", after := #[{ on := 5, ground := Go.Ground.data }, { on := 8, ground := Go.Ground.data }, { on := 3, ground := Go.Ground.guard }], guard := some (3, true) }) (v := ?vspy1_9) rfl (by kernel_rfl) (by kernel_rfl) (by kernel_rfl) (fun _ _ _ h => h) (Or.inl ⟨by rfl, ?yspy1_9⟩) (by assumption) ?rspy1_9
        case yspy1_9 => (intro w hSw; (try dsimp only at hSw); go_simp; (try with_reducible rfl))
        (try simp only [Act.put, List.setIfInBounds_toArray, List.set_cons_zero, List.set_cons_succ])
        refine wpAnyH_take (i := 10) (oi := { dst := some 99, op := Go.Op.pick (Go.Operand.tmp 92) (Go.Operand.tmp 98) (Go.Operand.const (Go.Value.bool false)), type := 4, pos := "more.go:57", after := #[{ on := 3, ground := Go.Ground.data }, { on := 9, ground := Go.Ground.data }], guard := none }) (v := ?vspy1_10) rfl (by kernel_rfl) (by kernel_rfl) (by kernel_rfl) (fun _ _ _ h => h) (Or.inl ⟨by rfl, ?yspy1_10⟩) (by assumption) ?rspy1_10
        case yspy1_10 => (intro w hSw; (try dsimp only at hSw); go_simp; (try with_reducible rfl))
        (try simp only [Act.put, List.setIfInBounds_toArray, List.set_cons_zero, List.set_cons_succ])
        refine wpAnyH_take (i := 11) (oi := { dst := some 100, op := Go.Op.move (Go.Operand.tmp 99), type := 4, pos := "more.go:57", after := #[{ on := 10, ground := Go.Ground.data }, { on := 3, ground := Go.Ground.chain }], guard := none }) (v := ?vspy1_11) rfl (by kernel_rfl) (by kernel_rfl) (by kernel_rfl) (fun _ _ _ h => h) (Or.inl ⟨by rfl, ?yspy1_11⟩) (by assumption) ?rspy1_11
        case yspy1_11 => (intro w hSw; (try dsimp only at hSw); go_simp; (try with_reducible rfl))
        (try simp only [Act.put, List.setIfInBounds_toArray, List.set_cons_zero, List.set_cons_succ])
        refine wpAnyH_take (i := 12) (oi := { dst := some 101, op := Go.Op.load 28 (Go.Operand.tmp 13), type := 28, pos := "more.go:57", after := #[{ on := 11, ground := Go.Ground.guard }], guard := some (11, true) }) (v := ?vspy1_12) rfl (by kernel_rfl) (by kernel_rfl) (by kernel_rfl) (fun _ _ _ h => h) (Or.inl ⟨by rfl, ?yspy1_12⟩) (by assumption) ?rspy1_12
        case yspy1_12 => (intro w hSw; (try dsimp only at hSw); go_simp; (try with_reducible rfl))
        (try simp only [Act.put, List.setIfInBounds_toArray, List.set_cons_zero, List.set_cons_succ])
        refine wpAnyH_ready (rs := [13]) (by kernel_rfl) (by simp) ?_
        refine AllReadyH.cons (o := { dst := some 102, op := Go.Op.call { callee := Go.Callee.value (Go.Operand.func 22), args := #[Go.Operand.tmp 101], argTypes := #[28] }, type := 4, pos := "more.go:57", after := #[{ on := 12, ground := Go.Ground.data }, { on := 11, ground := Go.Ground.chain }, { on := 11, ground := Go.Ground.guard }], guard := some (11, true) }) rfl (fun K hK => ?_) AllReadyH.nil
        go_simp
        refine (Tells.of (over_any ⟨go, gp, gq, gv, gx, gy, 1⟩ _) (v' := .bool true) (by rfl)).mono ?_
        rintro e w' ⟨rfl, hb⟩
        go_wp2_with fail
        refine hK.out _ _ (held_call HKH.out (fun _ h => h.2.2.2.2.2.2.2.2.2.2.2) hb hHeld) (fun hHeld2 => ?_)
        clear hK K hHeld
        have hHeld := hHeld2
        clear hHeld2
        (try simp only [Act.put, List.setIfInBounds_toArray, List.set_cons_zero, List.set_cons_succ])
        refine wpAnyH_take (i := 14) (oi := { dst := some 103, op := Go.Op.pick (Go.Operand.tmp 100) (Go.Operand.tmp 102) (Go.Operand.const (Go.Value.bool false)), type := 4, pos := "more.go:57", after := #[{ on := 11, ground := Go.Ground.data }, { on := 13, ground := Go.Ground.data }], guard := none }) (v := ?vspy1_14) rfl (by kernel_rfl) (by kernel_rfl) (by kernel_rfl) (fun _ _ _ h => h) (Or.inl ⟨by rfl, ?yspy1_14⟩) (by assumption) ?rspy1_14
        case yspy1_14 => (intro w hSw; (try dsimp only at hSw); go_simp; (try with_reducible rfl))
        (try simp only [Act.put, List.setIfInBounds_toArray, List.set_cons_zero, List.set_cons_succ])
        refine wpAnyH_take (i := 15) (oi := { dst := some 104, op := Go.Op.move (Go.Operand.tmp 103), type := 4, pos := "more.go:57", after := #[{ on := 14, ground := Go.Ground.data }, { on := 13, ground := Go.Ground.chain }], guard := none }) (v := ?vspy1_15) rfl (by kernel_rfl) (by kernel_rfl) (by kernel_rfl) (fun _ _ _ h => h) (Or.inl ⟨by rfl, ?yspy1_15⟩) (by assumption) ?rspy1_15
        case yspy1_15 => (intro w hSw; (try dsimp only at hSw); go_simp; (try with_reducible rfl))
        (try simp only [Act.put, List.setIfInBounds_toArray, List.set_cons_zero, List.set_cons_succ])
        refine wpAnyH_take (i := 16) (oi := { dst := some 105, op := Go.Op.fieldAddr 28 (Go.Operand.tmp 13) 6, type := 0, pos := "more.go:57", after := #[{ on := 15, ground := Go.Ground.guard }], guard := some (15, true) }) (v := ?vspy1_16) rfl (by kernel_rfl) (by kernel_rfl) (by kernel_rfl) (fun _ _ _ h => h) (Or.inl ⟨by rfl, ?yspy1_16⟩) (by assumption) ?rspy1_16
        case yspy1_16 => (intro w hSw; (try dsimp only at hSw); go_simp; (try with_reducible rfl))
        (try simp only [Act.put, List.setIfInBounds_toArray, List.set_cons_zero, List.set_cons_succ])
        refine wpAnyH_take (i := 17) (oi := { dst := some 106, op := Go.Op.load 3 (Go.Operand.tmp 105), type := 3, pos := "more.go:57", after := #[{ on := 16, ground := Go.Ground.data }, { on := 15, ground := Go.Ground.guard }], guard := some (15, true) }) (v := ?vspy1_17) rfl (by kernel_rfl) (by kernel_rfl) (by kernel_rfl) (fun _ _ _ h => h) (Or.inl ⟨by rfl, ?yspy1_17⟩) (by assumption) ?rspy1_17
        case yspy1_17 => (intro w hSw; (try dsimp only at hSw); go_simp; (try with_reducible rfl))
        (try simp only [Act.put, List.setIfInBounds_toArray, List.set_cons_zero, List.set_cons_succ])
        refine wpAnyH_take (i := 18) (oi := { dst := some 107, op := Go.Op.binOp Go.BinOp.eql 3 (Go.Operand.tmp 106) (Go.Operand.const (Go.Value.int Go.IntKind.i64 1)) 3, type := 4, pos := "more.go:57", after := #[{ on := 17, ground := Go.Ground.data }, { on := 15, ground := Go.Ground.guard }], guard := some (15, true) }) (v := ?vspy1_18) rfl (by kernel_rfl) (by kernel_rfl) (by kernel_rfl) (fun _ _ _ h => h) (Or.inl ⟨by rfl, ?yspy1_18⟩) (by assumption) ?rspy1_18
        case yspy1_18 => (intro w hSw; (try dsimp only at hSw); go_simp; (try with_reducible rfl))
        (try simp only [Act.put, List.setIfInBounds_toArray, List.set_cons_zero, List.set_cons_succ])
        refine wpAnyH_take (i := 19) (oi := { dst := some 108, op := Go.Op.move (Go.Operand.tmp 10), type := 24, pos := "more.go:57", after := #[{ on := 15, ground := Go.Ground.guard }], guard := some (15, true) }) (v := ?vspy1_19) rfl (by kernel_rfl) (by kernel_rfl) (by kernel_rfl) (fun _ _ _ h => h) (Or.inl ⟨by rfl, ?yspy1_19⟩) (by assumption) ?rspy1_19
        case yspy1_19 => (intro w hSw; (try dsimp only at hSw); go_simp; (try with_reducible rfl))
        (try simp only [Act.put, List.setIfInBounds_toArray, List.set_cons_zero, List.set_cons_succ])
        refine wpAnyH_take (i := 20) (oi := { dst := some 109, op := Go.Op.call { callee := Go.Callee.builtin Go.Builtin.len, args := #[Go.Operand.tmp 108], argTypes := #[24] }, type := 3, pos := "more.go:57", after := #[{ on := 19, ground := Go.Ground.data }, { on := 15, ground := Go.Ground.guard }], guard := some (15, true) }) (v := ?vspy1_20) rfl (by kernel_rfl) (by kernel_rfl) (by kernel_rfl) (fun _ _ _ h => h) (Or.inl ⟨by rfl, ?yspy1_20⟩) (by assumption) ?rspy1_20
        case yspy1_20 => (intro w hSw; (try dsimp only at hSw); go_simp; (try with_reducible rfl))
        (try simp only [Act.put, List.setIfInBounds_toArray, List.set_cons_zero, List.set_cons_succ])
        refine wpAnyH_take (i := 21) (oi := { dst := some 110, op := Go.Op.fieldAddr 23 (Go.Operand.tmp 4) 1, type := 0, pos := "more.go:57", after := #[{ on := 15, ground := Go.Ground.guard }], guard := some (15, true) }) (v := ?vspy1_21) rfl (by kernel_rfl) (by kernel_rfl) (by kernel_rfl) (fun _ _ _ h => h) (Or.inl ⟨by rfl, ?yspy1_21⟩) (by assumption) ?rspy1_21
        case yspy1_21 => (intro w hSw; (try dsimp only at hSw); go_simp; (try with_reducible rfl))
        (try simp only [Act.put, List.setIfInBounds_toArray, List.set_cons_zero, List.set_cons_succ])
        refine wpAnyH_take (i := 22) (oi := { dst := some 111, op := Go.Op.load 3 (Go.Operand.tmp 110), type := 3, pos := "more.go:57", after := #[{ on := 21, ground := Go.Ground.data }, { on := 15, ground := Go.Ground.guard }], guard := some (15, true) }) (v := ?vspy1_22) rfl (by kernel_rfl) (by kernel_rfl) (by kernel_rfl) (fun _ _ _ h => h) (Or.inl ⟨by rfl, ?yspy1_22⟩) (by assumption) ?rspy1_22
        case yspy1_22 => (intro w hSw; (try dsimp only at hSw); go_simp; (try with_reducible rfl))
        (try simp only [Act.put, List.setIfInBounds_toArray, List.set_cons_zero, List.set_cons_succ])
        refine wpAnyH_take (i := 23) (oi := { dst := some 112, op := Go.Op.binOp Go.BinOp.lss 3 (Go.Operand.tmp 109) (Go.Operand.tmp 111) 3, type := 4, pos := "more.go:57", after := #[{ on := 20, ground := Go.Ground.data }, { on := 22, ground := Go.Ground.data }, { on := 15, ground := Go.Ground.guard }], guard := some (15, true) }) (v := ?vspy1_23) rfl (by kernel_rfl) (by kernel_rfl) (by kernel_rfl) (fun _ _ _ h => h) (Or.inl ⟨by rfl, ?yspy1_23⟩) (by assumption) ?rspy1_23
        case yspy1_23 => (intro w hSw; (try dsimp only at hSw); go_simp; (try with_reducible rfl))
        (try simp only [Act.put, List.setIfInBounds_toArray, List.set_cons_zero, List.set_cons_succ])
        refine wpAnyH_take (i := 24) (oi := { dst := some 113, op := Go.Op.binOp Go.BinOp.eql 4 (Go.Operand.tmp 107) (Go.Operand.tmp 112) 4, type := 4, pos := "more.go:57", after := #[{ on := 18, ground := Go.Ground.data }, { on := 23, ground := Go.Ground.data }, { on := 15, ground := Go.Ground.guard }], guard := some (15, true) }) (v := ?vspy1_24) rfl (by kernel_rfl) (by kernel_rfl) (by kernel_rfl) (fun _ _ _ h => h) (Or.inl ⟨by rfl, ?yspy1_24⟩) (by assumption) ?rspy1_24
        case yspy1_24 => (intro w hSw; (try dsimp only at hSw); go_simp; (try with_reducible rfl))
        (try simp only [Act.put, List.setIfInBounds_toArray, List.set_cons_zero, List.set_cons_succ])
        refine wpAnyH_take (i := 25) (oi := { dst := some 114, op := Go.Op.pick (Go.Operand.tmp 104) (Go.Operand.tmp 113) (Go.Operand.const (Go.Value.bool false)), type := 4, pos := "more.go:57", after := #[{ on := 15, ground := Go.Ground.data }, { on := 24, ground := Go.Ground.data }], guard := none }) (v := ?vspy1_25) rfl (by kernel_rfl) (by kernel_rfl) (by kernel_rfl) (fun _ _ _ h => h) (Or.inl ⟨by rfl, ?yspy1_25⟩) (by assumption) ?rspy1_25
        case yspy1_25 => (intro w hSw; (try dsimp only at hSw); go_simp; (try with_reducible rfl))
        (try simp only [Act.put, List.setIfInBounds_toArray, List.set_cons_zero, List.set_cons_succ])
        refine wpAnyH_take (i := 26) (oi := { dst := some 115, op := Go.Op.move (Go.Operand.tmp 114), type := 4, pos := "more.go:57", after := #[{ on := 25, ground := Go.Ground.data }, { on := 15, ground := Go.Ground.chain }], guard := none }) (v := ?vspy1_26) rfl (by kernel_rfl) (by kernel_rfl) (by kernel_rfl) (fun _ _ _ h => h) (Or.inl ⟨by rfl, ?yspy1_26⟩) (by assumption) ?rspy1_26
        case yspy1_26 => (intro w hSw; (try dsimp only at hSw); go_simp; (try with_reducible rfl))
        (try simp only [Act.put, List.setIfInBounds_toArray, List.set_cons_zero, List.set_cons_succ])
        refine wpAnyH_take (i := 27) (oi := { dst := some 116, op := Go.Op.move (Go.Operand.tmp 17), type := 4, pos := "more.go:57", after := #[{ on := 26, ground := Go.Ground.guard }], guard := some (26, true) }) (v := ?vspy1_27) rfl (by kernel_rfl) (by kernel_rfl) (by kernel_rfl) (fun _ _ _ h => h) (Or.inl ⟨by rfl, ?yspy1_27⟩) (by assumption) ?rspy1_27
        case yspy1_27 => (intro w hSw; (try dsimp only at hSw); go_simp; (try with_reducible rfl))
        (try simp only [Act.put, List.setIfInBounds_toArray, List.set_cons_zero, List.set_cons_succ])
        refine wpAnyH_take (i := 28) (oi := { dst := some 117, op := Go.Op.pick (Go.Operand.tmp 115) (Go.Operand.tmp 116) (Go.Operand.const (Go.Value.bool false)), type := 4, pos := "more.go:57", after := #[{ on := 26, ground := Go.Ground.data }, { on := 27, ground := Go.Ground.data }], guard := none }) (v := ?vspy1_28) rfl (by kernel_rfl) (by kernel_rfl) (by kernel_rfl) (fun _ _ _ h => h) (Or.inl ⟨by rfl, ?yspy1_28⟩) (by assumption) ?rspy1_28
        case yspy1_28 => (intro w hSw; (try dsimp only at hSw); go_simp; (try with_reducible rfl))
        (try simp only [Act.put, List.setIfInBounds_toArray, List.set_cons_zero, List.set_cons_succ])
        refine wpAnyH_take (i := 29) (oi := { dst := some 118, op := Go.Op.move (Go.Operand.tmp 117), type := 4, pos := "more.go:57", after := #[{ on := 28, ground := Go.Ground.data }, { on := 26, ground := Go.Ground.chain }], guard := none }) (v := ?vspy1_29) rfl (by kernel_rfl) (by kernel_rfl) (by kernel_rfl) (fun _ _ _ h => h) (Or.inl ⟨by rfl, ?yspy1_29⟩) (by assumption) ?rspy1_29
        case yspy1_29 => (intro w hSw; (try dsimp only at hSw); go_simp; (try with_reducible rfl))
        (try simp only [Act.put, List.setIfInBounds_toArray, List.set_cons_zero, List.set_cons_succ])
        refine wpAnyH_take (i := 30) (oi := { dst := some 119, op := Go.Op.move (Go.Operand.tmp 19), type := 4, pos := "more.go:57", after := #[{ on := 29, ground := Go.Ground.guard }], guard := some (29, true) }) (v := ?vspy1_30) rfl (by kernel_rfl) (by kernel_rfl) (by kernel_rfl) (fun _ _ _ h => h) (Or.inl ⟨by rfl, ?yspy1_30⟩) (by assumption) ?rspy1_30
        case yspy1_30 => (intro w hSw; (try dsimp only at hSw); go_simp; (try with_reducible rfl))
        (try simp only [Act.put, List.setIfInBounds_toArray, List.set_cons_zero, List.set_cons_succ])
        refine wpAnyH_take (i := 31) (oi := { dst := some 120, op := Go.Op.pick (Go.Operand.tmp 118) (Go.Operand.tmp 119) (Go.Operand.const (Go.Value.bool false)), type := 4, pos := "more.go:57", after := #[{ on := 29, ground := Go.Ground.data }, { on := 30, ground := Go.Ground.data }], guard := none }) (v := ?vspy1_31) rfl (by kernel_rfl) (by kernel_rfl) (by kernel_rfl) (fun _ _ _ h => h) (Or.inl ⟨by rfl, ?yspy1_31⟩) (by assumption) ?rspy1_31
        case yspy1_31 => (intro w hSw; (try dsimp only at hSw); go_simp; (try with_reducible rfl))
        (try simp only [Act.put, List.setIfInBounds_toArray, List.set_cons_zero, List.set_cons_succ])
        refine wpAnyH_take (i := 32) (oi := { dst := some 8, op := Go.Op.assign (Go.Operand.tmp 120), type := 4, pos := "more.go:57", after := #[{ on := 31, ground := Go.Ground.data }, { on := 29, ground := Go.Ground.chain }, { on := 0, ground := Go.Ground.phase }, { on := 1, ground := Go.Ground.phase }, { on := 2, ground := Go.Ground.phase }, { on := 3, ground := Go.Ground.phase }, { on := 4, ground := Go.Ground.phase }, { on := 5, ground := Go.Ground.phase }, { on := 6, ground := Go.Ground.phase }, { on := 7, ground := Go.Ground.phase }, { on := 8, ground := Go.Ground.phase }, { on := 9, ground := Go.Ground.phase }, { on := 10, ground := Go.Ground.phase }, { on := 11, ground := Go.Ground.phase }, { on := 12, ground := Go.Ground.phase }, { on := 13, ground := Go.Ground.phase }, { on := 14, ground := Go.Ground.phase }, { on := 15, ground := Go.Ground.phase }, { on := 16, ground := Go.Ground.phase }, { on := 17, ground := Go.Ground.phase }, { on := 18, ground := Go.Ground.phase }, { on := 19, ground := Go.Ground.phase }, { on := 20, ground := Go.Ground.phase }, { on := 21, ground := Go.Ground.phase }, { on := 22, ground := Go.Ground.phase }, { on := 23, ground := Go.Ground.phase }, { on := 24, ground := Go.Ground.phase }, { on := 25, ground := Go.Ground.phase }, { on := 26, ground := Go.Ground.phase }, { on := 27, ground := Go.Ground.phase }, { on := 28, ground := Go.Ground.phase }, { on := 29, ground := Go.Ground.phase }, { on := 30, ground := Go.Ground.phase }, { on := 31, ground := Go.Ground.phase }], guard := none }) (v := ?vspy1_32) rfl (by kernel_rfl) (by kernel_rfl) (by kernel_rfl) (fun _ _ _ h => h) (Or.inl ⟨by rfl, ?yspy1_32⟩) (by assumption) ?rspy1_32
        case yspy1_32 => (intro w hSw; (try dsimp only at hSw); go_simp; (try with_reducible rfl))
        (try simp only [Act.put, List.setIfInBounds_toArray, List.set_cons_zero, List.set_cons_succ])
        refine wpAnyH_done (by kernel_rfl) ?_ _
        go_wp2
        go_ret
        exact ⟨rfl, Z.out.trans ((hHeld.2.2.2.2.2.2.2.2.2.2.2).mono Z.out.size)⟩
set_option maxHeartbeats 2000000 in
theorem push_main_n (W D J S a d u : Int) (A : Option Addr) (n c : Nat) (m m' l : List Int) (w : World) (hm : Rd w A m) (hn : m.length = n) (g : Fr) (hs : n ≤ 500) (hu : UM m) (hv : U d) (hl : lst W D J S m a = some (u :: l)) (h1 : duo (stealS W D J S) (pushS W D J S) 4 (m, fbg 2 a 0, fbg 0 a d) = (m', ⟨2, 0, a, u, 0, 0, 1⟩, g)) (hD : ((u :: l).length : Int) = D) (hr : g.res = 2) (h2 : lst W D J S m' a = some (l)) : Tells 7 #[cf W D J S, .slice A n c, .int .i64 a, .int .u64 d] w (.bool true) := by
  have hlen := lst_len hu hl
  have HU := Lib.hid (fun k => duo_inv (s1 := stealS W D J S) (s2 := pushS W D J S) (P := fun m => UM m ∧ m.length = n) (Q := UF) (fun m f h1 h2 => ⟨⟨(stealS_U h1.1 h2).1, (stealS_len _ _ _ _ _ _).trans h1.2⟩, (stealS_U h1.1 h2).2⟩) (fun m f h1 h2 => ⟨⟨(pushS_U h1.1 h2).1, (pushS_len _ _ _ _ _ _).trans h1.2⟩, (pushS_U h1.1 h2).2⟩) (s := (m, fbg 2 a 0, fbg 0 a d)) ⟨hu, hn⟩ ⟨U0, U0, U0⟩ ⟨hv, U0, U0⟩ k)
  obtain ⟨go, gp, gq, gv, gx, gy, gs⟩ := g
  simp only at hr
  subst hr
  have HI := Lib.hid h1
  have HL2 := Lib.hid h2
  obtain ⟨k1, hk1⟩ : ∃ k1, l.length = k1 := ⟨_, rfl⟩
  have HK := Lib.hid (show (u :: l).length = k1 + 1 by simp [hk1])
  have HK1 := Lib.hid hk1
  have HLEN := Lib.hid (show k1 ≤ 20 by simp only [List.length_cons] at hlen; omega)
  have hk0 : (((k1 + 1 : Nat) : Int) == 0) = false := by rw [beq_eq_false_iff_ne]; omega
  have hdl : decide ((k1 : Int) + 1 < D) = false := by
    simp only [List.length_cons, hk1] at hD
    exact decide_eq_false (by omega)
  clear h1 h2 hlen hu hk1 hv hD
  have HL := Lib.hid hl
  clear hl
  have hd : decide ((500 : Int) < (n : Int)) = false := decide_eq_false (by omega)
  have LM := Lib.hid hm
  clear hm
  go_enter Try.func7, Try.ntmps7
  go_wp2_with fail
  refine (awake_any _).mono ?_
  rintro _ w1 ⟨rfl, z⟩
  have BX := Lib.hid ((Bx.mk w W D J S 23).below z)
  replace z := (box_below w _).trans (z.mono (by simp))
  have Z := Lib.hid z
  replace LM := Lib.hid (LM.out.below z)
  clear z
  obtain ⟨gx, x_0, x_1, x_2, x_3⟩ := BX.out
  go_wp2_with fail
  refine (list_n LM.out hn HL.out HK.out rfl).mono ?_
  rintro _ w2 ⟨A2, c2, rfl, hc2, hr2, z⟩
  clear gx x_0 x_1 x_2 x_3
  replace Z := Lib.hid (Z.out.trans (z.mono Z.out.size))
  replace BX := Lib.hid (BX.out.below z)
  replace LM := Lib.hid (LM.out.below z)
  simp only [Option.getD_some] at hr2
  obtain ⟨ad, rfl, _, _⟩ := hr2 (by simp)
  have LL := Lib.hid hr2
  have HC := Lib.hid hc2
  clear z hr2 hc2
  go_wp2_with fail
  refine (begin_any 2 a 0 _).mono ?_
  rintro _ w3 ⟨rfl, z⟩
  replace Z := Lib.hid (Z.out.trans (z.mono Z.out.size))
  replace BX := Lib.hid (BX.out.below z)
  replace LM := Lib.hid (LM.out.below z)
  replace LL := Lib.hid (LL.out.below z)
  clear z
  replace LL := Lib.hid (LL.out.rx (Nat.le_refl w3.heap.size))
  have hgf := Lib.hid (show w.heap.size < w3.heap.size from BX.out.1)
  have hzf := Lib.hid Z.out.size
  go_wp2_with fail
  refine (begin_any 0 a d _).mono ?_
  rintro _ w4 ⟨rfl, z⟩
  have BF := Lib.hid ((Bf.new w3 (fbg 2 a 0)).after z)
  replace z := keep_call z (bel_alloc w3 _)
  replace Z := Lib.hid (Z.out.trans (z.mono Z.out.size))
  replace BX := Lib.hid (BX.out.below z)
  replace LM := Lib.hid (LM.out.below z)
  replace LL := Lib.hid (LL.out.after z)
  clear z
  replace LL := Lib.hid (LL.out.ru (Nat.le_refl w4.heap.size))
  have HGK := Lib.hid BF.out.lt
  have HBX1 := Lib.hid (Nat.ne_of_lt hgf.out)
  have HBX2 := Lib.hid (Nat.ne_of_lt BX.out.1)
  obtain ⟨ws, hws⟩ : ∃ ws, ws = w4.alloc (.cells #[.int .i64 (fbg 0 a d).op, .int .i64 (fbg 0 a d).pc, .int .i64 (fbg 0 a d).who, .int .u64 (fbg 0 a d).val, .int .u64 (fbg 0 a d).x, .int .u64 (fbg 0 a d).y, .int .i64 (fbg 0 a d).res] 28) := ⟨_, rfl⟩
  have hz := box_below w4 (.cells #[.int .i64 (fbg 0 a d).op, .int .i64 (fbg 0 a d).pc, .int .i64 (fbg 0 a d).who, .int .u64 (fbg 0 a d).val, .int .u64 (fbg 0 a d).x, .int .u64 (fbg 0 a d).y, .int .i64 (fbg 0 a d).res] 28)
  rw [← hws] at hz
  have BG := Lib.hid (show Bf ws w4.heap.size (fbg 0 a d) by rw [hws]; exact Bf.new w4 (fbg 0 a d))
  replace BX := Lib.hid (BX.out.below hz)
  replace LM := Lib.hid (LM.out.below hz)
  replace LL := Lib.hid (LL.out.after hz)
  replace BF := Lib.hid (BF.out.after hz)
  replace Z := Lib.hid (Z.out.trans (hz.mono Z.out.size))
  have HW := Lib.hid hws
  clear hz hws
  have HBB := Lib.hid BF.out.lt
  go_wp2
  go_loopw [15, 14] (fun i s wr => ∃ (j : Nat) (A : Option Addr) (c : Nat), i = .int .i64 j ∧ s = .slice A n c ∧ j ≤ 4 ∧ Hid (Rd wr A (duo (stealS W D J S) (pushS W D J S) j (m, fbg 2 a 0, fbg 0 a d)).1) ∧ Hid (Bf wr w3.heap.size (duo (stealS W D J S) (pushS W D J S) j (m, fbg 2 a 0, fbg 0 a d)).2.1) ∧ Hid (Bf wr w4.heap.size (duo (stealS W D J S) (pushS W D J S) j (m, fbg 2 a 0, fbg 0 a d)).2.2) ∧ Hid (K2 w3.heap.size w4.heap.size ws wr)) (fun i _ _ => 4 - (intOf i).toNat)
  case atStart =>
    obtain rfl := HW.out
    exact ⟨0, A, c, rfl, rfl, by omega, LM, BF, BG, Lib.hid (K2.refl _ _ _)⟩
  case round =>
    clear BF BG LM
    obtain ⟨j, A, c, rfl, rfl, hj, LA, BF, BG, KB⟩ := hrel
    by_cases hlt : j < 4
    · obtain ⟨⟨huM, hlM⟩, hfF, hfG⟩ := HU.out j
      have HLj := Lib.hid hlM
      have HUF := Lib.hid hfF
      have HUG := Lib.hid hfG
      obtain ⟨M', F', hP1⟩ : ∃ M' F', stealS W D J S (duo (stealS W D J S) (pushS W D J S) j (m, fbg 2 a 0, fbg 0 a d)).1 (duo (stealS W D J S) (pushS W D J S) j (m, fbg 2 a 0, fbg 0 a d)).2.1 = (M', F') := ⟨_, _, rfl⟩
      obtain ⟨M2, G', hP2⟩ : ∃ M2 G', pushS W D J S M' (duo (stealS W D J S) (pushS W D J S) j (m, fbg 2 a 0, fbg 0 a d)).2.2 = (M2, G') := ⟨_, _, rfl⟩
      have HE := Lib.hid (duo_one (k := j) (s := (m, fbg 2 a 0, fbg 0 a d)) (show duo (stealS W D J S) (pushS W D J S) j (m, fbg 2 a 0, fbg 0 a d) = ((duo (stealS W D J S) (pushS W D J S) j (m, fbg 2 a 0, fbg 0 a d)).1, (duo (stealS W D J S) (pushS W D J S) j (m, fbg 2 a 0, fbg 0 a d)).2.1, (duo (stealS W D J S) (pushS W D J S) j (m, fbg 2 a 0, fbg 0 a d)).2.2) from rfl) hP1 hP2)
      have HLj2 := Lib.hid (show M'.length = n by have h : (stealS W D J S (duo (stealS W D J S) (pushS W D J S) j (m, fbg 2 a 0, fbg 0 a d)).1 (duo (stealS W D J S) (pushS W D J S) j (m, fbg 2 a 0, fbg 0 a d)).2.1).1.length = (duo (stealS W D J S) (pushS W D J S) j (m, fbg 2 a 0, fbg 0 a d)).1.length := stealS_len _ _ _ _ _ _; rw [hP1] at h; exact h.trans hlM)
      have HP1 := Lib.hid hP1
      have HP2 := Lib.hid hP2
      clear hP1 hP2 huM hlM hfF hfG
      generalize (duo (stealS W D J S) (pushS W D J S) j (m, fbg 2 a 0, fbg 0 a d)).1 = M at *
      generalize (duo (stealS W D J S) (pushS W D J S) j (m, fbg 2 a 0, fbg 0 a d)).2.1 = F at *
      generalize (duo (stealS W D J S) (pushS W D J S) j (m, fbg 2 a 0, fbg 0 a d)).2.2 = G at *
      obtain ⟨lBX, b0, b1, b2, b3⟩ := BX.out.k2 KB.out HBX1.out HBX2.out
      obtain ⟨d0, d1, d2, d3, d4, d5, d6⟩ := BF.out.cells
      have lBF := BF.out.lt
      go_wp2_with fail
      refine (steal_n LA.out HLj.out hs HUF.out HP1.out).mono ?_
      rintro _ w7 ⟨A7, c7, rfl, hn7, z⟩
      have BF3 := BF.out.after z
      have BG3 := BG.out.after z
      clear b0 b1 b2 b3 d0 d1 d2 d3 d4 d5 d6 lBF lBX
      obtain ⟨d0, d1, d2, d3, d4, d5, d6⟩ := BF3.cells
      have fz := BF3.free
      have lBF := BF3.lt
      have hN := (hn7.pf BF.out.lt F').rd
      have hB3 := BF3.pf F'
      have hG3 := BG3.apart (Nat.ne_of_gt HGK.out) F'
      have hK3 := (KB.out.call HBB.out z).pfl F'
      clear hn7 z BG3
      go_upto_region 12 with fail
      change Code.wp _ _ _ _ (pf w7 w3.heap.size F')
      clear d0 d1 d2 d3 d4 d5 d6 fz lBF BF3 BF BG LA KB
      generalize pf w7 w3.heap.size F' = wp at hN hB3 hG3 hK3 ⊢
      have LA := Lib.hid hN
      have BF := Lib.hid hB3
      have BG := Lib.hid hG3
      have KB := Lib.hid hK3
      clear hN hB3 hG3 hK3
      obtain ⟨lBX, b0, b1, b2, b3⟩ := BX.out.k2 KB.out HBX1.out HBX2.out
      obtain ⟨d0, d1, d2, d3, d4, d5, d6⟩ := BG.out.cells
      have lBG := BG.out.lt
      go_wp2_with fail
      refine (step_n LA.out HLj2.out hs HUG.out HP2.out).mono ?_
      rintro _ w8 ⟨A8, c8, rfl, hn8, z⟩
      have BF3 := BF.out.after z
      have BG3 := BG.out.after z
      clear b0 b1 b2 b3 d0 d1 d2 d3 d4 d5 d6 lBG lBX
      obtain ⟨d0, d1, d2, d3, d4, d5, d6⟩ := BG3.cells
      have fz := BG3.free
      have lBG := BG3.lt
      have HN := Lib.hid ((hn8.pf BG.out.lt G').rd)
      have HG3 := Lib.hid (BG3.pf G')
      have HF3 := Lib.hid (BF3.apart (Nat.ne_of_lt HGK.out) G')
      have HK3 := Lib.hid ((KB.out.call HBB.out z).pfr HGK.out G')
      clear hn8 z BF3 BG3
      go_wp2_with fail
      go_roundw
      case rel => exact ⟨j + 1, A8, c8, by go_num, rfl, by omega, by rw [HE.out]; exact HN, by rw [HE.out]; exact HF3, by rw [HE.out]; exact HG3, HK3⟩
      case measure => simp [intOf]; omega
    · obtain rfl : j = 4 := by omega
      replace BX := Lib.hid (BX.out.k2 KB.out HBX1.out HBX2.out)
      replace LL := Lib.hid (LL.out.k2 KB.out)
      replace Z := Lib.hid (Z.out.trans (KB.out.low.mono hzf.out))
      clear KB HBB hj hlt HW
      have HML := Lib.hid (show m'.length = n by have := (HU.out 4).1.2; rw [HI.out] at this; exact this)
      rw [HI.out] at LA BF BG
      simp only at LA BF BG
      obtain ⟨gx, x_0, x_1, x_2, x_3⟩ := BX.out
      go_wp2_with fail
      refine (list_n (k := k1) LA.out HML.out HL2.out (by have := HK1.out; simp [this]) rfl).mono ?_
      rintro _ w9 ⟨A9, c9, rfl, hc9, hr9, z⟩
      clear gx x_0 x_1 x_2 x_3
      replace Z := Lib.hid (Z.out.trans (z.mono Z.out.size))
      replace BX := Lib.hid (BX.out.below z)
      replace LL := Lib.hid (LL.out.after z)
      replace BF := Lib.hid (BF.out.after z)
      replace BG := Lib.hid (BG.out.after z)
      replace LA := Lib.hid (LA.out.below z)
      simp only [Option.getD_some] at hr9
      have LQ := Lib.hid hr9
      clear z hr9 hc9
      have hc3 : ((k1 + 1 : Nat) : Int) ≤ (c2 : Int) := by have := HC.out; omega
      have hc4 : (k1 : Int) + 1 ≤ (c2 : Int) := by have := HC.out; omega
      have hc5 : (1 : Int) ≤ (k1 : Int) + 1 := by omega
      by_cases hcc : c2 = 1
      · have hk10 : k1 = 0 := by have := HC.out; omega
        subst hcc
        have HT := Lib.hid (show Rd w9 (some ad) l from fun hp => by have := HK1.out; omega)
        clear hk10
        obtain ⟨R1, e1, wa, hrun1, hown1, hb1⟩ := run_appN (Own.nil w9 w9.heap.size) 0 HT.out HK1.out (by have := HLEN.out; omega) (Nat.le_refl _)
        simp only [Nat.zero_add, List.nil_append] at hrun1 hown1
        have HRUN1 := Lib.hid hrun1
        have HO2 := Lib.hid hown1.rd
        have zb : Below w9.heap.size w9 wa := hb1
        have BGa := Lib.hid (BG.out.after hb1)
        clear hrun1 hown1 hb1
        obtain ⟨e0, e1, e2, e3, e4, e5, e6⟩ := BGa.out.cells
        have le := BGa.out.lt
        simp only at e0 e1 e2 e3 e4 e5 e6
        go_wp2_with (at_builtin; (with_reducible refine wpList_append_run HRUN1.out ?_ ?_ ?_ ?_); exact ⟨_, _, rfl, rfl, rfl⟩; rfl; rfl)
        clear e0 e1 e2 e3 e4 e5 e6 le
        clear BGa
        replace BX := Lib.hid (BX.out.below zb)
        replace LL := Lib.hid (LL.out.after zb)
        replace BF := Lib.hid (BF.out.after zb)
        replace BG := Lib.hid (BG.out.after zb)
        replace LA := Lib.hid (LA.out.below zb)
        replace LQ := Lib.hid (LQ.out.below zb)
        replace Z := Lib.hid (Z.out.trans (zb.mono Z.out.size))
        clear zb
        refine (nums_eq LQ.out HO2.out (by have := HK1.out; simp [this]) (by have := HLEN.out; omega)).mono ?_
        rintro _ w10 ⟨rfl, q10, hq⟩
        have z := below_of_drewN hq
        clear hq
        replace Z := Lib.hid (Z.out.trans (z.mono Z.out.size))
        replace BX := Lib.hid (BX.out.below z)
        replace LL := Lib.hid (LL.out.after z)
        replace BF := Lib.hid (BF.out.after z)
        replace BG := Lib.hid (BG.out.after z)
        replace LA := Lib.hid (LA.out.below z)
        replace LQ := Lib.hid (LQ.out.below z)
        clear z
        obtain ⟨ad2, hq2, _, _, hadl, hadc⟩ := LL.out (by simp)
        cases hq2
        have u0 : w10.cell? ad = some (.int .u64 u) := hadc 0 u rfl
        have hk9 : (0 : Int) < (k1 : Int) + 1 := by omega
        clear hadc
        have HKH := Lib.hid (show ∀ x', Below w10.heap.size w10 x' → (fun w' => w'.cell? ⟨w.heap.size, 1, none⟩ = some (.int .i64 D) ∧ w'.cell? ⟨w3.heap.size, 6, none⟩ = some (.int .i64 1) ∧ w'.cell? ⟨w3.heap.size, 3, none⟩ = some (.int .u64 u) ∧ w'.cell? ad = some (.int .u64 u) ∧ w'.cell? ⟨w4.heap.size, 0, none⟩ = some (.int .i64 go) ∧ w'.cell? ⟨w4.heap.size, 1, none⟩ = some (.int .i64 gp) ∧ w'.cell? ⟨w4.heap.size, 2, none⟩ = some (.int .i64 gq) ∧ w'.cell? ⟨w4.heap.size, 3, none⟩ = some (.int .u64 gv) ∧ w'.cell? ⟨w4.heap.size, 4, none⟩ = some (.int .u64 gx) ∧ w'.cell? ⟨w4.heap.size, 5, none⟩ = some (.int .u64 gy) ∧ w'.cell? ⟨w4.heap.size, 6, none⟩ = some (.int .i64 2) ∧ Below w10.heap.size w10 w') x' from fun x' hx => by
          obtain ⟨_, e0, e1, e2, e3⟩ := BX.out.below hx
          obtain ⟨f0, f1, f2, f3, f4, f5, f6⟩ := (BF.out.after hx).cells
          obtain ⟨g0, g1, g2, g3, g4, g5, g6⟩ := (BG.out.after hx).cells
          exact ⟨e1, f6, f3, (hx.cell (p := ad) hadl).trans u0, g0, g1, g2, g3, g4, g5, g6, hx⟩)
        clear u0 hadl
        go_wp2_with fail
        refine wp_region_held_drew (S := fun w' => w'.cell? ⟨w.heap.size, 1, none⟩ = some (.int .i64 D) ∧ w'.cell? ⟨w3.heap.size, 6, none⟩ = some (.int .i64 1) ∧ w'.cell? ⟨w3.heap.size, 3, none⟩ = some (.int .u64 u) ∧ w'.cell? ad = some (.int .u64 u) ∧ w'.cell? ⟨w4.heap.size, 0, none⟩ = some (.int .i64 go) ∧ w'.cell? ⟨w4.heap.size, 1, none⟩ = some (.int .i64 gp) ∧ w'.cell? ⟨w4.heap.size, 2, none⟩ = some (.int .i64 gq) ∧ w'.cell? ⟨w4.heap.size, 3, none⟩ = some (.int .u64 gv) ∧ w'.cell? ⟨w4.heap.size, 4, none⟩ = some (.int .u64 gx) ∧ w'.cell? ⟨w4.heap.size, 5, none⟩ = some (.int .u64 gy) ∧ w'.cell? ⟨w4.heap.size, 6, none⟩ = some (.int .i64 2) ∧ Below w10.heap.size w10 w') (by kernel_rfl) (HKH.out _ (keep_drew (Below.refl _ _))) (fun hHeld => ?_)
        refine wpAnyH_take (i := 0) (oi := { dst := some 89, op := Go.Op.fieldAddr 28 (Go.Operand.tmp 12) 6, type := 0, pos := "more.go:57", after := #[], guard := none }) (v := ?vspn0_0) rfl (by kernel_rfl) (by kernel_rfl) (by kernel_rfl) (fun _ _ _ h => h) (Or.inl ⟨by rfl, ?yspn0_0⟩) (by assumption) ?rspn0_0
        case yspn0_0 => (intro w hSw; (try dsimp only at hSw); go_simp; (try with_reducible rfl))
        (try simp only [Act.put, List.setIfInBounds_toArray, List.set_cons_zero, List.set_cons_succ])
        refine wpAnyH_take (i := 1) (oi := { dst := some 90, op := Go.Op.load 3 (Go.Operand.tmp 89), type := 3, pos := "more.go:57", after := #[{ on := 0, ground := Go.Ground.data }], guard := none }) (v := ?vspn0_1) rfl (by kernel_rfl) (by kernel_rfl) (by kernel_rfl) (fun _ _ _ h => h) (Or.inl ⟨by rfl, ?yspn0_1⟩) (by assumption) ?rspn0_1
        case yspn0_1 => (intro w hSw; (try dsimp only at hSw); go_simp; (try with_reducible rfl))
        (try simp only [Act.put, List.setIfInBounds_toArray, List.set_cons_zero, List.set_cons_succ])
        refine wpAnyH_take (i := 2) (oi := { dst := some 91, op := Go.Op.binOp Go.BinOp.eql 3 (Go.Operand.tmp 90) (Go.Operand.const (Go.Value.int Go.IntKind.i64 1)) 3, type := 4, pos := "more.go:57", after := #[{ on := 1, ground := Go.Ground.data }], guard := none }) (v := ?vspn0_2) rfl (by kernel_rfl) (by kernel_rfl) (by kernel_rfl) (fun _ _ _ h => h) (Or.inl ⟨by rfl, ?yspn0_2⟩) (by assumption) ?rspn0_2
        case yspn0_2 => (intro w hSw; (try dsimp only at hSw); go_simp; (try with_reducible rfl))
        (try simp only [Act.put, List.setIfInBounds_toArray, List.set_cons_zero, List.set_cons_succ])
        refine wpAnyH_take (i := 3) (oi := { dst := some 92, op := Go.Op.move (Go.Operand.tmp 91), type := 4, pos := "more.go:57", after := #[{ on := 2, ground := Go.Ground.data }], guard := none }) (v := ?vspn0_3) rfl (by kernel_rfl) (by kernel_rfl) (by kernel_rfl) (fun _ _ _ h => h) (Or.inl ⟨by rfl, ?yspn0_3⟩) (by assumption) ?rspn0_3
        case yspn0_3 => (intro w hSw; (try dsimp only at hSw); go_simp; (try with_reducible rfl))
        (try simp only [Act.put, List.setIfInBounds_toArray, List.set_cons_zero, List.set_cons_succ])
        refine wpAnyH_take (i := 4) (oi := { dst := some 93, op := Go.Op.fieldAddr 28 (Go.Operand.tmp 12) 3, type := 0, pos := "more.go:57", after := #[{ on := 3, ground := Go.Ground.guard }], guard := some (3, true) }) (v := ?vspn0_4) rfl (by kernel_rfl) (by kernel_rfl) (by kernel_rfl) (fun _ _ _ h => h) (Or.inl ⟨by rfl, ?yspn0_4⟩) (by assumption) ?rspn0_4
        case yspn0_4 => (intro w hSw; (try dsimp only at hSw); go_simp; (try with_reducible rfl))
        (try simp only [Act.put, List.setIfInBounds_toArray, List.set_cons_zero, List.set_cons_succ])
        refine wpAnyH_take (i := 5) (oi := { dst := some 94, op := Go.Op.load 26 (Go.Operand.tmp 93), type := 26, pos := "more.go:57", after := #[{ on := 4, ground := Go.Ground.data }, { on := 3, ground := Go.Ground.guard }], guard := some (3, true) }) (v := ?vspn0_5) rfl (by kernel_rfl) (by kernel_rfl) (by kernel_rfl) (fun _ _ _ h => h) (Or.inl ⟨by rfl, ?yspn0_5⟩) (by assumption) ?rspn0_5
        case yspn0_5 => (intro w hSw; (try dsimp only at hSw); go_simp; (try with_reducible rfl))
        (try simp only [Act.put, List.setIfInBounds_toArray, List.set_cons_zero, List.set_cons_succ])
        refine wpAnyH_take (i := 6) (oi := { dst := some 95, op := Go.Op.move (Go.Operand.tmp 10), type := 24, pos := "more.go:57", after := #[{ on := 3, ground := Go.Ground.guard }], guard := some (3, true) }) (v := ?vspn0_6) rfl (by kernel_rfl) (by kernel_rfl) (by kernel_rfl) (fun _ _ _ h => h) (Or.inl ⟨by rfl, ?yspn0_6⟩) (by assumption) ?rspn0_6
        case yspn0_6 => (intro w hSw; (try dsimp only at hSw); go_simp; (try with_reducible rfl))
        (try simp only [Act.put, List.setIfInBounds_toArray, List.set_cons_zero, List.set_cons_succ])
        refine wpAnyH_take (i := 7) (oi := { dst := some 96, op := Go.Op.indexAddr 24 (Go.Operand.tmp 95) (Go.Operand.const (Go.Value.int Go.IntKind.i64 0)), type := 0, pos := "more.go:57", after := #[{ on := 6, ground := Go.Ground.data }, { on := 3, ground := Go.Ground.guard }], guard := some (3, true) }) (v := ?vspn0_7) rfl (by kernel_rfl) (by kernel_rfl) (by kernel_rfl) (fun _ _ _ h => h) (Or.inl ⟨by rfl, ?yspn0_7⟩) (by assumption) ?rspn0_7
        case yspn0_7 => (intro w hSw; (try dsimp only at hSw); go_simp; (try with_reducible rfl))
        (try simp only [Act.put, List.setIfInBounds_toArray, List.set_cons_zero, List.set_cons_succ])
        refine wpAnyH_take (i := 8) (oi := { dst := some 97, op := Go.Op.load 26 (Go.Operand.tmp 96), type := 26, pos := "more.go:57", after := #[{ on := 7, ground := Go.Ground.data }, { on := 3, ground := Go.Ground.guard }], guard := some (3, true) }) (v := ?vspn0_8) rfl (by kernel_rfl) (by kernel_rfl) (by kernel_rfl) (fun _ _ _ h => h) (Or.inl ⟨by rfl, ?yspn0_8⟩) (by assumption) ?rspn0_8
        case yspn0_8 => (intro w hSw; (try dsimp only at hSw); go_simp; (try with_reducible rfl))
        (try simp only [Act.put, List.setIfInBounds_toArray, List.set_cons_zero, List.set_cons_succ])
        refine wpAnyH_take (i := 9) (oi := { dst := some 98, op := Go.Op.binOp Go.BinOp.eql 26 (Go.Operand.tmp 94) (Go.Operand.tmp 97) 26, type := 4, pos := "more.go:57", after := #[{ on := 5, ground := Go.Ground.data }, { on := 8, ground := Go.Ground.data }, { on := 3, ground := Go.Ground.guard }], guard := some (3, true) }) (v := ?vspn0_9) rfl (by kernel_rfl) (by kernel_rfl) (by kernel_rfl) (fun _ _ _ h => h) (Or.inl ⟨by rfl, ?yspn0_9⟩) (by assumption) ?rspn0_9
        case yspn0_9 => (intro w hSw; (try dsimp only at hSw); go_simp; (try with_reducible rfl))
        (try simp only [Act.put, List.setIfInBounds_toArray, List.set_cons_zero, List.set_cons_succ])
        refine wpAnyH_take (i := 10) (oi := { dst := some 99, op := Go.Op.pick (Go.Operand.tmp 92) (Go.Operand.tmp 98) (Go.Operand.const (Go.Value.bool false)), type := 4, pos := "more.go:57", after := #[{ on := 3, ground := Go.Ground.data }, { on := 9, ground := Go.Ground.data }], guard := none }) (v := ?vspn0_10) rfl (by kernel_rfl) (by kernel_rfl) (by kernel_rfl) (fun _ _ _ h => h) (Or.inl ⟨by rfl, ?yspn0_10⟩) (by assumption) ?rspn0_10
        case yspn0_10 => (intro w hSw; (try dsimp only at hSw); go_simp; (try with_reducible rfl))
        (try simp only [Act.put, List.setIfInBounds_toArray, List.set_cons_zero, List.set_cons_succ])
        refine wpAnyH_take (i := 11) (oi := { dst := some 100, op := Go.Op.move (Go.Operand.tmp 99), type := 4, pos := "more.go:57", after := #[{ on := 10, ground := Go.Ground.data }, { on := 3, ground := Go.Ground.chain }], guard := none }) (v := ?vspn0_11) rfl (by kernel_rfl) (by kernel_rfl) (by kernel_rfl) (fun _ _ _ h => h) (Or.inl ⟨by rfl, ?yspn0_11⟩) (by assumption) ?rspn0_11
        case yspn0_11 => (intro w hSw; (try dsimp only at hSw); go_simp; (try with_reducible rfl))
        (try simp only [Act.put, List.setIfInBounds_toArray, List.set_cons_zero, List.set_cons_succ])
        refine wpAnyH_take (i := 12) (oi := { dst := some 101, op := Go.Op.load 28 (Go.Operand.tmp 13), type := 28, pos := "more.go:57", after := #[{ on := 11, ground := Go.Ground.guard }], guard := some (11, true) }) (v := ?vspn0_12) rfl (by kernel_rfl) (by kernel_rfl) (by kernel_rfl) (fun _ _ _ h => h) (Or.inl ⟨by rfl, ?yspn0_12⟩) (by assumption) ?rspn0_12
        case yspn0_12 => (intro w hSw; (try dsimp only at hSw); go_simp; (try with_reducible rfl))
        (try simp only [Act.put, List.setIfInBounds_toArray, List.set_cons_zero, List.set_cons_succ])
        refine wpAnyH_ready (rs := [13]) (by kernel_rfl) (by simp) ?_
        refine AllReadyH.cons (o := { dst := some 102, op := Go.Op.call { callee := Go.Callee.value (Go.Operand.func 22), args := #[Go.Operand.tmp 101], argTypes := #[28] }, type := 4, pos := "more.go:57", after := #[{ on := 12, ground := Go.Ground.data }, { on := 11, ground := Go.Ground.chain }, { on := 11, ground := Go.Ground.guard }], guard := some (11, true) }) rfl (fun K hK => ?_) AllReadyH.nil
        go_simp
        refine (Tells.of (over_any ⟨go, gp, gq, gv, gx, gy, 2⟩ _) (v' := .bool true) (by rfl)).mono ?_
        rintro e w' ⟨rfl, hb⟩
        go_wp2_with fail
        refine hK.out _ _ (held_call HKH.out (fun _ h => h.2.2.2.2.2.2.2.2.2.2.2) hb hHeld) (fun hHeld2 => ?_)
        clear hK K hHeld
        have hHeld := hHeld2
        clear hHeld2
        (try simp only [Act.put, List.setIfInBounds_toArray, List.set_cons_zero, List.set_cons_succ])
        refine wpAnyH_take (i := 14) (oi := { dst := some 103, op := Go.Op.pick (Go.Operand.tmp 100) (Go.Operand.tmp 102) (Go.Operand.const (Go.Value.bool false)), type := 4, pos := "more.go:57", after := #[{ on := 11, ground := Go.Ground.data }, { on := 13, ground := Go.Ground.data }], guard := none }) (v := ?vspn0_14) rfl (by kernel_rfl) (by kernel_rfl) (by kernel_rfl) (fun _ _ _ h => h) (Or.inl ⟨by rfl, ?yspn0_14⟩) (by assumption) ?rspn0_14
        case yspn0_14 => (intro w hSw; (try dsimp only at hSw); go_simp; (try with_reducible rfl))
        (try simp only [Act.put, List.setIfInBounds_toArray, List.set_cons_zero, List.set_cons_succ])
        refine wpAnyH_take (i := 15) (oi := { dst := some 104, op := Go.Op.move (Go.Operand.tmp 103), type := 4, pos := "more.go:57", after := #[{ on := 14, ground := Go.Ground.data }, { on := 13, ground := Go.Ground.chain }], guard := none }) (v := ?vspn0_15) rfl (by kernel_rfl) (by kernel_rfl) (by kernel_rfl) (fun _ _ _ h => h) (Or.inl ⟨by rfl, ?yspn0_15⟩) (by assumption) ?rspn0_15
        case yspn0_15 => (intro w hSw; (try dsimp only at hSw); go_simp; (try with_reducible rfl))
        (try simp only [Act.put, List.setIfInBounds_toArray, List.set_cons_zero, List.set_cons_succ])
        refine wpAnyH_take (i := 16) (oi := { dst := some 105, op := Go.Op.fieldAddr 28 (Go.Operand.tmp 13) 6, type := 0, pos := "more.go:57", after := #[{ on := 15, ground := Go.Ground.guard }], guard := some (15, true) }) (v := ?vspn0_16) rfl (by kernel_rfl) (by kernel_rfl) (by kernel_rfl) (fun _ _ _ h => h) (Or.inl ⟨by rfl, ?yspn0_16⟩) (by assumption) ?rspn0_16
        case yspn0_16 => (intro w hSw; (try dsimp only at hSw); go_simp; (try with_reducible rfl))
        (try simp only [Act.put, List.setIfInBounds_toArray, List.set_cons_zero, List.set_cons_succ])
        refine wpAnyH_take (i := 17) (oi := { dst := some 106, op := Go.Op.load 3 (Go.Operand.tmp 105), type := 3, pos := "more.go:57", after := #[{ on := 16, ground := Go.Ground.data }, { on := 15, ground := Go.Ground.guard }], guard := some (15, true) }) (v := ?vspn0_17) rfl (by kernel_rfl) (by kernel_rfl) (by kernel_rfl) (fun _ _ _ h => h) (Or.inl ⟨by rfl, ?yspn0_17⟩) (by assumption) ?rspn0_17
        case yspn0_17 => (intro w hSw; (try dsimp only at hSw); go_simp; (try with_reducible rfl))
        (try simp only [Act.put, List.setIfInBounds_toArray, List.set_cons_zero, List.set_cons_succ])
        refine wpAnyH_take (i := 18) (oi := { dst := some 107, op := Go.Op.binOp Go.BinOp.eql 3 (Go.Operand.tmp 106) (Go.Operand.const (Go.Value.int Go.IntKind.i64 1)) 3, type := 4, pos := "more.go:57", after := #[{ on := 17, ground := Go.Ground.data }, { on := 15, ground := Go.Ground.guard }], guard := some (15, true) }) (v := ?vspn0_18) rfl (by kernel_rfl) (by kernel_rfl) (by kernel_rfl) (fun _ _ _ h => h) (Or.inl ⟨by rfl, ?yspn0_18⟩) (by assumption) ?rspn0_18
        case yspn0_18 => (intro w hSw; (try dsimp only at hSw); go_simp; (try with_reducible rfl))
        (try simp only [Act.put, List.setIfInBounds_toArray, List.set_cons_zero, List.set_cons_succ])
        refine wpAnyH_take (i := 19) (oi := { dst := some 108, op := Go.Op.move (Go.Operand.tmp 10), type := 24, pos := "more.go:57", after := #[{ on := 15, ground := Go.Ground.guard }], guard := some (15, true) }) (v := ?vspn0_19) rfl (by kernel_rfl) (by kernel_rfl) (by kernel_rfl) (fun _ _ _ h => h) (Or.inl ⟨by rfl, ?yspn0_19⟩) (by assumption) ?rspn0_19
        case yspn0_19 => (intro w hSw; (try dsimp only at hSw); go_simp; (try with_reducible rfl))
        (try simp only [Act.put, List.setIfInBounds_toArray, List.set_cons_zero, List.set_cons_succ])
        refine wpAnyH_take (i := 20) (oi := { dst := some 109, op := Go.Op.call { callee := Go.Callee.builtin Go.Builtin.len, args := #[Go.Operand.tmp 108], argTypes := #[24] }, type := 3, pos := "more.go:57", after := #[{ on := 19, ground := Go.Ground.data }, { on := 15, ground := Go.Ground.guard }], guard := some (15, true) }) (v := ?vspn0_20) rfl (by kernel_rfl) (by kernel_rfl) (by kernel_rfl) (fun _ _ _ h => h) (Or.inl ⟨by rfl, ?yspn0_20⟩) (by assumption) ?rspn0_20
        case yspn0_20 => (intro w hSw; (try dsimp only at hSw); go_simp; (try with_reducible rfl))
        (try simp only [Act.put, List.setIfInBounds_toArray, List.set_cons_zero, List.set_cons_succ])
        refine wpAnyH_take (i := 21) (oi := { dst := some 110, op := Go.Op.fieldAddr 23 (Go.Operand.tmp 4) 1, type := 0, pos := "more.go:57", after := #[{ on := 15, ground := Go.Ground.guard }], guard := some (15, true) }) (v := ?vspn0_21) rfl (by kernel_rfl) (by kernel_rfl) (by kernel_rfl) (fun _ _ _ h => h) (Or.inl ⟨by rfl, ?yspn0_21⟩) (by assumption) ?rspn0_21
        case yspn0_21 => (intro w hSw; (try dsimp only at hSw); go_simp; (try with_reducible rfl))
        (try simp only [Act.put, List.setIfInBounds_toArray, List.set_cons_zero, List.set_cons_succ])
        refine wpAnyH_take (i := 22) (oi := { dst := some 111, op := Go.Op.load 3 (Go.Operand.tmp 110), type := 3, pos := "more.go:57", after := #[{ on := 21, ground := Go.Ground.data }, { on := 15, ground := Go.Ground.guard }], guard := some (15, true) }) (v := ?vspn0_22) rfl (by kernel_rfl) (by kernel_rfl) (by kernel_rfl) (fun _ _ _ h => h) (Or.inl ⟨by rfl, ?yspn0_22⟩) (by assumption) ?rspn0_22
        case yspn0_22 => (intro w hSw; (try dsimp only at hSw); go_simp; (try with_reducible rfl))
        (try simp only [Act.put, List.setIfInBounds_toArray, List.set_cons_zero, List.set_cons_succ])
        refine wpAnyH_take (i := 23) (oi := { dst := some 112, op := Go.Op.binOp Go.BinOp.lss 3 (Go.Operand.tmp 109) (Go.Operand.tmp 111) 3, type := 4, pos := "more.go:57", after := #[{ on := 20, ground := Go.Ground.data }, { on := 22, ground := Go.Ground.data }, { on := 15, ground := Go.Ground.guard }], guard := some (15, true) }) (v := ?vspn0_23) rfl (by kernel_rfl) (by kernel_rfl) (by kernel_rfl) (fun _ _ _ h => h) (Or.inl ⟨by rfl, ?yspn0_23⟩) (by assumption) ?rspn0_23
        case yspn0_23 => (intro w hSw; (try dsimp only at hSw); go_simp; (try with_reducible rfl))
        (try simp only [Act.put, List.setIfInBounds_toArray, List.set_cons_zero, List.set_cons_succ])
        refine wpAnyH_take (i := 24) (oi := { dst := some 113, op := Go.Op.binOp Go.BinOp.eql 4 (Go.Operand.tmp 107) (Go.Operand.tmp 112) 4, type := 4, pos := "more.go:57", after := #[{ on := 18, ground := Go.Ground.data }, { on := 23, ground := Go.Ground.data }, { on := 15, ground := Go.Ground.guard }], guard := some (15, true) }) (v := ?vspn0_24) rfl (by kernel_rfl) (by kernel_rfl) (by kernel_rfl) (fun _ _ _ h => h) (Or.inl ⟨by rfl, ?yspn0_24⟩) (by assumption) ?rspn0_24
        case yspn0_24 => (intro w hSw; (try dsimp only at hSw); go_simp; (try with_reducible rfl))
        (try simp only [Act.put, List.setIfInBounds_toArray, List.set_cons_zero, List.set_cons_succ])
        refine wpAnyH_take (i := 25) (oi := { dst := some 114, op := Go.Op.pick (Go.Operand.tmp 104) (Go.Operand.tmp 113) (Go.Operand.const (Go.Value.bool false)), type := 4, pos := "more.go:57", after := #[{ on := 15, ground := Go.Ground.data }, { on := 24, ground := Go.Ground.data }], guard := none }) (v := ?vspn0_25) rfl (by kernel_rfl) (by kernel_rfl) (by kernel_rfl) (fun _ _ _ h => h) (Or.inl ⟨by rfl, ?yspn0_25⟩) (by assumption) ?rspn0_25
        case yspn0_25 => (intro w hSw; (try dsimp only at hSw); go_simp; (try with_reducible rfl))
        (try simp only [Act.put, List.setIfInBounds_toArray, List.set_cons_zero, List.set_cons_succ])
        refine wpAnyH_take (i := 26) (oi := { dst := some 115, op := Go.Op.move (Go.Operand.tmp 114), type := 4, pos := "more.go:57", after := #[{ on := 25, ground := Go.Ground.data }, { on := 15, ground := Go.Ground.chain }], guard := none }) (v := ?vspn0_26) rfl (by kernel_rfl) (by kernel_rfl) (by kernel_rfl) (fun _ _ _ h => h) (Or.inl ⟨by rfl, ?yspn0_26⟩) (by assumption) ?rspn0_26
        case yspn0_26 => (intro w hSw; (try dsimp only at hSw); go_simp; (try with_reducible rfl))
        (try simp only [Act.put, List.setIfInBounds_toArray, List.set_cons_zero, List.set_cons_succ])
        refine wpAnyH_take (i := 27) (oi := { dst := some 116, op := Go.Op.move (Go.Operand.tmp 17), type := 4, pos := "more.go:57", after := #[{ on := 26, ground := Go.Ground.guard }], guard := some (26, true) }) (v := ?vspn0_27) rfl (by kernel_rfl) (by kernel_rfl) (by kernel_rfl) (fun _ _ _ h => h) (Or.inl ⟨by rfl, ?yspn0_27⟩) (by assumption) ?rspn0_27
        case yspn0_27 => (intro w hSw; (try dsimp only at hSw); go_simp; (try with_reducible rfl))
        (try simp only [Act.put, List.setIfInBounds_toArray, List.set_cons_zero, List.set_cons_succ])
        refine wpAnyH_take (i := 28) (oi := { dst := some 117, op := Go.Op.pick (Go.Operand.tmp 115) (Go.Operand.tmp 116) (Go.Operand.const (Go.Value.bool false)), type := 4, pos := "more.go:57", after := #[{ on := 26, ground := Go.Ground.data }, { on := 27, ground := Go.Ground.data }], guard := none }) (v := ?vspn0_28) rfl (by kernel_rfl) (by kernel_rfl) (by kernel_rfl) (fun _ _ _ h => h) (Or.inl ⟨by rfl, ?yspn0_28⟩) (by assumption) ?rspn0_28
        case yspn0_28 => (intro w hSw; (try dsimp only at hSw); go_simp; (try with_reducible rfl))
        (try simp only [Act.put, List.setIfInBounds_toArray, List.set_cons_zero, List.set_cons_succ])
        refine wpAnyH_take (i := 29) (oi := { dst := some 118, op := Go.Op.move (Go.Operand.tmp 117), type := 4, pos := "more.go:57", after := #[{ on := 28, ground := Go.Ground.data }, { on := 26, ground := Go.Ground.chain }], guard := none }) (v := ?vspn0_29) rfl (by kernel_rfl) (by kernel_rfl) (by kernel_rfl) (fun _ _ _ h => h) (Or.inl ⟨by rfl, ?yspn0_29⟩) (by assumption) ?rspn0_29
        case yspn0_29 => (intro w hSw; (try dsimp only at hSw); go_simp; (try with_reducible rfl))
        (try simp only [Act.put, List.setIfInBounds_toArray, List.set_cons_zero, List.set_cons_succ])
        refine wpAnyH_take (i := 30) (oi := { dst := some 119, op := Go.Op.move (Go.Operand.tmp 19), type := 4, pos := "more.go:57", after := #[{ on := 29, ground := Go.Ground.guard }], guard := some (29, true) }) (v := ?vspn0_30) rfl (by kernel_rfl) (by kernel_rfl) (by kernel_rfl) (fun _ _ _ h => h) (Or.inl ⟨by rfl, ?yspn0_30⟩) (by assumption) ?rspn0_30
        case yspn0_30 => (intro w hSw; (try dsimp only at hSw); go_simp; (try with_reducible rfl))
        (try simp only [Act.put, List.setIfInBounds_toArray, List.set_cons_zero, List.set_cons_succ])
        refine wpAnyH_take (i := 31) (oi := { dst := some 120, op := Go.Op.pick (Go.Operand.tmp 118) (Go.Operand.tmp 119) (Go.Operand.const (Go.Value.bool false)), type := 4, pos := "more.go:57", after := #[{ on := 29, ground := Go.Ground.data }, { on := 30, ground := Go.Ground.data }], guard := none }) (v := ?vspn0_31) rfl (by kernel_rfl) (by kernel_rfl) (by kernel_rfl) (fun _ _ _ h => h) (Or.inl ⟨by rfl, ?yspn0_31⟩) (by assumption) ?rspn0_31
        case yspn0_31 => (intro w hSw; (try dsimp only at hSw); go_simp; (try with_reducible rfl))
        (try simp only [Act.put, List.setIfInBounds_toArray, List.set_cons_zero, List.set_cons_succ])
        refine wpAnyH_take (i := 32) (oi := { dst := some 8, op := Go.Op.assign (Go.Operand.tmp 120), type := 4, pos := "more.go:57", after := #[{ on := 31, ground := Go.Ground.data }, { on := 29, ground := Go.Ground.chain }, { on := 0, ground := Go.Ground.phase }, { on := 1, ground := Go.Ground.phase }, { on := 2, ground := Go.Ground.phase }, { on := 3, ground := Go.Ground.phase }, { on := 4, ground := Go.Ground.phase }, { on := 5, ground := Go.Ground.phase }, { on := 6, ground := Go.Ground.phase }, { on := 7, ground := Go.Ground.phase }, { on := 8, ground := Go.Ground.phase }, { on := 9, ground := Go.Ground.phase }, { on := 10, ground := Go.Ground.phase }, { on := 11, ground := Go.Ground.phase }, { on := 12, ground := Go.Ground.phase }, { on := 13, ground := Go.Ground.phase }, { on := 14, ground := Go.Ground.phase }, { on := 15, ground := Go.Ground.phase }, { on := 16, ground := Go.Ground.phase }, { on := 17, ground := Go.Ground.phase }, { on := 18, ground := Go.Ground.phase }, { on := 19, ground := Go.Ground.phase }, { on := 20, ground := Go.Ground.phase }, { on := 21, ground := Go.Ground.phase }, { on := 22, ground := Go.Ground.phase }, { on := 23, ground := Go.Ground.phase }, { on := 24, ground := Go.Ground.phase }, { on := 25, ground := Go.Ground.phase }, { on := 26, ground := Go.Ground.phase }, { on := 27, ground := Go.Ground.phase }, { on := 28, ground := Go.Ground.phase }, { on := 29, ground := Go.Ground.phase }, { on := 30, ground := Go.Ground.phase }, { on := 31, ground := Go.Ground.phase }], guard := none }) (v := ?vspn0_32) rfl (by kernel_rfl) (by kernel_rfl) (by kernel_rfl) (fun _ _ _ h => h) (Or.inl ⟨by rfl, ?yspn0_32⟩) (by assumption) ?rspn0_32
        case yspn0_32 => (intro w hSw; (try dsimp only at hSw); go_simp; (try with_reducible rfl))
        (try simp only [Act.put, List.setIfInBounds_toArray, List.set_cons_zero, List.set_cons_succ])
        refine wpAnyH_done (by kernel_rfl) ?_ _
        go_wp2
        go_ret
        exact ⟨rfl, Z.out.trans ((hHeld.2.2.2.2.2.2.2.2.2.2.2).mono Z.out.size)⟩
      · have HT := Lib.hid LL.out.rd.tail
        obtain ⟨R1, e1, wa, hrun1, hown1, hb1⟩ := run_appN (Own.nil w9 w9.heap.size) (c2 - 1) HT.out HK1.out (by have := HLEN.out; omega) (Nat.le_refl _)
        simp only [Nat.zero_add, List.nil_append] at hrun1 hown1
        have HRUN1 := Lib.hid hrun1
        have HO2 := Lib.hid hown1.rd
        have zb : Below w9.heap.size w9 wa := hb1
        have BGa := Lib.hid (BG.out.after hb1)
        clear hrun1 hown1 hb1
        obtain ⟨e0, e1, e2, e3, e4, e5, e6⟩ := BGa.out.cells
        have le := BGa.out.lt
        simp only at e0 e1 e2 e3 e4 e5 e6
        go_wp2_with (at_builtin; (with_reducible refine wpList_append_run HRUN1.out ?_ ?_ ?_ ?_); exact ⟨_, _, rfl, rfl, rfl⟩; rfl; rfl)
        clear e0 e1 e2 e3 e4 e5 e6 le
        clear BGa
        replace BX := Lib.hid (BX.out.below zb)
        replace LL := Lib.hid (LL.out.after zb)
        replace BF := Lib.hid (BF.out.after zb)
        replace BG := Lib.hid (BG.out.after zb)
        replace LA := Lib.hid (LA.out.below zb)
        replace LQ := Lib.hid (LQ.out.below zb)
        replace Z := Lib.hid (Z.out.trans (zb.mono Z.out.size))
        clear zb
        refine (nums_eq LQ.out HO2.out (by have := HK1.out; simp [this]) (by have := HLEN.out; omega)).mono ?_
        rintro _ w10 ⟨rfl, q10, hq⟩
        have z := below_of_drewN hq
        clear hq
        replace Z := Lib.hid (Z.out.trans (z.mono Z.out.size))
        replace BX := Lib.hid (BX.out.below z)
        replace LL := Lib.hid (LL.out.after z)
        replace BF := Lib.hid (BF.out.after z)
        replace BG := Lib.hid (BG.out.after z)
        replace LA := Lib.hid (LA.out.below z)
        replace LQ := Lib.hid (LQ.out.below z)
        clear z
        obtain ⟨ad2, hq2, _, _, hadl, hadc⟩ := LL.out (by simp)
        cases hq2
        have u0 : w10.cell? ad = some (.int .u64 u) := hadc 0 u rfl
        have hk9 : (0 : Int) < (k1 : Int) + 1 := by omega
        clear hadc
        have HKH := Lib.hid (show ∀ x', Below w10.heap.size w10 x' → (fun w' => w'.cell? ⟨w.heap.size, 1, none⟩ = some (.int .i64 D) ∧ w'.cell? ⟨w3.heap.size, 6, none⟩ = some (.int .i64 1) ∧ w'.cell? ⟨w3.heap.size, 3, none⟩ = some (.int .u64 u) ∧ w'.cell? ad = some (.int .u64 u) ∧ w'.cell? ⟨w4.heap.size, 0, none⟩ = some (.int .i64 go) ∧ w'.cell? ⟨w4.heap.size, 1, none⟩ = some (.int .i64 gp) ∧ w'.cell? ⟨w4.heap.size, 2, none⟩ = some (.int .i64 gq) ∧ w'.cell? ⟨w4.heap.size, 3, none⟩ = some (.int .u64 gv) ∧ w'.cell? ⟨w4.heap.size, 4, none⟩ = some (.int .u64 gx) ∧ w'.cell? ⟨w4.heap.size, 5, none⟩ = some (.int .u64 gy) ∧ w'.cell? ⟨w4.heap.size, 6, none⟩ = some (.int .i64 2) ∧ Below w10.heap.size w10 w') x' from fun x' hx => by
          obtain ⟨_, e0, e1, e2, e3⟩ := BX.out.below hx
          obtain ⟨f0, f1, f2, f3, f4, f5, f6⟩ := (BF.out.after hx).cells
          obtain ⟨g0, g1, g2, g3, g4, g5, g6⟩ := (BG.out.after hx).cells
          exact ⟨e1, f6, f3, (hx.cell (p := ad) hadl).trans u0, g0, g1, g2, g3, g4, g5, g6, hx⟩)
        clear u0 hadl
        go_wp2_with fail
        refine wp_region_held_drew (S := fun w' => w'.cell? ⟨w.heap.size, 1, none⟩ = some (.int .i64 D) ∧ w'.cell? ⟨w3.heap.size, 6, none⟩ = some (.int .i64 1) ∧ w'.cell? ⟨w3.heap.size, 3, none⟩ = some (.int .u64 u) ∧ w'.cell? ad = some (.int .u64 u) ∧ w'.cell? ⟨w4.heap.size, 0, none⟩ = some (.int .i64 go) ∧ w'.cell? ⟨w4.heap.size, 1, none⟩ = some (.int .i64 gp) ∧ w'.cell? ⟨w4.heap.size, 2, none⟩ = some (.int .i64 gq) ∧ w'.cell? ⟨w4.heap.size, 3, none⟩ = some (.int .u64 gv) ∧ w'.cell? ⟨w4.heap.size, 4, none⟩ = some (.int .u64 gx) ∧ w'.cell? ⟨w4.heap.size, 5, none⟩ = some (.int .u64 gy) ∧ w'.cell? ⟨w4.heap.size, 6, none⟩ = some (.int .i64 2) ∧ Below w10.heap.size w10 w') (by kernel_rfl) (HKH.out _ (keep_drew (Below.refl _ _))) (fun hHeld => ?_)
        refine wpAnyH_take (i := 0) (oi := { dst := some 89, op := Go.Op.fieldAddr 28 (Go.Operand.tmp 12) 6, type := 0, pos := "more.go:57", after := #[], guard := none }) (v := ?vspn1_0) rfl (by kernel_rfl) (by kernel_rfl) (by kernel_rfl) (fun _ _ _ h => h) (Or.inl ⟨by rfl, ?yspn1_0⟩) (by assumption) ?rspn1_0
        case yspn1_0 => (intro w hSw; (try dsimp only at hSw); go_simp; (try with_reducible rfl))
        (try simp only [Act.put, List.setIfInBounds_toArray, List.set_cons_zero, List.set_cons_succ])
        refine wpAnyH_take (i := 1) (oi := { dst := some 90, op := Go.Op.load 3 (Go.Operand.tmp 89), type := 3, pos := "more.go:57", after := #[{ on := 0, ground := Go.Ground.data }], guard := none }) (v := ?vspn1_1) rfl (by kernel_rfl) (by kernel_rfl) (by kernel_rfl) (fun _ _ _ h => h) (Or.inl ⟨by rfl, ?yspn1_1⟩) (by assumption) ?rspn1_1
        case yspn1_1 => (intro w hSw; (try dsimp only at hSw); go_simp; (try with_reducible rfl))
        (try simp only [Act.put, List.setIfInBounds_toArray, List.set_cons_zero, List.set_cons_succ])
        refine wpAnyH_take (i := 2) (oi := { dst := some 91, op := Go.Op.binOp Go.BinOp.eql 3 (Go.Operand.tmp 90) (Go.Operand.const (Go.Value.int Go.IntKind.i64 1)) 3, type := 4, pos := "more.go:57", after := #[{ on := 1, ground := Go.Ground.data }], guard := none }) (v := ?vspn1_2) rfl (by kernel_rfl) (by kernel_rfl) (by kernel_rfl) (fun _ _ _ h => h) (Or.inl ⟨by rfl, ?yspn1_2⟩) (by assumption) ?rspn1_2
        case yspn1_2 => (intro w hSw; (try dsimp only at hSw); go_simp; (try with_reducible rfl))
        (try simp only [Act.put, List.setIfInBounds_toArray, List.set_cons_zero, List.set_cons_succ])
        refine wpAnyH_take (i := 3) (oi := { dst := some 92, op := Go.Op.move (Go.Operand.tmp 91), type := 4, pos := "more.go:57", after := #[{ on := 2, ground := Go.Ground.data }], guard := none }) (v := ?vspn1_3) rfl (by kernel_rfl) (by kernel_rfl) (by kernel_rfl) (fun _ _ _ h => h) (Or.inl ⟨by rfl, ?yspn1_3⟩) (by assumption) ?rspn1_3
        case yspn1_3 => (intro w hSw; (try dsimp only at hSw); go_simp; (try with_reducible rfl))
        (try simp only [Act.put, List.setIfInBounds_toArray, List.set_cons_zero, List.set_cons_succ])
        refine wpAnyH_take (i := 4) (oi := { dst := some 93, op := Go.Op.fieldAddr 28 (Go.Operand.tmp 12) 3, type := 0, pos := "more.go:57", after := #[{ on := 3, ground := Go.Ground.guard }], guard := some (3, true) }) (v := ?vspn1_4) rfl (by kernel_rfl) (by kernel_rfl) (by kernel_rfl) (fun _ _ _ h => h) (Or.inl ⟨by rfl, ?yspn1_4⟩) (by assumption) ?rspn1_4
        case yspn1_4 => (intro w hSw; (try dsimp only at hSw); go_simp; (try with_reducible rfl))
        (try simp only [Act.put, List.setIfInBounds_toArray, List.set_cons_zero, List.set_cons_succ])
        refine wpAnyH_take (i := 5) (oi := { dst := some 94, op := Go.Op.load 26 (Go.Operand.tmp 93), type := 26, pos := "more.go:57", after := #[{ on := 4, ground := Go.Ground.data }, { on := 3, ground := Go.Ground.guard }], guard := some (3, true) }) (v := ?vspn1_5) rfl (by kernel_rfl) (by kernel_rfl) (by kernel_rfl) (fun _ _ _ h => h) (Or.inl ⟨by rfl, ?yspn1_5⟩) (by assumption) ?rspn1_5
        case yspn1_5 => (intro w hSw; (try dsimp only at hSw); go_simp; (try with_reducible rfl))
        (try simp only [Act.put, List.setIfInBounds_toArray, List.set_cons_zero, List.set_cons_succ])
        refine wpAnyH_take (i := 6) (oi := { dst := some 95, op := Go.Op.move (Go.Operand.tmp 10), type := 24, pos := "more.go:57", after := #[{ on := 3, ground := Go.Ground.guard }], guard := some (3, true) }) (v := ?vspn1_6) rfl (by kernel_rfl) (by kernel_rfl) (by kernel_rfl) (fun _ _ _ h => h) (Or.inl ⟨by rfl, ?yspn1_6⟩) (by assumption) ?rspn1_6
        case yspn1_6 => (intro w hSw; (try dsimp only at hSw); go_simp; (try with_reducible rfl))
        (try simp only [Act.put, List.setIfInBounds_toArray, List.set_cons_zero, List.set_cons_succ])
        refine wpAnyH_take (i := 7) (oi := { dst := some 96, op := Go.Op.indexAddr 24 (Go.Operand.tmp 95) (Go.Operand.const (Go.Value.int Go.IntKind.i64 0)), type := 0, pos := "more.go:57", after := #[{ on := 6, ground := Go.Ground.data }, { on := 3, ground := Go.Ground.guard }], guard := some (3, true) }) (v := ?vspn1_7) rfl (by kernel_rfl) (by kernel_rfl) (by kernel_rfl) (fun _ _ _ h => h) (Or.inl ⟨by rfl, ?yspn1_7⟩) (by assumption) ?rspn1_7
        case yspn1_7 => (intro w hSw; (try dsimp only at hSw); go_simp; (try with_reducible rfl))
        (try simp only [Act.put, List.setIfInBounds_toArray, List.set_cons_zero, List.set_cons_succ])
        refine wpAnyH_take (i := 8) (oi := { dst := some 97, op := Go.Op.load 26 (Go.Operand.tmp 96), type := 26, pos := "more.go:57", after := #[{ on := 7, ground := Go.Ground.data }, { on := 3, ground := Go.Ground.guard }], guard := some (3, true) }) (v := ?vspn1_8) rfl (by kernel_rfl) (by kernel_rfl) (by kernel_rfl) (fun _ _ _ h => h) (Or.inl ⟨by rfl, ?yspn1_8⟩) (by assumption) ?rspn1_8
        case yspn1_8 => (intro w hSw; (try dsimp only at hSw); go_simp; (try with_reducible rfl))
        (try simp only [Act.put, List.setIfInBounds_toArray, List.set_cons_zero, List.set_cons_succ])
        refine wpAnyH_take (i := 9) (oi := { dst := some 98, op := Go.Op.binOp Go.BinOp.eql 26 (Go.Operand.tmp 94) (Go.Operand.tmp 97) 26, type := 4, pos := "more.go:57", after := #[{ on := 5, ground := Go.Ground.data }, { on := 8, ground := Go.Ground.data }, { on := 3, ground := Go.Ground.guard }], guard := some (3, true) }) (v := ?vspn1_9) rfl (by kernel_rfl) (by kernel_rfl) (by kernel_rfl) (fun _ _ _ h => h) (Or.inl ⟨by rfl, ?yspn1_9⟩) (by assumption) ?rspn1_9
        case yspn1_9 => (intro w hSw; (try dsimp only at hSw); go_simp; (try with_reducible rfl))
        (try simp only [Act.put, List.setIfInBounds_toArray, List.set_cons_zero, List.set_cons_succ])
        refine wpAnyH_take (i := 10) (oi := { dst := some 99, op := Go.Op.pick (Go.Operand.tmp 92) (Go.Operand.tmp 98) (Go.Operand.const (Go.Value.bool false)), type := 4, pos := "more.go:57", after := #[{ on := 3, ground := Go.Ground.data }, { on := 9, ground := Go.Ground.data }], guard := none }) (v := ?vspn1_10) rfl (by kernel_rfl) (by kernel_rfl) (by kernel_rfl) (fun _ _ _ h => h) (Or.inl ⟨by rfl, ?yspn1_10⟩) (by assumption) ?rspn1_10
        case yspn1_10 => (intro w hSw; (try dsimp only at hSw); go_simp; (try with_reducible rfl))
        (try simp only [Act.put, List.setIfInBounds_toArray, List.set_cons_zero, List.set_cons_succ])
        refine wpAnyH_take (i := 11) (oi := { dst := some 100, op := Go.Op.move (Go.Operand.tmp 99), type := 4, pos := "more.go:57", after := #[{ on := 10, ground := Go.Ground.data }, { on := 3, ground := Go.Ground.chain }], guard := none }) (v := ?vspn1_11) rfl (by kernel_rfl) (by kernel_rfl) (by kernel_rfl) (fun _ _ _ h => h) (Or.inl ⟨by rfl, ?yspn1_11⟩) (by assumption) ?rspn1_11
        case yspn1_11 => (intro w hSw; (try dsimp only at hSw); go_simp; (try with_reducible rfl))
        (try simp only [Act.put, List.setIfInBounds_toArray, List.set_cons_zero, List.set_cons_succ])
        refine wpAnyH_take (i := 12) (oi := { dst := some 101, op := Go.Op.load 28 (Go.Operand.tmp 13), type := 28, pos := "more.go:57", after := #[{ on := 11, ground := Go.Ground.guard }], guard := some (11, true) }) (v := ?vspn1_12) rfl (by kernel_rfl) (by kernel_rfl) (by kernel_rfl) (fun _ _ _ h => h) (Or.inl ⟨by rfl, ?yspn1_12⟩) (by assumption) ?rspn1_12
        case yspn1_12 => (intro w hSw; (try dsimp only at hSw); go_simp; (try with_reducible rfl))
        (try simp only [Act.put, List.setIfInBounds_toArray, List.set_cons_zero, List.set_cons_succ])
        refine wpAnyH_ready (rs := [13]) (by kernel_rfl) (by simp) ?_
        refine AllReadyH.cons (o := { dst := some 102, op := Go.Op.call { callee := Go.Callee.value (Go.Operand.func 22), args := #[Go.Operand.tmp 101], argTypes := #[28] }, type := 4, pos := "more.go:57", after := #[{ on := 12, ground := Go.Ground.data }, { on := 11, ground := Go.Ground.chain }, { on := 11, ground := Go.Ground.guard }], guard := some (11, true) }) rfl (fun K hK => ?_) AllReadyH.nil
        go_simp
        refine (Tells.of (over_any ⟨go, gp, gq, gv, gx, gy, 2⟩ _) (v' := .bool true) (by rfl)).mono ?_
        rintro e w' ⟨rfl, hb⟩
        go_wp2_with fail
        refine hK.out _ _ (held_call HKH.out (fun _ h => h.2.2.2.2.2.2.2.2.2.2.2) hb hHeld) (fun hHeld2 => ?_)
        clear hK K hHeld
        have hHeld := hHeld2
        clear hHeld2
        (try simp only [Act.put, List.setIfInBounds_toArray, List.set_cons_zero, List.set_cons_succ])
        refine wpAnyH_take (i := 14) (oi := { dst := some 103, op := Go.Op.pick (Go.Operand.tmp 100) (Go.Operand.tmp 102) (Go.Operand.const (Go.Value.bool false)), type := 4, pos := "more.go:57", after := #[{ on := 11, ground := Go.Ground.data }, { on := 13, ground := Go.Ground.data }], guard := none }) (v := ?vspn1_14) rfl (by kernel_rfl) (by kernel_rfl) (by kernel_rfl) (fun _ _ _ h => h) (Or.inl ⟨by rfl, ?yspn1_14⟩) (by assumption) ?rspn1_14
        case yspn1_14 => (intro w hSw; (try dsimp only at hSw); go_simp; (try with_reducible rfl))
        (try simp only [Act.put, List.setIfInBounds_toArray, List.set_cons_zero, List.set_cons_succ])
        refine wpAnyH_take (i := 15) (oi := { dst := some 104, op := Go.Op.move (Go.Operand.tmp 103), type := 4, pos := "more.go:57", after := #[{ on := 14, ground := Go.Ground.data }, { on := 13, ground := Go.Ground.chain }], guard := none }) (v := ?vspn1_15) rfl (by kernel_rfl) (by kernel_rfl) (by kernel_rfl) (fun _ _ _ h => h) (Or.inl ⟨by rfl, ?yspn1_15⟩) (by assumption) ?rspn1_15
        case yspn1_15 => (intro w hSw; (try dsimp only at hSw); go_simp; (try with_reducible rfl))
        (try simp only [Act.put, List.setIfInBounds_toArray, List.set_cons_zero, List.set_cons_succ])
        refine wpAnyH_take (i := 16) (oi := { dst := some 105, op := Go.Op.fieldAddr 28 (Go.Operand.tmp 13) 6, type := 0, pos := "more.go:57", after := #[{ on := 15, ground := Go.Ground.guard }], guard := some (15, true) }) (v := ?vspn1_16) rfl (by kernel_rfl) (by kernel_rfl) (by kernel_rfl) (fun _ _ _ h => h) (Or.inl ⟨by rfl, ?yspn1_16⟩) (by assumption) ?rspn1_16
        case yspn1_16 => (intro w hSw; (try dsimp only at hSw); go_simp; (try with_reducible rfl))
        (try simp only [Act.put, List.setIfInBounds_toArray, List.set_cons_zero, List.set_cons_succ])
        refine wpAnyH_take (i := 17) (oi := { dst := some 106, op := Go.Op.load 3 (Go.Operand.tmp 105), type := 3, pos := "more.go:57", after := #[{ on := 16, ground := Go.Ground.data }, { on := 15, ground := Go.Ground.guard }], guard := some (15, true) }) (v := ?vspn1_17) rfl (by kernel_rfl) (by kernel_rfl) (by kernel_rfl) (fun _ _ _ h => h) (Or.inl ⟨by rfl, ?yspn1_17⟩) (by assumption) ?rspn1_17
        case yspn1_17 => (intro w hSw; (try dsimp only at hSw); go_simp; (try with_reducible rfl))
        (try simp only [Act.put, List.setIfInBounds_toArray, List.set_cons_zero, List.set_cons_succ])
        refine wpAnyH_take (i := 18) (oi := { dst := some 107, op := Go.Op.binOp Go.BinOp.eql 3 (Go.Operand.tmp 106) (Go.Operand.const (Go.Value.int Go.IntKind.i64 1)) 3, type := 4, pos := "more.go:57", after := #[{ on := 17, ground := Go.Ground.data }, { on := 15, ground := Go.Ground.guard }], guard := some (15, true) }) (v := ?vspn1_18) rfl (by kernel_rfl) (by kernel_rfl) (by kernel_rfl) (fun _ _ _ h => h) (Or.inl ⟨by rfl, ?yspn1_18⟩) (by assumption) ?rspn1_18
        case yspn1_18 => (intro w hSw; (try dsimp only at hSw); go_simp; (try with_reducible rfl))
        (try simp only [Act.put, List.setIfInBounds_toArray, List.set_cons_zero, List.set_cons_succ])
        refine wpAnyH_take (i := 19) (oi := { dst := some 108, op := Go.Op.move (Go.Operand.tmp 10), type := 24, pos := "more.go:57", after := #[{ on := 15, ground := Go.Ground.guard }], guard := some (15, true) }) (v := ?vspn1_19) rfl (by kernel_rfl) (by kernel_rfl) (by kernel_rfl) (fun _ _ _ h => h) (Or.inl ⟨by rfl, ?yspn1_19⟩) (by assumption) ?rspn1_19
        case yspn1_19 => (intro w hSw; (try dsimp only at hSw); go_simp; (try with_reducible rfl))
        (try simp only [Act.put, List.setIfInBounds_toArray, List.set_cons_zero, List.set_cons_succ])
        refine wpAnyH_take (i := 20) (oi := { dst := some 109, op := Go.Op.call { callee := Go.Callee.builtin Go.Builtin.len, args := #[Go.Operand.tmp 108], argTypes := #[24] }, type := 3, pos := "more.go:57", after := #[{ on := 19, ground := Go.Ground.data }, { on := 15, ground := Go.Ground.guard }], guard := some (15, true) }) (v := ?vspn1_20) rfl (by kernel_rfl) (by kernel_rfl) (by kernel_rfl) (fun _ _ _ h => h) (Or.inl ⟨by rfl, ?yspn1_20⟩) (by assumption) ?rspn1_20
        case yspn1_20 => (intro w hSw; (try dsimp only at hSw); go_simp; (try with_reducible rfl))
        (try simp only [Act.put, List.setIfInBounds_toArray, List.set_cons_zero, List.set_cons_succ])
        refine wpAnyH_take (i := 21) (oi := { dst := some 110, op := Go.Op.fieldAddr 23 (Go.Operand.tmp 4) 1, type := 0, pos := "more.go:57", after := #[{ on := 15, ground := Go.Ground.guard }], guard := some (15, true) }) (v := ?vspn1_21) rfl (by kernel_rfl) (by kernel_rfl) (by kernel_rfl) (fun _ _ _ h => h) (Or.inl ⟨by rfl, ?yspn1_21⟩) (by assumption) ?rspn1_21
        case yspn1_21 => (intro w hSw; (try dsimp only at hSw); go_simp; (try with_reducible rfl))
        (try simp only [Act.put, List.setIfInBounds_toArray, List.set_cons_zero, List.set_cons_succ])
        refine wpAnyH_take (i := 22) (oi := { dst := some 111, op := Go.Op.load 3 (Go.Operand.tmp 110), type := 3, pos := "more.go:57", after := #[{ on := 21, ground := Go.Ground.data }, { on := 15, ground := Go.Ground.guard }], guard := some (15, true) }) (v := ?vspn1_22) rfl (by kernel_rfl) (by kernel_rfl) (by kernel_rfl) (fun _ _ _ h => h) (Or.inl ⟨by rfl, ?yspn1_22⟩) (by assumption) ?rspn1_22
        case yspn1_22 => (intro w hSw; (try dsimp only at hSw); go_simp; (try with_reducible rfl))
        (try simp only [Act.put, List.setIfInBounds_toArray, List.set_cons_zero, List.set_cons_succ])
        refine wpAnyH_take (i := 23) (oi := { dst := some 112, op := Go.Op.binOp Go.BinOp.lss 3 (Go.Operand.tmp 109) (Go.Operand.tmp 111) 3, type := 4, pos := "more.go:57", after := #[{ on := 20, ground := Go.Ground.data }, { on := 22, ground := Go.Ground.data }, { on := 15, ground := Go.Ground.guard }], guard := some (15, true) }) (v := ?vspn1_23) rfl (by kernel_rfl) (by kernel_rfl) (by kernel_rfl) (fun _ _ _ h => h) (Or.inl ⟨by rfl, ?yspn1_23⟩) (by assumption) ?rspn1_23
        case yspn1_23 => (intro w hSw; (try dsimp only at hSw); go_simp; (try with_reducible rfl))
        (try simp only [Act.put, List.setIfInBounds_toArray, List.set_cons_zero, List.set_cons_succ])
        refine wpAnyH_take (i := 24) (oi := { dst := some 113, op := Go.Op.binOp Go.BinOp.eql 4 (Go.Operand.tmp 107) (Go.Operand.tmp 112) 4, type := 4, pos := "more.go:57", after := #[{ on := 18, ground := Go.Ground.data }, { on := 23, ground := Go.Ground.data }, { on := 15, ground := Go.Ground.guard }], guard := some (15, true) }) (v := ?vspn1_24) rfl (by kernel_rfl) (by kernel_rfl) (by kernel_rfl) (fun _ _ _ h => h) (Or.inl ⟨by rfl, ?yspn1_24⟩) (by assumption) ?rspn1_24
        case yspn1_24 => (intro w hSw; (try dsimp only at hSw); go_simp; (try with_reducible rfl))
        (try simp only [Act.put, List.setIfInBounds_toArray, List.set_cons_zero, List.set_cons_succ])
        refine wpAnyH_take (i := 25) (oi := { dst := some 114, op := Go.Op.pick (Go.Operand.tmp 104) (Go.Operand.tmp 113) (Go.Operand.const (Go.Value.bool false)), type := 4, pos := "more.go:57", after := #[{ on := 15, ground := Go.Ground.data }, { on := 24, ground := Go.Ground.data }], guard := none }) (v := ?vspn1_25) rfl (by kernel_rfl) (by kernel_rfl) (by kernel_rfl) (fun _ _ _ h => h) (Or.inl ⟨by rfl, ?yspn1_25⟩) (by assumption) ?rspn1_25
        case yspn1_25 => (intro w hSw; (try dsimp only at hSw); go_simp; (try with_reducible rfl))
        (try simp only [Act.put, List.setIfInBounds_toArray, List.set_cons_zero, List.set_cons_succ])
        refine wpAnyH_take (i := 26) (oi := { dst := some 115, op := Go.Op.move (Go.Operand.tmp 114), type := 4, pos := "more.go:57", after := #[{ on := 25, ground := Go.Ground.data }, { on := 15, ground := Go.Ground.chain }], guard := none }) (v := ?vspn1_26) rfl (by kernel_rfl) (by kernel_rfl) (by kernel_rfl) (fun _ _ _ h => h) (Or.inl ⟨by rfl, ?yspn1_26⟩) (by assumption) ?rspn1_26
        case yspn1_26 => (intro w hSw; (try dsimp only at hSw); go_simp; (try with_reducible rfl))
        (try simp only [Act.put, List.setIfInBounds_toArray, List.set_cons_zero, List.set_cons_succ])
        refine wpAnyH_take (i := 27) (oi := { dst := some 116, op := Go.Op.move (Go.Operand.tmp 17), type := 4, pos := "more.go:57", after := #[{ on := 26, ground := Go.Ground.guard }], guard := some (26, true) }) (v := ?vspn1_27) rfl (by kernel_rfl) (by kernel_rfl) (by kernel_rfl) (fun _ _ _ h => h) (Or.inl ⟨by rfl, ?yspn1_27⟩) (by assumption) ?rspn1_27
        case yspn1_27 => (intro w hSw; (try dsimp only at hSw); go_simp; (try with_reducible rfl))
        (try simp only [Act.put, List.setIfInBounds_toArray, List.set_cons_zero, List.set_cons_succ])
        refine wpAnyH_take (i := 28) (oi := { dst := some 117, op := Go.Op.pick (Go.Operand.tmp 115) (Go.Operand.tmp 116) (Go.Operand.const (Go.Value.bool false)), type := 4, pos := "more.go:57", after := #[{ on := 26, ground := Go.Ground.data }, { on := 27, ground := Go.Ground.data }], guard := none }) (v := ?vspn1_28) rfl (by kernel_rfl) (by kernel_rfl) (by kernel_rfl) (fun _ _ _ h => h) (Or.inl ⟨by rfl, ?yspn1_28⟩) (by assumption) ?rspn1_28
        case yspn1_28 => (intro w hSw; (try dsimp only at hSw); go_simp; (try with_reducible rfl))
        (try simp only [Act.put, List.setIfInBounds_toArray, List.set_cons_zero, List.set_cons_succ])
        refine wpAnyH_take (i := 29) (oi := { dst := some 118, op := Go.Op.move (Go.Operand.tmp 117), type := 4, pos := "more.go:57", after := #[{ on := 28, ground := Go.Ground.data }, { on := 26, ground := Go.Ground.chain }], guard := none }) (v := ?vspn1_29) rfl (by kernel_rfl) (by kernel_rfl) (by kernel_rfl) (fun _ _ _ h => h) (Or.inl ⟨by rfl, ?yspn1_29⟩) (by assumption) ?rspn1_29
        case yspn1_29 => (intro w hSw; (try dsimp only at hSw); go_simp; (try with_reducible rfl))
        (try simp only [Act.put, List.setIfInBounds_toArray, List.set_cons_zero, List.set_cons_succ])
        refine wpAnyH_take (i := 30) (oi := { dst := some 119, op := Go.Op.move (Go.Operand.tmp 19), type := 4, pos := "more.go:57", after := #[{ on := 29, ground := Go.Ground.guard }], guard := some (29, true) }) (v := ?vspn1_30) rfl (by kernel_rfl) (by kernel_rfl) (by kernel_rfl) (fun _ _ _ h => h) (Or.inl ⟨by rfl, ?yspn1_30⟩) (by assumption) ?rspn1_30
        case yspn1_30 => (intro w hSw; (try dsimp only at hSw); go_simp; (try with_reducible rfl))
        (try simp only [Act.put, List.setIfInBounds_toArray, List.set_cons_zero, List.set_cons_succ])
        refine wpAnyH_take (i := 31) (oi := { dst := some 120, op := Go.Op.pick (Go.Operand.tmp 118) (Go.Operand.tmp 119) (Go.Operand.const (Go.Value.bool false)), type := 4, pos := "more.go:57", after := #[{ on := 29, ground := Go.Ground.data }, { on := 30, ground := Go.Ground.data }], guard := none }) (v := ?vspn1_31) rfl (by kernel_rfl) (by kernel_rfl) (by kernel_rfl) (fun _ _ _ h => h) (Or.inl ⟨by rfl, ?yspn1_31⟩) (by assumption) ?rspn1_31
        case yspn1_31 => (intro w hSw; (try dsimp only at hSw); go_simp; (try with_reducible rfl))
        (try simp only [Act.put, List.setIfInBounds_toArray, List.set_cons_zero, List.set_cons_succ])
        refine wpAnyH_take (i := 32) (oi := { dst := some 8, op := Go.Op.assign (Go.Operand.tmp 120), type := 4, pos := "more.go:57", after := #[{ on := 31, ground := Go.Ground.data }, { on := 29, ground := Go.Ground.chain }, { on := 0, ground := Go.Ground.phase }, { on := 1, ground := Go.Ground.phase }, { on := 2, ground := Go.Ground.phase }, { on := 3, ground := Go.Ground.phase }, { on := 4, ground := Go.Ground.phase }, { on := 5, ground := Go.Ground.phase }, { on := 6, ground := Go.Ground.phase }, { on := 7, ground := Go.Ground.phase }, { on := 8, ground := Go.Ground.phase }, { on := 9, ground := Go.Ground.phase }, { on := 10, ground := Go.Ground.phase }, { on := 11, ground := Go.Ground.phase }, { on := 12, ground := Go.Ground.phase }, { on := 13, ground := Go.Ground.phase }, { on := 14, ground := Go.Ground.phase }, { on := 15, ground := Go.Ground.phase }, { on := 16, ground := Go.Ground.phase }, { on := 17, ground := Go.Ground.phase }, { on := 18, ground := Go.Ground.phase }, { on := 19, ground := Go.Ground.phase }, { on := 20, ground := Go.Ground.phase }, { on := 21, ground := Go.Ground.phase }, { on := 22, ground := Go.Ground.phase }, { on := 23, ground := Go.Ground.phase }, { on := 24, ground := Go.Ground.phase }, { on := 25, ground := Go.Ground.phase }, { on := 26, ground := Go.Ground.phase }, { on := 27, ground := Go.Ground.phase }, { on := 28, ground := Go.Ground.phase }, { on := 29, ground := Go.Ground.phase }, { on := 30, ground := Go.Ground.phase }, { on := 31, ground := Go.Ground.phase }], guard := none }) (v := ?vspn1_32) rfl (by kernel_rfl) (by kernel_rfl) (by kernel_rfl) (fun _ _ _ h => h) (Or.inl ⟨by rfl, ?yspn1_32⟩) (by assumption) ?rspn1_32
        case yspn1_32 => (intro w hSw; (try dsimp only at hSw); go_simp; (try with_reducible rfl))
        (try simp only [Act.put, List.setIfInBounds_toArray, List.set_cons_zero, List.set_cons_succ])
        refine wpAnyH_done (by kernel_rfl) ?_ _
        go_wp2
        go_ret
        exact ⟨rfl, Z.out.trans ((hHeld.2.2.2.2.2.2.2.2.2.2.2).mono Z.out.size)⟩
theorem push_walk (W D J S a d : Int) (A : Option Addr) (n c : Nat) (m : List Int) (w : World) (hm : Rd w A m) (hn : m.length = n) (hu : UM m) (hd : U d) : Tells 7 #[cf W D J S, .slice A n c, .int .i64 a, .int .u64 d] w (.bool true) := by
  by_cases hs : n ≤ 500
  · cases hl : lst W D J S m a with
    | none => exact push_none_w W D J S a d A n c m w hm hn hs hl
    | some L =>
      cases L with
      | nil => exact push_nil_w W D J S a d A n c m w hm hn hs hl
      | cons u l =>
        obtain ⟨m', g, h1, ⟨hD, hr, h2⟩ | ⟨hD, hr, h2⟩⟩ := steal_push (v := d) hu hl
        · exact push_main_y W D J S a d u A n c m m' l w hm hn g hs hu hd hl h1 hD hr h2
        · exact push_main_n W D J S a d u A n c m m' l w hm hn g hs hu hd hl h1 hD hr h2
  · exact push_big_w W D J S a d A n c m w hm hn (by omega) (no_below (by omega))
end Go.Proofs.Ytomlgglcfbdimaa
