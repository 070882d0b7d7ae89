/- The walk of StealAbort. -/
import Derived.Test.YtomlgglcfbdimaaDuL
import Derived.Deep.QuietTactic
import Derived.BigQuiet
namespace Go.Proofs.Ytomlgglcfbdimaa
open Go.RowKit Go.Deep
theorem abort_big (W D J S a : Int) (A : Option Addr) (n c : Nat) (m : List Int) (w : World) (hm : Rd w A m) (hs : 500 < n) : Tells 5 #[cf W D J S, .slice A n c, .int .i64 a] w (.bool true) := by
  have hd : decide ((500 : Int) < (n : Int)) = true := decide_eq_true (by omega)
  have LM := Lib.hid hm
  clear hm
  go_enter Try.func5, Try.ntmps5
  go_wp2_with fail
  refine (awake_any _).mono ?_
  rintro _ w1 ⟨rfl, z⟩
  have BX := Lib.hid ((Bx.mk w W D J S 23).below z)
  replace z := (box_below w _).trans (z.mono (by simp))
  have Z := Lib.hid z
  replace LM := Lib.hid (LM.out.below z)
  clear z
  go_wp2
  go_ret
  exact ⟨rfl, Z.out⟩
theorem abort_none (W D J S a : Int) (A : Option Addr) (n c : Nat) (m : List Int) (w : World) (hm : Rd w A m) (hn : m.length = n) (hs : n ≤ 500) (hl : lst W D J S m a = none) : Tells 5 #[cf W D J S, .slice A n c, .int .i64 a] w (.bool true) := by
  have HL := Lib.hid hl
  clear hl
  have hd : decide ((500 : Int) < (n : Int)) = false := decide_eq_false (by omega)
  have LM := Lib.hid hm
  clear hm
  go_enter Try.func5, Try.ntmps5
  go_wp2_with fail
  refine (awake_any _).mono ?_
  rintro _ w1 ⟨rfl, z⟩
  have BX := Lib.hid ((Bx.mk w W D J S 23).below z)
  replace z := (box_below w _).trans (z.mono (by simp))
  have Z := Lib.hid z
  replace LM := Lib.hid (LM.out.below z)
  clear z
  obtain ⟨gx, x_0, x_1, x_2, x_3⟩ := BX.out
  go_wp2_with fail
  refine (list_n LM.out hn HL.out rfl rfl).mono ?_
  rintro _ w2 ⟨A2, c2, rfl, hc2, hr2, z⟩
  clear gx x_0 x_1 x_2 x_3
  replace Z := Lib.hid (Z.out.trans (z.mono Z.out.size))
  replace BX := Lib.hid (BX.out.below z)
  replace LM := Lib.hid (LM.out.below z)
  clear z hr2 hc2
  go_wp2
  go_ret
  exact ⟨rfl, Z.out⟩
theorem abort_nil (W D J S a : Int) (A : Option Addr) (n c : Nat) (m : List Int) (w : World) (hm : Rd w A m) (hn : m.length = n) (hs : n ≤ 500) (hl : lst W D J S m a = some []) : Tells 5 #[cf W D J S, .slice A n c, .int .i64 a] w (.bool true) := by
  have HL := Lib.hid hl
  clear hl
  have hd : decide ((500 : Int) < (n : Int)) = false := decide_eq_false (by omega)
  have LM := Lib.hid hm
  clear hm
  go_enter Try.func5, Try.ntmps5
  go_wp2_with fail
  refine (awake_any _).mono ?_
  rintro _ w1 ⟨rfl, z⟩
  have BX := Lib.hid ((Bx.mk w W D J S 23).below z)
  replace z := (box_below w _).trans (z.mono (by simp))
  have Z := Lib.hid z
  replace LM := Lib.hid (LM.out.below z)
  clear z
  obtain ⟨gx, x_0, x_1, x_2, x_3⟩ := BX.out
  go_wp2_with fail
  refine (list_n LM.out hn HL.out rfl rfl).mono ?_
  rintro _ w2 ⟨A2, c2, rfl, hc2, hr2, z⟩
  clear gx x_0 x_1 x_2 x_3
  replace Z := Lib.hid (Z.out.trans (z.mono Z.out.size))
  replace BX := Lib.hid (BX.out.below z)
  replace LM := Lib.hid (LM.out.below z)
  clear z hr2 hc2
  go_wp2
  go_ret
  exact ⟨rfl, Z.out⟩
set_option maxHeartbeats 2000000 in
theorem abort_main (W D J S a u : Int) (A : Option Addr) (n c : Nat) (m l : List Int) (w : World) (hm : Rd w A m) (hn : m.length = n) (hs : n ≤ 500) (hu : UM m) (hl : lst W D J S m a = some (u :: l)) : Tells 5 #[cf W D J S, .slice A n c, .int .i64 a] w (.bool true) := by
  have hlen := lst_len hu hl
  obtain ⟨m', h1, h2⟩ := steal_abort hu hl
  have HU := Lib.hid (fun k => duo_inv (s1 := stealS W D J S) (s2 := stealS W D J S) (P := fun m => UM m ∧ m.length = n) (Q := UF) (fun m f h1 h2 => ⟨⟨(stealS_U h1.1 h2).1, (stealS_len _ _ _ _ _ _).trans h1.2⟩, (stealS_U h1.1 h2).2⟩) (fun m f h1 h2 => ⟨⟨(stealS_U h1.1 h2).1, (stealS_len _ _ _ _ _ _).trans h1.2⟩, (stealS_U h1.1 h2).2⟩) (s := (m, fbg 2 a 0, fbg 2 a 0)) ⟨hu, hn⟩ ⟨U0, U0, U0⟩ ⟨U0, U0, U0⟩ k)
  have HI := Lib.hid h1
  have HL2 := Lib.hid h2
  obtain ⟨k1, hk1⟩ : ∃ k1, l.length = k1 := ⟨_, rfl⟩
  have HK := Lib.hid (show (u :: l).length = k1 + 1 by simp [hk1])
  have HK1 := Lib.hid hk1
  have HLEN := Lib.hid (show k1 ≤ 20 by simp only [List.length_cons] at hlen; omega)
  have hk0 : (((k1 + 1 : Nat) : Int) == 0) = false := by rw [beq_eq_false_iff_ne]; omega
  clear h1 h2 hlen hu hk1
  have HL := Lib.hid hl
  clear hl
  have hd : decide ((500 : Int) < (n : Int)) = false := decide_eq_false (by omega)
  have LM := Lib.hid hm
  clear hm
  go_enter Try.func5, Try.ntmps5
  go_wp2_with fail
  refine (awake_any _).mono ?_
  rintro _ w1 ⟨rfl, z⟩
  have BX := Lib.hid ((Bx.mk w W D J S 23).below z)
  replace z := (box_below w _).trans (z.mono (by simp))
  have Z := Lib.hid z
  replace LM := Lib.hid (LM.out.below z)
  clear z
  obtain ⟨gx, x_0, x_1, x_2, x_3⟩ := BX.out
  go_wp2_with fail
  refine (list_n LM.out hn HL.out HK.out rfl).mono ?_
  rintro _ w2 ⟨A2, c2, rfl, hc2, hr2, z⟩
  clear gx x_0 x_1 x_2 x_3
  replace Z := Lib.hid (Z.out.trans (z.mono Z.out.size))
  replace BX := Lib.hid (BX.out.below z)
  replace LM := Lib.hid (LM.out.below z)
  simp only [Option.getD_some] at hr2
  obtain ⟨ad, rfl, _, _⟩ := hr2 (by simp)
  have LL := Lib.hid hr2
  have HC := Lib.hid hc2
  clear z hr2 hc2
  go_wp2_with fail
  refine (begin_any 2 a 0 _).mono ?_
  rintro _ w3 ⟨rfl, z⟩
  replace Z := Lib.hid (Z.out.trans (z.mono Z.out.size))
  replace BX := Lib.hid (BX.out.below z)
  replace LM := Lib.hid (LM.out.below z)
  replace LL := Lib.hid (LL.out.below z)
  clear z
  replace LL := Lib.hid (LL.out.rx (Nat.le_refl w3.heap.size))
  have hgf := Lib.hid (show w.heap.size < w3.heap.size from BX.out.1)
  have hzf := Lib.hid Z.out.size
  go_wp2_with fail
  refine (begin_any 2 a 0 _).mono ?_
  rintro _ w4 ⟨rfl, z⟩
  have BF := Lib.hid ((Bf.new w3 (fbg 2 a 0)).after z)
  replace z := keep_call z (bel_alloc w3 _)
  replace Z := Lib.hid (Z.out.trans (z.mono Z.out.size))
  replace BX := Lib.hid (BX.out.below z)
  replace LM := Lib.hid (LM.out.below z)
  replace LL := Lib.hid (LL.out.after z)
  clear z
  replace LL := Lib.hid (LL.out.ru (Nat.le_refl w4.heap.size))
  have HGK := Lib.hid BF.out.lt
  have HBX1 := Lib.hid (Nat.ne_of_lt hgf.out)
  have HBX2 := Lib.hid (Nat.ne_of_lt BX.out.1)
  obtain ⟨ws, hws⟩ : ∃ ws, ws = w4.alloc (.cells #[.int .i64 (fbg 2 a 0).op, .int .i64 (fbg 2 a 0).pc, .int .i64 (fbg 2 a 0).who, .int .u64 (fbg 2 a 0).val, .int .u64 (fbg 2 a 0).x, .int .u64 (fbg 2 a 0).y, .int .i64 (fbg 2 a 0).res] 28) := ⟨_, rfl⟩
  have hz := box_below w4 (.cells #[.int .i64 (fbg 2 a 0).op, .int .i64 (fbg 2 a 0).pc, .int .i64 (fbg 2 a 0).who, .int .u64 (fbg 2 a 0).val, .int .u64 (fbg 2 a 0).x, .int .u64 (fbg 2 a 0).y, .int .i64 (fbg 2 a 0).res] 28)
  rw [← hws] at hz
  have BG := Lib.hid (show Bf ws w4.heap.size (fbg 2 a 0) by rw [hws]; exact Bf.new w4 (fbg 2 a 0))
  replace BX := Lib.hid (BX.out.below hz)
  replace LM := Lib.hid (LM.out.below hz)
  replace LL := Lib.hid (LL.out.after hz)
  replace BF := Lib.hid (BF.out.after hz)
  replace Z := Lib.hid (Z.out.trans (hz.mono Z.out.size))
  have HW := Lib.hid hws
  clear hz hws
  have HBB := Lib.hid BF.out.lt
  go_wp2
  go_loopw [13, 12] (fun i s wr => ∃ (j : Nat) (A : Option Addr) (c : Nat), i = .int .i64 j ∧ s = .slice A n c ∧ j ≤ 4 ∧ Hid (Rd wr A (duo (stealS W D J S) (stealS W D J S) j (m, fbg 2 a 0, fbg 2 a 0)).1) ∧ Hid (Bf wr w3.heap.size (duo (stealS W D J S) (stealS W D J S) j (m, fbg 2 a 0, fbg 2 a 0)).2.1) ∧ Hid (Bf wr w4.heap.size (duo (stealS W D J S) (stealS W D J S) j (m, fbg 2 a 0, fbg 2 a 0)).2.2) ∧ Hid (K2 w3.heap.size w4.heap.size ws wr)) (fun i _ _ => 4 - (intOf i).toNat)
  case atStart =>
    obtain rfl := HW.out
    exact ⟨0, A, c, rfl, rfl, by omega, LM, BF, BG, Lib.hid (K2.refl _ _ _)⟩
  case round =>
    clear BF BG LM
    obtain ⟨j, A, c, rfl, rfl, hj, LA, BF, BG, KB⟩ := hrel
    by_cases hlt : j < 4
    · obtain ⟨⟨huM, hlM⟩, hfF, hfG⟩ := HU.out j
      have HLj := Lib.hid hlM
      have HUF := Lib.hid hfF
      have HUG := Lib.hid hfG
      obtain ⟨M', F', hP1⟩ : ∃ M' F', stealS W D J S (duo (stealS W D J S) (stealS W D J S) j (m, fbg 2 a 0, fbg 2 a 0)).1 (duo (stealS W D J S) (stealS W D J S) j (m, fbg 2 a 0, fbg 2 a 0)).2.1 = (M', F') := ⟨_, _, rfl⟩
      obtain ⟨M2, G', hP2⟩ : ∃ M2 G', stealS W D J S M' (duo (stealS W D J S) (stealS W D J S) j (m, fbg 2 a 0, fbg 2 a 0)).2.2 = (M2, G') := ⟨_, _, rfl⟩
      have HE := Lib.hid (duo_one (k := j) (s := (m, fbg 2 a 0, fbg 2 a 0)) (show duo (stealS W D J S) (stealS W D J S) j (m, fbg 2 a 0, fbg 2 a 0) = ((duo (stealS W D J S) (stealS W D J S) j (m, fbg 2 a 0, fbg 2 a 0)).1, (duo (stealS W D J S) (stealS W D J S) j (m, fbg 2 a 0, fbg 2 a 0)).2.1, (duo (stealS W D J S) (stealS W D J S) j (m, fbg 2 a 0, fbg 2 a 0)).2.2) from rfl) hP1 hP2)
      have HLj2 := Lib.hid (show M'.length = n by have h : (stealS W D J S (duo (stealS W D J S) (stealS W D J S) j (m, fbg 2 a 0, fbg 2 a 0)).1 (duo (stealS W D J S) (stealS W D J S) j (m, fbg 2 a 0, fbg 2 a 0)).2.1).1.length = (duo (stealS W D J S) (stealS W D J S) j (m, fbg 2 a 0, fbg 2 a 0)).1.length := stealS_len _ _ _ _ _ _; rw [hP1] at h; exact h.trans hlM)
      have HP1 := Lib.hid hP1
      have HP2 := Lib.hid hP2
      clear hP1 hP2 huM hlM hfF hfG
      generalize (duo (stealS W D J S) (stealS W D J S) j (m, fbg 2 a 0, fbg 2 a 0)).1 = M at *
      generalize (duo (stealS W D J S) (stealS W D J S) j (m, fbg 2 a 0, fbg 2 a 0)).2.1 = F at *
      generalize (duo (stealS W D J S) (stealS W D J S) j (m, fbg 2 a 0, fbg 2 a 0)).2.2 = G at *
      obtain ⟨lBX, b0, b1, b2, b3⟩ := BX.out.k2 KB.out HBX1.out HBX2.out
      obtain ⟨d0, d1, d2, d3, d4, d5, d6⟩ := BF.out.cells
      have lBF := BF.out.lt
      go_wp2_with fail
      refine (steal_n LA.out HLj.out hs HUF.out HP1.out).mono ?_
      rintro _ w7 ⟨A7, c7, rfl, hn7, z⟩
      have BF3 := BF.out.after z
      have BG3 := BG.out.after z
      clear b0 b1 b2 b3 d0 d1 d2 d3 d4 d5 d6 lBF lBX
      obtain ⟨d0, d1, d2, d3, d4, d5, d6⟩ := BF3.cells
      have fz := BF3.free
      have lBF := BF3.lt
      have hN := (hn7.pf BF.out.lt F').rd
      have hB3 := BF3.pf F'
      have hG3 := BG3.apart (Nat.ne_of_gt HGK.out) F'
      have hK3 := (KB.out.call HBB.out z).pfl F'
      clear hn7 z BG3
      go_upto_region 14 with fail
      change Code.wp _ _ _ _ (pf w7 w3.heap.size F')
      clear d0 d1 d2 d3 d4 d5 d6 fz lBF BF3 BF BG LA KB
      generalize pf w7 w3.heap.size F' = wp at hN hB3 hG3 hK3 ⊢
      have LA := Lib.hid hN
      have BF := Lib.hid hB3
      have BG := Lib.hid hG3
      have KB := Lib.hid hK3
      clear hN hB3 hG3 hK3
      obtain ⟨lBX, b0, b1, b2, b3⟩ := BX.out.k2 KB.out HBX1.out HBX2.out
      obtain ⟨d0, d1, d2, d3, d4, d5, d6⟩ := BG.out.cells
      have lBG := BG.out.lt
      go_wp2_with fail
      refine (steal_n LA.out HLj2.out hs HUG.out HP2.out).mono ?_
      rintro _ w8 ⟨A8, c8, rfl, hn8, z⟩
      have BF3 := BF.out.after z
      have BG3 := BG.out.after z
      clear b0 b1 b2 b3 d0 d1 d2 d3 d4 d5 d6 lBG lBX
      obtain ⟨d0, d1, d2, d3, d4, d5, d6⟩ := BG3.cells
      have fz := BG3.free
      have lBG := BG3.lt
      have HN := Lib.hid ((hn8.pf BG.out.lt G').rd)
      have HG3 := Lib.hid (BG3.pf G')
      have HF3 := Lib.hid (BF3.apart (Nat.ne_of_lt HGK.out) G')
      have HK3 := Lib.hid ((KB.out.call HBB.out z).pfr HGK.out G')
      clear hn8 z BF3 BG3
      go_wp2_with fail
      go_roundw
      case rel => exact ⟨j + 1, A8, c8, by go_num, rfl, by omega, by rw [HE.out]; exact HN, by rw [HE.out]; exact HF3, by rw [HE.out]; exact HG3, HK3⟩
      case measure => simp [intOf]; omega
    · obtain rfl : j = 4 := by omega
      replace BX := Lib.hid (BX.out.k2 KB.out HBX1.out HBX2.out)
      replace LL := Lib.hid (LL.out.k2 KB.out)
      replace Z := Lib.hid (Z.out.trans (KB.out.low.mono hzf.out))
      clear KB HBB hj hlt HW
      have HML := Lib.hid (show m'.length = n by have := (HU.out 4).1.2; rw [HI.out] at this; exact this)
      rw [HI.out] at LA BF BG
      simp only at LA BF BG
      obtain ⟨gx, x_0, x_1, x_2, x_3⟩ := BX.out
      go_wp2_with fail
      refine (list_n LA.out HML.out HL2.out HK1.out rfl).mono ?_
      rintro _ w9 ⟨A9, c9, rfl, hc9, hr9, z⟩
      clear gx x_0 x_1 x_2 x_3
      replace Z := Lib.hid (Z.out.trans (z.mono Z.out.size))
      replace BX := Lib.hid (BX.out.below z)
      replace LL := Lib.hid (LL.out.after z)
      replace BF := Lib.hid (BF.out.after z)
      replace BG := Lib.hid (BG.out.after z)
      replace LA := Lib.hid (LA.out.below z)
      simp only [Option.getD_some] at hr9
      have LQ := Lib.hid hr9
      clear z hr9 hc9
      have hc3 : ((k1 + 1 : Nat) : Int) ≤ (c2 : Int) := by have := HC.out; omega
      have hc4 : (k1 : Int) + 1 ≤ (c2 : Int) := by have := HC.out; omega
      have hc5 : (1 : Int) ≤ (k1 : Int) + 1 := by omega
      by_cases hcc : c2 = 1
      · have hk10 : k1 = 0 := by have := HC.out; omega
        subst hcc
        have HT := Lib.hid (show Rd w9 (some ad) l from fun hp => by have := HK1.out; omega)
        clear hk10
        go_wp2_with fail
        refine (nums_eq LQ.out HT.out HK1.out (by have := HLEN.out; omega)).mono ?_
        rintro _ w10 ⟨rfl, q10, hq⟩
        have z := below_of_drewN hq
        clear hq
        replace Z := Lib.hid (Z.out.trans (z.mono Z.out.size))
        replace BX := Lib.hid (BX.out.below z)
        replace LL := Lib.hid (LL.out.after z)
        replace BF := Lib.hid (BF.out.after z)
        replace BG := Lib.hid (BG.out.after z)
        replace LA := Lib.hid (LA.out.below z)
        replace LQ := Lib.hid (LQ.out.below z)
        clear z
        obtain ⟨a0, a1, a2, a3, a4, a5, a6⟩ := BF.out.cells
        have la := BF.out.lt
        simp only at a0 a1 a2 a3 a4 a5 a6
        obtain ⟨b0, b1, b2, b3, b4, b5, b6⟩ := BG.out.cells
        have lb := BG.out.lt
        simp only at b0 b1 b2 b3 b4 b5 b6
        obtain ⟨ad2, hq2, _, _, hadl, hadc⟩ := LL.out (by simp)
        cases hq2
        have u0 : w10.cell? ad = some (.int .u64 u) := hadc 0 u rfl
        have hk9 : (0 : Int) < (k1 : Int) + 1 := by omega
        clear hadc
        go_wp2_with fail
        go_quiet (fail)
        go_wp2
        go_ret
        exact ⟨rfl, Z.out.trans ((below_drewN _ _).mono Z.out.size)⟩
      · have HT := Lib.hid LL.out.rd.tail
        go_wp2_with fail
        refine (nums_eq LQ.out HT.out HK1.out (by have := HLEN.out; omega)).mono ?_
        rintro _ w10 ⟨rfl, q10, hq⟩
        have z := below_of_drewN hq
        clear hq
        replace Z := Lib.hid (Z.out.trans (z.mono Z.out.size))
        replace BX := Lib.hid (BX.out.below z)
        replace LL := Lib.hid (LL.out.after z)
        replace BF := Lib.hid (BF.out.after z)
        replace BG := Lib.hid (BG.out.after z)
        replace LA := Lib.hid (LA.out.below z)
        replace LQ := Lib.hid (LQ.out.below z)
        clear z
        obtain ⟨a0, a1, a2, a3, a4, a5, a6⟩ := BF.out.cells
        have la := BF.out.lt
        simp only at a0 a1 a2 a3 a4 a5 a6
        obtain ⟨b0, b1, b2, b3, b4, b5, b6⟩ := BG.out.cells
        have lb := BG.out.lt
        simp only at b0 b1 b2 b3 b4 b5 b6
        obtain ⟨ad2, hq2, _, _, hadl, hadc⟩ := LL.out (by simp)
        cases hq2
        have u0 : w10.cell? ad = some (.int .u64 u) := hadc 0 u rfl
        have hk9 : (0 : Int) < (k1 : Int) + 1 := by omega
        clear hadc
        go_wp2_with fail
        go_quiet (fail)
        go_wp2
        go_ret
        exact ⟨rfl, Z.out.trans ((below_drewN _ _).mono Z.out.size)⟩
theorem abort_walk (W D J S a : Int) (A : Option Addr) (n c : Nat) (m : List Int) (w : World) (hm : Rd w A m) (hn : m.length = n) (hu : UM m) : Tells 5 #[cf W D J S, .slice A n c, .int .i64 a] w (.bool true) := by
  by_cases hs : n ≤ 500
  · cases hl : lst W D J S m a with
    | none => exact abort_none W D J S a A n c m w hm hn hs hl
    | some L =>
      cases L with
      | nil => exact abort_nil W D J S a A n c m w hm hn hs hl
      | cons u l => exact abort_main W D J S a u A n c m l w hm hn hs hu hl
  · exact abort_big W D J S a A n c m w hm (by omega)
end Go.Proofs.Ytomlgglcfbdimaa
