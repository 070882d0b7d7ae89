/- The walk of StealAlone. -/
import Derived.Test.YtomlgglcfbdimaaStH
import Derived.Test.YtomlgglcfbdimaaSaL
namespace Go.Proofs.Ytomlgglcfbdimaa
open Go.RowKit Go.Deep
attribute [local go_sem ↓] eql_fr guard_fr
theorem alone_big (W D J S a : Int) (A : Option Addr) (n c : Nat) (w : World) (hn : 500 < n) : Tells 4 #[cf W D J S, .slice A n c, .int .i64 a] w (.bool true) := by
  have hd : decide ((500 : Int) < (n : Int)) = true := decide_eq_true (by omega)
  go_enter Try.func4, Try.ntmps4
  go_wp2_with fail
  refine (awake_any _).mono ?_
  rintro _ w1 ⟨rfl, z⟩
  have Z := Lib.hid ((box_below w _).trans (z.mono (by simp)))
  clear z
  go_wp2
  go_ret
  exact ⟨rfl, Z.out⟩
theorem alone_none (W D J S a : Int) (A : Option Addr) (n c : Nat) (m : List Int) (w : World) (hm : Rd w A m) (hn : m.length = n) (hs : n ≤ 500) (hl : lst W D J S m a = none) : Tells 4 #[cf W D J S, .slice A n c, .int .i64 a] w (.bool true) := by
  have hd : decide ((500 : Int) < (n : Int)) = false := decide_eq_false (by omega)
  have HL := Lib.hid hl
  have LM := Lib.hid hm
  clear hl hm
  go_enter Try.func4, Try.ntmps4
  go_wp2_with fail
  refine (awake_any _).mono ?_
  rintro _ w1 ⟨rfl, z⟩
  have BX := Lib.hid ((Bx.mk w W D J S 23).below z)
  replace z := (box_below w _).trans (z.mono (by simp))
  have Z := Lib.hid z
  replace LM := Lib.hid (LM.out.below z)
  clear z
  obtain ⟨gx, x_0, x_1, x_2, x_3⟩ := BX.out
  go_wp2_with fail
  refine (list_n LM.out hn HL.out rfl rfl).mono ?_
  rintro _ w2 ⟨A2, c2, rfl, hc2, hr2, z⟩
  clear gx x_0 x_1 x_2 x_3
  replace Z := Lib.hid (Z.out.trans (z.mono Z.out.size))
  replace BX := Lib.hid (BX.out.below z)
  replace LM := Lib.hid (LM.out.below z)
  clear z
  obtain ⟨gx, x_0, x_1, x_2, x_3⟩ := BX.out
  go_wp2_with fail
  refine (some_n (k := 0) (b := false) LM.out hn HL.out rfl rfl).mono ?_
  rintro _ w3 ⟨rfl, z⟩
  clear gx x_0 x_1 x_2 x_3
  replace Z := Lib.hid (Z.out.trans (z.mono Z.out.size))
  replace BX := Lib.hid (BX.out.below z)
  replace LM := Lib.hid (LM.out.below z)
  clear z
  go_wp2
  go_ret
  exact ⟨rfl, Z.out⟩
set_option maxHeartbeats 1000000 in
theorem alone_some (W D J S a : Int) (A : Option Addr) (n c : Nat) (m l : List Int) (w : World) (hm : Rd w A m) (hn : m.length = n) (hs : n ≤ 500) (hu : UM m) (hl : lst W D J S m a = some l) : Tells 4 #[cf W D J S, .slice A n c, .int .i64 a] w (.bool true) := by
  have hl2 := steal_alone (v := 0) hu hl
  obtain ⟨bb, hbb⟩ : ∃ bb, decide (0 < l.length) = bb := ⟨_, rfl⟩
  have HBBB := Lib.hid hbb
  clear hbb
  have HU := Lib.hid (fun k => stealN_U (W := W) (D := D) (J := J) (S := S) (s := (m, fbg 2 a 0)) hu ⟨U0, U0, U0⟩ k)
  have HPL := Lib.hid (fun k => (stealN_len W D J S k (m, fbg 2 a 0)).trans hn)
  have hlen := lst_len hu hl
  obtain ⟨l1, f1, e1⟩ : ∃ l1 f1, on l D (fbg 2 a 0) = (l1, f1) := ⟨_, _, rfl⟩
  rw [e1] at hl2
  have E1 := Lib.hid e1
  have EF := Lib.hid hl2.1
  have EL := Lib.hid hl2.2
  have HLL := Lib.hid (show l1.length ≤ 20 by have h := (on_known (l := l) (r := D) (f := fbg 2 a 0) rfl (by simp [fbg]) (by simp [fbg])); obtain ⟨l2, u, t, h1, _, h2⟩ := h; rw [e1] at h1; injection h1 with h1 _; subst h1; omega)
  clear hl2 e1 hu
  have hd : decide ((500 : Int) < (n : Int)) = false := decide_eq_false (by omega)
  have HL := Lib.hid hl
  have LM := Lib.hid hm
  clear hl hm
  go_enter Try.func4, Try.ntmps4
  go_wp2_with fail
  refine (awake_any _).mono ?_
  rintro _ w1 ⟨rfl, z⟩
  have BX := Lib.hid ((Bx.mk w W D J S 23).below z)
  replace z := (box_below w _).trans (z.mono (by simp))
  have Z := Lib.hid z
  replace LM := Lib.hid (LM.out.below z)
  clear z
  have HLEN := Lib.hid hlen
  clear hlen
  obtain ⟨gx, x_0, x_1, x_2, x_3⟩ := BX.out
  go_wp2_with fail
  refine (list_n LM.out hn HL.out rfl rfl).mono ?_
  rintro _ w2 ⟨A2, c2, rfl, hc2, hr2, z⟩
  clear gx x_0 x_1 x_2 x_3
  replace Z := Lib.hid (Z.out.trans (z.mono Z.out.size))
  replace BX := Lib.hid (BX.out.below z)
  replace LM := Lib.hid (LM.out.below z)
  simp only [Option.getD_some] at hr2 hc2 ⊢
  have LL := Lib.hid hr2
  have HC := Lib.hid hc2
  clear z hr2 hc2
  go_wp2_with fail
  refine (begin_any 2 a 0 _).mono ?_
  rintro _ w3 ⟨rfl, z⟩
  replace Z := Lib.hid (Z.out.trans (z.mono Z.out.size))
  replace BX := Lib.hid (BX.out.below z)
  replace LM := Lib.hid (LM.out.below z)
  replace LL := Lib.hid (LL.out.below z)
  clear z
  have L0 := Lib.hid (LM.out.rx (Nat.le_refl w3.heap.size))
  have hgf := Lib.hid (show w.heap.size < w3.heap.size from BX.out.1)
  have hzf := Lib.hid Z.out.size
  obtain ⟨gx, x_0, x_1, x_2, x_3⟩ := BX.out
  go_wp2_with fail
  refine (once_at (n := l.length) l1 f1 E1.out (LL.out.alloc _) rfl HC.out (by have := HLEN.out; omega)).mono ?_
  rintro _ w4 ⟨A4, c4, rfl, hc4, hn4, z⟩
  clear gx x_0 x_1 x_2 x_3
  have BF := Lib.hid ((Bf.new w3 (fbg 2 a 0)).after z)
  replace z := keep_call z (bel_alloc w3 _)
  replace Z := Lib.hid (Z.out.trans (z.mono Z.out.size))
  replace BX := Lib.hid (BX.out.below z)
  replace LM := Lib.hid (LM.out.below z)
  replace LL := Lib.hid (LL.out.below z)
  replace L0 := Lib.hid (L0.out.after z)
  have LK := Lib.hid (hn4.rx (g := w3.heap.size) (Nat.zero_le _) (.inl (by simp)))
  clear z hc4 hn4 LL HC
  obtain ⟨ws, hws⟩ : ∃ ws, ws = w4.alloc (.cells #[.int .i64 f1.op, .int .i64 f1.pc, .int .i64 f1.who, .int .u64 f1.val, .int .u64 f1.x, .int .u64 f1.y, .int .i64 f1.res] 28) := ⟨_, rfl⟩
  have hz := box_below w4 (.cells #[.int .i64 f1.op, .int .i64 f1.pc, .int .i64 f1.who, .int .u64 f1.val, .int .u64 f1.x, .int .u64 f1.y, .int .i64 f1.res] 28)
  rw [← hws] at hz
  have BG := Lib.hid (show Bf ws w4.heap.size f1 by rw [hws]; exact Bf.new w4 f1)
  have HBG := Lib.hid (Nat.ne_of_gt BF.out.lt)
  have HBX := Lib.hid (Nat.ne_of_lt hgf.out)
  replace BX := Lib.hid (BX.out.below hz)
  replace LM := Lib.hid (LM.out.below hz)
  replace L0 := Lib.hid (L0.out.after hz)
  replace BF := Lib.hid (BF.out.after hz)
  replace LK := Lib.hid (LK.out.after hz)
  replace Z := Lib.hid (Z.out.trans (hz.mono Z.out.size))
  have HBB := Lib.hid BF.out.lt
  have HW := Lib.hid hws
  clear hz hws
  go_wp2
  go_loopw [14, 13] (fun i s wr => ∃ (j : Nat) (A : Option Addr) (c : Nat), i = .int .i64 j ∧ s = .slice A n c ∧ j ≤ 4 ∧ Hid (Rd wr A (itN (stealS W D J S) j (m, fbg 2 a 0)).1) ∧ Hid (Bf wr w3.heap.size (itN (stealS W D J S) j (m, fbg 2 a 0)).2) ∧ Hid (Kb w3.heap.size ws wr)) (fun i _ _ => 4 - (intOf i).toNat)
  case atStart =>
    obtain rfl := HW.out
    exact ⟨0, A, c, rfl, rfl, by omega, LM, BF, Lib.hid (Kb.refl _ _)⟩
  case round =>
    clear BF LM
    obtain ⟨j, A, c, rfl, rfl, hj, LA, BF, KB⟩ := hrel
    by_cases hlt : j < 4
    · have HUj := Lib.hid (HU.out j).2
      have HLj := Lib.hid (HPL.out j)
      have HE := Lib.hid (itN_succ (stealS W D J S) j (m, fbg 2 a 0))
      generalize (itN (stealS W D J S) j (m, fbg 2 a 0)).1 = M at *
      generalize (itN (stealS W D J S) j (m, fbg 2 a 0)).2 = F at *
      obtain ⟨M', F', HP⟩ : ∃ M' F', Hid (stealS W D J S M F = (M', F')) := ⟨_, _, Lib.hid rfl⟩
      obtain ⟨_, b0, b1, b2, b3⟩ := BX.out.kb KB.out HBX.out
      obtain ⟨d0, d1, d2, d3, d4, d5, d6⟩ := BF.out.cells
      have lBF := BF.out.lt
      have lBX := (BX.out.kb KB.out HBX.out).1
      go_wp2_with fail
      refine (steal_n LA.out HLj.out hs HUj.out HP.out).mono ?_
      rintro _ w7 ⟨A', c', rfl, hn7, z⟩
      have BF3 := BF.out.after z
      clear b0 b1 b2 b3 d0 d1 d2 d3 d4 d5 d6 lBF lBX
      obtain ⟨d0, d1, d2, d3, d4, d5, d6⟩ := BF3.cells
      have fz := BF3.free
      have lBF := BF3.lt
      have HN := Lib.hid (hn7.pf BF.out.lt F')
      have HB3 := Lib.hid (BF3.pf F')
      have HK3 := Lib.hid ((KB.out.call HBB.out z).pf F')
      clear hn7 BF3 z
      go_wp2_with fail
      go_roundw
      case rel => exact ⟨j + 1, A', c', by go_num, rfl, by omega, by rw [HE.out, HP.out]; exact Lib.hid HN.out.rd, by rw [HE.out, HP.out]; exact HB3, HK3⟩
      case measure => simp [intOf]; omega
    · obtain rfl : j = 4 := by omega
      replace BX := Lib.hid (BX.out.kb KB.out HBX.out)
      replace L0 := Lib.hid (L0.out.kb KB.out)
      replace LK := Lib.hid (LK.out.kb KB.out)
      replace BG := Lib.hid (BG.out.kb KB.out HBG.out)
      replace Z := Lib.hid (Z.out.trans (KB.out.low.mono hzf.out))
      clear KB HBB HW hj hlt
      rw [EF.out] at BF
      obtain ⟨gx, x_0, x_1, x_2, x_3⟩ := BX.out
      go_wp2_with fail
      refine (list_n LA.out (HPL.out 4) EL.out rfl rfl).mono ?_
      rintro _ w8 ⟨A8, c8, rfl, hc8, hr8, z⟩
      clear gx x_0 x_1 x_2 x_3
      replace Z := Lib.hid (Z.out.trans (z.mono Z.out.size))
      replace BX := Lib.hid (BX.out.below z)
      replace L0 := Lib.hid (L0.out.after z)
      replace BF := Lib.hid (BF.out.after z)
      replace LK := Lib.hid (LK.out.after z)
      replace BG := Lib.hid (BG.out.after z)
      replace LA := Lib.hid (LA.out.below z)
      simp only [Option.getD_some] at hr8 ⊢
      have LQ := Lib.hid hr8
      clear z hr8 hc8
      go_wp2_with fail
      refine (nums_eq LQ.out LK.out.rd rfl (by have := HLL.out; omega)).mono ?_
      rintro _ w9 ⟨rfl, q9, hq⟩
      have z := below_of_drewN hq
      clear hq
      replace Z := Lib.hid (Z.out.trans (z.mono Z.out.size))
      replace BX := Lib.hid (BX.out.below z)
      replace L0 := Lib.hid (L0.out.after z)
      replace BF := Lib.hid (BF.out.after z)
      replace LK := Lib.hid (LK.out.after z)
      replace BG := Lib.hid (BG.out.after z)
      replace LA := Lib.hid (LA.out.below z)
      replace LQ := Lib.hid (LQ.out.below z)
      clear z
      obtain ⟨gx, x_0, x_1, x_2, x_3⟩ := BX.out
      obtain ⟨a0, a1, a2, a3, a4, a5, a6⟩ := BF.out.cells
      have la := BF.out.lt
      obtain ⟨b0, b1, b2, b3, b4, b5, b6⟩ := BG.out.cells
      have lb := BG.out.lt
      have hdb := HBBB.out
      go_wp2_with fail
      refine (some_n (k := l.length) (b := bb) L0.out.rd hn HL.out rfl (by rw [← HBBB.out]; simp)).mono ?_
      rintro _ w10 ⟨rfl, z⟩
      clear gx x_0 x_1 x_2 x_3 a0 a1 a2 a3 a4 a5 a6 la b0 b1 b2 b3 b4 b5 b6 lb
      replace Z := Lib.hid (Z.out.trans (z.mono Z.out.size))
      replace BX := Lib.hid (BX.out.below z)
      replace L0 := Lib.hid (L0.out.after z)
      replace BF := Lib.hid (BF.out.after z)
      replace LK := Lib.hid (LK.out.after z)
      replace BG := Lib.hid (BG.out.after z)
      replace LA := Lib.hid (LA.out.below z)
      replace LQ := Lib.hid (LQ.out.below z)
      clear z
      go_wp2
      go_ret
      exact ⟨rfl, Z.out⟩
theorem alone_walk (W D J S a : Int) (A : Option Addr) (n c : Nat) (m : List Int) (w : World) (hm : Rd w A m) (hn : m.length = n) (hu : UM m) : Tells 4 #[cf W D J S, .slice A n c, .int .i64 a] w (.bool true) := by
  by_cases hs : n ≤ 500
  · cases hl : lst W D J S m a with
    | none => exact alone_none W D J S a A n c m w hm hn hs hl
    | some l => exact alone_some W D J S a A n c m l w hm hn hs hu hl
  · exact alone_big W D J S a A n c w (by omega)
end Go.Proofs.Ytomlgglcfbdimaa
