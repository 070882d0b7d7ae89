/- The walk of PopBack. -/
import Derived.Test.YtfeccpfkpbminaaPoH
import Derived.Test.YtfeccpfkpbminaaSaL
namespace Go.Proofs.Ytfeccpfkpbminaa
open Go.RowKit Go.Deep
attribute [local go_sem ↓] eql_fr guard_fr
theorem pushN_it (W D J S : Int) (k : Nat) (s : List Int × Fr) : itN (pushS W D J S) k s = pushN W D J S k s := by
  induction k with
  | zero => rfl
  | succ k ih => show pushS W D J S _ _ = pushS W D J S _ _; rw [ih]
/-- A push, and a pop behind it: what they come to. -/
theorem pop_back {W D J S a v : Int} {m l : List Int} (hu : UM m) (hv : U v) (hl : lst W D J S m a = some l) (hr : (l.length : Int) < D) :
    ∃ m1 m2, itN (pushS W D J S) 4 (m, fbg 0 a v) = (m1, ⟨0, 0, a, v, 0, 0, 1⟩) ∧ UM m1 ∧ m1.length = m.length ∧ itN (popS W D J S) 7 (m1, fbg 1 a 0) = (m2, ⟨1, 0, a, v, 0, 0, 1⟩) ∧ lst W D J S m2 a = some l ∧ m2.length = m.length := by
  have h1 := push_alone (v := v) hu hl
  have eo : on l D (fbg 0 a v) = (l ++ [v], ⟨0, 0, a, v, 0, 0, 1⟩) := by
    have hnr : ¬ D ≤ (l.length : Int) := by omega
    simp [on, onPut, fbg, ed, hnr]
  rw [eo] at h1
  have hm1 := (pushN_U (W := W) (D := D) (J := J) (S := S) (s := (m, fbg 0 a v)) hu ⟨hv, U0, U0⟩ 4).1
  have hlen1 := pushN_len W D J S 4 (m, fbg 0 a v)
  rw [← pushN_it] at h1 hm1 hlen1
  obtain ⟨m1, f1, e1⟩ : ∃ m1 f1, itN (pushS W D J S) 4 (m, fbg 0 a v) = (m1, f1) := ⟨_, _, rfl⟩
  rw [e1] at h1 hm1 hlen1
  simp only at h1 hm1 hlen1
  obtain ⟨rfl, h2⟩ := h1
  have h3 := pop_alone (v := 0) hm1 h2
  have eq : on (l ++ [v]) D (fbg 1 a 0) = (l, ⟨1, 0, a, v, 0, 0, 1⟩) := by
    have e : on (l ++ [v]) D (fbg 1 a 0) = onLast (l ++ [v]) (fbg 1 a 0) := by simp [on, fbg]
    rw [e, onLast_snoc]; rfl
  rw [eq] at h3
  have hlen3 := popN_len W D J S 7 (m1, fbg 1 a 0)
  obtain ⟨m2, f2, e2⟩ : ∃ m2 f2, itN (popS W D J S) 7 (m1, fbg 1 a 0) = (m2, f2) := ⟨_, _, rfl⟩
  rw [e2] at h3 hlen3
  simp only at h3 hlen3
  obtain ⟨rfl, h4⟩ := h3
  exact ⟨m1, m2, e1, hm1, hlen1, e2, h4, hlen3.trans hlen1⟩
theorem pushI_U {W D J S : Int} {s : List Int × Fr} (hm : UM s.1) (hf : UF s.2) (k : Nat) : UM (itN (pushS W D J S) k s).1 ∧ UF (itN (pushS W D J S) k s).2 := by
  rw [pushN_it]; exact pushN_U hm hf k
theorem pushI_len (W D J S : Int) (k : Nat) (s : List Int × Fr) : (itN (pushS W D J S) k s).1.length = s.1.length := by
  rw [pushN_it]; exact pushN_len _ _ _ _ _ _
theorem back_big (W D J S a v : Int) (A : Option Addr) (n c : Nat) (w : World) (hn : 500 < n) : Tells 5 #[cf W D J S, .slice A n c, .int .i64 a, .int .u64 v] w (.bool true) := by
  have hd : decide ((500 : Int) < (n : Int)) = true := decide_eq_true (by omega)
  go_enter Try.func5, Try.ntmps5
  go_wp2_with fail
  refine (awake_any _).mono ?_
  rintro _ w1 ⟨rfl, z⟩
  have Z := Lib.hid ((box_below w _).trans (z.mono (by simp)))
  clear z
  go_wp2
  go_ret
  exact ⟨rfl, Z.out⟩
theorem back_none (W D J S a v : Int) (A : Option Addr) (n c : Nat) (m : List Int) (w : World) (hm : Rd w A m) (hn : m.length = n) (hs : n ≤ 500) (hl : lst W D J S m a = none) : Tells 5 #[cf W D J S, .slice A n c, .int .i64 a, .int .u64 v] w (.bool true) := by
  have HL := Lib.hid hl
  clear hl
  have hd : decide ((500 : Int) < (n : Int)) = false := decide_eq_false (by omega)
  have LM := Lib.hid hm
  clear hm
  go_enter Try.func5, Try.ntmps5
  go_wp2_with fail
  refine (awake_any _).mono ?_
  rintro _ w1 ⟨rfl, z⟩
  have BX := Lib.hid ((Bx.mk w W D J S 23).below z)
  replace z := (box_below w _).trans (z.mono (by simp))
  have Z := Lib.hid z
  replace LM := Lib.hid (LM.out.below z)
  clear z
  obtain ⟨gx, x_0, x_1, x_2, x_3⟩ := BX.out
  go_wp2_with fail
  refine (list_n LM.out hn HL.out rfl rfl).mono ?_
  rintro _ w2 ⟨A2, c2, rfl, hc2, hr2, z⟩
  clear gx x_0 x_1 x_2 x_3
  replace Z := Lib.hid (Z.out.trans (z.mono Z.out.size))
  replace BX := Lib.hid (BX.out.below z)
  replace LM := Lib.hid (LM.out.below z)
  clear z
  go_wp2
  go_ret
  exact ⟨rfl, Z.out⟩
theorem back_full (W D J S a v : Int) (A : Option Addr) (n c : Nat) (m l : List Int) (w : World) (hm : Rd w A m) (hn : m.length = n) (hs : n ≤ 500) (hl : lst W D J S m a = some l) (hr : (l.length : Int) ≥ D) : Tells 5 #[cf W D J S, .slice A n c, .int .i64 a, .int .u64 v] w (.bool true) := by
  have HL := Lib.hid hl
  clear hl
  have hfull : decide ((l.length : Int) ≥ D) = true := decide_eq_true hr
  clear hr
  have hd : decide ((500 : Int) < (n : Int)) = false := decide_eq_false (by omega)
  have LM := Lib.hid hm
  clear hm
  go_enter Try.func5, Try.ntmps5
  go_wp2_with fail
  refine (awake_any _).mono ?_
  rintro _ w1 ⟨rfl, z⟩
  have BX := Lib.hid ((Bx.mk w W D J S 23).below z)
  replace z := (box_below w _).trans (z.mono (by simp))
  have Z := Lib.hid z
  replace LM := Lib.hid (LM.out.below z)
  clear z
  obtain ⟨gx, x_0, x_1, x_2, x_3⟩ := BX.out
  go_wp2_with fail
  refine (list_n LM.out hn HL.out rfl rfl).mono ?_
  rintro _ w2 ⟨A2, c2, rfl, hc2, hr2, z⟩
  clear gx x_0 x_1 x_2 x_3
  replace Z := Lib.hid (Z.out.trans (z.mono Z.out.size))
  replace BX := Lib.hid (BX.out.below z)
  replace LM := Lib.hid (LM.out.below z)
  clear z hr2 hc2
  simp only [Option.getD_some]
  obtain ⟨gx, x_0, x_1, x_2, x_3⟩ := BX.out
  go_wp2
  go_ret
  exact ⟨rfl, Z.out⟩
set_option maxHeartbeats 1000000 in
theorem back_room (W D J S a v : Int) (A : Option Addr) (n c : Nat) (m l : List Int) (w : World) (hm : Rd w A m) (hn : m.length = n) (hs : n ≤ 500) (hu : UM m) (hv : U v) (hl : lst W D J S m a = some l) (hr : (l.length : Int) < D) : Tells 5 #[cf W D J S, .slice A n c, .int .i64 a, .int .u64 v] w (.bool true) := by
  have HLE := Lib.hid (lst_len hu hl)
  obtain ⟨m1, m2, e1, hu1, hn1, e2, hl2, hn2⟩ := pop_back hu hv hl hr
  rw [hn] at hn1 hn2
  have HU := Lib.hid (fun k => pushI_U (W := W) (D := D) (J := J) (S := S) (s := (m, fbg 0 a v)) hu ⟨hv, U0, U0⟩ k)
  have HPL := Lib.hid (fun k => (pushI_len W D J S k (m, fbg 0 a v)).trans hn)
  have HU1 := Lib.hid (fun k => popN_U (W := W) (D := D) (J := J) (S := S) (s := (m1, fbg 1 a 0)) hu1 ⟨U0, U0, U0⟩ k)
  have HPL1 := Lib.hid (fun k => (popN_len W D J S k (m1, fbg 1 a 0)).trans hn1)
  have HL := Lib.hid hl
  have E1 := Lib.hid e1
  have E2 := Lib.hid e2
  have HL2 := Lib.hid hl2
  have HN2 := Lib.hid hn2
  have hfull : decide ((l.length : Int) ≥ D) = false := decide_eq_false (by omega)
  have hvv : (v == v) = true := by simp
  clear hl e1 e2 hl2 hn2 hn1 hu1 hu hv hr
  have hd : decide ((500 : Int) < (n : Int)) = false := decide_eq_false (by omega)
  have LM := Lib.hid hm
  clear hm
  go_enter Try.func5, Try.ntmps5
  go_wp2_with fail
  refine (awake_any _).mono ?_
  rintro _ w1 ⟨rfl, z⟩
  have BX := Lib.hid ((Bx.mk w W D J S 23).below z)
  replace z := (box_below w _).trans (z.mono (by simp))
  have Z := Lib.hid z
  replace LM := Lib.hid (LM.out.below z)
  clear z
  obtain ⟨gx, x_0, x_1, x_2, x_3⟩ := BX.out
  go_wp2_with fail
  refine (list_n LM.out hn HL.out rfl rfl).mono ?_
  rintro _ w2 ⟨A2, c2, rfl, hc2, hr2, z⟩
  clear gx x_0 x_1 x_2 x_3
  replace Z := Lib.hid (Z.out.trans (z.mono Z.out.size))
  replace BX := Lib.hid (BX.out.below z)
  replace LM := Lib.hid (LM.out.below z)
  simp only [Option.getD_some] at hr2 hc2 ⊢
  have LL := Lib.hid hr2
  clear z hr2 hc2
  obtain ⟨gx, x_0, x_1, x_2, x_3⟩ := BX.out
  go_wp2_with fail
  refine (begin_any 0 a v _).mono ?_
  rintro _ w3 ⟨rfl, z⟩
  clear gx x_0 x_1 x_2 x_3
  replace Z := Lib.hid (Z.out.trans (z.mono Z.out.size))
  replace BX := Lib.hid (BX.out.below z)
  replace LM := Lib.hid (LM.out.below z)
  replace LL := Lib.hid (LL.out.below z)
  clear z
  have hgf := Lib.hid (show w.heap.size < w3.heap.size from BX.out.1)
  have hzf := Lib.hid Z.out.size
  have HBX := Lib.hid (Nat.ne_of_lt hgf.out)
  have LX := Lib.hid (LL.out.rx (Nat.le_refl _))
  clear LL
  obtain ⟨ws, hws⟩ : ∃ ws, ws = w3.alloc (.cells #[.int .i64 (fbg 0 a v).op, .int .i64 (fbg 0 a v).pc, .int .i64 (fbg 0 a v).who, .int .u64 (fbg 0 a v).val, .int .u64 (fbg 0 a v).x, .int .u64 (fbg 0 a v).y, .int .i64 (fbg 0 a v).res] 28) := ⟨_, rfl⟩
  have hz := box_below w3 (.cells #[.int .i64 (fbg 0 a v).op, .int .i64 (fbg 0 a v).pc, .int .i64 (fbg 0 a v).who, .int .u64 (fbg 0 a v).val, .int .u64 (fbg 0 a v).x, .int .u64 (fbg 0 a v).y, .int .i64 (fbg 0 a v).res] 28)
  rw [← hws] at hz
  have BF := Lib.hid (show Bf ws w3.heap.size (fbg 0 a v) by rw [hws]; exact Bf.new w3 (fbg 0 a v))
  replace BX := Lib.hid (BX.out.below hz)
  replace LM := Lib.hid (LM.out.below hz)
  replace LX := Lib.hid (LX.out.after hz)
  replace Z := Lib.hid (Z.out.trans (hz.mono Z.out.size))
  have HW := Lib.hid hws
  clear hz hws
  have HBB := Lib.hid BF.out.lt
  go_wp2
  go_loopw [14, 13] (fun i s wr => ∃ (j : Nat) (A : Option Addr) (c : Nat), i = .int .i64 j ∧ s = .slice A n c ∧ j ≤ 4 ∧ Hid (Rd wr A (itN (pushS W D J S) j (m, fbg 0 a v)).1) ∧ Hid (Bf wr w3.heap.size (itN (pushS W D J S) j (m, fbg 0 a v)).2) ∧ Hid (Kb w3.heap.size ws wr)) (fun i _ _ => 4 - (intOf i).toNat)
  case atStart =>
    obtain rfl := HW.out
    exact ⟨0, A, c, rfl, rfl, by omega, LM, BF, Lib.hid (Kb.refl _ _)⟩
  case round =>
    clear BF LM
    obtain ⟨j, A, c, rfl, rfl, hj, LA, BF, KB⟩ := hrel
    by_cases hlt : j < 4
    · have HUj := Lib.hid (HU.out j).2
      have HLj := Lib.hid (HPL.out j)
      have HE := Lib.hid (itN_succ (pushS W D J S) j (m, fbg 0 a v))
      generalize (itN (pushS W D J S) j (m, fbg 0 a v)).1 = M at *
      generalize (itN (pushS W D J S) j (m, fbg 0 a v)).2 = F at *
      obtain ⟨M', F', HP⟩ : ∃ M' F', Hid (pushS W D J S M F = (M', F')) := ⟨_, _, Lib.hid rfl⟩
      obtain ⟨_, b0, b1, b2, b3⟩ := BX.out.kb KB.out HBX.out
      obtain ⟨d0, d1, d2, d3, d4, d5, d6⟩ := BF.out.cells
      have lBF := BF.out.lt
      have lBX := (BX.out.kb KB.out HBX.out).1
      go_wp2_with fail
      refine (step_n LA.out HLj.out hs HUj.out HP.out).mono ?_
      rintro _ w7 ⟨A', c', rfl, hn7, z⟩
      have BF3 := BF.out.after z
      clear b0 b1 b2 b3 d0 d1 d2 d3 d4 d5 d6 lBF lBX
      obtain ⟨d0, d1, d2, d3, d4, d5, d6⟩ := BF3.cells
      have fz := BF3.free
      have lBF := BF3.lt
      have HN := Lib.hid (hn7.pf BF.out.lt F')
      have HB3 := Lib.hid (BF3.pf F')
      have HK3 := Lib.hid ((KB.out.call HBB.out z).pf F')
      clear hn7 BF3 z
      go_wp2_with fail
      go_roundw
      case rel => exact ⟨j + 1, A', c', by go_num, rfl, by omega, by rw [HE.out, HP.out]; exact Lib.hid HN.out.rd, by rw [HE.out, HP.out]; exact HB3, HK3⟩
      case measure => simp [intOf]; omega
    · obtain rfl : j = 4 := by omega
      replace BX := Lib.hid (BX.out.kb KB.out HBX.out)
      replace LX := Lib.hid (LX.out.kb KB.out)
      replace Z := Lib.hid (Z.out.trans (KB.out.low.mono hzf.out))
      clear KB HBB hj hlt HW
      rw [E1.out] at BF LA
      simp only at LA
      have BP := BF
      have LN := LA
      have LL := Lib.hid LX.out.rd
      clear BF LA LX
      go_wp2_with fail
      refine (begin_any 1 a 0 _).mono ?_
      rintro _ w4 ⟨rfl, z⟩
      replace Z := Lib.hid (Z.out.trans (z.mono Z.out.size))
      replace BX := Lib.hid (BX.out.below z)
      replace BP := Lib.hid (BP.out.after z)
      replace LN := Lib.hid (LN.out.below z)
      replace LL := Lib.hid (LL.out.below z)
      clear z
      have hgf := Lib.hid (show w.heap.size < w4.heap.size from BX.out.1)
      have hzf := Lib.hid Z.out.size
      have HBX := Lib.hid (Nat.ne_of_lt hgf.out)
      have LX := Lib.hid (LL.out.rx (Nat.le_refl _))
      clear LL
      have HBP := Lib.hid (Nat.ne_of_lt BP.out.lt)
      obtain ⟨wt, hws⟩ : ∃ wt, wt = w4.alloc (.cells #[.int .i64 (fbg 1 a 0).op, .int .i64 (fbg 1 a 0).pc, .int .i64 (fbg 1 a 0).who, .int .u64 (fbg 1 a 0).val, .int .u64 (fbg 1 a 0).x, .int .u64 (fbg 1 a 0).y, .int .i64 (fbg 1 a 0).res] 28) := ⟨_, rfl⟩
      have hz := box_below w4 (.cells #[.int .i64 (fbg 1 a 0).op, .int .i64 (fbg 1 a 0).pc, .int .i64 (fbg 1 a 0).who, .int .u64 (fbg 1 a 0).val, .int .u64 (fbg 1 a 0).x, .int .u64 (fbg 1 a 0).y, .int .i64 (fbg 1 a 0).res] 28)
      rw [← hws] at hz
      have BF := Lib.hid (show Bf wt w4.heap.size (fbg 1 a 0) by rw [hws]; exact Bf.new w4 (fbg 1 a 0))
      replace BX := Lib.hid (BX.out.below hz)
      replace BP := Lib.hid (BP.out.after hz)
      replace LN := Lib.hid (LN.out.below hz)
      replace LX := Lib.hid (LX.out.after hz)
      replace Z := Lib.hid (Z.out.trans (hz.mono Z.out.size))
      have HW := Lib.hid hws
      clear hz hws
      have HBB := Lib.hid BF.out.lt
      go_wp2
      go_loopw [16, 13] (fun i s wr => ∃ (j : Nat) (A : Option Addr) (c : Nat), i = .int .i64 j ∧ s = .slice A n c ∧ j ≤ 7 ∧ Hid (Rd wr A (itN (popS W D J S) j (m1, fbg 1 a 0)).1) ∧ Hid (Bf wr w4.heap.size (itN (popS W D J S) j (m1, fbg 1 a 0)).2) ∧ Hid (Kb w4.heap.size wt wr)) (fun i _ _ => 7 - (intOf i).toNat)
      case atStart =>
        obtain rfl := HW.out
        exact ⟨0, A, c, rfl, rfl, by omega, LN, BF, Lib.hid (Kb.refl _ _)⟩
      case round =>
        clear BF LN
        obtain ⟨j, A, c, rfl, rfl, hj, LA, BF, KB⟩ := hrel
        by_cases hlt : j < 7
        · have HUj := Lib.hid (HU1.out j).2
          have HLj := Lib.hid (HPL1.out j)
          have HE := Lib.hid (itN_succ (popS W D J S) j (m1, fbg 1 a 0))
          generalize (itN (popS W D J S) j (m1, fbg 1 a 0)).1 = M at *
          generalize (itN (popS W D J S) j (m1, fbg 1 a 0)).2 = F at *
          obtain ⟨M', F', HP⟩ : ∃ M' F', Hid (popS W D J S M F = (M', F')) := ⟨_, _, Lib.hid rfl⟩
          obtain ⟨_, b0, b1, b2, b3⟩ := BX.out.kb KB.out HBX.out
          obtain ⟨d0, d1, d2, d3, d4, d5, d6⟩ := BF.out.cells
          have lBF := BF.out.lt
          have lBX := (BX.out.kb KB.out HBX.out).1
          go_wp2_with fail
          refine (pop_n LA.out HLj.out hs HUj.out HP.out).mono ?_
          rintro _ w7 ⟨A', c', rfl, hn7, z⟩
          have BF3 := BF.out.after z
          clear b0 b1 b2 b3 d0 d1 d2 d3 d4 d5 d6 lBF lBX
          obtain ⟨d0, d1, d2, d3, d4, d5, d6⟩ := BF3.cells
          have fz := BF3.free
          have lBF := BF3.lt
          have HN := Lib.hid (hn7.pf BF.out.lt F')
          have HB3 := Lib.hid (BF3.pf F')
          have HK3 := Lib.hid ((KB.out.call HBB.out z).pf F')
          clear hn7 BF3 z
          go_wp2_with fail
          go_roundw
          case rel => exact ⟨j + 1, A', c', by go_num, rfl, by omega, by rw [HE.out, HP.out]; exact Lib.hid HN.out.rd, by rw [HE.out, HP.out]; exact HB3, HK3⟩
          case measure => simp [intOf]; omega
        · obtain rfl : j = 7 := by omega
          replace BX := Lib.hid (BX.out.kb KB.out HBX.out)
          replace BP := Lib.hid (BP.out.kb KB.out HBP.out)
          replace LX := Lib.hid (LX.out.kb KB.out)
          replace Z := Lib.hid (Z.out.trans (KB.out.low.mono hzf.out))
          clear KB HBB hj hlt HW
          rw [E2.out] at BF LA
          simp only at LA
          obtain ⟨gx, x_0, x_1, x_2, x_3⟩ := BX.out
          go_wp2_with fail
          refine (list_n LA.out HN2.out HL2.out rfl rfl).mono ?_
          rintro _ w8 ⟨A8, c8, rfl, hc8, hr8, z⟩
          clear gx x_0 x_1 x_2 x_3
          replace Z := Lib.hid (Z.out.trans (z.mono Z.out.size))
          replace BX := Lib.hid (BX.out.below z)
          replace BP := Lib.hid (BP.out.after z)
          replace LX := Lib.hid (LX.out.after z)
          replace BF := Lib.hid (BF.out.after z)
          replace LA := Lib.hid (LA.out.below z)
          simp only [Option.getD_some] at hr8 ⊢
          have LQ := Lib.hid hr8
          clear z hr8 hc8
          go_wp2_with fail
          refine (nums_eq LQ.out LX.out.rd rfl (by have := HLE.out; omega)).mono ?_
          rintro _ w9 ⟨rfl, q9, hq⟩
          have z := below_of_drewN hq
          clear hq
          replace Z := Lib.hid (Z.out.trans (z.mono Z.out.size))
          replace BX := Lib.hid (BX.out.below z)
          replace BP := Lib.hid (BP.out.after z)
          replace LX := Lib.hid (LX.out.after z)
          replace BF := Lib.hid (BF.out.after z)
          replace LA := Lib.hid (LA.out.below z)
          replace LQ := Lib.hid (LQ.out.below z)
          clear z
          obtain ⟨a0, a1, a2, a3, a4, a5, a6⟩ := BP.out.cells
          have la := BP.out.lt
          simp only at a0 a1 a2 a3 a4 a5 a6
          obtain ⟨b0, b1, b2, b3, b4, b5, b6⟩ := BF.out.cells
          have lb := BF.out.lt
          simp only at b0 b1 b2 b3 b4 b5 b6
          go_wp2
          go_ret
          exact ⟨rfl, Z.out⟩
theorem back_walk (W D J S a v : Int) (A : Option Addr) (n c : Nat) (m : List Int) (w : World) (hm : Rd w A m) (hn : m.length = n) (hu : UM m) (hv : U v) : Tells 5 #[cf W D J S, .slice A n c, .int .i64 a, .int .u64 v] w (.bool true) := by
  by_cases hs : n ≤ 500
  · cases hl : lst W D J S m a with
    | none => exact back_none W D J S a v A n c m w hm hn hs hl
    | some l =>
      by_cases hr : (l.length : Int) ≥ D
      · exact back_full W D J S a v A n c m l w hm hn hs hl hr
      · exact back_room W D J S a v A n c m l w hm hn hs hu hv hl (by omega)
  · exact back_big W D J S a v A n c w (by omega)
end Go.Proofs.Ytfeccpfkpbminaa
