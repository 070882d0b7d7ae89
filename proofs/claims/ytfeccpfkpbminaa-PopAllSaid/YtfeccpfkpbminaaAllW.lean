/- The walk of PopAll. -/
import Derived.Test.YtfeccpfkpbminaaPoH
import Derived.Test.YtfeccpfkpbminaaSaL
import Derived.Deep.QuietTactic
import Derived.BigQuiet
namespace Go.Proofs.Ytfeccpfkpbminaa
open Go.RowKit Go.Deep
theorem pop_none {W D J S a : Int} {m : List Int} (hu : UM m) (h : lst W D J S m a = some []) :
    (itN (popS W D J S) 7 (m, fbg 1 a 0)).2 = ⟨1, 0, a, 0, 0, 0, 3⟩ ∧ lst W D J S (itN (popS W D J S) 7 (m, fbg 1 a 0)).1 a = some [] := by
  have h3 := pop_alone (v := 0) hu h
  rw [on_pop_nil] at h3
  exact h3
theorem pop_one {W D J S a : Int} {m l : List Int} {k : Nat} (hu : UM m) (hk : k < l.length) (h : lst W D J S m a = some (l.take (k + 1))) :
    (itN (popS W D J S) 7 (m, fbg 1 a 0)).2 = ⟨1, 0, a, l[k], 0, 0, 1⟩ ∧ lst W D J S (itN (popS W D J S) 7 (m, fbg 1 a 0)).1 a = some (l.take k) := by
  have h3 := pop_alone (v := 0) hu h
  have e : on (l.take (k + 1)) D (fbg 1 a 0) = (l.take k, ⟨1, 0, a, l[k], 0, 0, 1⟩) := by
    have e1 : on (l.take (k + 1)) D (fbg 1 a 0) = onLast (l.take (k + 1)) (fbg 1 a 0) := by simp [on, fbg]
    rw [e1, List.take_succ_eq_append_getElem hk, onLast_snoc]; rfl
  rw [e] at h3
  exact h3
theorem all_big (W D J S a : Int) (A : Option Addr) (n c : Nat) (m : List Int) (w : World) (hm : Rd w A m) (hn : m.length = n) (hs : 500 < n) (hl : lst W D J S m a = none) : Tells 8 #[cf W D J S, .slice A n c, .int .i64 a] w (.bool true) := by
  have hd : decide ((500 : Int) < (n : Int)) = true := decide_eq_true (by omega)
  have HL := Lib.hid hl
  clear hl
  have LM := Lib.hid hm
  clear hm
  go_enter Try.func8, Try.ntmps8
  go_wp2_with fail
  refine (awake_any _).mono ?_
  rintro _ w1 ⟨rfl, z⟩
  have BX := Lib.hid ((Bx.mk w W D J S 23).below z)
  replace z := (box_below w _).trans (z.mono (by simp))
  have Z := Lib.hid z
  replace LM := Lib.hid (LM.out.below z)
  clear z
  obtain ⟨gx, x_0, x_1, x_2, x_3⟩ := BX.out
  go_wp2_with fail
  refine (list_n LM.out hn HL.out rfl rfl).mono ?_
  rintro _ w2 ⟨A2, c2, rfl, hc2, hr2, z⟩
  clear gx x_0 x_1 x_2 x_3
  replace Z := Lib.hid (Z.out.trans (z.mono Z.out.size))
  replace BX := Lib.hid (BX.out.below z)
  replace LM := Lib.hid (LM.out.below z)
  clear z
  go_wp2
  go_ret
  exact ⟨rfl, Z.out⟩
theorem all_none (W D J S a : Int) (A : Option Addr) (n c : Nat) (m : List Int) (w : World) (hm : Rd w A m) (hn : m.length = n) (hs : n ≤ 500) (hl : lst W D J S m a = none) : Tells 8 #[cf W D J S, .slice A n c, .int .i64 a] w (.bool true) := by
  have hd : decide ((500 : Int) < (n : Int)) = false := decide_eq_false (by omega)
  have HL := Lib.hid hl
  clear hl
  have LM := Lib.hid hm
  clear hm
  go_enter Try.func8, Try.ntmps8
  go_wp2_with fail
  refine (awake_any _).mono ?_
  rintro _ w1 ⟨rfl, z⟩
  have BX := Lib.hid ((Bx.mk w W D J S 23).below z)
  replace z := (box_below w _).trans (z.mono (by simp))
  have Z := Lib.hid z
  replace LM := Lib.hid (LM.out.below z)
  clear z
  obtain ⟨gx, x_0, x_1, x_2, x_3⟩ := BX.out
  go_wp2_with fail
  refine (list_n LM.out hn HL.out rfl rfl).mono ?_
  rintro _ w2 ⟨A2, c2, rfl, hc2, hr2, z⟩
  clear gx x_0 x_1 x_2 x_3
  replace Z := Lib.hid (Z.out.trans (z.mono Z.out.size))
  replace BX := Lib.hid (BX.out.below z)
  replace LM := Lib.hid (LM.out.below z)
  clear z
  go_wp2
  go_ret
  exact ⟨rfl, Z.out⟩
set_option maxHeartbeats 2000000 in
theorem all_some (W D J S a : Int) (A : Option Addr) (n c : Nat) (m l : List Int) (w : World) (hm : Rd w A m) (hn : m.length = n) (hs : n ≤ 500) (hu : UM m) (hl : lst W D J S m a = some l) : Tells 8 #[cf W D J S, .slice A n c, .int .i64 a] w (.bool true) := by
  have hd : decide ((500 : Int) < (n : Int)) = false := decide_eq_false (by omega)
  have HLE := Lib.hid (lst_len hu hl)
  have HL := Lib.hid hl
  have HUM := Lib.hid hu
  have HN := Lib.hid hn
  clear hl hu hn
  have LM := Lib.hid hm
  clear hm
  go_enter Try.func8, Try.ntmps8
  go_wp2_with fail
  refine (awake_any _).mono ?_
  rintro _ w1 ⟨rfl, z⟩
  have BX := Lib.hid ((Bx.mk w W D J S 23).below z)
  replace z := (box_below w _).trans (z.mono (by simp))
  have Z := Lib.hid z
  replace LM := Lib.hid (LM.out.below z)
  clear z
  obtain ⟨gx, x_0, x_1, x_2, x_3⟩ := BX.out
  go_wp2_with fail
  refine (list_n (b := true) (k := l.length) LM.out HN.out HL.out rfl rfl).mono ?_
  rintro _ w2 ⟨A2, c2, rfl, hc2, hr2, z⟩
  clear gx x_0 x_1 x_2 x_3
  replace Z := Lib.hid (Z.out.trans (z.mono Z.out.size))
  replace BX := Lib.hid (BX.out.below z)
  replace LM := Lib.hid (LM.out.below z)
  simp only [Option.getD_some] at hr2 hc2 ⊢
  have LL := Lib.hid hr2
  have HS := Lib.hid hs
  clear z hr2 hc2
  have HL2 := Lib.hid (show lst W D J S m a = some (l.take (l.length : Int).toNat) by rw [HL.out]; simp)
  clear HL
  go_wp2
  go_loopw [11, 10] (fun i s wr => ∃ (I : Int) (A : Option Addr) (c : Nat) (mj : List Int), i = .int .i64 I ∧ s = .slice A n c ∧ Hid (-1 ≤ I ∧ I ≤ l.length) ∧ Hid (Rd wr A mj) ∧ Hid (UM mj) ∧ Hid (mj.length = n) ∧ Hid (lst W D J S mj a = some (l.take I.toNat)) ∧ Hid (Bx wr w.heap.size W D J S) ∧ Hid (Rd wr A2 l) ∧ Hid (Below w.heap.size w wr)) (fun i _ _ => (intOf i + 1).toNat)
  case atStart => exact ⟨_, A, c, m, rfl, rfl, Lib.hid ⟨by omega, by omega⟩, LM, HUM, HN, HL2, BX, LL, Z⟩
  case round =>
    clear LM HUM HN HL2 BX LL Z
    obtain ⟨I, A, c, mj, rfl, rfl, HI, LM, HUM, HN, HL, BX, LL, Z⟩ := hrel
    obtain ⟨wo, hwo⟩ : ∃ wo, wo = wr := ⟨_, rfl⟩
    subst hwo
    by_cases hI0 : 0 ≤ I
    · have hge : decide (I ≥ 0) = true := decide_eq_true hI0
      have hle : decide (I ≤ (l.length : Int)) = true := decide_eq_true HI.out.2
      have HU := Lib.hid (fun k => popN_U (W := W) (D := D) (J := J) (S := S) (s := (mj, fbg 1 a 0)) HUM.out ⟨U0, U0, U0⟩ k)
      have HPL := Lib.hid (fun k => (popN_len W D J S k (mj, fbg 1 a 0)).trans HN.out)
      have HI0 := Lib.hid hI0
      clear hI0
      go_wp2_with fail
      refine (begin_any 1 a 0 _).mono ?_
      rintro _ w3 ⟨rfl, z⟩
      replace Z := Lib.hid (Z.out.trans (z.mono Z.out.size))
      replace BX := Lib.hid (BX.out.below z)
      replace LM := Lib.hid (LM.out.below z)
      replace LL := Lib.hid (LL.out.below z)
      clear z
      have hgf := Lib.hid (show w.heap.size < w3.heap.size from BX.out.1)
      have hzf := Lib.hid Z.out.size
      have HBX := Lib.hid (Nat.ne_of_lt hgf.out)
      have LX := Lib.hid (LL.out.rx (Nat.le_refl _))
      clear LL
      obtain ⟨ws, hws⟩ : ∃ ws, ws = w3.alloc (.cells #[.int .i64 (fbg 1 a 0).op, .int .i64 (fbg 1 a 0).pc, .int .i64 (fbg 1 a 0).who, .int .u64 (fbg 1 a 0).val, .int .u64 (fbg 1 a 0).x, .int .u64 (fbg 1 a 0).y, .int .i64 (fbg 1 a 0).res] 28) := ⟨_, rfl⟩
      have hz := box_below w3 (.cells #[.int .i64 (fbg 1 a 0).op, .int .i64 (fbg 1 a 0).pc, .int .i64 (fbg 1 a 0).who, .int .u64 (fbg 1 a 0).val, .int .u64 (fbg 1 a 0).x, .int .u64 (fbg 1 a 0).y, .int .i64 (fbg 1 a 0).res] 28)
      rw [← hws] at hz
      have BF := Lib.hid (show Bf ws w3.heap.size (fbg 1 a 0) by rw [hws]; exact Bf.new w3 (fbg 1 a 0))
      replace BX := Lib.hid (BX.out.below hz)
      replace LM := Lib.hid (LM.out.below hz)
      replace LX := Lib.hid (LX.out.after hz)
      replace Z := Lib.hid (Z.out.trans (hz.mono Z.out.size))
      have HW := Lib.hid hws
      clear hz hws
      have HBB := Lib.hid BF.out.lt
      go_wp2
      go_loopw [13, 10] (fun i s wr => ∃ (j : Nat) (A : Option Addr) (c : Nat), i = .int .i64 j ∧ s = .slice A n c ∧ j ≤ 7 ∧ Hid (Rd wr A (itN (popS W D J S) j (mj, fbg 1 a 0)).1) ∧ Hid (Bf wr w3.heap.size (itN (popS W D J S) j (mj, fbg 1 a 0)).2) ∧ Hid (Kb w3.heap.size ws wr)) (fun i _ _ => 7 - (intOf i).toNat)
      case atStart =>
        obtain rfl := HW.out
        exact ⟨0, A, c, rfl, rfl, by omega, LM, BF, Lib.hid (Kb.refl _ _)⟩
      case round =>
        clear BF LM
        obtain ⟨j, A, c, rfl, rfl, hj, LA, BF, KB⟩ := hrel
        by_cases hlt : j < 7
        · have HUj := Lib.hid (HU.out j).2
          have HLj := Lib.hid (HPL.out j)
          have HE := Lib.hid (itN_succ (popS W D J S) j (mj, fbg 1 a 0))
          generalize (itN (popS W D J S) j (mj, fbg 1 a 0)).1 = M at *
          generalize (itN (popS W D J S) j (mj, fbg 1 a 0)).2 = F at *
          obtain ⟨M', F', HP⟩ : ∃ M' F', Hid (popS W D J S M F = (M', F')) := ⟨_, _, Lib.hid rfl⟩
          obtain ⟨_, b0, b1, b2, b3⟩ := BX.out.kb KB.out HBX.out
          obtain ⟨d0, d1, d2, d3, d4, d5, d6⟩ := BF.out.cells
          have lBF := BF.out.lt
          have lBX := (BX.out.kb KB.out HBX.out).1
          go_wp2_with fail
          refine (pop_n LA.out HLj.out HS.out HUj.out HP.out).mono ?_
          rintro _ w7 ⟨A', c', rfl, hn7, z⟩
          have BF3 := BF.out.after z
          clear b0 b1 b2 b3 d0 d1 d2 d3 d4 d5 d6 lBF lBX
          obtain ⟨d0, d1, d2, d3, d4, d5, d6⟩ := BF3.cells
          have fz := BF3.free
          have lBF := BF3.lt
          have HN := Lib.hid (hn7.pf BF.out.lt F')
          have HB3 := Lib.hid (BF3.pf F')
          have HK3 := Lib.hid ((KB.out.call HBB.out z).pf F')
          clear hn7 BF3 z
          go_wp2_with fail
          go_roundw
          case rel => exact ⟨j + 1, A', c', by go_num, rfl, by omega, by rw [HE.out, HP.out]; exact Lib.hid HN.out.rd, by rw [HE.out, HP.out]; exact HB3, HK3⟩
          case measure => simp [intOf]; omega
        · obtain rfl : j = 7 := by omega
          replace BX := Lib.hid (BX.out.kb KB.out HBX.out)
          replace LX := Lib.hid (LX.out.kb KB.out)
          replace Z := Lib.hid (Z.out.trans (KB.out.low.mono hzf.out))
          clear KB HBB hj hlt HW
          have HUM7 := Lib.hid (HU.out 7).1
          have HN7 := Lib.hid (HPL.out 7)
          have LL := Lib.hid LX.out.rd
          clear LX HU HPL hge hle
          rcases Int.lt_or_eq_of_le HI0.out with hpos | h00
          · obtain ⟨k, hk⟩ : ∃ k : Nat, I = (k : Int) + 1 := ⟨(I - 1).toNat, by omega⟩
            have hkl : k < l.length := by have := HI.out.2; omega
            have hL := HL.out
            rw [show I.toNat = k + 1 by omega] at hL
            have h1 := pop_one HUM.out hkl hL
            rw [h1.1] at BF
            have HL7 := Lib.hid h1.2
            clear h1 hL HL HUM
            obtain ⟨M7, hM7⟩ : ∃ M7, (itN (popS W D J S) 7 (mj, fbg 1 a 0)).1 = M7 := ⟨_, rfl⟩
            rw [hM7] at HL7 HUM7 HN7 LA
            clear hM7
            have q1 : (I == 0) = false := by rw [beq_eq_false_iff_ne]; omega
            have q2 : decide (I > 0) = true := decide_eq_true hpos
            have hT1 : wrap64 (I - 1) = (k : Int) := by have := HLE.out; unfold wrap64; omega
            have hT2 : IntKind.i64.wrap (I - 1) = (k : Int) := by have h := HLE.out; rw [IntKind.wrap_i64]; omega
            have HK := Lib.hid hk
            have hkl2 : (k : Int) < (l.length : Int) := by omega
            clear hk hpos
            obtain ⟨e1, rfl, al, ac⟩ := LL.out (by omega)
            have k1 := ac k _ (List.getElem?_eq_getElem hkl)
            generalize l[k] = u at *
            have q3 : (u != u) = false := by simp
            clear ac
            obtain ⟨b0, b1, b2, b3, b4, b5, b6⟩ := BF.out.cells
            have lb := BF.out.lt
            simp only at b0 b1 b2 b3 b4 b5 b6
            skip
            go_wp2_with fail
            go_quiet (fail)
            go_wp2
            go_roundw
            case rel => exact ⟨(k : Int), A, c, M7, by first | rfl | go_num, rfl, Lib.hid ⟨by omega, by omega⟩, Lib.hid (LA.out.below (below_drewN _ _)), HUM7, HN7, HL7, Lib.hid (BX.out.below (below_drewN _ _)), Lib.hid (LL.out.below (below_drewN _ _)), Lib.hid (Z.out.trans ((below_drewN _ _).mono Z.out.size))⟩
            case measure => simp only [intOf]; have := HK.out; omega
          · obtain rfl : I = 0 := h00.symm
            have hL := HL.out
            rw [show l.take (0 : Int).toNat = [] by simp] at hL
            have h1 := pop_none HUM.out hL
            rw [h1.1] at BF
            have HL7 := Lib.hid h1.2
            clear h1 hL HL HUM h00
            obtain ⟨M7, hM7⟩ : ∃ M7, (itN (popS W D J S) 7 (mj, fbg 1 a 0)).1 = M7 := ⟨_, rfl⟩
            rw [hM7] at HL7 HUM7 HN7 LA
            clear hM7
            obtain ⟨b0, b1, b2, b3, b4, b5, b6⟩ := BF.out.cells
            have lb := BF.out.lt
            simp only at b0 b1 b2 b3 b4 b5 b6
            skip
            go_wp2_with fail
            go_quiet (fail)
            go_wp2
            go_roundw
            case rel => exact ⟨-1, A, c, M7, by first | rfl | go_num, rfl, Lib.hid ⟨by omega, by omega⟩, Lib.hid (LA.out.below (below_drewN _ _)), HUM7, HN7, Lib.hid (by rw [show l.take (-1 : Int).toNat = [] by simp]; exact HL7.out), Lib.hid (BX.out.below (below_drewN _ _)), Lib.hid (LL.out.below (below_drewN _ _)), Lib.hid (Z.out.trans ((below_drewN _ _).mono Z.out.size))⟩
            case measure => simp [intOf]
    · have hge : decide (I ≥ 0) = false := decide_eq_false (by omega)
      have hL := HL.out
      rw [show I.toNat = 0 by omega, List.take_zero] at hL
      have HL7 := Lib.hid hL
      clear hL HL LL
      obtain ⟨gx, x_0, x_1, x_2, x_3⟩ := BX.out
      go_wp2_with fail
      refine (list_n LM.out HN.out HL7.out rfl rfl).mono ?_
      rintro _ w3 ⟨A3, c3, rfl, hc3, hr3, z⟩
      clear gx x_0 x_1 x_2 x_3
      replace Z := Lib.hid (Z.out.trans (z.mono Z.out.size))
      replace BX := Lib.hid (BX.out.below z)
      replace LM := Lib.hid (LM.out.below z)
      simp only [Option.getD_some] at hr3 ⊢
      have LQ := Lib.hid hr3
      clear z hr3 hc3
      go_wp2_with fail
      refine (nums_eq (B := none) (d := 0) (l := []) LQ.out (fun h => by simp at h) rfl (by simp)).mono ?_
      rintro _ w4 ⟨rfl, q4, hq⟩
      have z := below_of_drewN hq
      clear hq
      replace Z := Lib.hid (Z.out.trans (z.mono Z.out.size))
      replace BX := Lib.hid (BX.out.below z)
      replace LM := Lib.hid (LM.out.below z)
      replace LQ := Lib.hid (LQ.out.below z)
      clear z
      go_wp2
      go_ret
      exact ⟨rfl, Z.out⟩
theorem all_walk (W D J S a : Int) (A : Option Addr) (n c : Nat) (m : List Int) (w : World) (hm : Rd w A m) (hn : m.length = n) (hu : UM m) : Tells 8 #[cf W D J S, .slice A n c, .int .i64 a] w (.bool true) := by
  by_cases hs : n ≤ 500
  · cases hl : lst W D J S m a with
    | none => exact all_none W D J S a A n c m w hm hn hs hl
    | some l => exact all_some W D J S a A n c m l w hm hn hs hu hl
  · exact all_big W D J S a A n c m w hm hn (by omega) (no_below (by omega))
end Go.Proofs.Ytfeccpfkpbminaa
