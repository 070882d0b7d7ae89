/- The walk of StealLate. -/
import Derived.Test.YtomlgglcfbdimaaStH
import Derived.Test.YtomlgglcfbdimaaDqT
import Derived.Test.YtomlgglcfbdimaaSaL
import Derived.Test.YtomlgglcfbdimaaCelC
namespace Go.Proofs.Ytomlgglcfbdimaa
open Go.RowKit Go.Deep
theorem add_n {A : Option Addr} {n c : Nat} {l : List Int} {i u : Int} {w : World} (h : Rd w A l) (hn : l.length = n) (hs : n ≤ 500) {T : List Int} (e : put l i (IntKind.u64.wrap (at0 l i + u)) = T) :
    Calls Try.prog 23 #[.slice A n c, .int .i64 i, .int .u64 u] w (RetA w n T (at0 l i)) := by
  subst e
  exact add_any A n c l i u w h hn hs
theorem same_eq2 {A B : Option Addr} {n c d : Nat} {l : List Int} {w : World} (ha : Rd w A l) (hb : Rd w B l) (hn : l.length = n) (hs : n ≤ 500) : Tells 24 #[.slice A n c, .slice B n d] w (.bool true) := by
  have h := same_any A B n c n d l l w ha hb hn hn (by omega)
  rw [show decide (l = l) = true from decide_eq_true rfl] at h
  exact h
theorem late_big (W D J S a d : Int) (A : Option Addr) (n c : Nat) (m : List Int) (w : World) (hm : Rd w A m) (hn : m.length = n) (hs : 500 < n) (hl : lst W D J S m a = none) : Tells 8 #[cf W D J S, .slice A n c, .int .i64 a, .int .u64 d] w (.bool true) := by
  have HL := Lib.hid hl
  clear hl
  have hd : decide ((500 : Int) < (n : Int)) = true := decide_eq_true (by omega)
  have LM := Lib.hid hm
  clear hm
  go_enter Try.func8, Try.ntmps8
  go_wp2_with fail
  refine (awake_any _).mono ?_
  rintro _ w1 ⟨rfl, z⟩
  have BX := Lib.hid ((Bx.mk w W D J S 23).below z)
  replace z := (box_below w _).trans (z.mono (by simp))
  have Z := Lib.hid z
  replace LM := Lib.hid (LM.out.below z)
  clear z
  obtain ⟨gx, x_0, x_1, x_2, x_3⟩ := BX.out
  go_wp2_with fail
  refine (list_n LM.out hn HL.out rfl rfl).mono ?_
  rintro _ w2 ⟨A2, c2, rfl, hc2, hr2, z⟩
  clear gx x_0 x_1 x_2 x_3
  replace Z := Lib.hid (Z.out.trans (z.mono Z.out.size))
  replace BX := Lib.hid (BX.out.below z)
  replace LM := Lib.hid (LM.out.below z)
  skip
  clear z hr2 hc2
  go_wp2
  go_ret
  exact ⟨rfl, Z.out⟩
theorem late_none (W D J S a d : Int) (A : Option Addr) (n c : Nat) (m : List Int) (w : World) (hm : Rd w A m) (hn : m.length = n) (hs : n ≤ 500) (hl : lst W D J S m a = none) : Tells 8 #[cf W D J S, .slice A n c, .int .i64 a, .int .u64 d] w (.bool true) := by
  have HL := Lib.hid hl
  clear hl
  have hd : decide ((500 : Int) < (n : Int)) = false := decide_eq_false (by omega)
  have LM := Lib.hid hm
  clear hm
  go_enter Try.func8, Try.ntmps8
  go_wp2_with fail
  refine (awake_any _).mono ?_
  rintro _ w1 ⟨rfl, z⟩
  have BX := Lib.hid ((Bx.mk w W D J S 23).below z)
  replace z := (box_below w _).trans (z.mono (by simp))
  have Z := Lib.hid z
  replace LM := Lib.hid (LM.out.below z)
  clear z
  obtain ⟨gx, x_0, x_1, x_2, x_3⟩ := BX.out
  go_wp2_with fail
  refine (list_n LM.out hn HL.out rfl rfl).mono ?_
  rintro _ w2 ⟨A2, c2, rfl, hc2, hr2, z⟩
  clear gx x_0 x_1 x_2 x_3
  replace Z := Lib.hid (Z.out.trans (z.mono Z.out.size))
  replace BX := Lib.hid (BX.out.below z)
  replace LM := Lib.hid (LM.out.below z)
  skip
  clear z hr2 hc2
  go_wp2
  go_ret
  exact ⟨rfl, Z.out⟩
theorem late_nil (W D J S a d : Int) (A : Option Addr) (n c : Nat) (m : List Int) (w : World) (hm : Rd w A m) (hn : m.length = n) (hs : n ≤ 500) (hl : lst W D J S m a = some []) : Tells 8 #[cf W D J S, .slice A n c, .int .i64 a, .int .u64 d] w (.bool true) := by
  have HL := Lib.hid hl
  clear hl
  have hd : decide ((500 : Int) < (n : Int)) = false := decide_eq_false (by omega)
  have LM := Lib.hid hm
  clear hm
  go_enter Try.func8, Try.ntmps8
  go_wp2_with fail
  refine (awake_any _).mono ?_
  rintro _ w1 ⟨rfl, z⟩
  have BX := Lib.hid ((Bx.mk w W D J S 23).below z)
  replace z := (box_below w _).trans (z.mono (by simp))
  have Z := Lib.hid z
  replace LM := Lib.hid (LM.out.below z)
  clear z
  obtain ⟨gx, x_0, x_1, x_2, x_3⟩ := BX.out
  go_wp2_with fail
  refine (list_n LM.out hn HL.out rfl rfl).mono ?_
  rintro _ w2 ⟨A2, c2, rfl, hc2, hr2, z⟩
  clear gx x_0 x_1 x_2 x_3
  replace Z := Lib.hid (Z.out.trans (z.mono Z.out.size))
  replace BX := Lib.hid (BX.out.below z)
  replace LM := Lib.hid (LM.out.below z)
  skip
  clear z hr2 hc2
  go_wp2
  go_ret
  exact ⟨rfl, Z.out⟩
theorem late_zero (W D J S a d u : Int) (A : Option Addr) (n c : Nat) (m l : List Int) (w : World) (hm : Rd w A m) (hn : m.length = n) (hs : n ≤ 500) (h0 : d = 0) (hl : lst W D J S m a = some (u :: l)) : Tells 8 #[cf W D J S, .slice A n c, .int .i64 a, .int .u64 d] w (.bool true) := by
  subst h0
  have HL := Lib.hid hl
  clear hl
  have hd : decide ((500 : Int) < (n : Int)) = false := decide_eq_false (by omega)
  have hk : ((((u :: l).length : Nat) : Int) == 0) = false := by rw [beq_eq_false_iff_ne]; simp only [List.length_cons]; omega
  obtain ⟨K, hK⟩ : ∃ K, (u :: l).length = K := ⟨_, rfl⟩
  rw [hK] at hk
  have HK := Lib.hid hK
  clear hK
  have LM := Lib.hid hm
  clear hm
  go_enter Try.func8, Try.ntmps8
  go_wp2_with fail
  refine (awake_any _).mono ?_
  rintro _ w1 ⟨rfl, z⟩
  have BX := Lib.hid ((Bx.mk w W D J S 23).below z)
  replace z := (box_below w _).trans (z.mono (by simp))
  have Z := Lib.hid z
  replace LM := Lib.hid (LM.out.below z)
  clear z
  obtain ⟨gx, x_0, x_1, x_2, x_3⟩ := BX.out
  go_wp2_with fail
  refine (list_n LM.out hn HL.out HK.out rfl).mono ?_
  rintro _ w2 ⟨A2, c2, rfl, hc2, hr2, z⟩
  clear gx x_0 x_1 x_2 x_3
  replace Z := Lib.hid (Z.out.trans (z.mono Z.out.size))
  replace BX := Lib.hid (BX.out.below z)
  replace LM := Lib.hid (LM.out.below z)
  clear z hr2 hc2
  go_wp2
  go_ret
  exact ⟨rfl, Z.out⟩
set_option maxHeartbeats 1000000 in
theorem late_main (W D J S a d u : Int) (A : Option Addr) (n c : Nat) (m l : List Int) (w : World) (hm : Rd w A m) (hn : m.length = n) (hs : n ≤ 500) (hu : UM m) (hd' : U d) (h0 : ¬ d = 0) (hl : lst W D J S m a = some (u :: l)) : Tells 8 #[cf W D J S, .slice A n c, .int .i64 a, .int .u64 d] w (.bool true) := by
  obtain ⟨⟨fo, fp, fq, fv, fx, fy, fs⟩, h1, h2, h3⟩ := steal_late hu hd' h0 hl
  simp only at h2
  subst h2
  have HU := Lib.hid (fun k => stealN_U (W := W) (D := D) (J := J) (S := S) (s := (m, fbg 2 a 0)) hu ⟨U0, U0, U0⟩ k)
  have HPL := Lib.hid (fun k => (stealN_len W D J S k (m, fbg 2 a 0)).trans hn)
  have hok := (lst_some hu hl).1
  have HOT := Lib.hid (show ow W D J S a 0 = bg D J a by rw [ow_ok hok, Int.add_zero])
  generalize bg D J a = B at h3 HOT
  obtain ⟨T, hT⟩ : ∃ T, put m B ((at0 m B + d) % 18446744073709551616) = T := ⟨_, rfl⟩
  rw [hT] at h3
  have HTL := Lib.hid (show T.length = n by rw [← hT, len_put]; exact hn)
  have HT := Lib.hid (show put m B (IntKind.u64.wrap (at0 m B + d)) = T from hT)
  have HP := Lib.hid h3
  have HI := Lib.hid h1
  clear hT h3 h1 hok hu hd'
  have HL := Lib.hid hl
  clear hl
  have hd : decide ((500 : Int) < (n : Int)) = false := decide_eq_false (by omega)
  have hk : ((((u :: l).length : Nat) : Int) == 0) = false := by rw [beq_eq_false_iff_ne]; simp only [List.length_cons]; omega
  obtain ⟨K, hK⟩ : ∃ K, (u :: l).length = K := ⟨_, rfl⟩
  rw [hK] at hk
  have HK := Lib.hid hK
  clear hK
  have h00 : (d == 0) = false := by rw [beq_eq_false_iff_ne]; exact h0
  clear h0
  have LM := Lib.hid hm
  clear hm
  go_enter Try.func8, Try.ntmps8
  go_wp2_with fail
  refine (awake_any _).mono ?_
  rintro _ w1 ⟨rfl, z⟩
  have BX := Lib.hid ((Bx.mk w W D J S 23).below z)
  replace z := (box_below w _).trans (z.mono (by simp))
  have Z := Lib.hid z
  replace LM := Lib.hid (LM.out.below z)
  clear z
  obtain ⟨gx, x_0, x_1, x_2, x_3⟩ := BX.out
  go_wp2_with fail
  refine (list_n LM.out hn HL.out HK.out rfl).mono ?_
  rintro _ w2 ⟨A2, c2, rfl, hc2, hr2, z⟩
  clear gx x_0 x_1 x_2 x_3
  replace Z := Lib.hid (Z.out.trans (z.mono Z.out.size))
  replace BX := Lib.hid (BX.out.below z)
  replace LM := Lib.hid (LM.out.below z)
  clear z hr2 hc2
  go_wp2_with fail
  refine (begin_any 2 a 0 _).mono ?_
  rintro _ w3 ⟨rfl, z⟩
  replace Z := Lib.hid (Z.out.trans (z.mono Z.out.size))
  replace BX := Lib.hid (BX.out.below z)
  replace LM := Lib.hid (LM.out.below z)
  clear z
  have hgf := Lib.hid (show w.heap.size < w3.heap.size from BX.out.1)
  have hzf := Lib.hid Z.out.size
  have HBX := Lib.hid (Nat.ne_of_lt hgf.out)
  obtain ⟨ws, hws⟩ : ∃ ws, ws = w3.alloc (.cells #[.int .i64 (fbg 2 a 0).op, .int .i64 (fbg 2 a 0).pc, .int .i64 (fbg 2 a 0).who, .int .u64 (fbg 2 a 0).val, .int .u64 (fbg 2 a 0).x, .int .u64 (fbg 2 a 0).y, .int .i64 (fbg 2 a 0).res] 28) := ⟨_, rfl⟩
  have hz := box_below w3 (.cells #[.int .i64 (fbg 2 a 0).op, .int .i64 (fbg 2 a 0).pc, .int .i64 (fbg 2 a 0).who, .int .u64 (fbg 2 a 0).val, .int .u64 (fbg 2 a 0).x, .int .u64 (fbg 2 a 0).y, .int .i64 (fbg 2 a 0).res] 28)
  rw [← hws] at hz
  have BF := Lib.hid (show Bf ws w3.heap.size (fbg 2 a 0) by rw [hws]; exact Bf.new w3 (fbg 2 a 0))
  replace BX := Lib.hid (BX.out.below hz)
  replace LM := Lib.hid (LM.out.below hz)
  replace Z := Lib.hid (Z.out.trans (hz.mono Z.out.size))
  have HW := Lib.hid hws
  clear hz hws
  have HBB := Lib.hid BF.out.lt
  go_wp2
  go_loopw [14, 13] (fun i s wr => ∃ (j : Nat) (A : Option Addr) (c : Nat), i = .int .i64 j ∧ s = .slice A n c ∧ j ≤ 3 ∧ Hid (Rd wr A (itN (stealS W D J S) j (m, fbg 2 a 0)).1) ∧ Hid (Bf wr w3.heap.size (itN (stealS W D J S) j (m, fbg 2 a 0)).2) ∧ Hid (Kb w3.heap.size ws wr)) (fun i _ _ => 3 - (intOf i).toNat)
  case atStart =>
    obtain rfl := HW.out
    exact ⟨0, A, c, rfl, rfl, by omega, LM, BF, Lib.hid (Kb.refl _ _)⟩
  case round =>
    clear BF LM
    obtain ⟨j, A, c, rfl, rfl, hj, LA, BF, KB⟩ := hrel
    by_cases hlt : j < 3
    · have HUj := Lib.hid (HU.out j).2
      have HLj := Lib.hid (HPL.out j)
      have HE := Lib.hid (itN_succ (stealS W D J S) j (m, fbg 2 a 0))
      generalize (itN (stealS W D J S) j (m, fbg 2 a 0)).1 = M at *
      generalize (itN (stealS W D J S) j (m, fbg 2 a 0)).2 = F at *
      obtain ⟨M', F', HP⟩ : ∃ M' F', Hid (stealS W D J S M F = (M', F')) := ⟨_, _, Lib.hid rfl⟩
      obtain ⟨_, b0, b1, b2, b3⟩ := BX.out.kb KB.out HBX.out
      obtain ⟨d0, d1, d2, d3, d4, d5, d6⟩ := BF.out.cells
      have lBF := BF.out.lt
      have lBX := (BX.out.kb KB.out HBX.out).1
      go_wp2_with fail
      refine (steal_n LA.out HLj.out hs HUj.out HP.out).mono ?_
      rintro _ w7 ⟨A', c', rfl, hn7, z⟩
      have BF3 := BF.out.after z
      clear b0 b1 b2 b3 d0 d1 d2 d3 d4 d5 d6 lBF lBX
      obtain ⟨d0, d1, d2, d3, d4, d5, d6⟩ := BF3.cells
      have fz := BF3.free
      have lBF := BF3.lt
      have HN := Lib.hid (hn7.pf BF.out.lt F')
      have HB3 := Lib.hid (BF3.pf F')
      have HK3 := Lib.hid ((KB.out.call HBB.out z).pf F')
      clear hn7 BF3 z
      go_wp2_with fail
      go_roundw
      case rel => exact ⟨j + 1, A', c', by go_num, rfl, by omega, by rw [HE.out, HP.out]; exact Lib.hid HN.out.rd, by rw [HE.out, HP.out]; exact HB3, HK3⟩
      case measure => simp [intOf]; omega
    · obtain rfl : j = 3 := by omega
      replace BX := Lib.hid (BX.out.kb KB.out HBX.out)
      replace Z := Lib.hid (Z.out.trans (KB.out.low.mono hzf.out))
      clear KB HBB hj hlt HW
      have HU3 := Lib.hid (show UF ⟨fo, 3, fq, fv, fx, fy, fs⟩ by have := (HU.out 3).2; rw [HI.out] at this; exact this)
      rw [HI.out] at LA BF
      simp only at LA BF
      obtain ⟨gx, x_0, x_1, x_2, x_3⟩ := BX.out
      go_wp2_with fail
      refine (Tells.of (top_any W D J S a _) (v' := .int .i64 B) (by rw [HOT.out])).mono ?_
      rintro _ w8 ⟨rfl, z⟩
      clear gx x_0 x_1 x_2 x_3
      replace Z := Lib.hid (Z.out.trans (z.mono Z.out.size))
      replace BX := Lib.hid (BX.out.below z)
      replace BF := Lib.hid (BF.out.after z)
      replace LA := Lib.hid (LA.out.below z)
      clear z
      go_wp2_with fail
      refine (add_n LA.out hn hs HT.out).mono ?_
      rintro _ w9 ⟨g9, rfl, hb9, z⟩
      replace Z := Lib.hid (Z.out.trans (z.mono Z.out.size))
      replace BX := Lib.hid (BX.out.below z)
      replace BF := Lib.hid (BF.out.after z)
      replace LA := Lib.hid (LA.out.below z)
      have LB := Lib.hid hb9.rd
      clear hb9 z
      obtain ⟨gx, x_0, x_1, x_2, x_3⟩ := BX.out
      obtain ⟨a0, a1, a2, a3, a4, a5, a6⟩ := BF.out.cells
      have la := BF.out.lt
      simp only at a0 a1 a2 a3 a4 a5 a6
      go_wp2_with fail
      refine (steal_n LB.out HTL.out hs HU3.out HP.out).mono ?_
      rintro _ w10 ⟨A10, c10, rfl, hn10, z⟩
      clear gx x_0 x_1 x_2 x_3 a0 a1 a2 a3 a4 a5 a6 la
      replace Z := Lib.hid (Z.out.trans (z.mono Z.out.size))
      replace BX := Lib.hid (BX.out.below z)
      replace BF := Lib.hid (BF.out.after z)
      replace LA := Lib.hid (LA.out.below z)
      replace LB := Lib.hid (LB.out.below z)
      have LC := Lib.hid hn10.rd
      clear hn10 z
      obtain ⟨a0, a1, a2, a3, a4, a5, a6⟩ := BF.out.cells
      have la := BF.out.lt
      simp only at a0 a1 a2 a3 a4 a5 a6
      go_wp2_with fail
      refine (same_eq2 (LC.out.alloc _) (LB.out.alloc _) HTL.out hs).mono ?_
      rintro _ w11 ⟨rfl, z⟩
      clear a0 a1 a2 a3 a4 a5 a6 la
      have BG := Lib.hid ((Bf.new w10 (⟨2, 0, a, 0, 0, 0, 4⟩ : Fr)).after z)
      replace z := keep_call z (bel_alloc w10 _)
      replace Z := Lib.hid (Z.out.trans (z.mono Z.out.size))
      replace BX := Lib.hid (BX.out.below z)
      replace BF := Lib.hid (BF.out.after z)
      replace LA := Lib.hid (LA.out.below z)
      replace LB := Lib.hid (LB.out.below z)
      replace LC := Lib.hid (LC.out.below z)
      clear z
      go_wp2
      go_ret
      exact ⟨rfl, Z.out⟩
theorem late_walk (W D J S a d : Int) (A : Option Addr) (n c : Nat) (m : List Int) (w : World) (hm : Rd w A m) (hn : m.length = n) (hu : UM m) (hd : U d) : Tells 8 #[cf W D J S, .slice A n c, .int .i64 a, .int .u64 d] w (.bool true) := by
  by_cases hs : n ≤ 500
  · cases hl : lst W D J S m a with
    | none => exact late_none W D J S a d A n c m w hm hn hs hl
    | some L =>
      cases L with
      | nil => exact late_nil W D J S a d A n c m w hm hn hs hl
      | cons u l =>
        by_cases h0 : d = 0
        · exact late_zero W D J S a d u A n c m l w hm hn hs h0 hl
        · exact late_main W D J S a d u A n c m l w hm hn hs hu hd h0 hl
  · exact late_big W D J S a d A n c m w hm hn (by omega) (no_below (by omega))
end Go.Proofs.Ytomlgglcfbdimaa
