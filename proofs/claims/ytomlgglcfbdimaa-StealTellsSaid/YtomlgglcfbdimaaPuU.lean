/- Contract of the document's own List. -/
import Derived.Test.YtomlgglcfbdimaaPuS
import Derived.Test.YtomlgglcfbdimaaPuH2
import Derived.Test.YtomlgglcfbdimaaWordR
namespace Go.Proofs.Ytomlgglcfbdimaa
open Go.RowKit Go.Deep
theorem rlist_may (W D J S x : Int) (A : Option Addr) (n c : Nat) (w : World) (h : may W D J S = false) :
    Calls Try.prog 39 #[cf W D J S, .slice A n c, .int .i64 x] w (RetL w none) := by
  have HM := Lib.hid h
  clear h
  go_enter Try.func39, Try.ntmps39
  go_wp2_with fail
  refine (Tells.of (rmay_any W D J S _) (v' := .bool false) (by rw [HM.out])).mono ?_
  rintro _ w1 ⟨rfl, z1⟩
  have HZ := Lib.hid ((box_below w _).trans (z1.mono (by simp)))
  clear z1
  go_wp2
  refine bodyPost_ret (by simp [results, Try.results39, go_sem]; try rfl) rfl ?_
  exact ⟨none, 0, rfl, Nat.le_refl _, Rd.nil _ _, HZ.out⟩
theorem rlist_len (W D J S x : Int) (A : Option Addr) (n c : Nat) (w : World) (h : may W D J S = true) (h1 : ((n : Int) != sz W D J S) = true) :
    Calls Try.prog 39 #[cf W D J S, .slice A n c, .int .i64 x] w (RetL w none) := by
  have HM := Lib.hid h
  clear h
  go_enter Try.func39, Try.ntmps39
  go_wp2_with fail
  refine (Tells.of (rmay_any W D J S _) (v' := .bool true) (by rw [HM.out])).mono ?_
  rintro _ w1 ⟨rfl, z1⟩
  have HZ := Lib.hid ((box_below w _).trans (z1.mono (by simp)))
  have BX := Lib.hid ((Bx.mk w W D J S 23).below z1)
  clear z1
  obtain ⟨gx, x0, x1, x2, x3⟩ := BX.out
  go_wp2_with fail
  refine (rsize_any W D J S _).mono ?_
  rintro _ w2 ⟨rfl, z2⟩
  clear gx x0 x1 x2 x3
  have HZ2 := Lib.hid (HZ.out.trans (z2.mono HZ.out.size))
  obtain ⟨gx, x0, x1, x2, x3⟩ := BX.out.below z2
  clear z2
  go_wp2
  refine bodyPost_ret (by simp [results, Try.results39, go_sem]; try rfl) rfl ?_
  exact ⟨none, 0, rfl, Nat.le_refl _, Rd.nil _ _, HZ2.out⟩
theorem rlist_neg (W D J S x : Int) (A : Option Addr) (n c : Nat) (w : World) (h : may W D J S = true) (h1 : ((n : Int) != sz W D J S) = false) (h2 : decide (x < 0) = true) :
    Calls Try.prog 39 #[cf W D J S, .slice A n c, .int .i64 x] w (RetL w none) := by
  have HM := Lib.hid h
  clear h
  go_enter Try.func39, Try.ntmps39
  go_wp2_with fail
  refine (Tells.of (rmay_any W D J S _) (v' := .bool true) (by rw [HM.out])).mono ?_
  rintro _ w1 ⟨rfl, z1⟩
  have HZ := Lib.hid ((box_below w _).trans (z1.mono (by simp)))
  have BX := Lib.hid ((Bx.mk w W D J S 23).below z1)
  clear z1
  obtain ⟨gx, x0, x1, x2, x3⟩ := BX.out
  go_wp2_with fail
  refine (rsize_any W D J S _).mono ?_
  rintro _ w2 ⟨rfl, z2⟩
  clear gx x0 x1 x2 x3
  have HZ2 := Lib.hid (HZ.out.trans (z2.mono HZ.out.size))
  obtain ⟨gx, x0, x1, x2, x3⟩ := BX.out.below z2
  clear z2
  go_wp2
  refine bodyPost_ret (by simp [results, Try.results39, go_sem]; try rfl) rfl ?_
  exact ⟨none, 0, rfl, Nat.le_refl _, Rd.nil _ _, HZ2.out⟩
theorem rlist_big (W D J S x : Int) (A : Option Addr) (n c : Nat) (w : World) (h : may W D J S = true) (h1 : ((n : Int) != sz W D J S) = false) (h2 : decide (x < 0) = false) (h3 : decide (W ≤ x) = true) :
    Calls Try.prog 39 #[cf W D J S, .slice A n c, .int .i64 x] w (RetL w none) := by
  have HM := Lib.hid h
  clear h
  go_enter Try.func39, Try.ntmps39
  go_wp2_with fail
  refine (Tells.of (rmay_any W D J S _) (v' := .bool true) (by rw [HM.out])).mono ?_
  rintro _ w1 ⟨rfl, z1⟩
  have HZ := Lib.hid ((box_below w _).trans (z1.mono (by simp)))
  have BX := Lib.hid ((Bx.mk w W D J S 23).below z1)
  clear z1
  obtain ⟨gx, x0, x1, x2, x3⟩ := BX.out
  go_wp2_with fail
  refine (rsize_any W D J S _).mono ?_
  rintro _ w2 ⟨rfl, z2⟩
  clear gx x0 x1 x2 x3
  have HZ2 := Lib.hid (HZ.out.trans (z2.mono HZ.out.size))
  obtain ⟨gx, x0, x1, x2, x3⟩ := BX.out.below z2
  clear z2
  go_wp2
  refine bodyPost_ret (by simp [results, Try.results39, go_sem]; try rfl) rfl ?_
  exact ⟨none, 0, rfl, Nat.le_refl _, Rd.nil _ _, HZ2.out⟩
set_option maxHeartbeats 2000000 in
theorem rlist_here (W D J S x T B : Int) (A : Option Addr) (n c : Nat) (m : List Int) (w : World) (h : Rd w A m) (hn : m.length = n) (hk : okw W D J S m x = true) (hT : at0 m (bg D J x) = T) (hB : at0 m (bg D J x + 1) = B) (hUT : U T) (hUB : U B)
    (o : Option (List Int)) (ho : (o = none ∧ (far B T < 0 ∨ 0 ≤ far B T ∧ D < far B T)) ∨ ∃ j : Nat, far B T = j ∧ (j : Int) ≤ D ∧ o = some (lN D J m x T j)) :
    Calls Try.prog 39 #[cf W D J S, .slice A n c, .int .i64 x] w (RetL w o) := by
  obtain ⟨hm, hlen, hx0, hx1⟩ := okw_iff.1 hk
  obtain ⟨hW, hD, hJ, hS⟩ := may_lim hm
  have hs : n ≤ 500 := by
    have := (bg_lim hD hJ (x := W) (by omega)).2
    omega
  have h1 : ((n : Int) != sz W D J S) = false := by
    have : sz W D J S = bg D J W := by unfold sz; rw [hm]; rfl
    rw [this]; simp; omega
  have h2 : decide (x < 0) = false := decide_eq_false (by omega)
  have h3 : decide (W ≤ x) = false := decide_eq_false (by omega)
  have H := Lib.hid h
  have HN := Lib.hid hn
  have HK := Lib.hid hk
  have HM := Lib.hid hm
  have HT := Lib.hid (show at0 m (ow W D J S x 0) = T by rw [ow_ok hk, Int.add_zero, hT])
  have HB := Lib.hid (show at0 m (ow W D J S x 1) = B by rw [ow_ok hk, hB])
  have HO := Lib.hid ho
  have HD := Lib.hid hD
  have HUT := Lib.hid hUT
  have HUB := Lib.hid hUB
  clear h hn hk hT hB ho hm hlen hW hD hJ hS hx0 hx1 hUT hUB
  go_enter Try.func39, Try.ntmps39
  go_wp2_with fail
  refine (Tells.of (rmay_any W D J S _) (v' := .bool true) (by rw [HM.out])).mono ?_
  rintro _ w1 ⟨rfl, z1⟩
  have HZ := Lib.hid ((box_below w _).trans (z1.mono (by simp)))
  have BX := Lib.hid ((Bx.mk w W D J S 23).below z1)
  clear z1
  obtain ⟨gx, x0, x1, x2, x3⟩ := BX.out
  go_wp2_with fail
  refine (rsize_any W D J S _).mono ?_
  rintro _ w2 ⟨rfl, z⟩
  clear gx x0 x1 x2 x3
  replace HZ := Lib.hid (HZ.out.trans (z.mono HZ.out.size))
  replace BX := Lib.hid (BX.out.below z)
  clear z
  obtain ⟨gx, x0, x1, x2, x3⟩ := BX.out
  go_wp2_with fail
  refine (rtop_any W D J S x _).mono ?_
  rintro _ w3 ⟨rfl, z⟩
  clear gx x0 x1 x2 x3
  replace HZ := Lib.hid (HZ.out.trans (z.mono HZ.out.size))
  replace BX := Lib.hid (BX.out.below z)
  clear z
  obtain ⟨gx, x0, x1, x2, x3⟩ := BX.out
  go_wp2_with fail
  refine (ret_of (rload_any A n c m _ _ (H.out.below HZ.out) HN.out) (v' := .int .u64 T) (by rw [HT.out])).mono ?_
  rintro _ w4 ⟨rfl, z⟩
  clear gx x0 x1 x2 x3
  replace HZ := Lib.hid (HZ.out.trans (z.mono HZ.out.size))
  replace BX := Lib.hid (BX.out.below z)
  clear z
  obtain ⟨gx, x0, x1, x2, x3⟩ := BX.out
  go_wp2_with fail
  refine (rbottom_any W D J S x _).mono ?_
  rintro _ w5 ⟨rfl, z⟩
  clear gx x0 x1 x2 x3
  replace HZ := Lib.hid (HZ.out.trans (z.mono HZ.out.size))
  replace BX := Lib.hid (BX.out.below z)
  clear z
  obtain ⟨gx, x0, x1, x2, x3⟩ := BX.out
  go_wp2_with fail
  refine (ret_of (rload_any A n c m _ _ (H.out.below HZ.out) HN.out) (v' := .int .u64 B) (by rw [HB.out])).mono ?_
  rintro _ w6 ⟨rfl, z⟩
  clear gx x0 x1 x2 x3
  replace HZ := Lib.hid (HZ.out.trans (z.mono HZ.out.size))
  replace BX := Lib.hid (BX.out.below z)
  clear z
  obtain ⟨gx, x0, x1, x2, x3⟩ := BX.out
  go_wp2_with fail
  refine (rfar_any B T _ HUB.out HUT.out).tells.mono ?_
  rintro _ w7 ⟨rfl, z⟩
  clear gx x0 x1 x2 x3
  replace HZ := Lib.hid (HZ.out.trans (z.mono HZ.out.size))
  replace BX := Lib.hid (BX.out.below z)
  clear z
  obtain ⟨gx, x0, x1, x2, x3⟩ := BX.out
  rcases HO.out with ⟨rfl, h4 | ⟨h4, h5⟩⟩ | ⟨N, hN, hND, rfl⟩
  · have hd : decide (far B T < 0) = true := decide_eq_true h4
    generalize far B T = k at *
    go_wp2
    refine bodyPost_ret (by simp [results, Try.results39, go_sem]; try rfl) rfl ?_
    exact ⟨none, 0, rfl, Nat.le_refl _, Rd.nil _ _, HZ.out⟩
  · have hd : decide (far B T < 0) = false := decide_eq_false (by omega)
    have hd2 : decide (far B T > D) = true := decide_eq_true h5
    generalize far B T = k at *
    go_wp2
    refine bodyPost_ret (by simp [results, Try.results39, go_sem]; try rfl) rfl ?_
    exact ⟨none, 0, rfl, Nat.le_refl _, Rd.nil _ _, HZ.out⟩
  · rw [hN]
    have hN0 : decide ((N : Int) < 0) = false := decide_eq_false (by omega)
    have hN1 : decide ((N : Int) > D) = false := decide_eq_false (by omega)
    have hN3 : N ≤ 16 := by have := HD.out; omega
    clear hN hND HO HT HB
    go_wp2
    clear hN0 hN1 gx x0 x1 x2 x3
    go_loopw [13, 12] (fun i s wr => ∃ (j : Nat) (R : Option Addr) (d : Nat), i = .int .i64 j ∧ s = .slice R j d ∧ j ≤ N ∧ Hid (Own wr w7.heap.size R j d (lN D J m x T j)) ∧ Hid (Below w7.heap.size w7 wr)) (fun i _ _ => N - (intOf i).toNat)
    case atStart => exact ⟨0, none, 0, rfl, rfl, by omega, Lib.hid (Own.nil _ _), Lib.hid (Below.refl _ _)⟩
    case round =>
      obtain ⟨j, R, d, rfl, rfl, hj, HOW, HZ2⟩ := hrel
      by_cases hlt : j < N
      · obtain ⟨g0, b0, b1, b2, b3⟩ := BX.out.below HZ2.out
        have hw1 : IntKind.u64.wrap (j : Int) = (j : Int) := by rw [IntKind.wrap_u64]; omega
        have hw2 : IntKind.u64.wrap (T + (j : Int)) = (T + (j : Int)) % 18446744073709551616 := IntKind.wrap_u64 _
        have HU := Lib.hid (mod_U (T + (j : Int)))
        have HSI := Lib.hid (show at0 m (sl W D J S x ((T + (j : Int)) % 18446744073709551616)) = at0 m (sI D J x (T + j)) by rw [sl_ok HK.out, sI_mod (okw_iff.1 HK.out).1])
        generalize (T + (j : Int)) % 18446744073709551616 = X at hw2 HU HSI
        go_wp2_with fail
        refine (rslot_any W D J S x X _ HU.out).mono ?_
        rintro _ wa ⟨rfl, z3⟩
        have HZ4 := Lib.hid (keep_call z3 HZ2.out)
        have HO3 := Lib.hid (HOW.out.after z3)
        go_wp2_with fail
        refine (ret_of (rload_any A n c m _ _ (H.out.below (HZ.out.trans (HZ4.out.mono HZ.out.size))) HN.out) (v' := .int .u64 (at0 m (sI D J x (T + j)))) (by rw [HSI.out])).mono ?_
        rintro _ w8 ⟨rfl, z4⟩
        have HE := Lib.hid (lN_succ D J m x T j)
        generalize at0 m (sI D J x (T + j)) = V at HE ⊢
        have za := bel_alloc w8 (.cells #[.int .u64 V] 26)
        have HZ5 := Lib.hid (keep_call z4 HZ4.out)
        obtain ⟨R', d', w9, hrun, hown, hb⟩ := run_appN (m := 1) ((HO3.out.after z4).after za) 1 (rd_one w8 V) rfl (by omega) (Nat.le_trans HZ5.out.size za.size)
        have HOW5 := Lib.hid hown
        have HRUN := Lib.hid hrun
        have HZ6 := Lib.hid ((keep_call za HZ5.out).trans hb)
        clear hrun hown hb za z4 z3
        go_wp2_with (at_builtin; (with_reducible refine wpList_append_run HRUN.out ?_ ?_ ?_ ?_); exact ⟨_, _, rfl, rfl, rfl⟩; rfl; rfl)
        go_roundw
        case rel => exact ⟨j + 1, R', d', by go_num, rfl, by omega, by rw [HE.out]; exact HOW5, HZ6⟩
        case measure => simp [intOf]; omega
      · obtain rfl : j = N := by omega
        have HZ3 := Lib.hid (HZ.out.trans (HZ2.out.mono HZ.out.size))
        go_wp2
        refine bodyPost_ret (by simp [results, Try.results39, go_sem]; try rfl) rfl ?_
        exact ⟨R, d, by simp [lN_len], by simpa [lN_len] using HOW.out.cap, HOW.out.rd, HZ3.out⟩
theorem rlist_any (W D J S x : Int) (A : Option Addr) (n c : Nat) (m : List Int) (w : World) (h : Rd w A m) (hn : m.length = n) (hu : UM m) :
    Calls Try.prog 39 #[cf W D J S, .slice A n c, .int .i64 x] w (RetL w (lst W D J S m x)) := by
  cases hk : okw W D J S m x
  · rw [lst_no (fun h' => by rw [hk] at h'; cases h')]
    cases h0 : may W D J S
    · exact rlist_may W D J S x A n c w h0
    rcases Bool.eq_false_or_eq_true ((n : Int) != sz W D J S) with h1 | h1
    · exact rlist_len W D J S x A n c w h0 h1
    by_cases h2 : x < 0
    · exact rlist_neg W D J S x A n c w h0 h1 (decide_eq_true h2)
    by_cases h3 : W ≤ x
    · exact rlist_big W D J S x A n c w h0 h1 (decide_eq_false h2) (decide_eq_true h3)
    exfalso
    unfold okw at hk
    rw [h0, hn, show decide ((n : Int) = sz W D J S) = true by simpa using h1, show decide (0 ≤ x) = true from decide_eq_true (by omega), show decide (x < W) = true from decide_eq_true (by omega)] at hk
    cases hk
  · have u1 := at0_U hu (bg D J x)
    have u2 := at0_U hu (bg D J x + 1)
    by_cases h0 : far (at0 m (bg D J x + 1)) (at0 m (bg D J x)) < 0
    · rw [lst_no (fun _ => .inl h0)]
      exact rlist_here W D J S x _ _ A n c m w h hn hk rfl rfl u1 u2 none (.inl ⟨rfl, .inl h0⟩)
    · by_cases h1 : far (at0 m (bg D J x + 1)) (at0 m (bg D J x)) ≤ D
      · obtain ⟨j, hj⟩ := Int.eq_ofNat_of_zero_le (show 0 ≤ far (at0 m (bg D J x + 1)) (at0 m (bg D J x)) by omega)
        rw [lst_yes hk hj (by omega)]
        exact rlist_here W D J S x _ _ A n c m w h hn hk rfl rfl u1 u2 _ (.inr ⟨j, hj, by omega, rfl⟩)
      · rw [lst_no (fun _ => .inr (by omega))]
        exact rlist_here W D J S x _ _ A n c m w h hn hk rfl rfl u1 u2 none (.inl ⟨rfl, .inr ⟨by omega, by omega⟩⟩)
theorem rlist_L {W D J S x : Int} {A : Option Addr} {n c : Nat} {m : List Int} {w : World} (h : Rd w A m) (hn : m.length = n) (hu : UM m) {o : Option (List Int)} (e : lst W D J S m x = o) {L : List Int} (hL : o.getD [] = L) {k : Nat} (hk : L.length = k) {b : Bool} (hb : o.isSome = b) :
    Calls Try.prog 39 #[cf W D J S, .slice A n c, .int .i64 x] w fun e w' => ∃ A' c', e = .returned (.tuple #[.slice A' k c', .bool b]) ∧ k ≤ c' ∧ Rd w' A' L ∧ Below w.heap.size w w' := by
  subst hL
  subst e hk hb
  exact rlist_any W D J S x A n c m w h hn hu
end Go.Proofs.Ytomlgglcfbdimaa
