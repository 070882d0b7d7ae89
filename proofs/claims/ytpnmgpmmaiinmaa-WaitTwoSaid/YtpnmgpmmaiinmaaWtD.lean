/- Contracts of package wait: Parked, Waits, deeds. -/
import Derived.Test.YtpnmgpmmaiinmaaWtB
import Derived.Test.YtpnmgpmmaiinmaaPuF
import Derived.Test.YtpnmgpmmaiinmaaFrH2
namespace Go.Proofs.Ytpnmgpmmaiinmaa
open Go.RowKit Go.Deep
theorem prk_op (o p q v x y s : Int) (w : World) (ho : (o == 5) = false) : Tells 15 #[fv ⟨o, p, q, v, x, y, s⟩] w (.bool false) := by
  go_enter Try.func15, Try.ntmps15
  go_wp2
  go_ret
  exact ⟨rfl, box_below _ _⟩
theorem prk_over (o p q v x y s : Int) (w : World) (ho : (o == 5) = true) (hs : (s != 0) = true) : Tells 15 #[fv ⟨o, p, q, v, x, y, s⟩] w (.bool false) := by
  have HV := Lib.hid hs
  clear hs
  go_enter Try.func15, Try.ntmps15
  go_wp2_with fail
  refine (Tells.of (over_any ⟨o, p, q, v, x, y, s⟩ _) (v' := .bool true) (by rw [← HV.out])).mono ?_
  rintro _ w1 ⟨rfl, z⟩
  have BF := (Bf.new w ⟨o, p, q, v, x, y, s⟩).after z
  obtain ⟨a0, a1, a2, a3, a4, a5, a6⟩ := BF.cells
  simp only at a0 a1 a2 a3 a4 a5 a6
  have Z := Lib.hid ((box_below w _).trans (z.mono (by simp)))
  clear z
  go_wp2
  go_ret
  exact ⟨rfl, Z.out⟩
theorem prk_pc (o p q v x y s : Int) (w : World) (ho : (o == 5) = true) (hs : (s != 0) = false) : Tells 15 #[fv ⟨o, p, q, v, x, y, s⟩] w (.bool (p == 3)) := by
  have HV := Lib.hid hs
  clear hs
  go_enter Try.func15, Try.ntmps15
  go_wp2_with fail
  refine (Tells.of (over_any ⟨o, p, q, v, x, y, s⟩ _) (v' := .bool false) (by rw [← HV.out])).mono ?_
  rintro _ w1 ⟨rfl, z⟩
  have BF := (Bf.new w ⟨o, p, q, v, x, y, s⟩).after z
  obtain ⟨a0, a1, a2, a3, a4, a5, a6⟩ := BF.cells
  simp only at a0 a1 a2 a3 a4 a5 a6
  have Z := Lib.hid ((box_below w _).trans (z.mono (by simp)))
  clear z
  go_wp2
  go_ret
  exact ⟨rfl, Z.out⟩
theorem prk_any (f : Fr) (w : World) : Tells 15 #[fv f] w (.bool (prk f)) := by
  obtain ⟨o, p, q, v, x, y, s⟩ := f
  unfold prk
  cases h1 : (o == 5)
  · rw [show (decide (o = 5) && decide (s = 0) && decide (p = 3)) = false by
      have : decide (o = 5) = false := by simpa using h1
      simp [this]]
    exact prk_op o p q v x y s w h1
  · cases h2 : (s != 0)
    · rw [show (decide (o = 5) && decide (s = 0) && decide (p = 3)) = (p == 3) by
        have e1 : decide (o = 5) = true := by simpa using h1
        have e2 : decide (s = 0) = true := by simpa using h2
        rw [e1, e2]; exact Bool.eq_iff_iff.2 (by simp)]
      exact prk_pc o p q v x y s w h1 h2
    · rw [show (decide (o = 5) && decide (s = 0) && decide (p = 3)) = false by
        have : decide (s = 0) = false := by simpa using h2
        simp [this]]
      exact prk_over o p q v x y s w h1 h2
theorem waits_no (W D J S x : Int) (A : Option Addr) (n c : Nat) (m : List Int) (w : World) (h : Rd w A m) (hn : m.length = n) (hs : n ≤ 500) (hu : UM m) (ho : okw W D J S m x = false) : Tells 16 #[cf W D J S, .slice A n c, .int .i64 x] w (.bool false) := by
  have H := Lib.hid h
  have HN := Lib.hid hn
  have HS := Lib.hid hs
  have HU := Lib.hid (at0_U hu 2)
  have HO := Lib.hid ho
  clear h hn hs hu ho
  go_enter Try.func16, Try.ntmps16
  go_wp2_with fail
  refine (begin_any 5 x 0 _).mono ?_
  rintro _ w1 ⟨rfl, z⟩
  have BX := Lib.hid ((Bx.mk w W D J S 23).below z)
  replace z := (box_below w _).trans (z.mono (by simp))
  have Z := Lib.hid z
  have LM := Lib.hid (H.out.below z)
  clear z H
  obtain ⟨gx, x_0, x_1, x_2, x_3⟩ := BX.out
  go_wp2_with fail
  refine (Tells.of (goes_any W D J S 5 5 A n c m (fbg 5 x 0) _ HN.out) (v' := .bool false) (by rw [goes_begun, HO.out])).mono ?_
  rintro _ w2 ⟨rfl, z⟩
  clear gx x_0 x_1 x_2 x_3
  have BF := Lib.hid ((Bf.new w1 (fbg 5 x 0)).after z)
  replace z := keep_call z (bel_alloc w1 _)
  replace Z := Lib.hid (Z.out.trans (z.mono Z.out.size))
  replace BX := Lib.hid (BX.out.below z)
  replace LM := Lib.hid (LM.out.below z)
  clear z
  go_wp2
  go_ret
  exact ⟨rfl, Z.out⟩
theorem waits_yes (W D J S x : Int) (A : Option Addr) (n c : Nat) (m : List Int) (w : World) (h : Rd w A m) (hn : m.length = n) (hs : n ≤ 500) (hu : UM m) (ho : okw W D J S m x = true) : Tells 16 #[cf W D J S, .slice A n c, .int .i64 x] w (.bool (st (at0 m 2) x == at0 m 2)) := by
  have H := Lib.hid h
  have HN := Lib.hid hn
  have HS := Lib.hid hs
  have HU := Lib.hid (at0_U hu 2)
  have HO := Lib.hid ho
  clear h hn hs hu ho
  go_enter Try.func16, Try.ntmps16
  go_wp2_with fail
  refine (begin_any 5 x 0 _).mono ?_
  rintro _ w1 ⟨rfl, z⟩
  have BX := Lib.hid ((Bx.mk w W D J S 23).below z)
  replace z := (box_below w _).trans (z.mono (by simp))
  have Z := Lib.hid z
  have LM := Lib.hid (H.out.below z)
  clear z H
  obtain ⟨gx, x_0, x_1, x_2, x_3⟩ := BX.out
  go_wp2_with fail
  refine (Tells.of (goes_any W D J S 5 5 A n c m (fbg 5 x 0) _ HN.out) (v' := .bool true) (by rw [goes_begun, HO.out])).mono ?_
  rintro _ w2 ⟨rfl, z⟩
  clear gx x_0 x_1 x_2 x_3
  have BF := Lib.hid ((Bf.new w1 (fbg 5 x 0)).after z)
  replace z := keep_call z (bel_alloc w1 _)
  replace Z := Lib.hid (Z.out.trans (z.mono Z.out.size))
  replace BX := Lib.hid (BX.out.below z)
  replace LM := Lib.hid (LM.out.below z)
  clear z
  go_wp2_with fail
  refine (load_any A n c m 2 _ LM.out HN.out HS.out).mono ?_
  rintro _ w3 ⟨rfl, z⟩
  replace Z := Lib.hid (Z.out.trans (z.mono Z.out.size))
  replace BX := Lib.hid (BX.out.below z)
  replace LM := Lib.hid (LM.out.below z)
  replace BF := Lib.hid (BF.out.after z)
  clear z
  go_wp2_with fail
  refine (set_any _ _ _ HU.out).mono ?_
  rintro _ _ ⟨rfl, rfl⟩
  go_wp2
  go_ret
  exact ⟨rfl, Z.out⟩
theorem waits_any (W D J S x : Int) (A : Option Addr) (n c : Nat) (m : List Int) (w : World) (h : Rd w A m) (hn : m.length = n) (hs : n ≤ 500) (hu : UM m) : Tells 16 #[cf W D J S, .slice A n c, .int .i64 x] w (.bool (wts W D J S m x)) := by
  unfold wts
  cases ho : okw W D J S m x
  · exact waits_no W D J S x A n c m w h hn hs hu ho
  · exact waits_yes W D J S x A n c m w h hn hs hu ho
attribute [local go_sem] run_store_func run_makeFunc
theorem wdeeds_any (w : World) : Tells 27 #[] w (.agg #[.func (.func 49) #[] #[], .func (.func 50) #[] #[], .func (.func 51) #[] #[], .func (.func 52) #[] #[], .func (.func 53) #[] #[]]) := by
  go_enter Try.func27, Try.ntmps27
  go_wp2
  refine bodyPost_ret (by simp [results, Try.results27, go_sem]; try rfl) rfl ?_
  exact ⟨rfl, (Below.refl _ _).alloc (Nat.le_refl _) _⟩
end Go.Proofs.Ytpnmgpmmaiinmaa
