/- Contracts of package wait: Parked, Waits, deeds. -/
import Derived.Test.YtgemaeibmgkneaaWtB
import Derived.Test.YtgemaeibmgkneaaPuF
import Derived.Test.YtgemaeibmgkneaaFrH2
namespace Go.Proofs.Ytgemaeibmgkneaa
open Go.RowKit Go.Deep
set_option maxRecDepth 100000 in
theorem waits_no (W D J S x : Int) (A : Option Addr) (n c : Nat) (m : List Int) (w : World) (h : Rd w A m) (hn : m.length = n) (hs : n ≤ 500) (hu : UM m) (ho : okw W D J S m x = false) : Tells 29 #[cf W D J S, .slice A n c, .int .i64 x] w (.bool false) := by
  have H := Lib.hid h
  have HN := Lib.hid hn
  have HS := Lib.hid hs
  have HU := Lib.hid (at0_U hu 2)
  have HO := Lib.hid ho
  clear h hn hs hu ho
  go_enter Try.func29, Try.ntmps29
  go_wp2_with fail
  refine (begin_any 5 x 0 _).mono ?_
  rintro _ w1 ⟨rfl, z⟩
  have BX := Lib.hid ((Bx.mk w W D J S 36).below z)
  replace z := (box_below w _).trans (z.mono (by simp))
  have Z := Lib.hid z
  have LM := Lib.hid (H.out.below z)
  clear z H
  obtain ⟨gx, x_0, x_1, x_2, x_3⟩ := BX.out
  go_wp2_with fail
  refine (Tells.of (goes_any W D J S 5 5 A n c m (fbg 5 x 0) _ HN.out) (v' := .bool false) (by rw [goes_begun, HO.out])).mono ?_
  rintro _ w2 ⟨rfl, z⟩
  clear gx x_0 x_1 x_2 x_3
  have BF := Lib.hid ((Bf.new w1 (fbg 5 x 0)).after z)
  replace z := keep_call z (bel_alloc w1 _)
  replace Z := Lib.hid (Z.out.trans (z.mono Z.out.size))
  replace BX := Lib.hid (BX.out.below z)
  replace LM := Lib.hid (LM.out.below z)
  clear z
  go_wp2
  go_ret
  exact ⟨rfl, Z.out⟩
set_option maxRecDepth 100000 in
theorem waits_yes (W D J S x : Int) (A : Option Addr) (n c : Nat) (m : List Int) (w : World) (h : Rd w A m) (hn : m.length = n) (hs : n ≤ 500) (hu : UM m) (ho : okw W D J S m x = true) : Tells 29 #[cf W D J S, .slice A n c, .int .i64 x] w (.bool (st (at0 m 2) x == at0 m 2)) := by
  have H := Lib.hid h
  have HN := Lib.hid hn
  have HS := Lib.hid hs
  have HU := Lib.hid (at0_U hu 2)
  have HO := Lib.hid ho
  clear h hn hs hu ho
  go_enter Try.func29, Try.ntmps29
  go_wp2_with fail
  refine (begin_any 5 x 0 _).mono ?_
  rintro _ w1 ⟨rfl, z⟩
  have BX := Lib.hid ((Bx.mk w W D J S 36).below z)
  replace z := (box_below w _).trans (z.mono (by simp))
  have Z := Lib.hid z
  have LM := Lib.hid (H.out.below z)
  clear z H
  obtain ⟨gx, x_0, x_1, x_2, x_3⟩ := BX.out
  go_wp2_with fail
  refine (Tells.of (goes_any W D J S 5 5 A n c m (fbg 5 x 0) _ HN.out) (v' := .bool true) (by rw [goes_begun, HO.out])).mono ?_
  rintro _ w2 ⟨rfl, z⟩
  clear gx x_0 x_1 x_2 x_3
  have BF := Lib.hid ((Bf.new w1 (fbg 5 x 0)).after z)
  replace z := keep_call z (bel_alloc w1 _)
  replace Z := Lib.hid (Z.out.trans (z.mono Z.out.size))
  replace BX := Lib.hid (BX.out.below z)
  replace LM := Lib.hid (LM.out.below z)
  clear z
  go_wp2_with fail
  refine (load_any A n c m 2 _ LM.out HN.out HS.out).mono ?_
  rintro _ w3 ⟨rfl, z⟩
  replace Z := Lib.hid (Z.out.trans (z.mono Z.out.size))
  replace BX := Lib.hid (BX.out.below z)
  replace LM := Lib.hid (LM.out.below z)
  replace BF := Lib.hid (BF.out.after z)
  clear z
  go_wp2_with fail
  refine (set_any _ _ _ HU.out).mono ?_
  rintro _ _ ⟨rfl, rfl⟩
  go_wp2
  go_ret
  exact ⟨rfl, Z.out⟩
set_option maxRecDepth 100000 in
theorem waits_any (W D J S x : Int) (A : Option Addr) (n c : Nat) (m : List Int) (w : World) (h : Rd w A m) (hn : m.length = n) (hs : n ≤ 500) (hu : UM m) : Tells 29 #[cf W D J S, .slice A n c, .int .i64 x] w (.bool (wts W D J S m x)) := by
  unfold wts
  cases ho : okw W D J S m x
  · exact waits_no W D J S x A n c m w h hn hs hu ho
  · exact waits_yes W D J S x A n c m w h hn hs hu ho
attribute [local go_sem] run_store_func run_makeFunc
set_option maxRecDepth 100000 in
theorem wdeeds_any (w : World) : Tells 38 #[] w (.agg #[.func (.func 57) #[] #[], .func (.func 58) #[] #[], .func (.func 59) #[] #[], .func (.func 60) #[] #[], .func (.func 61) #[] #[]]) := by
  go_enter Try.func38, Try.ntmps38
  go_wp2
  refine bodyPost_ret (by simp [results, Try.results38, go_sem]; try rfl) rfl ?_
  exact ⟨rfl, (Below.refl _ _).alloc (Nat.le_refl _) _⟩
end Go.Proofs.Ytgemaeibmgkneaa
