/- Contracts of the document's own Goes, Length and Step of layer 11. -/
import Derived.Test.YtppllanmgdhabaaPuS
import Derived.Test.YtppllanmgdhabaaNxG
import Derived.Test.YtppllanmgdhabaaInA
import Derived.Test.YtppllanmgdhabaaBaM
import Derived.Test.YtppllanmgdhabaaEnE
import Derived.IntWalk
import Derived.Deep.RegionHeld3
namespace Go.Proofs.Ytppllanmgdhabaa
open Go.RowKit Go.Deep
set_option maxRecDepth 100000 in
theorem rgo_0 (W D J S op o p q v x y s : Int) (A : Option Addr) (n c : Nat) (w : World) (h0 : may W D J S = false) : Tells 61 #[cf W D J S, .slice A n c, fv ⟨o, p, q, v, x, y, s⟩, .int .i64 op] w (.bool false) := by
  obtain ⟨BX0, BF0, Z0, hz⟩ := boxes2 w W D J S ⟨o, p, q, v, x, y, s⟩
  have HM := Lib.hid h0
  clear h0
  go_enter Try.func61, Try.ntmps61
  go_wp2_with fail
  change Calls _ _ _ (bxc w W D J S ⟨o, p, q, v, x, y, s⟩) _
  generalize bxc w W D J S ⟨o, p, q, v, x, y, s⟩ = w0 at BX0 BF0 Z0 hz ⊢
  refine (Tells.of (rmay_any W D J S _) (v' := .bool false) (by rw [HM.out])).mono ?_
  rintro _ w1 ⟨rfl, z⟩
  have BX := Lib.hid (BX0.below z)
  have BF := Lib.hid (BF0.after z)
  have Z := Lib.hid (Z0.trans (z.mono (by omega)))
  clear z BX0 BF0 Z0 hz
  obtain ⟨a0, a1, a2, a3, a4, a5, a6⟩ := BF.out.cells
  have la := BF.out.lt
  go_wp2_with fail
  refine (rover_any ⟨o, p, q, v, x, y, s⟩ _).mono ?_
  rintro _ w2 ⟨rfl, z⟩
  clear a0 a1 a2 a3 a4 a5 a6 la
  replace BX := Lib.hid (BX.out.below z)
  replace BF := Lib.hid (BF.out.after z)
  replace Z := Lib.hid (Z.out.trans (z.mono Z.out.size))
  clear z
  obtain ⟨a0, a1, a2, a3, a4, a5, a6⟩ := BF.out.cells
  have la := BF.out.lt
  obtain ⟨gx, x0, x1, x2, x3⟩ := BX.out
  go_wp2
  go_ret
  exact ⟨rfl, Z.out⟩
set_option maxRecDepth 100000 in
theorem rgo_1 (W D J S op o p q v x y s : Int) (A : Option Addr) (n c : Nat) (w : World) (h0 : may W D J S = true) (h1 : ((n : Int) == sz W D J S) = false) : Tells 61 #[cf W D J S, .slice A n c, fv ⟨o, p, q, v, x, y, s⟩, .int .i64 op] w (.bool false) := by
  obtain ⟨BX0, BF0, Z0, hz⟩ := boxes2 w W D J S ⟨o, p, q, v, x, y, s⟩
  have HM := Lib.hid h0
  clear h0
  go_enter Try.func61, Try.ntmps61
  go_wp2_with fail
  change Calls _ _ _ (bxc w W D J S ⟨o, p, q, v, x, y, s⟩) _
  generalize bxc w W D J S ⟨o, p, q, v, x, y, s⟩ = w0 at BX0 BF0 Z0 hz ⊢
  refine (Tells.of (rmay_any W D J S _) (v' := .bool true) (by rw [HM.out])).mono ?_
  rintro _ w1 ⟨rfl, z⟩
  have BX := Lib.hid (BX0.below z)
  have BF := Lib.hid (BF0.after z)
  have Z := Lib.hid (Z0.trans (z.mono (by omega)))
  clear z BX0 BF0 Z0 hz
  obtain ⟨a0, a1, a2, a3, a4, a5, a6⟩ := BF.out.cells
  have la := BF.out.lt
  go_wp2_with fail
  refine (rover_any ⟨o, p, q, v, x, y, s⟩ _).mono ?_
  rintro _ w2 ⟨rfl, z⟩
  clear a0 a1 a2 a3 a4 a5 a6 la
  replace BX := Lib.hid (BX.out.below z)
  replace BF := Lib.hid (BF.out.after z)
  replace Z := Lib.hid (Z.out.trans (z.mono Z.out.size))
  clear z
  obtain ⟨a0, a1, a2, a3, a4, a5, a6⟩ := BF.out.cells
  have la := BF.out.lt
  obtain ⟨gx, x0, x1, x2, x3⟩ := BX.out
  go_wp2_with fail
  refine (rsize_any W D J S _).mono ?_
  rintro _ w3 ⟨rfl, z⟩
  clear a0 a1 a2 a3 a4 a5 a6 la gx x0 x1 x2 x3
  replace BX := Lib.hid (BX.out.below z)
  replace BF := Lib.hid (BF.out.after z)
  replace Z := Lib.hid (Z.out.trans (z.mono Z.out.size))
  clear z
  obtain ⟨a0, a1, a2, a3, a4, a5, a6⟩ := BF.out.cells
  have la := BF.out.lt
  obtain ⟨gx, x0, x1, x2, x3⟩ := BX.out
  go_wp2
  go_ret
  exact ⟨rfl, Z.out⟩
set_option maxRecDepth 100000 in
theorem rgo_2 (W D J S op o p q v x y s : Int) (A : Option Addr) (n c : Nat) (w : World) (h0 : may W D J S = true) (h1 : ((n : Int) == sz W D J S) = true) (h2 : (s != 0) = true) : Tells 61 #[cf W D J S, .slice A n c, fv ⟨o, p, q, v, x, y, s⟩, .int .i64 op] w (.bool false) := by
  obtain ⟨BX0, BF0, Z0, hz⟩ := boxes2 w W D J S ⟨o, p, q, v, x, y, s⟩
  have HM := Lib.hid h0
  have HV := Lib.hid h2
  clear h0 h2
  go_enter Try.func61, Try.ntmps61
  go_wp2_with fail
  change Calls _ _ _ (bxc w W D J S ⟨o, p, q, v, x, y, s⟩) _
  generalize bxc w W D J S ⟨o, p, q, v, x, y, s⟩ = w0 at BX0 BF0 Z0 hz ⊢
  refine (Tells.of (rmay_any W D J S _) (v' := .bool true) (by rw [HM.out])).mono ?_
  rintro _ w1 ⟨rfl, z⟩
  have BX := Lib.hid (BX0.below z)
  have BF := Lib.hid (BF0.after z)
  have Z := Lib.hid (Z0.trans (z.mono (by omega)))
  clear z BX0 BF0 Z0 hz
  obtain ⟨a0, a1, a2, a3, a4, a5, a6⟩ := BF.out.cells
  have la := BF.out.lt
  go_wp2_with fail
  refine (Tells.of (rover_any ⟨o, p, q, v, x, y, s⟩ _) (v' := .bool true) (by rw [← HV.out])).mono ?_
  rintro _ w2 ⟨rfl, z⟩
  clear a0 a1 a2 a3 a4 a5 a6 la
  replace BX := Lib.hid (BX.out.below z)
  replace BF := Lib.hid (BF.out.after z)
  replace Z := Lib.hid (Z.out.trans (z.mono Z.out.size))
  clear z
  obtain ⟨a0, a1, a2, a3, a4, a5, a6⟩ := BF.out.cells
  have la := BF.out.lt
  obtain ⟨gx, x0, x1, x2, x3⟩ := BX.out
  go_wp2_with fail
  refine (rsize_any W D J S _).mono ?_
  rintro _ w3 ⟨rfl, z⟩
  clear a0 a1 a2 a3 a4 a5 a6 la gx x0 x1 x2 x3
  replace BX := Lib.hid (BX.out.below z)
  replace BF := Lib.hid (BF.out.after z)
  replace Z := Lib.hid (Z.out.trans (z.mono Z.out.size))
  clear z
  obtain ⟨a0, a1, a2, a3, a4, a5, a6⟩ := BF.out.cells
  have la := BF.out.lt
  obtain ⟨gx, x0, x1, x2, x3⟩ := BX.out
  go_wp2
  go_ret
  exact ⟨rfl, Z.out⟩
set_option maxRecDepth 100000 in
theorem rgo_3 (W D J S op o p q v x y s : Int) (A : Option Addr) (n c : Nat) (w : World) (h0 : may W D J S = true) (h1 : ((n : Int) == sz W D J S) = true) (h2 : (s != 0) = false) (h3 : (o == op) = false) : Tells 61 #[cf W D J S, .slice A n c, fv ⟨o, p, q, v, x, y, s⟩, .int .i64 op] w (.bool false) := by
  obtain ⟨BX0, BF0, Z0, hz⟩ := boxes2 w W D J S ⟨o, p, q, v, x, y, s⟩
  have HM := Lib.hid h0
  have HV := Lib.hid h2
  clear h0 h2
  go_enter Try.func61, Try.ntmps61
  go_wp2_with fail
  change Calls _ _ _ (bxc w W D J S ⟨o, p, q, v, x, y, s⟩) _
  generalize bxc w W D J S ⟨o, p, q, v, x, y, s⟩ = w0 at BX0 BF0 Z0 hz ⊢
  refine (Tells.of (rmay_any W D J S _) (v' := .bool true) (by rw [HM.out])).mono ?_
  rintro _ w1 ⟨rfl, z⟩
  have BX := Lib.hid (BX0.below z)
  have BF := Lib.hid (BF0.after z)
  have Z := Lib.hid (Z0.trans (z.mono (by omega)))
  clear z BX0 BF0 Z0 hz
  obtain ⟨a0, a1, a2, a3, a4, a5, a6⟩ := BF.out.cells
  have la := BF.out.lt
  go_wp2_with fail
  refine (Tells.of (rover_any ⟨o, p, q, v, x, y, s⟩ _) (v' := .bool false) (by rw [← HV.out])).mono ?_
  rintro _ w2 ⟨rfl, z⟩
  clear a0 a1 a2 a3 a4 a5 a6 la
  replace BX := Lib.hid (BX.out.below z)
  replace BF := Lib.hid (BF.out.after z)
  replace Z := Lib.hid (Z.out.trans (z.mono Z.out.size))
  clear z
  obtain ⟨a0, a1, a2, a3, a4, a5, a6⟩ := BF.out.cells
  have la := BF.out.lt
  obtain ⟨gx, x0, x1, x2, x3⟩ := BX.out
  go_wp2_with fail
  refine (rsize_any W D J S _).mono ?_
  rintro _ w3 ⟨rfl, z⟩
  clear a0 a1 a2 a3 a4 a5 a6 la gx x0 x1 x2 x3
  replace BX := Lib.hid (BX.out.below z)
  replace BF := Lib.hid (BF.out.after z)
  replace Z := Lib.hid (Z.out.trans (z.mono Z.out.size))
  clear z
  obtain ⟨a0, a1, a2, a3, a4, a5, a6⟩ := BF.out.cells
  have la := BF.out.lt
  obtain ⟨gx, x0, x1, x2, x3⟩ := BX.out
  go_wp2
  go_ret
  exact ⟨rfl, Z.out⟩
set_option maxRecDepth 100000 in
theorem rgo_4 (W D J S op o p q v x y s : Int) (A : Option Addr) (n c : Nat) (w : World) (h0 : may W D J S = true) (h1 : ((n : Int) == sz W D J S) = true) (h2 : (s != 0) = false) (h3 : (o == op) = true) (h4 : decide (0 ≤ p) = false) : Tells 61 #[cf W D J S, .slice A n c, fv ⟨o, p, q, v, x, y, s⟩, .int .i64 op] w (.bool false) := by
  obtain ⟨BX0, BF0, Z0, hz⟩ := boxes2 w W D J S ⟨o, p, q, v, x, y, s⟩
  have HM := Lib.hid h0
  have HV := Lib.hid h2
  clear h0 h2
  go_enter Try.func61, Try.ntmps61
  go_wp2_with fail
  change Calls _ _ _ (bxc w W D J S ⟨o, p, q, v, x, y, s⟩) _
  generalize bxc w W D J S ⟨o, p, q, v, x, y, s⟩ = w0 at BX0 BF0 Z0 hz ⊢
  refine (Tells.of (rmay_any W D J S _) (v' := .bool true) (by rw [HM.out])).mono ?_
  rintro _ w1 ⟨rfl, z⟩
  have BX := Lib.hid (BX0.below z)
  have BF := Lib.hid (BF0.after z)
  have Z := Lib.hid (Z0.trans (z.mono (by omega)))
  clear z BX0 BF0 Z0 hz
  obtain ⟨a0, a1, a2, a3, a4, a5, a6⟩ := BF.out.cells
  have la := BF.out.lt
  go_wp2_with fail
  refine (Tells.of (rover_any ⟨o, p, q, v, x, y, s⟩ _) (v' := .bool false) (by rw [← HV.out])).mono ?_
  rintro _ w2 ⟨rfl, z⟩
  clear a0 a1 a2 a3 a4 a5 a6 la
  replace BX := Lib.hid (BX.out.below z)
  replace BF := Lib.hid (BF.out.after z)
  replace Z := Lib.hid (Z.out.trans (z.mono Z.out.size))
  clear z
  obtain ⟨a0, a1, a2, a3, a4, a5, a6⟩ := BF.out.cells
  have la := BF.out.lt
  obtain ⟨gx, x0, x1, x2, x3⟩ := BX.out
  go_wp2_with fail
  refine (rsize_any W D J S _).mono ?_
  rintro _ w3 ⟨rfl, z⟩
  clear a0 a1 a2 a3 a4 a5 a6 la gx x0 x1 x2 x3
  replace BX := Lib.hid (BX.out.below z)
  replace BF := Lib.hid (BF.out.after z)
  replace Z := Lib.hid (Z.out.trans (z.mono Z.out.size))
  clear z
  obtain ⟨a0, a1, a2, a3, a4, a5, a6⟩ := BF.out.cells
  have la := BF.out.lt
  obtain ⟨gx, x0, x1, x2, x3⟩ := BX.out
  go_wp2
  go_ret
  exact ⟨rfl, Z.out⟩
set_option maxRecDepth 100000 in
theorem rgo_5 (W D J S op o p q v x y s : Int) (A : Option Addr) (n c : Nat) (w : World) (h0 : may W D J S = true) (h1 : ((n : Int) == sz W D J S) = true) (h2 : (s != 0) = false) (h3 : (o == op) = true) (h4 : decide (0 ≤ p) = true) (h5 : decide (p ≤ 4) = false) : Tells 61 #[cf W D J S, .slice A n c, fv ⟨o, p, q, v, x, y, s⟩, .int .i64 op] w (.bool false) := by
  obtain ⟨BX0, BF0, Z0, hz⟩ := boxes2 w W D J S ⟨o, p, q, v, x, y, s⟩
  have HM := Lib.hid h0
  have HV := Lib.hid h2
  clear h0 h2
  go_enter Try.func61, Try.ntmps61
  go_wp2_with fail
  change Calls _ _ _ (bxc w W D J S ⟨o, p, q, v, x, y, s⟩) _
  generalize bxc w W D J S ⟨o, p, q, v, x, y, s⟩ = w0 at BX0 BF0 Z0 hz ⊢
  refine (Tells.of (rmay_any W D J S _) (v' := .bool true) (by rw [HM.out])).mono ?_
  rintro _ w1 ⟨rfl, z⟩
  have BX := Lib.hid (BX0.below z)
  have BF := Lib.hid (BF0.after z)
  have Z := Lib.hid (Z0.trans (z.mono (by omega)))
  clear z BX0 BF0 Z0 hz
  obtain ⟨a0, a1, a2, a3, a4, a5, a6⟩ := BF.out.cells
  have la := BF.out.lt
  go_wp2_with fail
  refine (Tells.of (rover_any ⟨o, p, q, v, x, y, s⟩ _) (v' := .bool false) (by rw [← HV.out])).mono ?_
  rintro _ w2 ⟨rfl, z⟩
  clear a0 a1 a2 a3 a4 a5 a6 la
  replace BX := Lib.hid (BX.out.below z)
  replace BF := Lib.hid (BF.out.after z)
  replace Z := Lib.hid (Z.out.trans (z.mono Z.out.size))
  clear z
  obtain ⟨a0, a1, a2, a3, a4, a5, a6⟩ := BF.out.cells
  have la := BF.out.lt
  obtain ⟨gx, x0, x1, x2, x3⟩ := BX.out
  go_wp2_with fail
  refine (rsize_any W D J S _).mono ?_
  rintro _ w3 ⟨rfl, z⟩
  clear a0 a1 a2 a3 a4 a5 a6 la gx x0 x1 x2 x3
  replace BX := Lib.hid (BX.out.below z)
  replace BF := Lib.hid (BF.out.after z)
  replace Z := Lib.hid (Z.out.trans (z.mono Z.out.size))
  clear z
  obtain ⟨a0, a1, a2, a3, a4, a5, a6⟩ := BF.out.cells
  have la := BF.out.lt
  obtain ⟨gx, x0, x1, x2, x3⟩ := BX.out
  go_wp2
  go_ret
  exact ⟨rfl, Z.out⟩
set_option maxRecDepth 100000 in
theorem rgo_6 (W D J S op o p q v x y s : Int) (A : Option Addr) (n c : Nat) (w : World) (h0 : may W D J S = true) (h1 : ((n : Int) == sz W D J S) = true) (h2 : (s != 0) = false) (h3 : (o == op) = true) (h4 : decide (0 ≤ p) = true) (h5 : decide (p ≤ 4) = true) : Tells 61 #[cf W D J S, .slice A n c, fv ⟨o, p, q, v, x, y, s⟩, .int .i64 op] w (.bool true) := by
  obtain ⟨BX0, BF0, Z0, hz⟩ := boxes2 w W D J S ⟨o, p, q, v, x, y, s⟩
  have HM := Lib.hid h0
  have HV := Lib.hid h2
  clear h0 h2
  go_enter Try.func61, Try.ntmps61
  go_wp2_with fail
  change Calls _ _ _ (bxc w W D J S ⟨o, p, q, v, x, y, s⟩) _
  generalize bxc w W D J S ⟨o, p, q, v, x, y, s⟩ = w0 at BX0 BF0 Z0 hz ⊢
  refine (Tells.of (rmay_any W D J S _) (v' := .bool true) (by rw [HM.out])).mono ?_
  rintro _ w1 ⟨rfl, z⟩
  have BX := Lib.hid (BX0.below z)
  have BF := Lib.hid (BF0.after z)
  have Z := Lib.hid (Z0.trans (z.mono (by omega)))
  clear z BX0 BF0 Z0 hz
  obtain ⟨a0, a1, a2, a3, a4, a5, a6⟩ := BF.out.cells
  have la := BF.out.lt
  go_wp2_with fail
  refine (Tells.of (rover_any ⟨o, p, q, v, x, y, s⟩ _) (v' := .bool false) (by rw [← HV.out])).mono ?_
  rintro _ w2 ⟨rfl, z⟩
  clear a0 a1 a2 a3 a4 a5 a6 la
  replace BX := Lib.hid (BX.out.below z)
  replace BF := Lib.hid (BF.out.after z)
  replace Z := Lib.hid (Z.out.trans (z.mono Z.out.size))
  clear z
  obtain ⟨a0, a1, a2, a3, a4, a5, a6⟩ := BF.out.cells
  have la := BF.out.lt
  obtain ⟨gx, x0, x1, x2, x3⟩ := BX.out
  go_wp2_with fail
  refine (rsize_any W D J S _).mono ?_
  rintro _ w3 ⟨rfl, z⟩
  clear a0 a1 a2 a3 a4 a5 a6 la gx x0 x1 x2 x3
  replace BX := Lib.hid (BX.out.below z)
  replace BF := Lib.hid (BF.out.after z)
  replace Z := Lib.hid (Z.out.trans (z.mono Z.out.size))
  clear z
  obtain ⟨a0, a1, a2, a3, a4, a5, a6⟩ := BF.out.cells
  have la := BF.out.lt
  obtain ⟨gx, x0, x1, x2, x3⟩ := BX.out
  go_wp2
  go_ret
  exact ⟨rfl, Z.out⟩
set_option maxRecDepth 100000 in
theorem rgo_any (W D J S op : Int) (A : Option Addr) (n c : Nat) (m : List Int) (f : Fr) (w : World) (hn : m.length = n) : Tells 61 #[cf W D J S, .slice A n c, fv f, .int .i64 op] w (.bool (goesE W D J S m f op)) := by
  obtain ⟨o, p, q, v, x, y, s⟩ := f
  unfold goesE okm
  simp only [hn]
  have e1 : decide ((n : Int) = sz W D J S) = ((n : Int) == sz W D J S) := Bool.eq_iff_iff.2 (by simp)
  have e2 : decide (s = 0) = !(s != 0) := Bool.eq_iff_iff.2 (by simp)
  have e5 : decide (o = op) = (o == op) := Bool.eq_iff_iff.2 (by simp)
  rw [e1, e2, e5]
  cases h0 : may W D J S
  · simpa using rgo_0 W D J S op o p q v x y s A n c w h0
  cases h1 : ((n : Int) == sz W D J S)
  · simpa using rgo_1 W D J S op o p q v x y s A n c w h0 h1
  rcases Bool.eq_false_or_eq_true (s != 0) with h2 | h2
  · rw [h2]
    simpa using rgo_2 W D J S op o p q v x y s A n c w h0 h1 h2
  rw [h2]
  cases h3 : (o == op)
  · simpa using rgo_3 W D J S op o p q v x y s A n c w h0 h1 h2 h3
  cases h4 : decide (0 ≤ p)
  · simpa using rgo_4 W D J S op o p q v x y s A n c w h0 h1 h2 h3 h4
  cases h5 : decide (p ≤ 4)
  · simpa using rgo_5 W D J S op o p q v x y s A n c w h0 h1 h2 h3 h4 h5
  · simpa using rgo_6 W D J S op o p q v x y s A n c w h0 h1 h2 h3 h4 h5
set_option maxHeartbeats 2000000 in
set_option maxRecDepth 100000 in
theorem rst_leave (W D J S : Int) (A : Option Addr) (n c : Nat) (l : List Int) (o p q v x y s : Int) (w : World) (h : Rd w A l) (hn : l.length = n) (hs : n ≤ 500) (hg : goesE W D J S l ⟨o, p, q, v, x, y, s⟩ 3 = false) :
    Calls Try.prog 30 #[cf W D J S, .slice A n c, fv ⟨o, p, q, v, x, y, s⟩] w (RetU w A l n l ⟨o, p, q, v, x, y, s⟩) := by
  obtain ⟨BX0, BF0, B00, Z0, hz⟩ := boxes3 w W D J S ⟨o, p, q, v, x, y, s⟩
  have H := Lib.hid h; clear h
  have HN := Lib.hid hn; clear hn
  have HS := Lib.hid hs; clear hs
  have HG := Lib.hid hg; clear hg
  go_enter Try.func30, Try.ntmps30
  go_wp2_with fail
  change Calls _ _ _ (bx3 w W D J S ⟨o, p, q, v, x, y, s⟩) _
  generalize bx3 w W D J S ⟨o, p, q, v, x, y, s⟩ = w0 at BX0 BF0 B00 Z0 hz ⊢
  refine (Tells.of (rgo_any W D J S 3 A n c l ⟨o, p, q, v, x, y, s⟩ _ HN.out) (v' := .bool false) (by rw [HG.out])).mono ?_
  rintro _ w1 ⟨rfl, z⟩
  have BX := Lib.hid (BX0.below z)
  have BF := Lib.hid (BF0.after z)
  have B0 := Lib.hid (B00.after z)
  have hh2 : w.heap.size + 1 + 1 < w1.heap.size := by have := z.size; omega
  have Z := Lib.hid (Z0.trans (z.mono (by omega)))
  clear z BX0 BF0 B00 Z0 hz
  have hl2 : w.heap.size ≤ w.heap.size + 1 + 1 := by omega
  obtain ⟨a0, a1, a2, a3, a4, a5, a6⟩ := BF.out.cells
  have la := BF.out.lt
  obtain ⟨gx, x0, x1, x2, x3⟩ := BX.out
  simp only at a0 a1 a2 a3 a4 a5 a6
  obtain ⟨d0, d1, d2, d3, d4, d5, d6⟩ := B0.out.cells
  have ld := B0.out.lt
  have fz := B0.out.free
  go_wp2_with fail
  go_region
  all_goals
    go_wp2
    change bodyPost _ _ _ _ _ (pf w1 (w.heap.size + 1 + 1) ⟨o, p, q, v, x, y, s⟩).drew
    refine bodyPost_ret (results_fr Try.results30 _ rfl ((B0.out.pf _).drew)) rfl ?_
    exact ⟨A, c, rfl, .inl ⟨rfl, rfl⟩, (below_pf Z.out hl2 _).drew⟩
set_option maxHeartbeats 2000000 in
set_option maxRecDepth 100000 in
theorem rst_0 (W D J S : Int) (A : Option Addr) (n c : Nat) (l : List Int) (q v x y : Int) (w : World) (h : Rd w A l) (hn : l.length = n) (hs : n ≤ 500) (hg : goesE W D J S l ⟨3, 0, q, v, x, y, 0⟩ 3 = true) (hJ : 1 ≤ J ∧ J ≤ 16) (hx : U x) :
    Calls Try.prog 30 #[cf W D J S, .slice A n c, fv ⟨3, 0, q, v, x, y, 0⟩] w (RetU w A l n l ⟨3, 1, q, v, at0 l 5, y, 0⟩) := by
  have e1 : IntKind.u64.wrap J = J := by rw [IntKind.wrap_u64]; omega
  have e2 : x.tdiv J = x / J := Int.tdiv_eq_ediv_of_nonneg hx.1
  have e3 : 0 ≤ x / J := Int.ediv_nonneg hx.1 (by omega)
  have e4 : x / J ≤ x := Int.ediv_le_self _ hx.1
  have e5 : IntKind.u64.wrap (x / J) = x / J := by have := hx.2; rw [IntKind.wrap_u64]; omega
  have e6 : IntKind.u64.wrap (2 * (x / J)) = tw J x % 18446744073709551616 := by unfold tw; rw [IntKind.wrap_u64]
  have e7 : ¬ J = 0 := by omega
  have HX := Lib.hid hx
  clear hx e3 e4
  obtain ⟨T, hT⟩ : ∃ T, T = tw J x % 18446744073709551616 := ⟨_, rfl⟩
  rw [← hT] at e6
  have HT := Lib.hid hT
  clear hT
  generalize x / J = r at e2 e5 e6
  obtain ⟨BX0, BF0, B00, Z0, hz⟩ := boxes3 w W D J S ⟨3, 0, q, v, x, y, 0⟩
  have H := Lib.hid h; clear h
  have HN := Lib.hid hn; clear hn
  have HS := Lib.hid hs; clear hs
  have HG := Lib.hid hg; clear hg
  go_enter Try.func30, Try.ntmps30
  go_wp2_with fail
  change Calls _ _ _ (bx3 w W D J S ⟨3, 0, q, v, x, y, 0⟩) _
  generalize bx3 w W D J S ⟨3, 0, q, v, x, y, 0⟩ = w0 at BX0 BF0 B00 Z0 hz ⊢
  refine (Tells.of (rgo_any W D J S 3 A n c l ⟨3, 0, q, v, x, y, 0⟩ _ HN.out) (v' := .bool true) (by rw [HG.out])).mono ?_
  rintro _ w1 ⟨rfl, z⟩
  have BX := Lib.hid (BX0.below z)
  have BF := Lib.hid (BF0.after z)
  have B0 := Lib.hid (B00.after z)
  have hh2 : w.heap.size + 1 + 1 < w1.heap.size := by have := z.size; omega
  have Z := Lib.hid (Z0.trans (z.mono (by omega)))
  clear z BX0 BF0 B00 Z0 hz
  have hl2 : w.heap.size ≤ w.heap.size + 1 + 1 := by omega
  obtain ⟨a0, a1, a2, a3, a4, a5, a6⟩ := BF.out.cells
  have la := BF.out.lt
  obtain ⟨gx, x0, x1, x2, x3⟩ := BX.out
  simp only at a0 a1 a2 a3 a4 a5 a6
  go_wp2_with fail
  refine (rload_any A n c l 5 _ (H.out.below Z.out) HN.out).mono ?_
  rintro _ w2 ⟨rfl, z⟩
  clear a0 a1 a2 a3 a4 a5 a6 la gx x0 x1 x2 x3
  replace BX := Lib.hid (BX.out.below z)
  replace BF := Lib.hid (BF.out.after z)
  replace B0 := Lib.hid (B0.out.after z)
  replace Z := Lib.hid (Z.out.trans (z.mono Z.out.size))
  clear z
  obtain ⟨a0, a1, a2, a3, a4, a5, a6⟩ := BF.out.cells
  have la := BF.out.lt
  obtain ⟨gx, x0, x1, x2, x3⟩ := BX.out
  simp only at a0 a1 a2 a3 a4 a5 a6
  have fz := BF.out.free
  have BQ : Hid (Bf ((w2.setCell ⟨w.heap.size + 1, 4, none⟩ (.int .u64 (at0 l 5))).setCell ⟨w.heap.size + 1, 1, none⟩ (.int .i64 1)) (w.heap.size + 1) ⟨3, 1, q, v, at0 l 5, y, 0⟩) := Lib.hid ((BF.out.setX _).setPc _)
  have B0Q : Hid (Bf ((w2.setCell ⟨w.heap.size + 1, 4, none⟩ (.int .u64 (at0 l 5))).setCell ⟨w.heap.size + 1, 1, none⟩ (.int .i64 1)) (w.heap.size + 1 + 1) f0) := Lib.hid ((B0.out.other (by simp) _).other (by simp) _)
  have BXQ : Hid (Bx ((w2.setCell ⟨w.heap.size + 1, 4, none⟩ (.int .u64 (at0 l 5))).setCell ⟨w.heap.size + 1, 1, none⟩ (.int .i64 1)) w.heap.size W D J S) := Lib.hid ((BX.out.other (by simp) _).other (by simp) _)
  have ZQ : Hid (Below w.heap.size w ((w2.setCell ⟨w.heap.size + 1, 4, none⟩ (.int .u64 (at0 l 5))).setCell ⟨w.heap.size + 1, 1, none⟩ (.int .i64 1))) := Lib.hid ((Z.out.setCell (p := ⟨w.heap.size + 1, 4, none⟩) (by simp) _).setCell (p := ⟨w.heap.size + 1, 1, none⟩) (by simp) _)
  go_upto_region 9 with fail
  change Code.wp _ _ _ _ ((w2.setCell ⟨w.heap.size + 1, 4, none⟩ (.int .u64 (at0 l 5))).setCell ⟨w.heap.size + 1, 1, none⟩ (.int .i64 1))
  generalize (w2.setCell ⟨w.heap.size + 1, 4, none⟩ (.int .u64 (at0 l 5))).setCell ⟨w.heap.size + 1, 1, none⟩ (.int .i64 1) = w3 at BQ B0Q BXQ ZQ ⊢
  clear a0 a1 a2 a3 a4 a5 a6 la gx x0 x1 x2 x3 fz
  clear BF B0 BX Z
  have BF := BQ
  have B0 := B0Q
  have BX := BXQ
  have Z := ZQ
  clear BQ B0Q BXQ ZQ
  obtain ⟨a0, a1, a2, a3, a4, a5, a6⟩ := BF.out.cells
  have la := BF.out.lt
  obtain ⟨gx, x0, x1, x2, x3⟩ := BX.out
  simp only at a0 a1 a2 a3 a4 a5 a6
  obtain ⟨d0, d1, d2, d3, d4, d5, d6⟩ := B0.out.cells
  have ld := B0.out.lt
  have fz := B0.out.free
  go_region
  all_goals
    go_wp2
    change bodyPost _ _ _ _ _ (pf w3 (w.heap.size + 1 + 1) ⟨3, 1, q, v, at0 l 5, y, 0⟩).drew
    refine bodyPost_ret (results_fr Try.results30 _ rfl ((B0.out.pf _).drew)) rfl ?_
    exact ⟨A, c, rfl, .inl ⟨rfl, rfl⟩, (below_pf Z.out hl2 _).drew⟩
set_option maxHeartbeats 2000000 in
set_option maxRecDepth 100000 in
theorem rst_1y (W D J S : Int) (A : Option Addr) (n c : Nat) (l : List Int) (q v x y : Int) (w : World) (h : Rd w A l) (hn : l.length = n) (hs : n ≤ 500) (hg : goesE W D J S l ⟨3, 1, q, v, x, y, 0⟩ 3 = true) (hJ : 1 ≤ J ∧ J ≤ 16) (hx : U x) (Y : Int) (hY : at0 l (sq W D J S x) = Y) (h1 : (Y == tw J x % 18446744073709551616) = true) :
    Calls Try.prog 30 #[cf W D J S, .slice A n c, fv ⟨3, 1, q, v, x, y, 0⟩] w (RetU w A l n l ⟨3, 2, q, v, x, Y, 0⟩) := by
  have e1 : IntKind.u64.wrap J = J := by rw [IntKind.wrap_u64]; omega
  have e2 : x.tdiv J = x / J := Int.tdiv_eq_ediv_of_nonneg hx.1
  have e3 : 0 ≤ x / J := Int.ediv_nonneg hx.1 (by omega)
  have e4 : x / J ≤ x := Int.ediv_le_self _ hx.1
  have e5 : IntKind.u64.wrap (x / J) = x / J := by have := hx.2; rw [IntKind.wrap_u64]; omega
  have e6 : IntKind.u64.wrap (2 * (x / J)) = tw J x % 18446744073709551616 := by unfold tw; rw [IntKind.wrap_u64]
  have e7 : ¬ J = 0 := by omega
  have HX := Lib.hid hx
  clear hx e3 e4
  obtain ⟨T, hT⟩ : ∃ T, T = tw J x % 18446744073709551616 := ⟨_, rfl⟩
  rw [← hT] at e6 h1
  have HUT := Lib.hid (show U T by rw [hT]; exact mod_U _)
  have HT := Lib.hid hT
  have HY := Lib.hid hY
  clear hT hY
  generalize x / J = r at e2 e5 e6
  obtain ⟨BX0, BF0, B00, Z0, hz⟩ := boxes3 w W D J S ⟨3, 1, q, v, x, y, 0⟩
  have H := Lib.hid h; clear h
  have HN := Lib.hid hn; clear hn
  have HS := Lib.hid hs; clear hs
  have HG := Lib.hid hg; clear hg
  go_enter Try.func30, Try.ntmps30
  go_wp2_with fail
  change Calls _ _ _ (bx3 w W D J S ⟨3, 1, q, v, x, y, 0⟩) _
  generalize bx3 w W D J S ⟨3, 1, q, v, x, y, 0⟩ = w0 at BX0 BF0 B00 Z0 hz ⊢
  refine (Tells.of (rgo_any W D J S 3 A n c l ⟨3, 1, q, v, x, y, 0⟩ _ HN.out) (v' := .bool true) (by rw [HG.out])).mono ?_
  rintro _ w1 ⟨rfl, z⟩
  have BX := Lib.hid (BX0.below z)
  have BF := Lib.hid (BF0.after z)
  have B0 := Lib.hid (B00.after z)
  have hh2 : w.heap.size + 1 + 1 < w1.heap.size := by have := z.size; omega
  have Z := Lib.hid (Z0.trans (z.mono (by omega)))
  clear z BX0 BF0 B00 Z0 hz
  have hl2 : w.heap.size ≤ w.heap.size + 1 + 1 := by omega
  obtain ⟨a0, a1, a2, a3, a4, a5, a6⟩ := BF.out.cells
  have la := BF.out.lt
  obtain ⟨gx, x0, x1, x2, x3⟩ := BX.out
  simp only at a0 a1 a2 a3 a4 a5 a6
  go_wp2_with fail
  refine (rseq_any W D J S x _ HX.out).mono ?_
  rintro _ w2 ⟨rfl, z⟩
  clear a0 a1 a2 a3 a4 a5 a6 la gx x0 x1 x2 x3
  replace BX := Lib.hid (BX.out.below z)
  replace BF := Lib.hid (BF.out.after z)
  replace B0 := Lib.hid (B0.out.after z)
  replace Z := Lib.hid (Z.out.trans (z.mono Z.out.size))
  clear z
  obtain ⟨a0, a1, a2, a3, a4, a5, a6⟩ := BF.out.cells
  have la := BF.out.lt
  obtain ⟨gx, x0, x1, x2, x3⟩ := BX.out
  simp only at a0 a1 a2 a3 a4 a5 a6
  go_wp2_with fail
  refine (ret_of (rload_any A n c l _ _ (H.out.below Z.out) HN.out) (v' := .int .u64 Y) (by rw [HY.out])).mono ?_
  rintro _ w3 ⟨rfl, z⟩
  clear a0 a1 a2 a3 a4 a5 a6 la gx x0 x1 x2 x3
  replace BX := Lib.hid (BX.out.below z)
  replace BF := Lib.hid (BF.out.after z)
  replace B0 := Lib.hid (B0.out.after z)
  replace Z := Lib.hid (Z.out.trans (z.mono Z.out.size))
  clear z
  obtain ⟨a0, a1, a2, a3, a4, a5, a6⟩ := BF.out.cells
  have la := BF.out.lt
  obtain ⟨gx, x0, x1, x2, x3⟩ := BX.out
  simp only at a0 a1 a2 a3 a4 a5 a6
  have fz := BF.out.free
  have BQ : Hid (Bf (w3.setCell ⟨w.heap.size + 1, 5, none⟩ (.int .u64 Y)) (w.heap.size + 1) ⟨3, 1, q, v, x, Y, 0⟩) := Lib.hid (BF.out.setY _)
  have B0Q : Hid (Bf (w3.setCell ⟨w.heap.size + 1, 5, none⟩ (.int .u64 Y)) (w.heap.size + 1 + 1) f0) := Lib.hid (B0.out.other (by simp) _)
  have BXQ : Hid (Bx (w3.setCell ⟨w.heap.size + 1, 5, none⟩ (.int .u64 Y)) w.heap.size W D J S) := Lib.hid (BX.out.other (by simp) _)
  have ZQ : Hid (Below w.heap.size w (w3.setCell ⟨w.heap.size + 1, 5, none⟩ (.int .u64 Y))) := Lib.hid (Z.out.setCell (p := ⟨w.heap.size + 1, 5, none⟩) (by simp) _)
  go_upto_region 12 with fail
  change Code.wp _ _ _ _ (w3.setCell ⟨w.heap.size + 1, 5, none⟩ (.int .u64 Y))
  generalize w3.setCell ⟨w.heap.size + 1, 5, none⟩ (.int .u64 Y) = w4 at BQ B0Q BXQ ZQ ⊢
  clear a0 a1 a2 a3 a4 a5 a6 la gx x0 x1 x2 x3 fz
  clear BF B0 BX Z
  have BF := BQ
  have B0 := B0Q
  have BX := BXQ
  have Z := ZQ
  clear BQ B0Q BXQ ZQ
  obtain ⟨a0, a1, a2, a3, a4, a5, a6⟩ := BF.out.cells
  have la := BF.out.lt
  obtain ⟨gx, x0, x1, x2, x3⟩ := BX.out
  simp only at a0 a1 a2 a3 a4 a5 a6
  have fz := BF.out.free
  have BQ : Hid (Bf (w4.setCell ⟨w.heap.size + 1, 1, none⟩ (.int .i64 2)) (w.heap.size + 1) ⟨3, 2, q, v, x, Y, 0⟩) := Lib.hid (BF.out.setPc _)
  have B0Q : Hid (Bf (w4.setCell ⟨w.heap.size + 1, 1, none⟩ (.int .i64 2)) (w.heap.size + 1 + 1) f0) := Lib.hid (B0.out.other (by simp) _)
  have BXQ : Hid (Bx (w4.setCell ⟨w.heap.size + 1, 1, none⟩ (.int .i64 2)) w.heap.size W D J S) := Lib.hid (BX.out.other (by simp) _)
  have ZQ : Hid (Below w.heap.size w (w4.setCell ⟨w.heap.size + 1, 1, none⟩ (.int .i64 2))) := Lib.hid (Z.out.setCell (p := ⟨w.heap.size + 1, 1, none⟩) (by simp) _)
  go_upto_region 14 with fail
  change Code.wp _ _ _ _ (w4.setCell ⟨w.heap.size + 1, 1, none⟩ (.int .i64 2))
  generalize w4.setCell ⟨w.heap.size + 1, 1, none⟩ (.int .i64 2) = w5 at BQ B0Q BXQ ZQ ⊢
  clear a0 a1 a2 a3 a4 a5 a6 la gx x0 x1 x2 x3 fz
  clear BF B0 BX Z
  have BF := BQ
  have B0 := B0Q
  have BX := BXQ
  have Z := ZQ
  clear BQ B0Q BXQ ZQ
  obtain ⟨a0, a1, a2, a3, a4, a5, a6⟩ := BF.out.cells
  have la := BF.out.lt
  obtain ⟨gx, x0, x1, x2, x3⟩ := BX.out
  simp only at a0 a1 a2 a3 a4 a5 a6
  obtain ⟨d0, d1, d2, d3, d4, d5, d6⟩ := B0.out.cells
  have ld := B0.out.lt
  have fz := B0.out.free
  go_region
  all_goals
    go_wp2
    change bodyPost _ _ _ _ _ (pf w5 (w.heap.size + 1 + 1) ⟨3, 2, q, v, x, Y, 0⟩).drew
    refine bodyPost_ret (results_fr Try.results30 _ rfl ((B0.out.pf _).drew)) rfl ?_
    exact ⟨A, c, rfl, .inl ⟨rfl, rfl⟩, (below_pf Z.out hl2 _).drew⟩
set_option maxHeartbeats 2000000 in
set_option maxRecDepth 100000 in
theorem rst_1f (W D J S : Int) (A : Option Addr) (n c : Nat) (l : List Int) (q v x y : Int) (w : World) (h : Rd w A l) (hn : l.length = n) (hs : n ≤ 500) (hg : goesE W D J S l ⟨3, 1, q, v, x, y, 0⟩ 3 = true) (hJ : 1 ≤ J ∧ J ≤ 16) (hx : U x) (Y : Int) (hY : at0 l (sq W D J S x) = Y) (h1 : (Y == tw J x % 18446744073709551616) = false) (h2 : decide (far Y (tw J x % 18446744073709551616) < 0) = true) (hu : U Y) :
    Calls Try.prog 30 #[cf W D J S, .slice A n c, fv ⟨3, 1, q, v, x, y, 0⟩] w (RetU w A l n l ⟨3, 0, q, v, 0, 0, 2⟩) := by
  have e1 : IntKind.u64.wrap J = J := by rw [IntKind.wrap_u64]; omega
  have e2 : x.tdiv J = x / J := Int.tdiv_eq_ediv_of_nonneg hx.1
  have e3 : 0 ≤ x / J := Int.ediv_nonneg hx.1 (by omega)
  have e4 : x / J ≤ x := Int.ediv_le_self _ hx.1
  have e5 : IntKind.u64.wrap (x / J) = x / J := by have := hx.2; rw [IntKind.wrap_u64]; omega
  have e6 : IntKind.u64.wrap (2 * (x / J)) = tw J x % 18446744073709551616 := by unfold tw; rw [IntKind.wrap_u64]
  have e7 : ¬ J = 0 := by omega
  have HX := Lib.hid hx
  clear hx e3 e4
  obtain ⟨T, hT⟩ : ∃ T, T = tw J x % 18446744073709551616 := ⟨_, rfl⟩
  rw [← hT] at e6 h1 h2
  have HUT := Lib.hid (show U T by rw [hT]; exact mod_U _)
  have HT := Lib.hid hT
  have HY := Lib.hid hY
  clear hT hY
  have HUY := Lib.hid hu
  clear hu
  generalize x / J = r at e2 e5 e6
  obtain ⟨BX0, BF0, B00, Z0, hz⟩ := boxes3 w W D J S ⟨3, 1, q, v, x, y, 0⟩
  have H := Lib.hid h; clear h
  have HN := Lib.hid hn; clear hn
  have HS := Lib.hid hs; clear hs
  have HG := Lib.hid hg; clear hg
  go_enter Try.func30, Try.ntmps30
  go_wp2_with fail
  change Calls _ _ _ (bx3 w W D J S ⟨3, 1, q, v, x, y, 0⟩) _
  generalize bx3 w W D J S ⟨3, 1, q, v, x, y, 0⟩ = w0 at BX0 BF0 B00 Z0 hz ⊢
  refine (Tells.of (rgo_any W D J S 3 A n c l ⟨3, 1, q, v, x, y, 0⟩ _ HN.out) (v' := .bool true) (by rw [HG.out])).mono ?_
  rintro _ w1 ⟨rfl, z⟩
  have BX := Lib.hid (BX0.below z)
  have BF := Lib.hid (BF0.after z)
  have B0 := Lib.hid (B00.after z)
  have hh2 : w.heap.size + 1 + 1 < w1.heap.size := by have := z.size; omega
  have Z := Lib.hid (Z0.trans (z.mono (by omega)))
  clear z BX0 BF0 B00 Z0 hz
  have hl2 : w.heap.size ≤ w.heap.size + 1 + 1 := by omega
  obtain ⟨a0, a1, a2, a3, a4, a5, a6⟩ := BF.out.cells
  have la := BF.out.lt
  obtain ⟨gx, x0, x1, x2, x3⟩ := BX.out
  simp only at a0 a1 a2 a3 a4 a5 a6
  go_wp2_with fail
  refine (rseq_any W D J S x _ HX.out).mono ?_
  rintro _ w2 ⟨rfl, z⟩
  clear a0 a1 a2 a3 a4 a5 a6 la gx x0 x1 x2 x3
  replace BX := Lib.hid (BX.out.below z)
  replace BF := Lib.hid (BF.out.after z)
  replace B0 := Lib.hid (B0.out.after z)
  replace Z := Lib.hid (Z.out.trans (z.mono Z.out.size))
  clear z
  obtain ⟨a0, a1, a2, a3, a4, a5, a6⟩ := BF.out.cells
  have la := BF.out.lt
  obtain ⟨gx, x0, x1, x2, x3⟩ := BX.out
  simp only at a0 a1 a2 a3 a4 a5 a6
  go_wp2_with fail
  refine (ret_of (rload_any A n c l _ _ (H.out.below Z.out) HN.out) (v' := .int .u64 Y) (by rw [HY.out])).mono ?_
  rintro _ w3 ⟨rfl, z⟩
  clear a0 a1 a2 a3 a4 a5 a6 la gx x0 x1 x2 x3
  replace BX := Lib.hid (BX.out.below z)
  replace BF := Lib.hid (BF.out.after z)
  replace B0 := Lib.hid (B0.out.after z)
  replace Z := Lib.hid (Z.out.trans (z.mono Z.out.size))
  clear z
  obtain ⟨a0, a1, a2, a3, a4, a5, a6⟩ := BF.out.cells
  have la := BF.out.lt
  obtain ⟨gx, x0, x1, x2, x3⟩ := BX.out
  simp only at a0 a1 a2 a3 a4 a5 a6
  have fz := BF.out.free
  have BQ : Hid (Bf (w3.setCell ⟨w.heap.size + 1, 5, none⟩ (.int .u64 Y)) (w.heap.size + 1) ⟨3, 1, q, v, x, Y, 0⟩) := Lib.hid (BF.out.setY _)
  have B0Q : Hid (Bf (w3.setCell ⟨w.heap.size + 1, 5, none⟩ (.int .u64 Y)) (w.heap.size + 1 + 1) f0) := Lib.hid (B0.out.other (by simp) _)
  have BXQ : Hid (Bx (w3.setCell ⟨w.heap.size + 1, 5, none⟩ (.int .u64 Y)) w.heap.size W D J S) := Lib.hid (BX.out.other (by simp) _)
  have ZQ : Hid (Below w.heap.size w (w3.setCell ⟨w.heap.size + 1, 5, none⟩ (.int .u64 Y))) := Lib.hid (Z.out.setCell (p := ⟨w.heap.size + 1, 5, none⟩) (by simp) _)
  go_upto_region 12 with fail
  change Code.wp _ _ _ _ (w3.setCell ⟨w.heap.size + 1, 5, none⟩ (.int .u64 Y))
  generalize w3.setCell ⟨w.heap.size + 1, 5, none⟩ (.int .u64 Y) = w4 at BQ B0Q BXQ ZQ ⊢
  clear a0 a1 a2 a3 a4 a5 a6 la gx x0 x1 x2 x3 fz
  clear BF B0 BX Z
  have BF := BQ
  have B0 := B0Q
  have BX := BXQ
  have Z := ZQ
  clear BQ B0Q BXQ ZQ
  obtain ⟨a0, a1, a2, a3, a4, a5, a6⟩ := BF.out.cells
  have la := BF.out.lt
  obtain ⟨gx, x0, x1, x2, x3⟩ := BX.out
  simp only at a0 a1 a2 a3 a4 a5 a6
  have fz := BF.out.free
  go_wp2_with fail
  refine ((rfar_any _ _ _ HUY.out HUT.out).tells).mono ?_
  rintro _ w5 ⟨rfl, z⟩
  clear a0 a1 a2 a3 a4 a5 a6 la gx x0 x1 x2 x3 fz
  replace BX := Lib.hid (BX.out.below z)
  replace BF := Lib.hid (BF.out.after z)
  replace B0 := Lib.hid (B0.out.after z)
  replace Z := Lib.hid (Z.out.trans (z.mono Z.out.size))
  clear z
  obtain ⟨a0, a1, a2, a3, a4, a5, a6⟩ := BF.out.cells
  have la := BF.out.lt
  obtain ⟨gx, x0, x1, x2, x3⟩ := BX.out
  simp only at a0 a1 a2 a3 a4 a5 a6
  have fz := BF.out.free
  go_wp2_with fail
  refine (rend_any ⟨3, 1, q, v, x, Y, 0⟩ 2 v _).mono ?_
  rintro _ w6 ⟨rfl, z⟩
  clear a0 a1 a2 a3 a4 a5 a6 la gx x0 x1 x2 x3 fz
  replace BX := Lib.hid (BX.out.below z)
  replace BF := Lib.hid (BF.out.after z)
  replace B0 := Lib.hid (B0.out.after z)
  replace Z := Lib.hid (Z.out.trans (z.mono Z.out.size))
  clear z
  obtain ⟨a0, a1, a2, a3, a4, a5, a6⟩ := BF.out.cells
  have la := BF.out.lt
  obtain ⟨gx, x0, x1, x2, x3⟩ := BX.out
  simp only at a0 a1 a2 a3 a4 a5 a6
  obtain ⟨d0, d1, d2, d3, d4, d5, d6⟩ := B0.out.cells
  have ld := B0.out.lt
  have fz := B0.out.free
  go_wp2
  change bodyPost _ _ _ _ _ (pf w6 (w.heap.size + 1 + 1) ⟨3, 0, q, v, 0, 0, 2⟩)
  refine bodyPost_ret (results_fr Try.results30 _ rfl (B0.out.pf _)) rfl ?_
  exact ⟨A, c, rfl, .inl ⟨rfl, rfl⟩, below_pf Z.out hl2 _⟩
set_option maxHeartbeats 2000000 in
set_option maxRecDepth 100000 in
theorem rst_1r (W D J S : Int) (A : Option Addr) (n c : Nat) (l : List Int) (q v x y : Int) (w : World) (h : Rd w A l) (hn : l.length = n) (hs : n ≤ 500) (hg : goesE W D J S l ⟨3, 1, q, v, x, y, 0⟩ 3 = true) (hJ : 1 ≤ J ∧ J ≤ 16) (hx : U x) (Y : Int) (hY : at0 l (sq W D J S x) = Y) (h1 : (Y == tw J x % 18446744073709551616) = false) (h2 : decide (far Y (tw J x % 18446744073709551616) < 0) = false) (hu : U Y) :
    Calls Try.prog 30 #[cf W D J S, .slice A n c, fv ⟨3, 1, q, v, x, y, 0⟩] w (RetU w A l n l ⟨3, 0, q, v, x, Y, 0⟩) := by
  have e1 : IntKind.u64.wrap J = J := by rw [IntKind.wrap_u64]; omega
  have e2 : x.tdiv J = x / J := Int.tdiv_eq_ediv_of_nonneg hx.1
  have e3 : 0 ≤ x / J := Int.ediv_nonneg hx.1 (by omega)
  have e4 : x / J ≤ x := Int.ediv_le_self _ hx.1
  have e5 : IntKind.u64.wrap (x / J) = x / J := by have := hx.2; rw [IntKind.wrap_u64]; omega
  have e6 : IntKind.u64.wrap (2 * (x / J)) = tw J x % 18446744073709551616 := by unfold tw; rw [IntKind.wrap_u64]
  have e7 : ¬ J = 0 := by omega
  have HX := Lib.hid hx
  clear hx e3 e4
  obtain ⟨T, hT⟩ : ∃ T, T = tw J x % 18446744073709551616 := ⟨_, rfl⟩
  rw [← hT] at e6 h1 h2
  have HUT := Lib.hid (show U T by rw [hT]; exact mod_U _)
  have HT := Lib.hid hT
  have HY := Lib.hid hY
  clear hT hY
  have HUY := Lib.hid hu
  clear hu
  generalize x / J = r at e2 e5 e6
  obtain ⟨BX0, BF0, B00, Z0, hz⟩ := boxes3 w W D J S ⟨3, 1, q, v, x, y, 0⟩
  have H := Lib.hid h; clear h
  have HN := Lib.hid hn; clear hn
  have HS := Lib.hid hs; clear hs
  have HG := Lib.hid hg; clear hg
  go_enter Try.func30, Try.ntmps30
  go_wp2_with fail
  change Calls _ _ _ (bx3 w W D J S ⟨3, 1, q, v, x, y, 0⟩) _
  generalize bx3 w W D J S ⟨3, 1, q, v, x, y, 0⟩ = w0 at BX0 BF0 B00 Z0 hz ⊢
  refine (Tells.of (rgo_any W D J S 3 A n c l ⟨3, 1, q, v, x, y, 0⟩ _ HN.out) (v' := .bool true) (by rw [HG.out])).mono ?_
  rintro _ w1 ⟨rfl, z⟩
  have BX := Lib.hid (BX0.below z)
  have BF := Lib.hid (BF0.after z)
  have B0 := Lib.hid (B00.after z)
  have hh2 : w.heap.size + 1 + 1 < w1.heap.size := by have := z.size; omega
  have Z := Lib.hid (Z0.trans (z.mono (by omega)))
  clear z BX0 BF0 B00 Z0 hz
  have hl2 : w.heap.size ≤ w.heap.size + 1 + 1 := by omega
  obtain ⟨a0, a1, a2, a3, a4, a5, a6⟩ := BF.out.cells
  have la := BF.out.lt
  obtain ⟨gx, x0, x1, x2, x3⟩ := BX.out
  simp only at a0 a1 a2 a3 a4 a5 a6
  go_wp2_with fail
  refine (rseq_any W D J S x _ HX.out).mono ?_
  rintro _ w2 ⟨rfl, z⟩
  clear a0 a1 a2 a3 a4 a5 a6 la gx x0 x1 x2 x3
  replace BX := Lib.hid (BX.out.below z)
  replace BF := Lib.hid (BF.out.after z)
  replace B0 := Lib.hid (B0.out.after z)
  replace Z := Lib.hid (Z.out.trans (z.mono Z.out.size))
  clear z
  obtain ⟨a0, a1, a2, a3, a4, a5, a6⟩ := BF.out.cells
  have la := BF.out.lt
  obtain ⟨gx, x0, x1, x2, x3⟩ := BX.out
  simp only at a0 a1 a2 a3 a4 a5 a6
  go_wp2_with fail
  refine (ret_of (rload_any A n c l _ _ (H.out.below Z.out) HN.out) (v' := .int .u64 Y) (by rw [HY.out])).mono ?_
  rintro _ w3 ⟨rfl, z⟩
  clear a0 a1 a2 a3 a4 a5 a6 la gx x0 x1 x2 x3
  replace BX := Lib.hid (BX.out.below z)
  replace BF := Lib.hid (BF.out.after z)
  replace B0 := Lib.hid (B0.out.after z)
  replace Z := Lib.hid (Z.out.trans (z.mono Z.out.size))
  clear z
  obtain ⟨a0, a1, a2, a3, a4, a5, a6⟩ := BF.out.cells
  have la := BF.out.lt
  obtain ⟨gx, x0, x1, x2, x3⟩ := BX.out
  simp only at a0 a1 a2 a3 a4 a5 a6
  have fz := BF.out.free
  have BQ : Hid (Bf (w3.setCell ⟨w.heap.size + 1, 5, none⟩ (.int .u64 Y)) (w.heap.size + 1) ⟨3, 1, q, v, x, Y, 0⟩) := Lib.hid (BF.out.setY _)
  have B0Q : Hid (Bf (w3.setCell ⟨w.heap.size + 1, 5, none⟩ (.int .u64 Y)) (w.heap.size + 1 + 1) f0) := Lib.hid (B0.out.other (by simp) _)
  have BXQ : Hid (Bx (w3.setCell ⟨w.heap.size + 1, 5, none⟩ (.int .u64 Y)) w.heap.size W D J S) := Lib.hid (BX.out.other (by simp) _)
  have ZQ : Hid (Below w.heap.size w (w3.setCell ⟨w.heap.size + 1, 5, none⟩ (.int .u64 Y))) := Lib.hid (Z.out.setCell (p := ⟨w.heap.size + 1, 5, none⟩) (by simp) _)
  go_upto_region 12 with fail
  change Code.wp _ _ _ _ (w3.setCell ⟨w.heap.size + 1, 5, none⟩ (.int .u64 Y))
  generalize w3.setCell ⟨w.heap.size + 1, 5, none⟩ (.int .u64 Y) = w4 at BQ B0Q BXQ ZQ ⊢
  clear a0 a1 a2 a3 a4 a5 a6 la gx x0 x1 x2 x3 fz
  clear BF B0 BX Z
  have BF := BQ
  have B0 := B0Q
  have BX := BXQ
  have Z := ZQ
  clear BQ B0Q BXQ ZQ
  obtain ⟨a0, a1, a2, a3, a4, a5, a6⟩ := BF.out.cells
  have la := BF.out.lt
  obtain ⟨gx, x0, x1, x2, x3⟩ := BX.out
  simp only at a0 a1 a2 a3 a4 a5 a6
  have fz := BF.out.free
  go_wp2_with fail
  refine ((rfar_any _ _ _ HUY.out HUT.out).tells).mono ?_
  rintro _ w5 ⟨rfl, z⟩
  clear a0 a1 a2 a3 a4 a5 a6 la gx x0 x1 x2 x3 fz
  replace BX := Lib.hid (BX.out.below z)
  replace BF := Lib.hid (BF.out.after z)
  replace B0 := Lib.hid (B0.out.after z)
  replace Z := Lib.hid (Z.out.trans (z.mono Z.out.size))
  clear z
  obtain ⟨a0, a1, a2, a3, a4, a5, a6⟩ := BF.out.cells
  have la := BF.out.lt
  obtain ⟨gx, x0, x1, x2, x3⟩ := BX.out
  simp only at a0 a1 a2 a3 a4 a5 a6
  have fz := BF.out.free
  have BQ : Hid (Bf (w5.setCell ⟨w.heap.size + 1, 1, none⟩ (.int .i64 0)) (w.heap.size + 1) ⟨3, 0, q, v, x, Y, 0⟩) := Lib.hid (BF.out.setPc _)
  have B0Q : Hid (Bf (w5.setCell ⟨w.heap.size + 1, 1, none⟩ (.int .i64 0)) (w.heap.size + 1 + 1) f0) := Lib.hid (B0.out.other (by simp) _)
  have BXQ : Hid (Bx (w5.setCell ⟨w.heap.size + 1, 1, none⟩ (.int .i64 0)) w.heap.size W D J S) := Lib.hid (BX.out.other (by simp) _)
  have ZQ : Hid (Below w.heap.size w (w5.setCell ⟨w.heap.size + 1, 1, none⟩ (.int .i64 0))) := Lib.hid (Z.out.setCell (p := ⟨w.heap.size + 1, 1, none⟩) (by simp) _)
  go_upto_region 18 with fail
  change Code.wp _ _ _ _ (w5.setCell ⟨w.heap.size + 1, 1, none⟩ (.int .i64 0))
  generalize w5.setCell ⟨w.heap.size + 1, 1, none⟩ (.int .i64 0) = w6 at BQ B0Q BXQ ZQ ⊢
  clear a0 a1 a2 a3 a4 a5 a6 la gx x0 x1 x2 x3 fz
  clear BF B0 BX Z
  have BF := BQ
  have B0 := B0Q
  have BX := BXQ
  have Z := ZQ
  clear BQ B0Q BXQ ZQ
  obtain ⟨a0, a1, a2, a3, a4, a5, a6⟩ := BF.out.cells
  have la := BF.out.lt
  obtain ⟨gx, x0, x1, x2, x3⟩ := BX.out
  simp only at a0 a1 a2 a3 a4 a5 a6
  obtain ⟨d0, d1, d2, d3, d4, d5, d6⟩ := B0.out.cells
  have ld := B0.out.lt
  have fz := B0.out.free
  go_region
  all_goals
    go_wp2
    change bodyPost _ _ _ _ _ (pf w6 (w.heap.size + 1 + 1) ⟨3, 0, q, v, x, Y, 0⟩).drew
    refine bodyPost_ret (results_fr Try.results30 _ rfl ((B0.out.pf _).drew)) rfl ?_
    exact ⟨A, c, rfl, .inl ⟨rfl, rfl⟩, (below_pf Z.out hl2 _).drew⟩
set_option maxHeartbeats 2000000 in
set_option maxRecDepth 100000 in
theorem rst_2t (W D J S : Int) (A : Option Addr) (n c : Nat) (l : List Int) (q v x y : Int) (w : World) (h : Rd w A l) (hn : l.length = n) (hs : n ≤ 500) (hg : goesE W D J S l ⟨3, 2, q, v, x, y, 0⟩ 3 = true) (hJ : 1 ≤ J ∧ J ≤ 16) (hx : U x) (T2 : List Int) (hb : isAt l 5 x = true) (hT2 : (if isAt l 5 x = true then put l 5 ((x + 1) % 18446744073709551616) else l) = T2) :
    Calls Try.prog 30 #[cf W D J S, .slice A n c, fv ⟨3, 2, q, v, x, y, 0⟩] w (RetU w A l n T2 ⟨3, 3, q, v, x, y, 0⟩) := by
  have hw1 : IntKind.u64.wrap (x + 1) = (x + 1) % 18446744073709551616 := IntKind.wrap_u64 _
  have HIB := Lib.hid hb
  have HT2 := Lib.hid hT2
  clear hb hT2
  have e1 : IntKind.u64.wrap J = J := by rw [IntKind.wrap_u64]; omega
  have e2 : x.tdiv J = x / J := Int.tdiv_eq_ediv_of_nonneg hx.1
  have e3 : 0 ≤ x / J := Int.ediv_nonneg hx.1 (by omega)
  have e4 : x / J ≤ x := Int.ediv_le_self _ hx.1
  have e5 : IntKind.u64.wrap (x / J) = x / J := by have := hx.2; rw [IntKind.wrap_u64]; omega
  have e6 : IntKind.u64.wrap (2 * (x / J)) = tw J x % 18446744073709551616 := by unfold tw; rw [IntKind.wrap_u64]
  have e7 : ¬ J = 0 := by omega
  have HX := Lib.hid hx
  clear hx e3 e4
  obtain ⟨T, hT⟩ : ∃ T, T = tw J x % 18446744073709551616 := ⟨_, rfl⟩
  rw [← hT] at e6
  have HT := Lib.hid hT
  clear hT
  generalize x / J = r at e2 e5 e6
  obtain ⟨BX0, BF0, B00, Z0, hz⟩ := boxes3 w W D J S ⟨3, 2, q, v, x, y, 0⟩
  have H := Lib.hid h; clear h
  have HN := Lib.hid hn; clear hn
  have HS := Lib.hid hs; clear hs
  have HG := Lib.hid hg; clear hg
  go_enter Try.func30, Try.ntmps30
  go_wp2_with fail
  change Calls _ _ _ (bx3 w W D J S ⟨3, 2, q, v, x, y, 0⟩) _
  generalize bx3 w W D J S ⟨3, 2, q, v, x, y, 0⟩ = w0 at BX0 BF0 B00 Z0 hz ⊢
  refine (Tells.of (rgo_any W D J S 3 A n c l ⟨3, 2, q, v, x, y, 0⟩ _ HN.out) (v' := .bool true) (by rw [HG.out])).mono ?_
  rintro _ w1 ⟨rfl, z⟩
  have BX := Lib.hid (BX0.below z)
  have BF := Lib.hid (BF0.after z)
  have B0 := Lib.hid (B00.after z)
  have hh2 : w.heap.size + 1 + 1 < w1.heap.size := by have := z.size; omega
  have Z := Lib.hid (Z0.trans (z.mono (by omega)))
  clear z BX0 BF0 B00 Z0 hz
  have hl2 : w.heap.size ≤ w.heap.size + 1 + 1 := by omega
  obtain ⟨a0, a1, a2, a3, a4, a5, a6⟩ := BF.out.cells
  have la := BF.out.lt
  obtain ⟨gx, x0, x1, x2, x3⟩ := BX.out
  simp only at a0 a1 a2 a3 a4 a5 a6
  go_wp2_with fail
  refine (rcasn_n (v := (x + 1) % 18446744073709551616) (H.out.below Z.out) HN.out HS.out HIB.out HT2.out).mono ?_
  rintro _ w2 ⟨A2, c2, rfl, hr2, z⟩
  clear a0 a1 a2 a3 a4 a5 a6 la gx x0 x1 x2 x3
  replace BX := Lib.hid (BX.out.below z)
  replace BF := Lib.hid (BF.out.after z)
  replace B0 := Lib.hid (B0.out.after z)
  replace Z := Lib.hid (Z.out.trans (z.mono Z.out.size))
  have H2 := Lib.hid hr2
  clear hr2
  clear z
  obtain ⟨a0, a1, a2, a3, a4, a5, a6⟩ := BF.out.cells
  have la := BF.out.lt
  obtain ⟨gx, x0, x1, x2, x3⟩ := BX.out
  simp only at a0 a1 a2 a3 a4 a5 a6
  have fz := BF.out.free
  have hlow : w.heap.size + 1 < w1.heap.size := by omega
  have H3 : Hid (Rn w1.heap.size ((w2.setCell ⟨w.heap.size + 1, 1, none⟩ (.int .i64 0)).setCell ⟨w.heap.size + 1, 1, none⟩ (.int .i64 3)) A2 T2) := Lib.hid ((H2.out.set (p := ⟨w.heap.size + 1, 1, none⟩) hlow _).set (p := ⟨w.heap.size + 1, 1, none⟩) hlow _)
  have BQ : Hid (Bf ((w2.setCell ⟨w.heap.size + 1, 1, none⟩ (.int .i64 0)).setCell ⟨w.heap.size + 1, 1, none⟩ (.int .i64 3)) (w.heap.size + 1) ⟨3, 3, q, v, x, y, 0⟩) := Lib.hid ((BF.out.setPc _).setPc _)
  have B0Q : Hid (Bf ((w2.setCell ⟨w.heap.size + 1, 1, none⟩ (.int .i64 0)).setCell ⟨w.heap.size + 1, 1, none⟩ (.int .i64 3)) (w.heap.size + 1 + 1) f0) := Lib.hid ((B0.out.other (by simp) _).other (by simp) _)
  have BXQ : Hid (Bx ((w2.setCell ⟨w.heap.size + 1, 1, none⟩ (.int .i64 0)).setCell ⟨w.heap.size + 1, 1, none⟩ (.int .i64 3)) w.heap.size W D J S) := Lib.hid ((BX.out.other (by simp) _).other (by simp) _)
  have ZQ : Hid (Below w.heap.size w ((w2.setCell ⟨w.heap.size + 1, 1, none⟩ (.int .i64 0)).setCell ⟨w.heap.size + 1, 1, none⟩ (.int .i64 3))) := Lib.hid ((Z.out.setCell (p := ⟨w.heap.size + 1, 1, none⟩) (by simp) _).setCell (p := ⟨w.heap.size + 1, 1, none⟩) (by simp) _)
  go_upto_region 24 with fail
  change Code.wp _ _ _ _ ((w2.setCell ⟨w.heap.size + 1, 1, none⟩ (.int .i64 0)).setCell ⟨w.heap.size + 1, 1, none⟩ (.int .i64 3))
  generalize (w2.setCell ⟨w.heap.size + 1, 1, none⟩ (.int .i64 0)).setCell ⟨w.heap.size + 1, 1, none⟩ (.int .i64 3) = w3 at BQ B0Q BXQ ZQ H3 ⊢
  clear a0 a1 a2 a3 a4 a5 a6 la gx x0 x1 x2 x3 fz
  clear BF B0 BX Z
  have BF := BQ
  have B0 := B0Q
  have BX := BXQ
  have Z := ZQ
  clear BQ B0Q BXQ ZQ
  obtain ⟨a0, a1, a2, a3, a4, a5, a6⟩ := BF.out.cells
  have la := BF.out.lt
  obtain ⟨gx, x0, x1, x2, x3⟩ := BX.out
  simp only at a0 a1 a2 a3 a4 a5 a6
  obtain ⟨d0, d1, d2, d3, d4, d5, d6⟩ := B0.out.cells
  have ld := B0.out.lt
  have fz := B0.out.free
  go_region
  all_goals
    go_wp2
    change bodyPost _ _ _ _ _ (pf w3 (w.heap.size + 1 + 1) ⟨3, 3, q, v, x, y, 0⟩).drew
    refine bodyPost_ret (results_fr Try.results30 _ rfl ((B0.out.pf _).drew)) rfl ?_
    exact ⟨A2, c2, rfl, .inr (((H3.out.pf hh2 _).drew).mono (by omega)), (below_pf Z.out hl2 _).drew⟩
set_option maxHeartbeats 2000000 in
set_option maxRecDepth 100000 in
theorem rst_2f (W D J S : Int) (A : Option Addr) (n c : Nat) (l : List Int) (q v x y : Int) (w : World) (h : Rd w A l) (hn : l.length = n) (hs : n ≤ 500) (hg : goesE W D J S l ⟨3, 2, q, v, x, y, 0⟩ 3 = true) (hJ : 1 ≤ J ∧ J ≤ 16) (hx : U x) (T2 : List Int) (hb : isAt l 5 x = false) (hT2 : (if isAt l 5 x = true then put l 5 ((x + 1) % 18446744073709551616) else l) = T2) :
    Calls Try.prog 30 #[cf W D J S, .slice A n c, fv ⟨3, 2, q, v, x, y, 0⟩] w (RetU w A l n T2 ⟨3, 0, q, v, x, y, 0⟩) := by
  have hw1 : IntKind.u64.wrap (x + 1) = (x + 1) % 18446744073709551616 := IntKind.wrap_u64 _
  have HIB := Lib.hid hb
  have HT2 := Lib.hid hT2
  clear hb hT2
  have e1 : IntKind.u64.wrap J = J := by rw [IntKind.wrap_u64]; omega
  have e2 : x.tdiv J = x / J := Int.tdiv_eq_ediv_of_nonneg hx.1
  have e3 : 0 ≤ x / J := Int.ediv_nonneg hx.1 (by omega)
  have e4 : x / J ≤ x := Int.ediv_le_self _ hx.1
  have e5 : IntKind.u64.wrap (x / J) = x / J := by have := hx.2; rw [IntKind.wrap_u64]; omega
  have e6 : IntKind.u64.wrap (2 * (x / J)) = tw J x % 18446744073709551616 := by unfold tw; rw [IntKind.wrap_u64]
  have e7 : ¬ J = 0 := by omega
  have HX := Lib.hid hx
  clear hx e3 e4
  obtain ⟨T, hT⟩ : ∃ T, T = tw J x % 18446744073709551616 := ⟨_, rfl⟩
  rw [← hT] at e6
  have HT := Lib.hid hT
  clear hT
  generalize x / J = r at e2 e5 e6
  obtain ⟨BX0, BF0, B00, Z0, hz⟩ := boxes3 w W D J S ⟨3, 2, q, v, x, y, 0⟩
  have H := Lib.hid h; clear h
  have HN := Lib.hid hn; clear hn
  have HS := Lib.hid hs; clear hs
  have HG := Lib.hid hg; clear hg
  go_enter Try.func30, Try.ntmps30
  go_wp2_with fail
  change Calls _ _ _ (bx3 w W D J S ⟨3, 2, q, v, x, y, 0⟩) _
  generalize bx3 w W D J S ⟨3, 2, q, v, x, y, 0⟩ = w0 at BX0 BF0 B00 Z0 hz ⊢
  refine (Tells.of (rgo_any W D J S 3 A n c l ⟨3, 2, q, v, x, y, 0⟩ _ HN.out) (v' := .bool true) (by rw [HG.out])).mono ?_
  rintro _ w1 ⟨rfl, z⟩
  have BX := Lib.hid (BX0.below z)
  have BF := Lib.hid (BF0.after z)
  have B0 := Lib.hid (B00.after z)
  have hh2 : w.heap.size + 1 + 1 < w1.heap.size := by have := z.size; omega
  have Z := Lib.hid (Z0.trans (z.mono (by omega)))
  clear z BX0 BF0 B00 Z0 hz
  have hl2 : w.heap.size ≤ w.heap.size + 1 + 1 := by omega
  obtain ⟨a0, a1, a2, a3, a4, a5, a6⟩ := BF.out.cells
  have la := BF.out.lt
  obtain ⟨gx, x0, x1, x2, x3⟩ := BX.out
  simp only at a0 a1 a2 a3 a4 a5 a6
  go_wp2_with fail
  refine (rcasn_n (v := (x + 1) % 18446744073709551616) (H.out.below Z.out) HN.out HS.out HIB.out HT2.out).mono ?_
  rintro _ w2 ⟨A2, c2, rfl, hr2, z⟩
  clear a0 a1 a2 a3 a4 a5 a6 la gx x0 x1 x2 x3
  replace BX := Lib.hid (BX.out.below z)
  replace BF := Lib.hid (BF.out.after z)
  replace B0 := Lib.hid (B0.out.after z)
  replace Z := Lib.hid (Z.out.trans (z.mono Z.out.size))
  have H2 := Lib.hid hr2
  clear hr2
  clear z
  obtain ⟨a0, a1, a2, a3, a4, a5, a6⟩ := BF.out.cells
  have la := BF.out.lt
  obtain ⟨gx, x0, x1, x2, x3⟩ := BX.out
  simp only at a0 a1 a2 a3 a4 a5 a6
  have fz := BF.out.free
  have hlow : w.heap.size + 1 < w1.heap.size := by omega
  have H3 : Hid (Rn w1.heap.size (w2.setCell ⟨w.heap.size + 1, 1, none⟩ (.int .i64 0)) A2 T2) := Lib.hid (H2.out.set (p := ⟨w.heap.size + 1, 1, none⟩) hlow _)
  have BQ : Hid (Bf (w2.setCell ⟨w.heap.size + 1, 1, none⟩ (.int .i64 0)) (w.heap.size + 1) ⟨3, 0, q, v, x, y, 0⟩) := Lib.hid (BF.out.setPc _)
  have B0Q : Hid (Bf (w2.setCell ⟨w.heap.size + 1, 1, none⟩ (.int .i64 0)) (w.heap.size + 1 + 1) f0) := Lib.hid (B0.out.other (by simp) _)
  have BXQ : Hid (Bx (w2.setCell ⟨w.heap.size + 1, 1, none⟩ (.int .i64 0)) w.heap.size W D J S) := Lib.hid (BX.out.other (by simp) _)
  have ZQ : Hid (Below w.heap.size w (w2.setCell ⟨w.heap.size + 1, 1, none⟩ (.int .i64 0))) := Lib.hid (Z.out.setCell (p := ⟨w.heap.size + 1, 1, none⟩) (by simp) _)
  go_upto_region 24 with fail
  change Code.wp _ _ _ _ (w2.setCell ⟨w.heap.size + 1, 1, none⟩ (.int .i64 0))
  generalize w2.setCell ⟨w.heap.size + 1, 1, none⟩ (.int .i64 0) = w3 at BQ B0Q BXQ ZQ H3 ⊢
  clear a0 a1 a2 a3 a4 a5 a6 la gx x0 x1 x2 x3 fz
  clear BF B0 BX Z
  have BF := BQ
  have B0 := B0Q
  have BX := BXQ
  have Z := ZQ
  clear BQ B0Q BXQ ZQ
  obtain ⟨a0, a1, a2, a3, a4, a5, a6⟩ := BF.out.cells
  have la := BF.out.lt
  obtain ⟨gx, x0, x1, x2, x3⟩ := BX.out
  simp only at a0 a1 a2 a3 a4 a5 a6
  obtain ⟨d0, d1, d2, d3, d4, d5, d6⟩ := B0.out.cells
  have ld := B0.out.lt
  have fz := B0.out.free
  go_region
  all_goals
    go_wp2
    change bodyPost _ _ _ _ _ (pf w3 (w.heap.size + 1 + 1) ⟨3, 0, q, v, x, y, 0⟩).drew
    refine bodyPost_ret (results_fr Try.results30 _ rfl ((B0.out.pf _).drew)) rfl ?_
    exact ⟨A2, c2, rfl, .inr (((H3.out.pf hh2 _).drew).mono (by omega)), (below_pf Z.out hl2 _).drew⟩
set_option maxHeartbeats 2000000 in
set_option maxRecDepth 100000 in
theorem rst_3 (W D J S : Int) (A : Option Addr) (n c : Nat) (l : List Int) (q v x y : Int) (w : World) (h : Rd w A l) (hn : l.length = n) (hs : n ≤ 500) (hg : goesE W D J S l ⟨3, 3, q, v, x, y, 0⟩ 3 = true) (hJ : 1 ≤ J ∧ J ≤ 16) (hx : U x) :
    Calls Try.prog 30 #[cf W D J S, .slice A n c, fv ⟨3, 3, q, v, x, y, 0⟩] w (RetU w A l n (put l (vl W D J S x) v) ⟨3, 4, q, v, x, y, 0⟩) := by
  have e1 : IntKind.u64.wrap J = J := by rw [IntKind.wrap_u64]; omega
  have e2 : x.tdiv J = x / J := Int.tdiv_eq_ediv_of_nonneg hx.1
  have e3 : 0 ≤ x / J := Int.ediv_nonneg hx.1 (by omega)
  have e4 : x / J ≤ x := Int.ediv_le_self _ hx.1
  have e5 : IntKind.u64.wrap (x / J) = x / J := by have := hx.2; rw [IntKind.wrap_u64]; omega
  have e6 : IntKind.u64.wrap (2 * (x / J)) = tw J x % 18446744073709551616 := by unfold tw; rw [IntKind.wrap_u64]
  have e7 : ¬ J = 0 := by omega
  have HX := Lib.hid hx
  clear hx e3 e4
  obtain ⟨T, hT⟩ : ∃ T, T = tw J x % 18446744073709551616 := ⟨_, rfl⟩
  rw [← hT] at e6
  have HT := Lib.hid hT
  clear hT
  generalize x / J = r at e2 e5 e6
  obtain ⟨BX0, BF0, B00, Z0, hz⟩ := boxes3 w W D J S ⟨3, 3, q, v, x, y, 0⟩
  have H := Lib.hid h; clear h
  have HN := Lib.hid hn; clear hn
  have HS := Lib.hid hs; clear hs
  have HG := Lib.hid hg; clear hg
  go_enter Try.func30, Try.ntmps30
  go_wp2_with fail
  change Calls _ _ _ (bx3 w W D J S ⟨3, 3, q, v, x, y, 0⟩) _
  generalize bx3 w W D J S ⟨3, 3, q, v, x, y, 0⟩ = w0 at BX0 BF0 B00 Z0 hz ⊢
  refine (Tells.of (rgo_any W D J S 3 A n c l ⟨3, 3, q, v, x, y, 0⟩ _ HN.out) (v' := .bool true) (by rw [HG.out])).mono ?_
  rintro _ w1 ⟨rfl, z⟩
  have BX := Lib.hid (BX0.below z)
  have BF := Lib.hid (BF0.after z)
  have B0 := Lib.hid (B00.after z)
  have hh2 : w.heap.size + 1 + 1 < w1.heap.size := by have := z.size; omega
  have Z := Lib.hid (Z0.trans (z.mono (by omega)))
  clear z BX0 BF0 B00 Z0 hz
  have hl2 : w.heap.size ≤ w.heap.size + 1 + 1 := by omega
  obtain ⟨a0, a1, a2, a3, a4, a5, a6⟩ := BF.out.cells
  have la := BF.out.lt
  obtain ⟨gx, x0, x1, x2, x3⟩ := BX.out
  simp only at a0 a1 a2 a3 a4 a5 a6
  have fz := BF.out.free
  have BQ : Hid (Bf (w1.setCell ⟨w.heap.size + 1, 1, none⟩ (.int .i64 4)) (w.heap.size + 1) ⟨3, 4, q, v, x, y, 0⟩) := Lib.hid (BF.out.setPc _)
  have B0Q : Hid (Bf (w1.setCell ⟨w.heap.size + 1, 1, none⟩ (.int .i64 4)) (w.heap.size + 1 + 1) f0) := Lib.hid (B0.out.other (by simp) _)
  have BXQ : Hid (Bx (w1.setCell ⟨w.heap.size + 1, 1, none⟩ (.int .i64 4)) w.heap.size W D J S) := Lib.hid (BX.out.other (by simp) _)
  have ZQ : Hid (Below w.heap.size w (w1.setCell ⟨w.heap.size + 1, 1, none⟩ (.int .i64 4))) := Lib.hid (Z.out.setCell (p := ⟨w.heap.size + 1, 1, none⟩) (by simp) _)
  go_upto_region 27 with fail
  change Code.wp _ _ _ _ (w1.setCell ⟨w.heap.size + 1, 1, none⟩ (.int .i64 4))
  generalize w1.setCell ⟨w.heap.size + 1, 1, none⟩ (.int .i64 4) = w2 at BQ B0Q BXQ ZQ ⊢
  clear a0 a1 a2 a3 a4 a5 a6 la gx x0 x1 x2 x3 fz
  clear BF B0 BX Z
  have BF := BQ
  have B0 := B0Q
  have BX := BXQ
  have Z := ZQ
  clear BQ B0Q BXQ ZQ
  have hq2 : w.heap.size + 1 + 1 < w2.heap.size := B0.out.lt
  have HK := Lib.hid (show ∀ x', Below (w.heap.size + 1 + 1) w2 x' → (fun w' => w'.cell? ⟨w.heap.size, 0, none⟩ = some (.int .i64 W) ∧ w'.cell? ⟨w.heap.size, 1, none⟩ = some (.int .i64 D) ∧ w'.cell? ⟨w.heap.size, 2, none⟩ = some (.int .i64 J) ∧ w'.cell? ⟨w.heap.size, 3, none⟩ = some (.int .i64 S) ∧ w'.cell? ⟨w.heap.size + 1, 0, none⟩ = some (.int .i64 3) ∧ w'.cell? ⟨w.heap.size + 1, 1, none⟩ = some (.int .i64 4) ∧ w'.cell? ⟨w.heap.size + 1, 2, none⟩ = some (.int .i64 q) ∧ w'.cell? ⟨w.heap.size + 1, 3, none⟩ = some (.int .u64 v) ∧ w'.cell? ⟨w.heap.size + 1, 4, none⟩ = some (.int .u64 x) ∧ w'.cell? ⟨w.heap.size + 1, 5, none⟩ = some (.int .u64 y) ∧ w'.cell? ⟨w.heap.size + 1, 6, none⟩ = some (.int .i64 0) ∧ Below (w.heap.size + 1 + 1) w2 w') x' from fun x' hx => by
    have e := hx.block w.heap.size (by omega)
    obtain ⟨_, e0, e1, e2, e3⟩ := BX.out
    obtain ⟨f0, f1, f2, f3, f4, f5, f6⟩ := (BF.out.below hx (by omega)).cells
    exact ⟨(World.cell?_of_block e).trans e0, (World.cell?_of_block e).trans e1, (World.cell?_of_block e).trans e2, (World.cell?_of_block e).trans e3, f0, f1, f2, f3, f4, f5, f6, hx⟩)
  have HZ := Lib.hid (show ∀ x', (fun w' => w'.cell? ⟨w.heap.size, 0, none⟩ = some (.int .i64 W) ∧ w'.cell? ⟨w.heap.size, 1, none⟩ = some (.int .i64 D) ∧ w'.cell? ⟨w.heap.size, 2, none⟩ = some (.int .i64 J) ∧ w'.cell? ⟨w.heap.size, 3, none⟩ = some (.int .i64 S) ∧ w'.cell? ⟨w.heap.size + 1, 0, none⟩ = some (.int .i64 3) ∧ w'.cell? ⟨w.heap.size + 1, 1, none⟩ = some (.int .i64 4) ∧ w'.cell? ⟨w.heap.size + 1, 2, none⟩ = some (.int .i64 q) ∧ w'.cell? ⟨w.heap.size + 1, 3, none⟩ = some (.int .u64 v) ∧ w'.cell? ⟨w.heap.size + 1, 4, none⟩ = some (.int .u64 x) ∧ w'.cell? ⟨w.heap.size + 1, 5, none⟩ = some (.int .u64 y) ∧ w'.cell? ⟨w.heap.size + 1, 6, none⟩ = some (.int .i64 0) ∧ Below (w.heap.size + 1 + 1) w2 w') x' → Below w.heap.size w x' from fun x' hx => Z.out.trans (hx.2.2.2.2.2.2.2.2.2.2.2.mono (by omega)))
  have HR := Lib.hid (show ∀ x', (fun w' => w'.cell? ⟨w.heap.size, 0, none⟩ = some (.int .i64 W) ∧ w'.cell? ⟨w.heap.size, 1, none⟩ = some (.int .i64 D) ∧ w'.cell? ⟨w.heap.size, 2, none⟩ = some (.int .i64 J) ∧ w'.cell? ⟨w.heap.size, 3, none⟩ = some (.int .i64 S) ∧ w'.cell? ⟨w.heap.size + 1, 0, none⟩ = some (.int .i64 3) ∧ w'.cell? ⟨w.heap.size + 1, 1, none⟩ = some (.int .i64 4) ∧ w'.cell? ⟨w.heap.size + 1, 2, none⟩ = some (.int .i64 q) ∧ w'.cell? ⟨w.heap.size + 1, 3, none⟩ = some (.int .u64 v) ∧ w'.cell? ⟨w.heap.size + 1, 4, none⟩ = some (.int .u64 x) ∧ w'.cell? ⟨w.heap.size + 1, 5, none⟩ = some (.int .u64 y) ∧ w'.cell? ⟨w.heap.size + 1, 6, none⟩ = some (.int .i64 0) ∧ Below (w.heap.size + 1 + 1) w2 w') x' → Rd x' A l from fun x' hx => H.out.below (Z.out.trans (hx.2.2.2.2.2.2.2.2.2.2.2.mono (by omega))))
  have hn0 : w.heap.size + 1 + 1 ≤ w2.heap.size := by omega
  have hHeld0 := HK.out _ (Below.refl _ _)
  have zq := Lib.hid (Below.refl w2.heap.size w2)
  obtain ⟨d0, d1, d2, d3, d4, d5, d6⟩ := B0.out.cells
  have ld := B0.out.lt
  have fz := B0.out.free
  go_region_held3 (fun w' => w'.cell? ⟨w.heap.size, 0, none⟩ = some (.int .i64 W) ∧ w'.cell? ⟨w.heap.size, 1, none⟩ = some (.int .i64 D) ∧ w'.cell? ⟨w.heap.size, 2, none⟩ = some (.int .i64 J) ∧ w'.cell? ⟨w.heap.size, 3, none⟩ = some (.int .i64 S) ∧ w'.cell? ⟨w.heap.size + 1, 0, none⟩ = some (.int .i64 3) ∧ w'.cell? ⟨w.heap.size + 1, 1, none⟩ = some (.int .i64 4) ∧ w'.cell? ⟨w.heap.size + 1, 2, none⟩ = some (.int .i64 q) ∧ w'.cell? ⟨w.heap.size + 1, 3, none⟩ = some (.int .u64 v) ∧ w'.cell? ⟨w.heap.size + 1, 4, none⟩ = some (.int .u64 x) ∧ w'.cell? ⟨w.heap.size + 1, 5, none⟩ = some (.int .u64 y) ∧ w'.cell? ⟨w.heap.size + 1, 6, none⟩ = some (.int .i64 0) ∧ Below (w.heap.size + 1 + 1) w2 w')
    (first | with_reducible exact hd_drew HK.out (fun _ h => h.2.2.2.2.2.2.2.2.2.2.2) (by assumption) | with_reducible exact hd_call HK.out (fun _ h => h.2.2.2.2.2.2.2.2.2.2.2) (by assumption) (by assumption) hn0 | with_reducible exact hd_set7 HK.out (fun _ h => h.2.2.2.2.2.2.2.2.2.2.2) _ _ _ _ _ _ _ (by assumption))
    (first
    | (go_at_call 68; (refine (rval_any W D J S x _ HX.out).mono ?_); rintro _ w5 ⟨rfl, hb5⟩; have z5 := Lib.hid (keep_call hb5 zq.out.drew); have e := B0.out.after z5.out; obtain ⟨d0, d1, d2, d3, d4, d5, d6⟩ := e.cells; have fz := e.free; have ld := e.lt)
    | (go_at_call 67; (refine (rstore_new A n c l _ v _ (HR.out _ (by assumption)) HN.out HS.out).mono ?_); rintro _ w6 ⟨A6, c6, rfl, hr6, hb6⟩; have z6 := Lib.hid (keep_call hb6 z5.out); have e := B0.out.after z6.out; obtain ⟨d0, d1, d2, d3, d4, d5, d6⟩ := e.cells; have fz := e.free; have ld := e.lt))
  all_goals
    go_wp2
    change bodyPost _ _ _ _ _ (pf w6 (w.heap.size + 1 + 1) ⟨3, 4, q, v, x, y, 0⟩)
    refine bodyPost_ret (results_fr Try.results30 _ rfl ((B0.out.after z6.out).pf _)) rfl ?_
    exact ⟨A6, c6, rfl, .inr ((hr6.pf (Nat.lt_of_lt_of_le hq2 z5.out.size) _).mono (by first | (have := z7.out.size; omega) | (have := z5.out.size; omega) | (have := z6.out.size; omega))), HZ.out _ (by assumption)⟩
set_option maxHeartbeats 2000000 in
set_option maxRecDepth 100000 in
theorem rst_4 (W D J S : Int) (A : Option Addr) (n c : Nat) (l : List Int) (q v x y : Int) (w : World) (h : Rd w A l) (hn : l.length = n) (hs : n ≤ 500) (hg : goesE W D J S l ⟨3, 4, q, v, x, y, 0⟩ 3 = true) (hJ : 1 ≤ J ∧ J ≤ 16) (hx : U x) (T : Int) (hT2 : (tw J x + 1) % 18446744073709551616 = T) :
    Calls Try.prog 30 #[cf W D J S, .slice A n c, fv ⟨3, 4, q, v, x, y, 0⟩] w (RetU w A l n (put l (sq W D J S x) T) ⟨3, 0, q, v, 0, 0, 1⟩) := by
  have e1 : IntKind.u64.wrap J = J := by rw [IntKind.wrap_u64]; omega
  have e2 : x.tdiv J = x / J := Int.tdiv_eq_ediv_of_nonneg hx.1
  have e3 : 0 ≤ x / J := Int.ediv_nonneg hx.1 (by omega)
  have e4 : x / J ≤ x := Int.ediv_le_self _ hx.1
  have e5 : IntKind.u64.wrap (x / J) = x / J := by have := hx.2; rw [IntKind.wrap_u64]; omega
  have e6 : IntKind.u64.wrap (2 * (x / J)) = tw J x % 18446744073709551616 := by unfold tw; rw [IntKind.wrap_u64]
  have e7 : ¬ J = 0 := by omega
  have HX := Lib.hid hx
  clear hx e3 e4
  have HT2 := Lib.hid hT2
  obtain ⟨T0, hT⟩ : ∃ T, T = tw J x % 18446744073709551616 := ⟨_, rfl⟩
  rw [← hT] at e6
  have e8 : IntKind.u64.wrap (T0 + 1) = T := by rw [IntKind.wrap_u64, ← hT2, hT]; omega
  clear hT hT2
  generalize x / J = r at e2 e5 e6
  obtain ⟨BX0, BF0, B00, Z0, hz⟩ := boxes3 w W D J S ⟨3, 4, q, v, x, y, 0⟩
  have H := Lib.hid h; clear h
  have HN := Lib.hid hn; clear hn
  have HS := Lib.hid hs; clear hs
  have HG := Lib.hid hg; clear hg
  go_enter Try.func30, Try.ntmps30
  go_wp2_with fail
  change Calls _ _ _ (bx3 w W D J S ⟨3, 4, q, v, x, y, 0⟩) _
  generalize bx3 w W D J S ⟨3, 4, q, v, x, y, 0⟩ = w0 at BX0 BF0 B00 Z0 hz ⊢
  refine (Tells.of (rgo_any W D J S 3 A n c l ⟨3, 4, q, v, x, y, 0⟩ _ HN.out) (v' := .bool true) (by rw [HG.out])).mono ?_
  rintro _ w1 ⟨rfl, z⟩
  have BX := Lib.hid (BX0.below z)
  have BF := Lib.hid (BF0.after z)
  have B0 := Lib.hid (B00.after z)
  have hh2 : w.heap.size + 1 + 1 < w1.heap.size := by have := z.size; omega
  have Z := Lib.hid (Z0.trans (z.mono (by omega)))
  clear z BX0 BF0 B00 Z0 hz
  have hl2 : w.heap.size ≤ w.heap.size + 1 + 1 := by omega
  obtain ⟨a0, a1, a2, a3, a4, a5, a6⟩ := BF.out.cells
  have la := BF.out.lt
  obtain ⟨gx, x0, x1, x2, x3⟩ := BX.out
  simp only at a0 a1 a2 a3 a4 a5 a6
  have fz := BF.out.free
  have hq2 := hh2
  go_upto_region 28 with fail
  clear a0 a1 a2 a3 a4 a5 a6 la gx x0 x1 x2 x3 fz
  have HK := Lib.hid (show ∀ x', Below (w.heap.size + 1 + 1) w1 x' → (fun w' => w'.cell? ⟨w.heap.size, 0, none⟩ = some (.int .i64 W) ∧ w'.cell? ⟨w.heap.size, 1, none⟩ = some (.int .i64 D) ∧ w'.cell? ⟨w.heap.size, 2, none⟩ = some (.int .i64 J) ∧ w'.cell? ⟨w.heap.size, 3, none⟩ = some (.int .i64 S) ∧ w'.cell? ⟨w.heap.size + 1, 0, none⟩ = some (.int .i64 3) ∧ w'.cell? ⟨w.heap.size + 1, 1, none⟩ = some (.int .i64 4) ∧ w'.cell? ⟨w.heap.size + 1, 2, none⟩ = some (.int .i64 q) ∧ w'.cell? ⟨w.heap.size + 1, 3, none⟩ = some (.int .u64 v) ∧ w'.cell? ⟨w.heap.size + 1, 4, none⟩ = some (.int .u64 x) ∧ w'.cell? ⟨w.heap.size + 1, 5, none⟩ = some (.int .u64 y) ∧ w'.cell? ⟨w.heap.size + 1, 6, none⟩ = some (.int .i64 0) ∧ Below (w.heap.size + 1 + 1) w1 w') x' from fun x' hx => by
    have e := hx.block w.heap.size (by omega)
    obtain ⟨_, e0, e1, e2, e3⟩ := BX.out
    obtain ⟨f0, f1, f2, f3, f4, f5, f6⟩ := (BF.out.below hx (by omega)).cells
    exact ⟨(World.cell?_of_block e).trans e0, (World.cell?_of_block e).trans e1, (World.cell?_of_block e).trans e2, (World.cell?_of_block e).trans e3, f0, f1, f2, f3, f4, f5, f6, hx⟩)
  have HZ := Lib.hid (show ∀ x', (fun w' => w'.cell? ⟨w.heap.size, 0, none⟩ = some (.int .i64 W) ∧ w'.cell? ⟨w.heap.size, 1, none⟩ = some (.int .i64 D) ∧ w'.cell? ⟨w.heap.size, 2, none⟩ = some (.int .i64 J) ∧ w'.cell? ⟨w.heap.size, 3, none⟩ = some (.int .i64 S) ∧ w'.cell? ⟨w.heap.size + 1, 0, none⟩ = some (.int .i64 3) ∧ w'.cell? ⟨w.heap.size + 1, 1, none⟩ = some (.int .i64 4) ∧ w'.cell? ⟨w.heap.size + 1, 2, none⟩ = some (.int .i64 q) ∧ w'.cell? ⟨w.heap.size + 1, 3, none⟩ = some (.int .u64 v) ∧ w'.cell? ⟨w.heap.size + 1, 4, none⟩ = some (.int .u64 x) ∧ w'.cell? ⟨w.heap.size + 1, 5, none⟩ = some (.int .u64 y) ∧ w'.cell? ⟨w.heap.size + 1, 6, none⟩ = some (.int .i64 0) ∧ Below (w.heap.size + 1 + 1) w1 w') x' → Below w.heap.size w x' from fun x' hx => Z.out.trans (hx.2.2.2.2.2.2.2.2.2.2.2.mono (by omega)))
  have HR := Lib.hid (show ∀ x', (fun w' => w'.cell? ⟨w.heap.size, 0, none⟩ = some (.int .i64 W) ∧ w'.cell? ⟨w.heap.size, 1, none⟩ = some (.int .i64 D) ∧ w'.cell? ⟨w.heap.size, 2, none⟩ = some (.int .i64 J) ∧ w'.cell? ⟨w.heap.size, 3, none⟩ = some (.int .i64 S) ∧ w'.cell? ⟨w.heap.size + 1, 0, none⟩ = some (.int .i64 3) ∧ w'.cell? ⟨w.heap.size + 1, 1, none⟩ = some (.int .i64 4) ∧ w'.cell? ⟨w.heap.size + 1, 2, none⟩ = some (.int .i64 q) ∧ w'.cell? ⟨w.heap.size + 1, 3, none⟩ = some (.int .u64 v) ∧ w'.cell? ⟨w.heap.size + 1, 4, none⟩ = some (.int .u64 x) ∧ w'.cell? ⟨w.heap.size + 1, 5, none⟩ = some (.int .u64 y) ∧ w'.cell? ⟨w.heap.size + 1, 6, none⟩ = some (.int .i64 0) ∧ Below (w.heap.size + 1 + 1) w1 w') x' → Rd x' A l from fun x' hx => H.out.below (Z.out.trans (hx.2.2.2.2.2.2.2.2.2.2.2.mono (by omega))))
  have hn0 : w.heap.size + 1 + 1 ≤ w1.heap.size := by omega
  have hHeld0 := HK.out _ (Below.refl _ _)
  have zq := Lib.hid (Below.refl w1.heap.size w1)
  obtain ⟨d0, d1, d2, d3, d4, d5, d6⟩ := B0.out.cells
  have ld := B0.out.lt
  have fz := B0.out.free
  go_region_held3 (fun w' => w'.cell? ⟨w.heap.size, 0, none⟩ = some (.int .i64 W) ∧ w'.cell? ⟨w.heap.size, 1, none⟩ = some (.int .i64 D) ∧ w'.cell? ⟨w.heap.size, 2, none⟩ = some (.int .i64 J) ∧ w'.cell? ⟨w.heap.size, 3, none⟩ = some (.int .i64 S) ∧ w'.cell? ⟨w.heap.size + 1, 0, none⟩ = some (.int .i64 3) ∧ w'.cell? ⟨w.heap.size + 1, 1, none⟩ = some (.int .i64 4) ∧ w'.cell? ⟨w.heap.size + 1, 2, none⟩ = some (.int .i64 q) ∧ w'.cell? ⟨w.heap.size + 1, 3, none⟩ = some (.int .u64 v) ∧ w'.cell? ⟨w.heap.size + 1, 4, none⟩ = some (.int .u64 x) ∧ w'.cell? ⟨w.heap.size + 1, 5, none⟩ = some (.int .u64 y) ∧ w'.cell? ⟨w.heap.size + 1, 6, none⟩ = some (.int .i64 0) ∧ Below (w.heap.size + 1 + 1) w1 w')
    (first | with_reducible exact hd_drew HK.out (fun _ h => h.2.2.2.2.2.2.2.2.2.2.2) (by assumption) | with_reducible exact hd_call HK.out (fun _ h => h.2.2.2.2.2.2.2.2.2.2.2) (by assumption) (by assumption) hn0 | with_reducible exact hd_set7 HK.out (fun _ h => h.2.2.2.2.2.2.2.2.2.2.2) _ _ _ _ _ _ _ (by assumption))
    (first
    | (go_at_call 63; (refine (rseq_any W D J S x _ HX.out).mono ?_); rintro _ w5 ⟨rfl, hb5⟩; have z5 : Hid (Below w1.heap.size w1 w5) := Lib.hid (by first | exact keep_call hb5 z7.out | exact keep_call hb5 z6.out | exact keep_call hb5 z5.out | exact keep_call hb5 zq.out.drew); have e := B0.out.after z5.out; obtain ⟨d0, d1, d2, d3, d4, d5, d6⟩ := e.cells; have fz := e.free; have ld := e.lt)
    | (go_at_call 67; (refine (rstore_new A n c l _ T _ (HR.out _ (by assumption)) HN.out HS.out).mono ?_); rintro _ w6 ⟨A6, c6, rfl, hr6, hb6⟩; have z6 : Hid (Below w1.heap.size w1 w6) := Lib.hid (by first | exact keep_call hb6 z7.out | exact keep_call hb6 z6.out | exact keep_call hb6 z5.out | exact keep_call hb6 zq.out.drew); have e := B0.out.after z6.out; obtain ⟨d0, d1, d2, d3, d4, d5, d6⟩ := e.cells; have fz := e.free; have ld := e.lt)
    | (go_at_call 65; (refine (rend_any ⟨3, 4, q, v, x, y, 0⟩ 1 v _).mono ?_); rintro _ w7 ⟨rfl, hb7⟩; have z7 : Hid (Below w1.heap.size w1 w7) := Lib.hid (by first | exact keep_call hb7 z7.out | exact keep_call hb7 z6.out | exact keep_call hb7 z5.out | exact keep_call hb7 zq.out.drew); have e := B0.out.after z7.out; obtain ⟨d0, d1, d2, d3, d4, d5, d6⟩ := e.cells; have fz := e.free; have ld := e.lt))
  all_goals
    go_wp2
    first
    | (change bodyPost _ _ _ _ _ (pf w7 (w.heap.size + 1 + 1) ⟨3, 0, q, v, 0, 0, 1⟩); refine bodyPost_ret (results_fr Try.results30 _ rfl ((B0.out.after z7.out).pf _)) rfl ?_; exact ⟨A6, c6, rfl, .inr (((hr6.below hb7).pf (Nat.lt_of_lt_of_le hq2 z5.out.size) _).mono (by first | (have := z7.out.size; omega) | (have := z5.out.size; omega) | (have := z6.out.size; omega))), HZ.out _ (by assumption)⟩)
    | (change bodyPost _ _ _ _ _ (pf w6 (w.heap.size + 1 + 1) ⟨3, 0, q, v, 0, 0, 1⟩); refine bodyPost_ret (results_fr Try.results30 _ rfl ((B0.out.after z6.out).pf _)) rfl ?_; exact ⟨A6, c6, rfl, .inr ((hr6.pf (by first | exact Nat.lt_of_lt_of_le hq2 z7.out.size | exact Nat.lt_of_lt_of_le hq2 z5.out.size) _).mono (by first | (have := z7.out.size; omega) | (have := z5.out.size; omega) | (have := z6.out.size; omega))), HZ.out _ (by assumption)⟩)
set_option maxRecDepth 100000 in
theorem rst_any (W D J S : Int) (A : Option Addr) (n c : Nat) (l : List Int) (f : Fr) (w : World) (h : Rd w A l) (hn : l.length = n) (hs : n ≤ 500) (hf : UF f) (hu : UM l) :
    Calls Try.prog 30 #[cf W D J S, .slice A n c, fv f] w (RetU w A l n (enqS W D J S l f).1 (enqS W D J S l f).2) := by
  cases hg : goesE W D J S l f 3
  · have e2 : enqS W D J S l f = (l, f) := by unfold enqS; rw [hg]; rfl
    rw [e2]
    obtain ⟨o, p, q, v, x, y, s⟩ := f
    exact rst_leave W D J S A n c l o p q v x y s w h hn hs hg
  · obtain ⟨hk, hr, ho, h0, h4⟩ := goesE_iff.1 hg
    obtain ⟨hm, hlen⟩ := okm_iff.1 hk
    obtain ⟨hW, hD, hJ, hS⟩ := may_lim hm
    have hlong := okm_long hk
    have hp : f.pc = 0 ∨ f.pc = 1 ∨ f.pc = 2 ∨ f.pc = 3 ∨ f.pc = 4 := by omega
    obtain ⟨o, p, q, v, x, y, s⟩ := f
    simp only at hr ho h0 h4 hp hf
    subst hr ho
    have hx : U x := hf.2.1
    rcases hp with rfl | rfl | rfl | rfl | rfl
    · rw [enqS_0 hk]
      exact rst_0 W D J S A n c l q v x y w h hn hs hg hJ hx
    · rw [enqS_1 hk]
      split
      · rename_i e
        exact RetU.of (rst_1y W D J S A n c l q v x y w h hn hs hg hJ hx _ rfl (by rw [sq_ok hm]; simpa using e)) rfl (by rw [sq_ok hm])
      · rename_i e
        split
        · rename_i e2
          exact rst_1f W D J S A n c l q v x y w h hn hs hg hJ hx _ rfl (by rw [sq_ok hm]; simpa using e) (by rw [sq_ok hm]; simpa using e2) (at0_U hu _)
        · rename_i e2
          exact RetU.of (rst_1r W D J S A n c l q v x y w h hn hs hg hJ hx _ rfl (by rw [sq_ok hm]; simpa using e) (by rw [sq_ok hm]; simpa using e2) (at0_U hu _)) rfl (by rw [sq_ok hm])
    · rw [enqS_2 hk]
      have e5 : isAt l 5 x = decide (at0 l 5 = x) := isAt_at0 (by omega) (by omega)
      split
      · rename_i e
        exact rst_2t W D J S A n c l q v x y w h hn hs hg hJ hx _ (by rw [e5]; simpa using e) (by rw [e5, if_pos (by simpa using e)])
      · rename_i e
        exact rst_2f W D J S A n c l q v x y w h hn hs hg hJ hx _ (by rw [e5]; simpa using e) (by rw [e5, if_neg (by simpa using e)])
    · rw [enqS_3 hk]
      exact RetU.of (rst_3 W D J S A n c l q v x y w h hn hs hg hJ hx) (by rw [vl_ok hm]) rfl
    · rw [enqS_4 hk]
      exact RetU.of (rst_4 W D J S A n c l q v x y w h hn hs hg hJ hx _ rfl) (by rw [sq_ok hm]) rfl
set_option maxRecDepth 100000 in
theorem rst_u {W D J S : Int} {A : Option Addr} {n c : Nat} {l : List Int} {f : Fr} {w : World} (h : Rd w A l) (hn : l.length = n) (hs : n ≤ 500) (hf : UF f) (hu : UM l) {l' : List Int} {f' : Fr} (e : enqS W D J S l f = (l', f')) :
    Calls Try.prog 30 #[cf W D J S, .slice A n c, fv f] w (RetU w A l n l' f') := by
  have h2 := rst_any W D J S A n c l f w h hn hs hf hu
  rw [e] at h2
  exact h2
set_option maxRecDepth 100000 in
theorem rst_n {W D J S : Int} {A : Option Addr} {n c : Nat} {l : List Int} {f : Fr} {w : World} (h : Rd w A l) (hn : l.length = n) (hs : n ≤ 500) (hf : UF f) (hu : UM l) {l' : List Int} {f' : Fr} (e : enqS W D J S l f = (l', f')) :
    Calls Try.prog 30 #[cf W D J S, .slice A n c, fv f] w (RetT w n l' f') :=
  (rst_u h hn hs hf hu e).mono fun _ _ h2 => h2.t h
end Go.Proofs.Ytppllanmgdhabaa
