/- Contract of the document's own Goes. -/
import Derived.Test.YtpnmgpmmaiinmaaPuF
import Derived.Test.YtpnmgpmmaiinmaaLaR
namespace Go.Proofs.Ytpnmgpmmaiinmaa
open Go.RowKit Go.Deep
theorem rgoes_0 (W D J S op k o p q v x y s : Int) (A : Option Addr) (n c : Nat) (w : World) (h0 : may W D J S = false) : Tells 28 #[cf W D J S, .slice A n c, fv ⟨o, p, q, v, x, y, s⟩, .int .i64 op, .int .i64 k] w (.bool false) := by
  obtain ⟨BX, BF, Z, hz⟩ := boxes2 w W D J S ⟨o, p, q, v, x, y, s⟩
  have HM := Lib.hid h0
  clear h0
  have h8 : w.heap.size + 1 < (bxc w W D J S ⟨o, p, q, v, x, y, s⟩).heap.size := by omega
  go_enter Try.func28, Try.ntmps28
  go_wp2_with fail
  change Calls _ _ _ (bxc w W D J S ⟨o, p, q, v, x, y, s⟩) _
  generalize bxc w W D J S ⟨o, p, q, v, x, y, s⟩ = w0 at BX BF Z hz h8 ⊢
  refine (Tells.of (rmay_any W D J S _) (v' := .bool false) (by rw [HM.out])).mono ?_
  rintro _ w1 ⟨rfl, z⟩
  have BX1 := BX.below z
  have BF1 := BF.after z
  have Z1 := Z.trans (z.mono (by omega))
  clear z BX BF Z
  obtain ⟨a0, a1, a2, a3, a4, a5, a6⟩ := BF1.cells
  have la := BF1.lt
  go_wp2_with fail
  refine (rover_any ⟨o, p, q, v, x, y, s⟩ _).mono ?_
  rintro _ w2 ⟨rfl, z⟩
  clear a0 a1 a2 a3 a4 a5 a6 la
  have BX2 := BX1.below z
  have BF2 := BF1.after z
  have Z2 := Lib.hid (Z1.trans (z.mono Z1.size))
  clear z BX1 BF1 Z1
  obtain ⟨a0, a1, a2, a3, a4, a5, a6⟩ := BF2.cells
  have la := BF2.lt
  obtain ⟨gx, x0, x1, x2, x3⟩ := BX2
  go_wp2
  go_ret
  exact ⟨rfl, Z2.out⟩
theorem rgoes_1 (W D J S op k o p q v x y s : Int) (A : Option Addr) (n c : Nat) (w : World) (h0 : may W D J S = true) (h1 : ((n : Int) == sz W D J S) = false) : Tells 28 #[cf W D J S, .slice A n c, fv ⟨o, p, q, v, x, y, s⟩, .int .i64 op, .int .i64 k] w (.bool false) := by
  obtain ⟨BX, BF, Z, hz⟩ := boxes2 w W D J S ⟨o, p, q, v, x, y, s⟩
  have HM := Lib.hid h0
  clear h0
  have h8 : w.heap.size + 1 < (bxc w W D J S ⟨o, p, q, v, x, y, s⟩).heap.size := by omega
  go_enter Try.func28, Try.ntmps28
  go_wp2_with fail
  change Calls _ _ _ (bxc w W D J S ⟨o, p, q, v, x, y, s⟩) _
  generalize bxc w W D J S ⟨o, p, q, v, x, y, s⟩ = w0 at BX BF Z hz h8 ⊢
  refine (Tells.of (rmay_any W D J S _) (v' := .bool true) (by rw [HM.out])).mono ?_
  rintro _ w1 ⟨rfl, z⟩
  have BX1 := BX.below z
  have BF1 := BF.after z
  have Z1 := Z.trans (z.mono (by omega))
  clear z BX BF Z
  obtain ⟨a0, a1, a2, a3, a4, a5, a6⟩ := BF1.cells
  have la := BF1.lt
  go_wp2_with fail
  refine (rover_any ⟨o, p, q, v, x, y, s⟩ _).mono ?_
  rintro _ w2 ⟨rfl, z⟩
  clear a0 a1 a2 a3 a4 a5 a6 la
  have BX2 := BX1.below z
  have BF2 := BF1.after z
  have Z2 := Lib.hid (Z1.trans (z.mono Z1.size))
  clear z BX1 BF1 Z1
  obtain ⟨a0, a1, a2, a3, a4, a5, a6⟩ := BF2.cells
  have la := BF2.lt
  have BXk := Lib.hid BX2
  obtain ⟨gx, x0, x1, x2, x3⟩ := BX2
  go_wp2_with fail
  refine (rsize_any W D J S _).mono ?_
  rintro _ w3 ⟨rfl, z⟩
  clear a0 a1 a2 a3 a4 a5 a6 la gx x0 x1 x2 x3
  have BF3 := BF2.after z
  have Z3 := Lib.hid (Z2.out.trans (z.mono Z2.out.size))
  have BX3 := BXk.out.below z
  clear z
  obtain ⟨a0, a1, a2, a3, a4, a5, a6⟩ := BF3.cells
  have la := BF3.lt
  obtain ⟨gx, x0, x1, x2, x3⟩ := BX3
  go_wp2
  go_ret
  exact ⟨rfl, Z3.out⟩
theorem rgoes_2 (W D J S op k o p q v x y s : Int) (A : Option Addr) (n c : Nat) (w : World) (h0 : may W D J S = true) (h1 : ((n : Int) == sz W D J S) = true) (h2 : (s != 0) = true) : Tells 28 #[cf W D J S, .slice A n c, fv ⟨o, p, q, v, x, y, s⟩, .int .i64 op, .int .i64 k] w (.bool false) := by
  obtain ⟨BX, BF, Z, hz⟩ := boxes2 w W D J S ⟨o, p, q, v, x, y, s⟩
  have HM := Lib.hid h0
  have HS := Lib.hid h2
  clear h0 h2
  have h8 : w.heap.size + 1 < (bxc w W D J S ⟨o, p, q, v, x, y, s⟩).heap.size := by omega
  go_enter Try.func28, Try.ntmps28
  go_wp2_with fail
  change Calls _ _ _ (bxc w W D J S ⟨o, p, q, v, x, y, s⟩) _
  generalize bxc w W D J S ⟨o, p, q, v, x, y, s⟩ = w0 at BX BF Z hz h8 ⊢
  refine (Tells.of (rmay_any W D J S _) (v' := .bool true) (by rw [HM.out])).mono ?_
  rintro _ w1 ⟨rfl, z⟩
  have BX1 := BX.below z
  have BF1 := BF.after z
  have Z1 := Z.trans (z.mono (by omega))
  clear z BX BF Z
  obtain ⟨a0, a1, a2, a3, a4, a5, a6⟩ := BF1.cells
  have la := BF1.lt
  go_wp2_with fail
  refine (Tells.of (rover_any ⟨o, p, q, v, x, y, s⟩ _) (v' := .bool true) (by rw [← HS.out])).mono ?_
  rintro _ w2 ⟨rfl, z⟩
  clear a0 a1 a2 a3 a4 a5 a6 la
  have BX2 := BX1.below z
  have BF2 := BF1.after z
  have Z2 := Lib.hid (Z1.trans (z.mono Z1.size))
  clear z BX1 BF1 Z1
  obtain ⟨a0, a1, a2, a3, a4, a5, a6⟩ := BF2.cells
  have la := BF2.lt
  have BXk := Lib.hid BX2
  obtain ⟨gx, x0, x1, x2, x3⟩ := BX2
  go_wp2_with fail
  refine (rsize_any W D J S _).mono ?_
  rintro _ w3 ⟨rfl, z⟩
  clear a0 a1 a2 a3 a4 a5 a6 la gx x0 x1 x2 x3
  have BF3 := BF2.after z
  have Z3 := Lib.hid (Z2.out.trans (z.mono Z2.out.size))
  have BX3 := BXk.out.below z
  clear z
  obtain ⟨a0, a1, a2, a3, a4, a5, a6⟩ := BF3.cells
  have la := BF3.lt
  obtain ⟨gx, x0, x1, x2, x3⟩ := BX3
  go_wp2
  go_ret
  exact ⟨rfl, Z3.out⟩
theorem rgoes_3 (W D J S op k o p q v x y s : Int) (A : Option Addr) (n c : Nat) (w : World) (h0 : may W D J S = true) (h1 : ((n : Int) == sz W D J S) = true) (h2 : (s != 0) = false) (h3 : decide (0 ≤ q) = false) : Tells 28 #[cf W D J S, .slice A n c, fv ⟨o, p, q, v, x, y, s⟩, .int .i64 op, .int .i64 k] w (.bool false) := by
  obtain ⟨BX, BF, Z, hz⟩ := boxes2 w W D J S ⟨o, p, q, v, x, y, s⟩
  have HM := Lib.hid h0
  have HS := Lib.hid h2
  clear h0 h2
  have h8 : w.heap.size + 1 < (bxc w W D J S ⟨o, p, q, v, x, y, s⟩).heap.size := by omega
  go_enter Try.func28, Try.ntmps28
  go_wp2_with fail
  change Calls _ _ _ (bxc w W D J S ⟨o, p, q, v, x, y, s⟩) _
  generalize bxc w W D J S ⟨o, p, q, v, x, y, s⟩ = w0 at BX BF Z hz h8 ⊢
  refine (Tells.of (rmay_any W D J S _) (v' := .bool true) (by rw [HM.out])).mono ?_
  rintro _ w1 ⟨rfl, z⟩
  have BX1 := BX.below z
  have BF1 := BF.after z
  have Z1 := Z.trans (z.mono (by omega))
  clear z BX BF Z
  obtain ⟨a0, a1, a2, a3, a4, a5, a6⟩ := BF1.cells
  have la := BF1.lt
  go_wp2_with fail
  refine (Tells.of (rover_any ⟨o, p, q, v, x, y, s⟩ _) (v' := .bool false) (by rw [← HS.out])).mono ?_
  rintro _ w2 ⟨rfl, z⟩
  clear a0 a1 a2 a3 a4 a5 a6 la
  have BX2 := BX1.below z
  have BF2 := BF1.after z
  have Z2 := Lib.hid (Z1.trans (z.mono Z1.size))
  clear z BX1 BF1 Z1
  obtain ⟨a0, a1, a2, a3, a4, a5, a6⟩ := BF2.cells
  have la := BF2.lt
  have BXk := Lib.hid BX2
  obtain ⟨gx, x0, x1, x2, x3⟩ := BX2
  go_wp2_with fail
  refine (rsize_any W D J S _).mono ?_
  rintro _ w3 ⟨rfl, z⟩
  clear a0 a1 a2 a3 a4 a5 a6 la gx x0 x1 x2 x3
  have BF3 := BF2.after z
  have Z3 := Lib.hid (Z2.out.trans (z.mono Z2.out.size))
  have BX3 := BXk.out.below z
  clear z
  obtain ⟨a0, a1, a2, a3, a4, a5, a6⟩ := BF3.cells
  have la := BF3.lt
  obtain ⟨gx, x0, x1, x2, x3⟩ := BX3
  go_wp2
  go_ret
  exact ⟨rfl, Z3.out⟩
theorem rgoes_4 (W D J S op k o p q v x y s : Int) (A : Option Addr) (n c : Nat) (w : World) (h0 : may W D J S = true) (h1 : ((n : Int) == sz W D J S) = true) (h2 : (s != 0) = false) (h3 : decide (0 ≤ q) = true) (h4 : decide (q < W) = false) : Tells 28 #[cf W D J S, .slice A n c, fv ⟨o, p, q, v, x, y, s⟩, .int .i64 op, .int .i64 k] w (.bool false) := by
  obtain ⟨BX, BF, Z, hz⟩ := boxes2 w W D J S ⟨o, p, q, v, x, y, s⟩
  have HM := Lib.hid h0
  have HS := Lib.hid h2
  clear h0 h2
  have h8 : w.heap.size + 1 < (bxc w W D J S ⟨o, p, q, v, x, y, s⟩).heap.size := by omega
  go_enter Try.func28, Try.ntmps28
  go_wp2_with fail
  change Calls _ _ _ (bxc w W D J S ⟨o, p, q, v, x, y, s⟩) _
  generalize bxc w W D J S ⟨o, p, q, v, x, y, s⟩ = w0 at BX BF Z hz h8 ⊢
  refine (Tells.of (rmay_any W D J S _) (v' := .bool true) (by rw [HM.out])).mono ?_
  rintro _ w1 ⟨rfl, z⟩
  have BX1 := BX.below z
  have BF1 := BF.after z
  have Z1 := Z.trans (z.mono (by omega))
  clear z BX BF Z
  obtain ⟨a0, a1, a2, a3, a4, a5, a6⟩ := BF1.cells
  have la := BF1.lt
  go_wp2_with fail
  refine (Tells.of (rover_any ⟨o, p, q, v, x, y, s⟩ _) (v' := .bool false) (by rw [← HS.out])).mono ?_
  rintro _ w2 ⟨rfl, z⟩
  clear a0 a1 a2 a3 a4 a5 a6 la
  have BX2 := BX1.below z
  have BF2 := BF1.after z
  have Z2 := Lib.hid (Z1.trans (z.mono Z1.size))
  clear z BX1 BF1 Z1
  obtain ⟨a0, a1, a2, a3, a4, a5, a6⟩ := BF2.cells
  have la := BF2.lt
  have BXk := Lib.hid BX2
  obtain ⟨gx, x0, x1, x2, x3⟩ := BX2
  go_wp2_with fail
  refine (rsize_any W D J S _).mono ?_
  rintro _ w3 ⟨rfl, z⟩
  clear a0 a1 a2 a3 a4 a5 a6 la gx x0 x1 x2 x3
  have BF3 := BF2.after z
  have Z3 := Lib.hid (Z2.out.trans (z.mono Z2.out.size))
  have BX3 := BXk.out.below z
  clear z
  obtain ⟨a0, a1, a2, a3, a4, a5, a6⟩ := BF3.cells
  have la := BF3.lt
  obtain ⟨gx, x0, x1, x2, x3⟩ := BX3
  go_wp2
  go_ret
  exact ⟨rfl, Z3.out⟩
theorem rgoes_5 (W D J S op k o p q v x y s : Int) (A : Option Addr) (n c : Nat) (w : World) (h0 : may W D J S = true) (h1 : ((n : Int) == sz W D J S) = true) (h2 : (s != 0) = false) (h3 : decide (0 ≤ q) = true) (h4 : decide (q < W) = true) (h5 : (o == op) = false) : Tells 28 #[cf W D J S, .slice A n c, fv ⟨o, p, q, v, x, y, s⟩, .int .i64 op, .int .i64 k] w (.bool false) := by
  obtain ⟨BX, BF, Z, hz⟩ := boxes2 w W D J S ⟨o, p, q, v, x, y, s⟩
  have HM := Lib.hid h0
  have HS := Lib.hid h2
  clear h0 h2
  have h8 : w.heap.size + 1 < (bxc w W D J S ⟨o, p, q, v, x, y, s⟩).heap.size := by omega
  go_enter Try.func28, Try.ntmps28
  go_wp2_with fail
  change Calls _ _ _ (bxc w W D J S ⟨o, p, q, v, x, y, s⟩) _
  generalize bxc w W D J S ⟨o, p, q, v, x, y, s⟩ = w0 at BX BF Z hz h8 ⊢
  refine (Tells.of (rmay_any W D J S _) (v' := .bool true) (by rw [HM.out])).mono ?_
  rintro _ w1 ⟨rfl, z⟩
  have BX1 := BX.below z
  have BF1 := BF.after z
  have Z1 := Z.trans (z.mono (by omega))
  clear z BX BF Z
  obtain ⟨a0, a1, a2, a3, a4, a5, a6⟩ := BF1.cells
  have la := BF1.lt
  go_wp2_with fail
  refine (Tells.of (rover_any ⟨o, p, q, v, x, y, s⟩ _) (v' := .bool false) (by rw [← HS.out])).mono ?_
  rintro _ w2 ⟨rfl, z⟩
  clear a0 a1 a2 a3 a4 a5 a6 la
  have BX2 := BX1.below z
  have BF2 := BF1.after z
  have Z2 := Lib.hid (Z1.trans (z.mono Z1.size))
  clear z BX1 BF1 Z1
  obtain ⟨a0, a1, a2, a3, a4, a5, a6⟩ := BF2.cells
  have la := BF2.lt
  have BXk := Lib.hid BX2
  obtain ⟨gx, x0, x1, x2, x3⟩ := BX2
  go_wp2_with fail
  refine (rsize_any W D J S _).mono ?_
  rintro _ w3 ⟨rfl, z⟩
  clear a0 a1 a2 a3 a4 a5 a6 la gx x0 x1 x2 x3
  have BF3 := BF2.after z
  have Z3 := Lib.hid (Z2.out.trans (z.mono Z2.out.size))
  have BX3 := BXk.out.below z
  clear z
  obtain ⟨a0, a1, a2, a3, a4, a5, a6⟩ := BF3.cells
  have la := BF3.lt
  obtain ⟨gx, x0, x1, x2, x3⟩ := BX3
  go_wp2
  go_ret
  exact ⟨rfl, Z3.out⟩
theorem rgoes_6 (W D J S op k o p q v x y s : Int) (A : Option Addr) (n c : Nat) (w : World) (h0 : may W D J S = true) (h1 : ((n : Int) == sz W D J S) = true) (h2 : (s != 0) = false) (h3 : decide (0 ≤ q) = true) (h4 : decide (q < W) = true) (h5 : (o == op) = true) (h6 : decide (0 ≤ p) = false) : Tells 28 #[cf W D J S, .slice A n c, fv ⟨o, p, q, v, x, y, s⟩, .int .i64 op, .int .i64 k] w (.bool false) := by
  obtain ⟨BX, BF, Z, hz⟩ := boxes2 w W D J S ⟨o, p, q, v, x, y, s⟩
  have HM := Lib.hid h0
  have HS := Lib.hid h2
  clear h0 h2
  have h8 : w.heap.size + 1 < (bxc w W D J S ⟨o, p, q, v, x, y, s⟩).heap.size := by omega
  go_enter Try.func28, Try.ntmps28
  go_wp2_with fail
  change Calls _ _ _ (bxc w W D J S ⟨o, p, q, v, x, y, s⟩) _
  generalize bxc w W D J S ⟨o, p, q, v, x, y, s⟩ = w0 at BX BF Z hz h8 ⊢
  refine (Tells.of (rmay_any W D J S _) (v' := .bool true) (by rw [HM.out])).mono ?_
  rintro _ w1 ⟨rfl, z⟩
  have BX1 := BX.below z
  have BF1 := BF.after z
  have Z1 := Z.trans (z.mono (by omega))
  clear z BX BF Z
  obtain ⟨a0, a1, a2, a3, a4, a5, a6⟩ := BF1.cells
  have la := BF1.lt
  go_wp2_with fail
  refine (Tells.of (rover_any ⟨o, p, q, v, x, y, s⟩ _) (v' := .bool false) (by rw [← HS.out])).mono ?_
  rintro _ w2 ⟨rfl, z⟩
  clear a0 a1 a2 a3 a4 a5 a6 la
  have BX2 := BX1.below z
  have BF2 := BF1.after z
  have Z2 := Lib.hid (Z1.trans (z.mono Z1.size))
  clear z BX1 BF1 Z1
  obtain ⟨a0, a1, a2, a3, a4, a5, a6⟩ := BF2.cells
  have la := BF2.lt
  have BXk := Lib.hid BX2
  obtain ⟨gx, x0, x1, x2, x3⟩ := BX2
  go_wp2_with fail
  refine (rsize_any W D J S _).mono ?_
  rintro _ w3 ⟨rfl, z⟩
  clear a0 a1 a2 a3 a4 a5 a6 la gx x0 x1 x2 x3
  have BF3 := BF2.after z
  have Z3 := Lib.hid (Z2.out.trans (z.mono Z2.out.size))
  have BX3 := BXk.out.below z
  clear z
  obtain ⟨a0, a1, a2, a3, a4, a5, a6⟩ := BF3.cells
  have la := BF3.lt
  obtain ⟨gx, x0, x1, x2, x3⟩ := BX3
  go_wp2
  go_ret
  exact ⟨rfl, Z3.out⟩
theorem rgoes_7 (W D J S op k o p q v x y s : Int) (A : Option Addr) (n c : Nat) (w : World) (h0 : may W D J S = true) (h1 : ((n : Int) == sz W D J S) = true) (h2 : (s != 0) = false) (h3 : decide (0 ≤ q) = true) (h4 : decide (q < W) = true) (h5 : (o == op) = true) (h6 : decide (0 ≤ p) = true) (h7 : decide (p < k) = false) : Tells 28 #[cf W D J S, .slice A n c, fv ⟨o, p, q, v, x, y, s⟩, .int .i64 op, .int .i64 k] w (.bool false) := by
  obtain ⟨BX, BF, Z, hz⟩ := boxes2 w W D J S ⟨o, p, q, v, x, y, s⟩
  have HM := Lib.hid h0
  have HS := Lib.hid h2
  clear h0 h2
  have h8 : w.heap.size + 1 < (bxc w W D J S ⟨o, p, q, v, x, y, s⟩).heap.size := by omega
  go_enter Try.func28, Try.ntmps28
  go_wp2_with fail
  change Calls _ _ _ (bxc w W D J S ⟨o, p, q, v, x, y, s⟩) _
  generalize bxc w W D J S ⟨o, p, q, v, x, y, s⟩ = w0 at BX BF Z hz h8 ⊢
  refine (Tells.of (rmay_any W D J S _) (v' := .bool true) (by rw [HM.out])).mono ?_
  rintro _ w1 ⟨rfl, z⟩
  have BX1 := BX.below z
  have BF1 := BF.after z
  have Z1 := Z.trans (z.mono (by omega))
  clear z BX BF Z
  obtain ⟨a0, a1, a2, a3, a4, a5, a6⟩ := BF1.cells
  have la := BF1.lt
  go_wp2_with fail
  refine (Tells.of (rover_any ⟨o, p, q, v, x, y, s⟩ _) (v' := .bool false) (by rw [← HS.out])).mono ?_
  rintro _ w2 ⟨rfl, z⟩
  clear a0 a1 a2 a3 a4 a5 a6 la
  have BX2 := BX1.below z
  have BF2 := BF1.after z
  have Z2 := Lib.hid (Z1.trans (z.mono Z1.size))
  clear z BX1 BF1 Z1
  obtain ⟨a0, a1, a2, a3, a4, a5, a6⟩ := BF2.cells
  have la := BF2.lt
  have BXk := Lib.hid BX2
  obtain ⟨gx, x0, x1, x2, x3⟩ := BX2
  go_wp2_with fail
  refine (rsize_any W D J S _).mono ?_
  rintro _ w3 ⟨rfl, z⟩
  clear a0 a1 a2 a3 a4 a5 a6 la gx x0 x1 x2 x3
  have BF3 := BF2.after z
  have Z3 := Lib.hid (Z2.out.trans (z.mono Z2.out.size))
  have BX3 := BXk.out.below z
  clear z
  obtain ⟨a0, a1, a2, a3, a4, a5, a6⟩ := BF3.cells
  have la := BF3.lt
  obtain ⟨gx, x0, x1, x2, x3⟩ := BX3
  go_wp2
  go_ret
  exact ⟨rfl, Z3.out⟩
theorem rgoes_8 (W D J S op k o p q v x y s : Int) (A : Option Addr) (n c : Nat) (w : World) (h0 : may W D J S = true) (h1 : ((n : Int) == sz W D J S) = true) (h2 : (s != 0) = false) (h3 : decide (0 ≤ q) = true) (h4 : decide (q < W) = true) (h5 : (o == op) = true) (h6 : decide (0 ≤ p) = true) (h7 : decide (p < k) = true) : Tells 28 #[cf W D J S, .slice A n c, fv ⟨o, p, q, v, x, y, s⟩, .int .i64 op, .int .i64 k] w (.bool true) := by
  obtain ⟨BX, BF, Z, hz⟩ := boxes2 w W D J S ⟨o, p, q, v, x, y, s⟩
  have HM := Lib.hid h0
  have HS := Lib.hid h2
  clear h0 h2
  have h8 : w.heap.size + 1 < (bxc w W D J S ⟨o, p, q, v, x, y, s⟩).heap.size := by omega
  go_enter Try.func28, Try.ntmps28
  go_wp2_with fail
  change Calls _ _ _ (bxc w W D J S ⟨o, p, q, v, x, y, s⟩) _
  generalize bxc w W D J S ⟨o, p, q, v, x, y, s⟩ = w0 at BX BF Z hz h8 ⊢
  refine (Tells.of (rmay_any W D J S _) (v' := .bool true) (by rw [HM.out])).mono ?_
  rintro _ w1 ⟨rfl, z⟩
  have BX1 := BX.below z
  have BF1 := BF.after z
  have Z1 := Z.trans (z.mono (by omega))
  clear z BX BF Z
  obtain ⟨a0, a1, a2, a3, a4, a5, a6⟩ := BF1.cells
  have la := BF1.lt
  go_wp2_with fail
  refine (Tells.of (rover_any ⟨o, p, q, v, x, y, s⟩ _) (v' := .bool false) (by rw [← HS.out])).mono ?_
  rintro _ w2 ⟨rfl, z⟩
  clear a0 a1 a2 a3 a4 a5 a6 la
  have BX2 := BX1.below z
  have BF2 := BF1.after z
  have Z2 := Lib.hid (Z1.trans (z.mono Z1.size))
  clear z BX1 BF1 Z1
  obtain ⟨a0, a1, a2, a3, a4, a5, a6⟩ := BF2.cells
  have la := BF2.lt
  have BXk := Lib.hid BX2
  obtain ⟨gx, x0, x1, x2, x3⟩ := BX2
  go_wp2_with fail
  refine (rsize_any W D J S _).mono ?_
  rintro _ w3 ⟨rfl, z⟩
  clear a0 a1 a2 a3 a4 a5 a6 la gx x0 x1 x2 x3
  have BF3 := BF2.after z
  have Z3 := Lib.hid (Z2.out.trans (z.mono Z2.out.size))
  have BX3 := BXk.out.below z
  clear z
  obtain ⟨a0, a1, a2, a3, a4, a5, a6⟩ := BF3.cells
  have la := BF3.lt
  obtain ⟨gx, x0, x1, x2, x3⟩ := BX3
  go_wp2
  go_ret
  exact ⟨rfl, Z3.out⟩
theorem rgoes_any (W D J S op k : Int) (A : Option Addr) (n c : Nat) (m : List Int) (f : Fr) (w : World) (hn : m.length = n) : Tells 28 #[cf W D J S, .slice A n c, fv f, .int .i64 op, .int .i64 k] w (.bool (goes W D J S m f op k)) := by
  obtain ⟨o, p, q, v, x, y, s⟩ := f
  unfold goes okw
  simp only [hn]
  have e1 : decide ((n : Int) = sz W D J S) = ((n : Int) == sz W D J S) := Bool.eq_iff_iff.2 (by simp)
  have e2 : decide (s = 0) = !(s != 0) := Bool.eq_iff_iff.2 (by simp)
  have e5 : decide (o = op) = (o == op) := Bool.eq_iff_iff.2 (by simp)
  rw [e1, e2, e5]
  cases h0 : may W D J S
  · simpa using rgoes_0 W D J S op k o p q v x y s A n c w h0
  cases h1 : ((n : Int) == sz W D J S)
  · simpa using rgoes_1 W D J S op k o p q v x y s A n c w h0 h1
  rcases Bool.eq_false_or_eq_true (s != 0) with h2 | h2
  · rw [h2]
    simpa using rgoes_2 W D J S op k o p q v x y s A n c w h0 h1 h2
  rw [h2]
  cases h3 : decide (0 ≤ q)
  · simpa using rgoes_3 W D J S op k o p q v x y s A n c w h0 h1 h2 h3
  cases h4 : decide (q < W)
  · simpa using rgoes_4 W D J S op k o p q v x y s A n c w h0 h1 h2 h3 h4
  cases h5 : (o == op)
  · simpa using rgoes_5 W D J S op k o p q v x y s A n c w h0 h1 h2 h3 h4 h5
  cases h6 : decide (0 ≤ p)
  · simpa using rgoes_6 W D J S op k o p q v x y s A n c w h0 h1 h2 h3 h4 h5 h6
  cases h7 : decide (p < k)
  · simpa using rgoes_7 W D J S op k o p q v x y s A n c w h0 h1 h2 h3 h4 h5 h6 h7
  · simpa using rgoes_8 W D J S op k o p q v x y s A n c w h0 h1 h2 h3 h4 h5 h6 h7
end Go.Proofs.Ytpnmgpmmaiinmaa
