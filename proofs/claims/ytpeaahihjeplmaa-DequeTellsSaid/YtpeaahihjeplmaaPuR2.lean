/- Merged: PuR, PuS. -/
import Derived.Test.YtpeaahihjeplmaaPuEF
import Derived.Test.YtpeaahihjeplmaaLaR
import Derived.Test.YtpeaahihjeplmaaPuH2
import Derived.Test.YtpeaahihjeplmaaCelR2
import Derived.IntWalk
namespace Go.Proofs.Ytpeaahihjeplmaa
open Go.RowKit Go.Deep
set_option maxRecDepth 100000 in
theorem rgoes_0 (W D J S op k o p q v x y s : Int) (A : Option Addr) (n c : Nat) (w : World) (h0 : may W D J S = false) : Tells 59 #[cf W D J S, .slice A n c, fv ⟨o, p, q, v, x, y, s⟩, .int .i64 op, .int .i64 k] w (.bool false) := by
  obtain ⟨BX, BF, Z, hz⟩ := boxes2 w W D J S ⟨o, p, q, v, x, y, s⟩
  have HM := Lib.hid h0
  clear h0
  have h8 : w.heap.size + 1 < (bxc w W D J S ⟨o, p, q, v, x, y, s⟩).heap.size := by omega
  go_enter Try.func59, Try.ntmps59
  go_wp2_with fail
  change Calls _ _ _ (bxc w W D J S ⟨o, p, q, v, x, y, s⟩) _
  generalize bxc w W D J S ⟨o, p, q, v, x, y, s⟩ = w0 at BX BF Z hz h8 ⊢
  refine (Tells.of (rmay_any W D J S _) (v' := .bool false) (by rw [HM.out])).mono ?_
  rintro _ w1 ⟨rfl, z⟩
  have BX1 := BX.below z
  have BF1 := BF.after z
  have Z1 := Z.trans (z.mono (by omega))
  clear z BX BF Z
  obtain ⟨a0, a1, a2, a3, a4, a5, a6⟩ := BF1.cells
  have la := BF1.lt
  go_wp2_with fail
  refine (rover_any ⟨o, p, q, v, x, y, s⟩ _).mono ?_
  rintro _ w2 ⟨rfl, z⟩
  clear a0 a1 a2 a3 a4 a5 a6 la
  have BX2 := BX1.below z
  have BF2 := BF1.after z
  have Z2 := Lib.hid (Z1.trans (z.mono Z1.size))
  clear z BX1 BF1 Z1
  obtain ⟨a0, a1, a2, a3, a4, a5, a6⟩ := BF2.cells
  have la := BF2.lt
  obtain ⟨gx, x0, x1, x2, x3⟩ := BX2
  go_wp2
  go_ret
  exact ⟨rfl, Z2.out⟩
set_option maxRecDepth 100000 in
theorem rgoes_1 (W D J S op k o p q v x y s : Int) (A : Option Addr) (n c : Nat) (w : World) (h0 : may W D J S = true) (h1 : ((n : Int) == sz W D J S) = false) : Tells 59 #[cf W D J S, .slice A n c, fv ⟨o, p, q, v, x, y, s⟩, .int .i64 op, .int .i64 k] w (.bool false) := by
  obtain ⟨BX, BF, Z, hz⟩ := boxes2 w W D J S ⟨o, p, q, v, x, y, s⟩
  have HM := Lib.hid h0
  clear h0
  have h8 : w.heap.size + 1 < (bxc w W D J S ⟨o, p, q, v, x, y, s⟩).heap.size := by omega
  go_enter Try.func59, Try.ntmps59
  go_wp2_with fail
  change Calls _ _ _ (bxc w W D J S ⟨o, p, q, v, x, y, s⟩) _
  generalize bxc w W D J S ⟨o, p, q, v, x, y, s⟩ = w0 at BX BF Z hz h8 ⊢
  refine (Tells.of (rmay_any W D J S _) (v' := .bool true) (by rw [HM.out])).mono ?_
  rintro _ w1 ⟨rfl, z⟩
  have BX1 := BX.below z
  have BF1 := BF.after z
  have Z1 := Z.trans (z.mono (by omega))
  clear z BX BF Z
  obtain ⟨a0, a1, a2, a3, a4, a5, a6⟩ := BF1.cells
  have la := BF1.lt
  go_wp2_with fail
  refine (rover_any ⟨o, p, q, v, x, y, s⟩ _).mono ?_
  rintro _ w2 ⟨rfl, z⟩
  clear a0 a1 a2 a3 a4 a5 a6 la
  have BX2 := BX1.below z
  have BF2 := BF1.after z
  have Z2 := Lib.hid (Z1.trans (z.mono Z1.size))
  clear z BX1 BF1 Z1
  obtain ⟨a0, a1, a2, a3, a4, a5, a6⟩ := BF2.cells
  have la := BF2.lt
  have BXk := Lib.hid BX2
  obtain ⟨gx, x0, x1, x2, x3⟩ := BX2
  go_wp2_with fail
  refine (rsize_any W D J S _).mono ?_
  rintro _ w3 ⟨rfl, z⟩
  clear a0 a1 a2 a3 a4 a5 a6 la gx x0 x1 x2 x3
  have BF3 := BF2.after z
  have Z3 := Lib.hid (Z2.out.trans (z.mono Z2.out.size))
  have BX3 := BXk.out.below z
  clear z
  obtain ⟨a0, a1, a2, a3, a4, a5, a6⟩ := BF3.cells
  have la := BF3.lt
  obtain ⟨gx, x0, x1, x2, x3⟩ := BX3
  go_wp2
  go_ret
  exact ⟨rfl, Z3.out⟩
set_option maxRecDepth 100000 in
theorem rgoes_2 (W D J S op k o p q v x y s : Int) (A : Option Addr) (n c : Nat) (w : World) (h0 : may W D J S = true) (h1 : ((n : Int) == sz W D J S) = true) (h2 : (s != 0) = true) : Tells 59 #[cf W D J S, .slice A n c, fv ⟨o, p, q, v, x, y, s⟩, .int .i64 op, .int .i64 k] w (.bool false) := by
  obtain ⟨BX, BF, Z, hz⟩ := boxes2 w W D J S ⟨o, p, q, v, x, y, s⟩
  have HM := Lib.hid h0
  have HS := Lib.hid h2
  clear h0 h2
  have h8 : w.heap.size + 1 < (bxc w W D J S ⟨o, p, q, v, x, y, s⟩).heap.size := by omega
  go_enter Try.func59, Try.ntmps59
  go_wp2_with fail
  change Calls _ _ _ (bxc w W D J S ⟨o, p, q, v, x, y, s⟩) _
  generalize bxc w W D J S ⟨o, p, q, v, x, y, s⟩ = w0 at BX BF Z hz h8 ⊢
  refine (Tells.of (rmay_any W D J S _) (v' := .bool true) (by rw [HM.out])).mono ?_
  rintro _ w1 ⟨rfl, z⟩
  have BX1 := BX.below z
  have BF1 := BF.after z
  have Z1 := Z.trans (z.mono (by omega))
  clear z BX BF Z
  obtain ⟨a0, a1, a2, a3, a4, a5, a6⟩ := BF1.cells
  have la := BF1.lt
  go_wp2_with fail
  refine (Tells.of (rover_any ⟨o, p, q, v, x, y, s⟩ _) (v' := .bool true) (by rw [← HS.out])).mono ?_
  rintro _ w2 ⟨rfl, z⟩
  clear a0 a1 a2 a3 a4 a5 a6 la
  have BX2 := BX1.below z
  have BF2 := BF1.after z
  have Z2 := Lib.hid (Z1.trans (z.mono Z1.size))
  clear z BX1 BF1 Z1
  obtain ⟨a0, a1, a2, a3, a4, a5, a6⟩ := BF2.cells
  have la := BF2.lt
  have BXk := Lib.hid BX2
  obtain ⟨gx, x0, x1, x2, x3⟩ := BX2
  go_wp2_with fail
  refine (rsize_any W D J S _).mono ?_
  rintro _ w3 ⟨rfl, z⟩
  clear a0 a1 a2 a3 a4 a5 a6 la gx x0 x1 x2 x3
  have BF3 := BF2.after z
  have Z3 := Lib.hid (Z2.out.trans (z.mono Z2.out.size))
  have BX3 := BXk.out.below z
  clear z
  obtain ⟨a0, a1, a2, a3, a4, a5, a6⟩ := BF3.cells
  have la := BF3.lt
  obtain ⟨gx, x0, x1, x2, x3⟩ := BX3
  go_wp2
  go_ret
  exact ⟨rfl, Z3.out⟩
set_option maxRecDepth 100000 in
theorem rgoes_3 (W D J S op k o p q v x y s : Int) (A : Option Addr) (n c : Nat) (w : World) (h0 : may W D J S = true) (h1 : ((n : Int) == sz W D J S) = true) (h2 : (s != 0) = false) (h3 : decide (0 ≤ q) = false) : Tells 59 #[cf W D J S, .slice A n c, fv ⟨o, p, q, v, x, y, s⟩, .int .i64 op, .int .i64 k] w (.bool false) := by
  obtain ⟨BX, BF, Z, hz⟩ := boxes2 w W D J S ⟨o, p, q, v, x, y, s⟩
  have HM := Lib.hid h0
  have HS := Lib.hid h2
  clear h0 h2
  have h8 : w.heap.size + 1 < (bxc w W D J S ⟨o, p, q, v, x, y, s⟩).heap.size := by omega
  go_enter Try.func59, Try.ntmps59
  go_wp2_with fail
  change Calls _ _ _ (bxc w W D J S ⟨o, p, q, v, x, y, s⟩) _
  generalize bxc w W D J S ⟨o, p, q, v, x, y, s⟩ = w0 at BX BF Z hz h8 ⊢
  refine (Tells.of (rmay_any W D J S _) (v' := .bool true) (by rw [HM.out])).mono ?_
  rintro _ w1 ⟨rfl, z⟩
  have BX1 := BX.below z
  have BF1 := BF.after z
  have Z1 := Z.trans (z.mono (by omega))
  clear z BX BF Z
  obtain ⟨a0, a1, a2, a3, a4, a5, a6⟩ := BF1.cells
  have la := BF1.lt
  go_wp2_with fail
  refine (Tells.of (rover_any ⟨o, p, q, v, x, y, s⟩ _) (v' := .bool false) (by rw [← HS.out])).mono ?_
  rintro _ w2 ⟨rfl, z⟩
  clear a0 a1 a2 a3 a4 a5 a6 la
  have BX2 := BX1.below z
  have BF2 := BF1.after z
  have Z2 := Lib.hid (Z1.trans (z.mono Z1.size))
  clear z BX1 BF1 Z1
  obtain ⟨a0, a1, a2, a3, a4, a5, a6⟩ := BF2.cells
  have la := BF2.lt
  have BXk := Lib.hid BX2
  obtain ⟨gx, x0, x1, x2, x3⟩ := BX2
  go_wp2_with fail
  refine (rsize_any W D J S _).mono ?_
  rintro _ w3 ⟨rfl, z⟩
  clear a0 a1 a2 a3 a4 a5 a6 la gx x0 x1 x2 x3
  have BF3 := BF2.after z
  have Z3 := Lib.hid (Z2.out.trans (z.mono Z2.out.size))
  have BX3 := BXk.out.below z
  clear z
  obtain ⟨a0, a1, a2, a3, a4, a5, a6⟩ := BF3.cells
  have la := BF3.lt
  obtain ⟨gx, x0, x1, x2, x3⟩ := BX3
  go_wp2
  go_ret
  exact ⟨rfl, Z3.out⟩
set_option maxRecDepth 100000 in
theorem rgoes_4 (W D J S op k o p q v x y s : Int) (A : Option Addr) (n c : Nat) (w : World) (h0 : may W D J S = true) (h1 : ((n : Int) == sz W D J S) = true) (h2 : (s != 0) = false) (h3 : decide (0 ≤ q) = true) (h4 : decide (q < W) = false) : Tells 59 #[cf W D J S, .slice A n c, fv ⟨o, p, q, v, x, y, s⟩, .int .i64 op, .int .i64 k] w (.bool false) := by
  obtain ⟨BX, BF, Z, hz⟩ := boxes2 w W D J S ⟨o, p, q, v, x, y, s⟩
  have HM := Lib.hid h0
  have HS := Lib.hid h2
  clear h0 h2
  have h8 : w.heap.size + 1 < (bxc w W D J S ⟨o, p, q, v, x, y, s⟩).heap.size := by omega
  go_enter Try.func59, Try.ntmps59
  go_wp2_with fail
  change Calls _ _ _ (bxc w W D J S ⟨o, p, q, v, x, y, s⟩) _
  generalize bxc w W D J S ⟨o, p, q, v, x, y, s⟩ = w0 at BX BF Z hz h8 ⊢
  refine (Tells.of (rmay_any W D J S _) (v' := .bool true) (by rw [HM.out])).mono ?_
  rintro _ w1 ⟨rfl, z⟩
  have BX1 := BX.below z
  have BF1 := BF.after z
  have Z1 := Z.trans (z.mono (by omega))
  clear z BX BF Z
  obtain ⟨a0, a1, a2, a3, a4, a5, a6⟩ := BF1.cells
  have la := BF1.lt
  go_wp2_with fail
  refine (Tells.of (rover_any ⟨o, p, q, v, x, y, s⟩ _) (v' := .bool false) (by rw [← HS.out])).mono ?_
  rintro _ w2 ⟨rfl, z⟩
  clear a0 a1 a2 a3 a4 a5 a6 la
  have BX2 := BX1.below z
  have BF2 := BF1.after z
  have Z2 := Lib.hid (Z1.trans (z.mono Z1.size))
  clear z BX1 BF1 Z1
  obtain ⟨a0, a1, a2, a3, a4, a5, a6⟩ := BF2.cells
  have la := BF2.lt
  have BXk := Lib.hid BX2
  obtain ⟨gx, x0, x1, x2, x3⟩ := BX2
  go_wp2_with fail
  refine (rsize_any W D J S _).mono ?_
  rintro _ w3 ⟨rfl, z⟩
  clear a0 a1 a2 a3 a4 a5 a6 la gx x0 x1 x2 x3
  have BF3 := BF2.after z
  have Z3 := Lib.hid (Z2.out.trans (z.mono Z2.out.size))
  have BX3 := BXk.out.below z
  clear z
  obtain ⟨a0, a1, a2, a3, a4, a5, a6⟩ := BF3.cells
  have la := BF3.lt
  obtain ⟨gx, x0, x1, x2, x3⟩ := BX3
  go_wp2
  go_ret
  exact ⟨rfl, Z3.out⟩
set_option maxRecDepth 100000 in
theorem rgoes_5 (W D J S op k o p q v x y s : Int) (A : Option Addr) (n c : Nat) (w : World) (h0 : may W D J S = true) (h1 : ((n : Int) == sz W D J S) = true) (h2 : (s != 0) = false) (h3 : decide (0 ≤ q) = true) (h4 : decide (q < W) = true) (h5 : (o == op) = false) : Tells 59 #[cf W D J S, .slice A n c, fv ⟨o, p, q, v, x, y, s⟩, .int .i64 op, .int .i64 k] w (.bool false) := by
  obtain ⟨BX, BF, Z, hz⟩ := boxes2 w W D J S ⟨o, p, q, v, x, y, s⟩
  have HM := Lib.hid h0
  have HS := Lib.hid h2
  clear h0 h2
  have h8 : w.heap.size + 1 < (bxc w W D J S ⟨o, p, q, v, x, y, s⟩).heap.size := by omega
  go_enter Try.func59, Try.ntmps59
  go_wp2_with fail
  change Calls _ _ _ (bxc w W D J S ⟨o, p, q, v, x, y, s⟩) _
  generalize bxc w W D J S ⟨o, p, q, v, x, y, s⟩ = w0 at BX BF Z hz h8 ⊢
  refine (Tells.of (rmay_any W D J S _) (v' := .bool true) (by rw [HM.out])).mono ?_
  rintro _ w1 ⟨rfl, z⟩
  have BX1 := BX.below z
  have BF1 := BF.after z
  have Z1 := Z.trans (z.mono (by omega))
  clear z BX BF Z
  obtain ⟨a0, a1, a2, a3, a4, a5, a6⟩ := BF1.cells
  have la := BF1.lt
  go_wp2_with fail
  refine (Tells.of (rover_any ⟨o, p, q, v, x, y, s⟩ _) (v' := .bool false) (by rw [← HS.out])).mono ?_
  rintro _ w2 ⟨rfl, z⟩
  clear a0 a1 a2 a3 a4 a5 a6 la
  have BX2 := BX1.below z
  have BF2 := BF1.after z
  have Z2 := Lib.hid (Z1.trans (z.mono Z1.size))
  clear z BX1 BF1 Z1
  obtain ⟨a0, a1, a2, a3, a4, a5, a6⟩ := BF2.cells
  have la := BF2.lt
  have BXk := Lib.hid BX2
  obtain ⟨gx, x0, x1, x2, x3⟩ := BX2
  go_wp2_with fail
  refine (rsize_any W D J S _).mono ?_
  rintro _ w3 ⟨rfl, z⟩
  clear a0 a1 a2 a3 a4 a5 a6 la gx x0 x1 x2 x3
  have BF3 := BF2.after z
  have Z3 := Lib.hid (Z2.out.trans (z.mono Z2.out.size))
  have BX3 := BXk.out.below z
  clear z
  obtain ⟨a0, a1, a2, a3, a4, a5, a6⟩ := BF3.cells
  have la := BF3.lt
  obtain ⟨gx, x0, x1, x2, x3⟩ := BX3
  go_wp2
  go_ret
  exact ⟨rfl, Z3.out⟩
set_option maxRecDepth 100000 in
theorem rgoes_6 (W D J S op k o p q v x y s : Int) (A : Option Addr) (n c : Nat) (w : World) (h0 : may W D J S = true) (h1 : ((n : Int) == sz W D J S) = true) (h2 : (s != 0) = false) (h3 : decide (0 ≤ q) = true) (h4 : decide (q < W) = true) (h5 : (o == op) = true) (h6 : decide (0 ≤ p) = false) : Tells 59 #[cf W D J S, .slice A n c, fv ⟨o, p, q, v, x, y, s⟩, .int .i64 op, .int .i64 k] w (.bool false) := by
  obtain ⟨BX, BF, Z, hz⟩ := boxes2 w W D J S ⟨o, p, q, v, x, y, s⟩
  have HM := Lib.hid h0
  have HS := Lib.hid h2
  clear h0 h2
  have h8 : w.heap.size + 1 < (bxc w W D J S ⟨o, p, q, v, x, y, s⟩).heap.size := by omega
  go_enter Try.func59, Try.ntmps59
  go_wp2_with fail
  change Calls _ _ _ (bxc w W D J S ⟨o, p, q, v, x, y, s⟩) _
  generalize bxc w W D J S ⟨o, p, q, v, x, y, s⟩ = w0 at BX BF Z hz h8 ⊢
  refine (Tells.of (rmay_any W D J S _) (v' := .bool true) (by rw [HM.out])).mono ?_
  rintro _ w1 ⟨rfl, z⟩
  have BX1 := BX.below z
  have BF1 := BF.after z
  have Z1 := Z.trans (z.mono (by omega))
  clear z BX BF Z
  obtain ⟨a0, a1, a2, a3, a4, a5, a6⟩ := BF1.cells
  have la := BF1.lt
  go_wp2_with fail
  refine (Tells.of (rover_any ⟨o, p, q, v, x, y, s⟩ _) (v' := .bool false) (by rw [← HS.out])).mono ?_
  rintro _ w2 ⟨rfl, z⟩
  clear a0 a1 a2 a3 a4 a5 a6 la
  have BX2 := BX1.below z
  have BF2 := BF1.after z
  have Z2 := Lib.hid (Z1.trans (z.mono Z1.size))
  clear z BX1 BF1 Z1
  obtain ⟨a0, a1, a2, a3, a4, a5, a6⟩ := BF2.cells
  have la := BF2.lt
  have BXk := Lib.hid BX2
  obtain ⟨gx, x0, x1, x2, x3⟩ := BX2
  go_wp2_with fail
  refine (rsize_any W D J S _).mono ?_
  rintro _ w3 ⟨rfl, z⟩
  clear a0 a1 a2 a3 a4 a5 a6 la gx x0 x1 x2 x3
  have BF3 := BF2.after z
  have Z3 := Lib.hid (Z2.out.trans (z.mono Z2.out.size))
  have BX3 := BXk.out.below z
  clear z
  obtain ⟨a0, a1, a2, a3, a4, a5, a6⟩ := BF3.cells
  have la := BF3.lt
  obtain ⟨gx, x0, x1, x2, x3⟩ := BX3
  go_wp2
  go_ret
  exact ⟨rfl, Z3.out⟩
set_option maxRecDepth 100000 in
theorem rgoes_7 (W D J S op k o p q v x y s : Int) (A : Option Addr) (n c : Nat) (w : World) (h0 : may W D J S = true) (h1 : ((n : Int) == sz W D J S) = true) (h2 : (s != 0) = false) (h3 : decide (0 ≤ q) = true) (h4 : decide (q < W) = true) (h5 : (o == op) = true) (h6 : decide (0 ≤ p) = true) (h7 : decide (p < k) = false) : Tells 59 #[cf W D J S, .slice A n c, fv ⟨o, p, q, v, x, y, s⟩, .int .i64 op, .int .i64 k] w (.bool false) := by
  obtain ⟨BX, BF, Z, hz⟩ := boxes2 w W D J S ⟨o, p, q, v, x, y, s⟩
  have HM := Lib.hid h0
  have HS := Lib.hid h2
  clear h0 h2
  have h8 : w.heap.size + 1 < (bxc w W D J S ⟨o, p, q, v, x, y, s⟩).heap.size := by omega
  go_enter Try.func59, Try.ntmps59
  go_wp2_with fail
  change Calls _ _ _ (bxc w W D J S ⟨o, p, q, v, x, y, s⟩) _
  generalize bxc w W D J S ⟨o, p, q, v, x, y, s⟩ = w0 at BX BF Z hz h8 ⊢
  refine (Tells.of (rmay_any W D J S _) (v' := .bool true) (by rw [HM.out])).mono ?_
  rintro _ w1 ⟨rfl, z⟩
  have BX1 := BX.below z
  have BF1 := BF.after z
  have Z1 := Z.trans (z.mono (by omega))
  clear z BX BF Z
  obtain ⟨a0, a1, a2, a3, a4, a5, a6⟩ := BF1.cells
  have la := BF1.lt
  go_wp2_with fail
  refine (Tells.of (rover_any ⟨o, p, q, v, x, y, s⟩ _) (v' := .bool false) (by rw [← HS.out])).mono ?_
  rintro _ w2 ⟨rfl, z⟩
  clear a0 a1 a2 a3 a4 a5 a6 la
  have BX2 := BX1.below z
  have BF2 := BF1.after z
  have Z2 := Lib.hid (Z1.trans (z.mono Z1.size))
  clear z BX1 BF1 Z1
  obtain ⟨a0, a1, a2, a3, a4, a5, a6⟩ := BF2.cells
  have la := BF2.lt
  have BXk := Lib.hid BX2
  obtain ⟨gx, x0, x1, x2, x3⟩ := BX2
  go_wp2_with fail
  refine (rsize_any W D J S _).mono ?_
  rintro _ w3 ⟨rfl, z⟩
  clear a0 a1 a2 a3 a4 a5 a6 la gx x0 x1 x2 x3
  have BF3 := BF2.after z
  have Z3 := Lib.hid (Z2.out.trans (z.mono Z2.out.size))
  have BX3 := BXk.out.below z
  clear z
  obtain ⟨a0, a1, a2, a3, a4, a5, a6⟩ := BF3.cells
  have la := BF3.lt
  obtain ⟨gx, x0, x1, x2, x3⟩ := BX3
  go_wp2
  go_ret
  exact ⟨rfl, Z3.out⟩
set_option maxRecDepth 100000 in
theorem rgoes_8 (W D J S op k o p q v x y s : Int) (A : Option Addr) (n c : Nat) (w : World) (h0 : may W D J S = true) (h1 : ((n : Int) == sz W D J S) = true) (h2 : (s != 0) = false) (h3 : decide (0 ≤ q) = true) (h4 : decide (q < W) = true) (h5 : (o == op) = true) (h6 : decide (0 ≤ p) = true) (h7 : decide (p < k) = true) : Tells 59 #[cf W D J S, .slice A n c, fv ⟨o, p, q, v, x, y, s⟩, .int .i64 op, .int .i64 k] w (.bool true) := by
  obtain ⟨BX, BF, Z, hz⟩ := boxes2 w W D J S ⟨o, p, q, v, x, y, s⟩
  have HM := Lib.hid h0
  have HS := Lib.hid h2
  clear h0 h2
  have h8 : w.heap.size + 1 < (bxc w W D J S ⟨o, p, q, v, x, y, s⟩).heap.size := by omega
  go_enter Try.func59, Try.ntmps59
  go_wp2_with fail
  change Calls _ _ _ (bxc w W D J S ⟨o, p, q, v, x, y, s⟩) _
  generalize bxc w W D J S ⟨o, p, q, v, x, y, s⟩ = w0 at BX BF Z hz h8 ⊢
  refine (Tells.of (rmay_any W D J S _) (v' := .bool true) (by rw [HM.out])).mono ?_
  rintro _ w1 ⟨rfl, z⟩
  have BX1 := BX.below z
  have BF1 := BF.after z
  have Z1 := Z.trans (z.mono (by omega))
  clear z BX BF Z
  obtain ⟨a0, a1, a2, a3, a4, a5, a6⟩ := BF1.cells
  have la := BF1.lt
  go_wp2_with fail
  refine (Tells.of (rover_any ⟨o, p, q, v, x, y, s⟩ _) (v' := .bool false) (by rw [← HS.out])).mono ?_
  rintro _ w2 ⟨rfl, z⟩
  clear a0 a1 a2 a3 a4 a5 a6 la
  have BX2 := BX1.below z
  have BF2 := BF1.after z
  have Z2 := Lib.hid (Z1.trans (z.mono Z1.size))
  clear z BX1 BF1 Z1
  obtain ⟨a0, a1, a2, a3, a4, a5, a6⟩ := BF2.cells
  have la := BF2.lt
  have BXk := Lib.hid BX2
  obtain ⟨gx, x0, x1, x2, x3⟩ := BX2
  go_wp2_with fail
  refine (rsize_any W D J S _).mono ?_
  rintro _ w3 ⟨rfl, z⟩
  clear a0 a1 a2 a3 a4 a5 a6 la gx x0 x1 x2 x3
  have BF3 := BF2.after z
  have Z3 := Lib.hid (Z2.out.trans (z.mono Z2.out.size))
  have BX3 := BXk.out.below z
  clear z
  obtain ⟨a0, a1, a2, a3, a4, a5, a6⟩ := BF3.cells
  have la := BF3.lt
  obtain ⟨gx, x0, x1, x2, x3⟩ := BX3
  go_wp2
  go_ret
  exact ⟨rfl, Z3.out⟩
set_option maxRecDepth 100000 in
theorem rgoes_any (W D J S op k : Int) (A : Option Addr) (n c : Nat) (m : List Int) (f : Fr) (w : World) (hn : m.length = n) : Tells 59 #[cf W D J S, .slice A n c, fv f, .int .i64 op, .int .i64 k] w (.bool (goes W D J S m f op k)) := by
  obtain ⟨o, p, q, v, x, y, s⟩ := f
  unfold goes okw
  simp only [hn]
  have e1 : decide ((n : Int) = sz W D J S) = ((n : Int) == sz W D J S) := Bool.eq_iff_iff.2 (by simp)
  have e2 : decide (s = 0) = !(s != 0) := Bool.eq_iff_iff.2 (by simp)
  have e5 : decide (o = op) = (o == op) := Bool.eq_iff_iff.2 (by simp)
  rw [e1, e2, e5]
  cases h0 : may W D J S
  · simpa using rgoes_0 W D J S op k o p q v x y s A n c w h0
  cases h1 : ((n : Int) == sz W D J S)
  · simpa using rgoes_1 W D J S op k o p q v x y s A n c w h0 h1
  rcases Bool.eq_false_or_eq_true (s != 0) with h2 | h2
  · rw [h2]
    simpa using rgoes_2 W D J S op k o p q v x y s A n c w h0 h1 h2
  rw [h2]
  cases h3 : decide (0 ≤ q)
  · simpa using rgoes_3 W D J S op k o p q v x y s A n c w h0 h1 h2 h3
  cases h4 : decide (q < W)
  · simpa using rgoes_4 W D J S op k o p q v x y s A n c w h0 h1 h2 h3 h4
  cases h5 : (o == op)
  · simpa using rgoes_5 W D J S op k o p q v x y s A n c w h0 h1 h2 h3 h4 h5
  cases h6 : decide (0 ≤ p)
  · simpa using rgoes_6 W D J S op k o p q v x y s A n c w h0 h1 h2 h3 h4 h5 h6
  cases h7 : decide (p < k)
  · simpa using rgoes_7 W D J S op k o p q v x y s A n c w h0 h1 h2 h3 h4 h5 h6 h7
  · simpa using rgoes_8 W D J S op k o p q v x y s A n c w h0 h1 h2 h3 h4 h5 h6 h7
end Go.Proofs.Ytpeaahihjeplmaa
namespace Go.Proofs.Ytpeaahihjeplmaa
open Go.RowKit Go.Deep
/-- What the document's own step leaves: cells that may be read, and a call. -/
def RetT (w : World) (n : Nat) (l : List Int) (f : Fr) (e : Ending) (w' : World) : Prop :=
  ∃ A c, e = .returned (.tuple #[.slice A n c, fv f]) ∧ Rd w' A l ∧ Below w.heap.size w w'
/-- The same, told where the cells are: as they were, or in new memory. -/
def RetU (w : World) (A₀ : Option Addr) (l₀ : List Int) (n : Nat) (l : List Int) (f : Fr) (e : Ending) (w' : World) : Prop :=
  ∃ A c, e = .returned (.tuple #[.slice A n c, fv f]) ∧ ((A = A₀ ∧ l = l₀) ∨ Rn w.heap.size w' A l) ∧ Below w.heap.size w w'
set_option maxRecDepth 100000 in
theorem RetU.t {w : World} {A₀ : Option Addr} {l₀ : List Int} {n : Nat} {l : List Int} {f : Fr} {e : Ending} {w' : World} (h : RetU w A₀ l₀ n l f e w') (h0 : Rd w A₀ l₀) : RetT w n l f e w' := by
  obtain ⟨A, c, he, ⟨rfl, rfl⟩ | h1, h2⟩ := h
  · exact ⟨A, c, he, h0.below h2, h2⟩
  · exact ⟨A, c, he, h1.rd, h2⟩
set_option maxRecDepth 100000 in
theorem Rn.pfO {lo : Nat} {w : World} {A : Option Addr} {l : List Int} (h : Rn lo w A l) {g n : Nat} (k : g < lo) (hg : n ≤ g) (f : Fr) : Rn n (Go.Proofs.Ytpeaahihjeplmaa.pf w g f) A l := (h.pf k f).mono (by omega)
set_option maxRecDepth 100000 in
theorem Bf.setPc {w : World} {g : Nat} {f : Fr} (h : Bf w g f) (z : Int) : Bf (w.setCell ⟨g, 1, none⟩ (.int .i64 z)) g { f with pc := z } := by
  unfold Bf at h ⊢
  simp [World.setCell, Array.getElem?_modify, h]
set_option maxRecDepth 100000 in
theorem Bf.setX {w : World} {g : Nat} {f : Fr} (h : Bf w g f) (z : Int) : Bf (w.setCell ⟨g, 4, none⟩ (.int .u64 z)) g { f with x := z } := by
  unfold Bf at h ⊢
  simp [World.setCell, Array.getElem?_modify, h]
set_option maxRecDepth 100000 in
theorem Bf.setY {w : World} {g : Nat} {f : Fr} (h : Bf w g f) (z : Int) : Bf (w.setCell ⟨g, 5, none⟩ (.int .u64 z)) g { f with y := z } := by
  unfold Bf at h ⊢
  simp [World.setCell, Array.getElem?_modify, h]
set_option maxRecDepth 100000 in
theorem Bf.other {w : World} {g : Nat} {f : Fr} (h : Bf w g f) {p : Addr} (hp : g ≠ p.block) (v : Value) : Bf (w.setCell p v) g f := (Below.heap_setCell w p v g hp).trans h
set_option maxRecDepth 100000 in
theorem Bx.other {w : World} {g : Nat} {W D J S : Int} (h : Bx w g W D J S) {p : Addr} (hp : g ≠ p.block) (v : Value) : Bx (w.setCell p v) g W D J S := by
  have e := Below.heap_setCell w p v g hp
  exact ⟨by simpa using h.1, (World.cell?_of_block e).trans h.2.1, (World.cell?_of_block e).trans h.2.2.1, (World.cell?_of_block e).trans h.2.2.2.1, (World.cell?_of_block e).trans h.2.2.2.2⟩
set_option maxRecDepth 100000 in
theorem hd_set7 {S : World → Prop} {n : Nat} {w0 w : World} (K : ∀ x, Below n w0 x → S x) (G : ∀ x, S x → Below n w0 x) (v0 v1 v2 v3 v4 v5 v6 : Value) (h : S w) : S (((((((w.setCell ⟨n, 0, none⟩ v0).setCell ⟨n, 1, none⟩ v1).setCell ⟨n, 2, none⟩ v2).setCell ⟨n, 3, none⟩ v3).setCell ⟨n, 4, none⟩ v4).setCell ⟨n, 5, none⟩ v5).setCell ⟨n, 6, none⟩ v6) :=
  K _ ((((((((G _ h).setCell (p := ⟨n, 0, none⟩) (Nat.le_refl _) _).setCell (p := ⟨n, 1, none⟩) (Nat.le_refl _) _).setCell (p := ⟨n, 2, none⟩) (Nat.le_refl _) _).setCell (p := ⟨n, 3, none⟩) (Nat.le_refl _) _).setCell (p := ⟨n, 4, none⟩) (Nat.le_refl _) _).setCell (p := ⟨n, 5, none⟩) (Nat.le_refl _) _).setCell (p := ⟨n, 6, none⟩) (Nat.le_refl _) _)
set_option maxRecDepth 100000 in
set_option maxHeartbeats 400000 in
theorem rsnew_in (A : Option Addr) (n c k : Nat) (l : List Int) (v : Int) (w : World) (h : Rd w A l) (hn : l.length = n) (hs : n ≤ 500) (hk : k < n) :
    Calls Try.prog 64 #[.slice A n c, .int .i64 k, .int .u64 v] w (RetN w n (l.set k v)) := by
  have ho : Own w w.heap.size none 0 0 [] := World.ownsRow_nil _ _ _ _
  obtain ⟨A', c', w1, hrun, hown, hb⟩ := run_app ho c h hn (by omega) (Nat.le_refl _)
  simp only [Nat.zero_add, List.nil_append] at hrun hown
  obtain ⟨g, u, rfl, hg, hcell, hfz, hset⟩ := hown.set hk
  have HO := Lib.hid (hset v)
  have HB := Lib.hid hb
  have HRUN := Lib.hid hrun
  have HN := Lib.hid hn
  clear hrun hown hset hb ho h hn
  go_enter Try.func64, Try.ntmps64
  go_wp2_with (at_builtin; (with_reducible refine wpList_append_run HRUN.out ?_ ?_ ?_ ?_); exact ⟨_, _, rfl, rfl, rfl⟩; rfl; rfl)
  go_ret
  exact ⟨_, _, rfl, HO.out.rn, HB.out.setCell hg _⟩
set_option maxRecDepth 100000 in
set_option maxHeartbeats 400000 in
theorem rsnew_out (A : Option Addr) (n c : Nat) (l : List Int) (i v : Int) (w : World) (h : Rd w A l) (hn : l.length = n) (hs : n ≤ 500) (hi : i < 0 ∨ (n : Int) ≤ i) :
    Calls Try.prog 64 #[.slice A n c, .int .i64 i, .int .u64 v] w (RetN w n l) := by
  have ho : Own w w.heap.size none 0 0 [] := World.ownsRow_nil _ _ _ _
  obtain ⟨A', c', w1, hrun, hown, hb⟩ := run_app ho c h hn (by omega) (Nat.le_refl _)
  simp only [Nat.zero_add, List.nil_append] at hrun hown
  have HO := Lib.hid hown
  have HB := Lib.hid hb
  have HRUN := Lib.hid hrun
  have HN := Lib.hid hn
  clear hrun hown hb ho h hn
  rcases hi with hi | hi
  all_goals
    go_enter Try.func64, Try.ntmps64
    go_wp2_with (at_builtin; (with_reducible refine wpList_append_run HRUN.out ?_ ?_ ?_ ?_); exact ⟨_, _, rfl, rfl, rfl⟩; rfl; rfl)
    go_ret
    exact ⟨_, _, rfl, HO.out.rn, HB.out⟩
set_option maxRecDepth 100000 in
theorem rstore_new (A : Option Addr) (n c : Nat) (l : List Int) (i v : Int) (w : World) (h : Rd w A l) (hn : l.length = n) (hs : n ≤ 500) :
    Calls Try.prog 64 #[.slice A n c, .int .i64 i, .int .u64 v] w (RetN w n (put l i v)) := by
  by_cases hi : 0 ≤ i ∧ i < n
  · obtain ⟨k, rfl⟩ := Int.eq_ofNat_of_zero_le hi.1
    rw [show put l (k : Int) v = l.set k v by simp [put]]
    exact rsnew_in A n c k l v w h hn hs (by omega)
  · rw [put_out v (by omega)]
    exact rsnew_out A n c l i v w h hn hs (by omega)
set_option maxRecDepth 100000 in
set_option maxHeartbeats 2000000 in
theorem rstep_leave (W D J S : Int) (A : Option Addr) (n c : Nat) (l : List Int) (o p q v x y s : Int) (w : World) (h : Rd w A l) (hn : l.length = n) (hs : n ≤ 500) (hg : goes W D J S l ⟨o, p, q, v, x, y, s⟩ 0 4 = false) :
    Calls Try.prog 29 #[cf W D J S, .slice A n c, fv ⟨o, p, q, v, x, y, s⟩] w (RetU w A l n l ⟨o, p, q, v, x, y, s⟩) := by
  obtain ⟨BX, BF, B0, Z, hz⟩ := boxes3 w W D J S ⟨o, p, q, v, x, y, s⟩
  have H := Lib.hid h; clear h
  have HN := Lib.hid hn; clear hn
  have HS := Lib.hid hs; clear hs
  have HG := Lib.hid hg; clear hg
  go_enter Try.func29, Try.ntmps29
  go_wp2_with fail
  change Calls _ _ _ (bx3 w W D J S ⟨o, p, q, v, x, y, s⟩) _
  generalize bx3 w W D J S ⟨o, p, q, v, x, y, s⟩ = w0 at BX BF B0 Z hz ⊢
  refine (Tells.of (rgoes_any W D J S 0 4 A n c l ⟨o, p, q, v, x, y, s⟩ _ HN.out) (v' := .bool false) (by rw [HG.out])).mono ?_
  rintro _ w1 ⟨rfl, z⟩
  have BX1 := Lib.hid (BX.below z)
  have BF1 := Lib.hid (BF.after z)
  have B01 := Lib.hid (B0.after z)
  have hh2 : w.heap.size + 1 + 1 < w1.heap.size := by have := z.size; omega
  have Z1 := Lib.hid (Z.trans (z.mono (by omega)))
  clear z BX BF B0 Z hz
  have BQ0 := B01
  have ZQ := Z1
  have hl2 : w.heap.size ≤ w.heap.size + 1 + 1 := by omega
  obtain ⟨a0, a1, a2, a3, a4, a5, a6⟩ := BF1.out.cells
  have la := BF1.out.lt
  obtain ⟨d0, d1, d2, d3, d4, d5, d6⟩ := B01.out.cells
  have ld := B01.out.lt
  simp only at a0 a1 a2 a3 a4 a5 a6
  have fz := B01.out.free
  go_wp2_with fail
  go_region
  all_goals
    go_wp2
    change bodyPost _ _ _ _ _ (pf w1 (w.heap.size + 1 + 1) ⟨o, p, q, v, x, y, s⟩).drew
    refine bodyPost_ret (results_fr Try.results29 _ rfl ((BQ0.out.pf _).drew)) rfl ?_
    exact ⟨A, c, rfl, .inl ⟨rfl, rfl⟩, (below_pf ZQ.out hl2 _).drew⟩
set_option maxRecDepth 100000 in
set_option maxHeartbeats 2000000 in
theorem rstep_0 (W D J S : Int) (A : Option Addr) (n c : Nat) (l : List Int) (o q v x y s : Int) (w : World) (h : Rd w A l) (hn : l.length = n) (hs : n ≤ 500) (hg : goes W D J S l ⟨o, 0, q, v, x, y, s⟩ 0 4 = true) :
    Calls Try.prog 29 #[cf W D J S, .slice A n c, fv ⟨o, 0, q, v, x, y, s⟩] w (RetU w A l n l ⟨o, 1, q, v, at0 l (ow W D J S q 1), y, s⟩) := by
  obtain ⟨BX, BF, B0, Z, hz⟩ := boxes3 w W D J S ⟨o, 0, q, v, x, y, s⟩
  have H := Lib.hid h; clear h
  have HN := Lib.hid hn; clear hn
  have HS := Lib.hid hs; clear hs
  have HG := Lib.hid hg; clear hg
  go_enter Try.func29, Try.ntmps29
  go_wp2_with fail
  change Calls _ _ _ (bx3 w W D J S ⟨o, 0, q, v, x, y, s⟩) _
  generalize bx3 w W D J S ⟨o, 0, q, v, x, y, s⟩ = w0 at BX BF B0 Z hz ⊢
  refine (Tells.of (rgoes_any W D J S 0 4 A n c l ⟨o, 0, q, v, x, y, s⟩ _ HN.out) (v' := .bool true) (by rw [HG.out])).mono ?_
  rintro _ w1 ⟨rfl, z⟩
  have BX1 := Lib.hid (BX.below z)
  have BF1 := Lib.hid (BF.after z)
  have B01 := Lib.hid (B0.after z)
  have hh2 : w.heap.size + 1 + 1 < w1.heap.size := by have := z.size; omega
  have Z1 := Lib.hid (Z.trans (z.mono (by omega)))
  clear z BX BF B0 Z hz
  have hl2 : w.heap.size ≤ w.heap.size + 1 + 1 := by omega
  obtain ⟨a0, a1, a2, a3, a4, a5, a6⟩ := BF1.out.cells
  have la := BF1.out.lt
  obtain ⟨gx, x0, x1, x2, x3⟩ := BX1.out
  simp only at a0 a1 a2 a3 a4 a5 a6
  go_wp2_with fail
  refine (rbottom_any W D J S q _).mono ?_
  rintro _ w2 ⟨rfl, z⟩
  clear a0 a1 a2 a3 a4 a5 a6 la gx x0 x1 x2 x3
  have BF2 := Lib.hid (BF1.out.after z)
  have B02 := Lib.hid (B01.out.after z)
  have Z2 := Lib.hid (Z1.out.trans (z.mono Z1.out.size))
  clear z
  obtain ⟨a0, a1, a2, a3, a4, a5, a6⟩ := BF2.out.cells
  have la := BF2.out.lt
  simp only at a0 a1 a2 a3 a4 a5 a6
  go_wp2_with fail
  refine (rload_any A n c l _ _ (H.out.below Z2.out) HN.out).mono ?_
  rintro _ w3 ⟨rfl, z⟩
  clear a0 a1 a2 a3 a4 a5 a6 la
  have BF3 := Lib.hid (BF2.out.after z)
  have B03 := Lib.hid (B02.out.after z)
  have Z3 := Lib.hid (Z2.out.trans (z.mono Z2.out.size))
  clear z
  obtain ⟨a0, a1, a2, a3, a4, a5, a6⟩ := BF3.out.cells
  have la := BF3.out.lt
  simp only at a0 a1 a2 a3 a4 a5 a6
  have fz := BF3.out.free
  have BQ : Hid (Bf ((w3.setCell ⟨w.heap.size + 1, 4, none⟩ (.int .u64 (at0 l (ow W D J S q 1)))).setCell ⟨w.heap.size + 1, 1, none⟩ (.int .i64 1)) (w.heap.size + 1) ⟨o, 1, q, v, at0 l (ow W D J S q 1), y, s⟩) := Lib.hid ((BF3.out.setX _).setPc _)
  have BQ0 : Hid (Bf ((w3.setCell ⟨w.heap.size + 1, 4, none⟩ (.int .u64 (at0 l (ow W D J S q 1)))).setCell ⟨w.heap.size + 1, 1, none⟩ (.int .i64 1)) (w.heap.size + 1 + 1) f0) := Lib.hid ((B03.out.other (by simp) _).other (by simp) _)
  have ZQ : Hid (Below w.heap.size w ((w3.setCell ⟨w.heap.size + 1, 4, none⟩ (.int .u64 (at0 l (ow W D J S q 1)))).setCell ⟨w.heap.size + 1, 1, none⟩ (.int .i64 1))) := Lib.hid ((Z3.out.setCell (p := ⟨w.heap.size + 1, 4, none⟩) (by simp) _).setCell (p := ⟨w.heap.size + 1, 1, none⟩) (by simp) _)
  go_upto_region 8 with fail
  change Code.wp _ _ _ _ ((w3.setCell ⟨w.heap.size + 1, 4, none⟩ (.int .u64 (at0 l (ow W D J S q 1)))).setCell ⟨w.heap.size + 1, 1, none⟩ (.int .i64 1))
  generalize (w3.setCell ⟨w.heap.size + 1, 4, none⟩ (.int .u64 (at0 l (ow W D J S q 1)))).setCell ⟨w.heap.size + 1, 1, none⟩ (.int .i64 1) = wq at BQ BQ0 ZQ ⊢
  clear a0 a1 a2 a3 a4 a5 a6 la fz
  obtain ⟨a0, a1, a2, a3, a4, a5, a6⟩ := BQ.out.cells
  have la := BQ.out.lt
  obtain ⟨d0, d1, d2, d3, d4, d5, d6⟩ := BQ0.out.cells
  have ld := BQ0.out.lt
  simp only at a0 a1 a2 a3 a4 a5 a6
  have fz := BQ0.out.free
  go_region
  all_goals
    go_wp2
    change bodyPost _ _ _ _ _ (pf wq (w.heap.size + 1 + 1) ⟨o, 1, q, v, at0 l (ow W D J S q 1), y, s⟩).drew
    refine bodyPost_ret (results_fr Try.results29 _ rfl ((BQ0.out.pf _).drew)) rfl ?_
    exact ⟨A, c, rfl, .inl ⟨rfl, rfl⟩, (below_pf ZQ.out hl2 _).drew⟩
set_option maxRecDepth 100000 in
set_option maxHeartbeats 2000000 in
theorem rstep_1f (W D J S : Int) (A : Option Addr) (n c : Nat) (l : List Int) (o q v x y s : Int) (w : World) (h : Rd w A l) (hn : l.length = n) (hs : n ≤ 500) (hg : goes W D J S l ⟨o, 1, q, v, x, y, s⟩ 0 4 = true) (Y : Int) (hY : at0 l (ow W D J S q 0) = Y) (hD : 1 ≤ D ∧ D ≤ 16) (hb : decide ((x - Y) % 18446744073709551616 ≥ D) = true) :
    Calls Try.prog 29 #[cf W D J S, .slice A n c, fv ⟨o, 1, q, v, x, y, s⟩] w (RetU w A l n l ⟨o, 0, q, v, 0, 0, 2⟩) := by
  have HY := Lib.hid hY
  have hT : IntKind.u64.wrap (x - Y) = (x - Y) % 18446744073709551616 := IntKind.wrap_u64 _
  have hDw : IntKind.u64.wrap D = D := by rw [IntKind.wrap_u64]; omega
  generalize (x - Y) % 18446744073709551616 = T at hT hb
  clear hY hD
  obtain ⟨BX, BF, B0, Z, hz⟩ := boxes3 w W D J S ⟨o, 1, q, v, x, y, s⟩
  have H := Lib.hid h; clear h
  have HN := Lib.hid hn; clear hn
  have HS := Lib.hid hs; clear hs
  have HG := Lib.hid hg; clear hg
  go_enter Try.func29, Try.ntmps29
  go_wp2_with fail
  change Calls _ _ _ (bx3 w W D J S ⟨o, 1, q, v, x, y, s⟩) _
  generalize bx3 w W D J S ⟨o, 1, q, v, x, y, s⟩ = w0 at BX BF B0 Z hz ⊢
  refine (Tells.of (rgoes_any W D J S 0 4 A n c l ⟨o, 1, q, v, x, y, s⟩ _ HN.out) (v' := .bool true) (by rw [HG.out])).mono ?_
  rintro _ w1 ⟨rfl, z⟩
  have BX1 := Lib.hid (BX.below z)
  have BF1 := Lib.hid (BF.after z)
  have B01 := Lib.hid (B0.after z)
  have hh2 : w.heap.size + 1 + 1 < w1.heap.size := by have := z.size; omega
  have Z1 := Lib.hid (Z.trans (z.mono (by omega)))
  clear z BX BF B0 Z hz
  have hl2 : w.heap.size ≤ w.heap.size + 1 + 1 := by omega
  obtain ⟨a0, a1, a2, a3, a4, a5, a6⟩ := BF1.out.cells
  have la := BF1.out.lt
  obtain ⟨gx, x0, x1, x2, x3⟩ := BX1.out
  simp only at a0 a1 a2 a3 a4 a5 a6
  go_wp2_with fail
  refine (rtop_any W D J S q _).mono ?_
  rintro _ w2 ⟨rfl, z⟩
  clear a0 a1 a2 a3 a4 a5 a6 la gx x0 x1 x2 x3
  have BX2 := Lib.hid (BX1.out.below z)
  have BF2 := Lib.hid (BF1.out.after z)
  have B02 := Lib.hid (B01.out.after z)
  have Z2 := Lib.hid (Z1.out.trans (z.mono Z1.out.size))
  clear z
  obtain ⟨a0, a1, a2, a3, a4, a5, a6⟩ := BF2.out.cells
  have la := BF2.out.lt
  simp only at a0 a1 a2 a3 a4 a5 a6
  go_wp2_with fail
  refine (ret_of (rload_any A n c l _ _ (H.out.below Z2.out) HN.out) (v' := .int .u64 Y) (by rw [HY.out])).mono ?_
  rintro _ w3 ⟨rfl, z⟩
  clear a0 a1 a2 a3 a4 a5 a6 la
  have BX3 := Lib.hid (BX2.out.below z)
  have BF3 := Lib.hid (BF2.out.after z)
  have B03 := Lib.hid (B02.out.after z)
  have Z3 := Lib.hid (Z2.out.trans (z.mono Z2.out.size))
  clear z
  obtain ⟨a0, a1, a2, a3, a4, a5, a6⟩ := BF3.out.cells
  have la := BF3.out.lt
  simp only at a0 a1 a2 a3 a4 a5 a6
  have fz := BF3.out.free
  have BY : Hid (Bf (w3.setCell ⟨w.heap.size + 1, 5, none⟩ (.int .u64 Y)) (w.heap.size + 1) ⟨o, 1, q, v, x, Y, s⟩) := Lib.hid (BF3.out.setY _)
  have BY0 : Hid (Bf (w3.setCell ⟨w.heap.size + 1, 5, none⟩ (.int .u64 Y)) (w.heap.size + 1 + 1) f0) := Lib.hid (B03.out.other (by simp) _)
  have BYX : Hid (Bx (w3.setCell ⟨w.heap.size + 1, 5, none⟩ (.int .u64 Y)) w.heap.size W D J S) := Lib.hid (BX3.out.other (by simp) _)
  have ZY : Hid (Below w.heap.size w (w3.setCell ⟨w.heap.size + 1, 5, none⟩ (.int .u64 Y))) := Lib.hid (Z3.out.setCell (p := ⟨w.heap.size + 1, 5, none⟩) (by simp) _)
  go_upto_region 11 with fail
  change Code.wp _ _ _ _ (w3.setCell ⟨w.heap.size + 1, 5, none⟩ (.int .u64 Y))
  generalize w3.setCell ⟨w.heap.size + 1, 5, none⟩ (.int .u64 Y) = wy at BY BY0 BYX ZY ⊢
  clear a0 a1 a2 a3 a4 a5 a6 la fz
  obtain ⟨a0, a1, a2, a3, a4, a5, a6⟩ := BY.out.cells
  have la := BY.out.lt
  obtain ⟨gx, x0, x1, x2, x3⟩ := BYX.out
  simp only at a0 a1 a2 a3 a4 a5 a6
  have fz := BY.out.free
  go_wp2_with fail
  refine (rend_any ⟨o, 1, q, v, x, Y, s⟩ 2 v _).mono ?_
  rintro _ w5 ⟨rfl, z⟩
  have BQ0 := Lib.hid (BY0.out.after z)
  have ZQ := Lib.hid (ZY.out.trans (z.mono ZY.out.size))
  clear z a0 a1 a2 a3 a4 a5 a6 la gx x0 x1 x2 x3 fz
  obtain ⟨d0, d1, d2, d3, d4, d5, d6⟩ := BQ0.out.cells
  have ld := BQ0.out.lt
  have fz := BQ0.out.free
  go_wp2
  change bodyPost _ _ _ _ _ (pf w5 (w.heap.size + 1 + 1) ⟨o, 0, q, v, 0, 0, 2⟩)
  refine bodyPost_ret (results_fr Try.results29 _ rfl (BQ0.out.pf _)) rfl ?_
  exact ⟨A, c, rfl, .inl ⟨rfl, rfl⟩, below_pf ZQ.out hl2 _⟩
set_option maxRecDepth 100000 in
set_option maxHeartbeats 2000000 in
theorem rstep_1r (W D J S : Int) (A : Option Addr) (n c : Nat) (l : List Int) (o q v x y s : Int) (w : World) (h : Rd w A l) (hn : l.length = n) (hs : n ≤ 500) (hg : goes W D J S l ⟨o, 1, q, v, x, y, s⟩ 0 4 = true) (Y : Int) (hY : at0 l (ow W D J S q 0) = Y) (hD : 1 ≤ D ∧ D ≤ 16) (hb : decide ((x - Y) % 18446744073709551616 ≥ D) = false) :
    Calls Try.prog 29 #[cf W D J S, .slice A n c, fv ⟨o, 1, q, v, x, y, s⟩] w (RetU w A l n l ⟨o, 2, q, v, x, Y, s⟩) := by
  have HY := Lib.hid hY
  have hT : IntKind.u64.wrap (x - Y) = (x - Y) % 18446744073709551616 := IntKind.wrap_u64 _
  have hDw : IntKind.u64.wrap D = D := by rw [IntKind.wrap_u64]; omega
  generalize (x - Y) % 18446744073709551616 = T at hT hb
  clear hY hD
  obtain ⟨BX, BF, B0, Z, hz⟩ := boxes3 w W D J S ⟨o, 1, q, v, x, y, s⟩
  have H := Lib.hid h; clear h
  have HN := Lib.hid hn; clear hn
  have HS := Lib.hid hs; clear hs
  have HG := Lib.hid hg; clear hg
  go_enter Try.func29, Try.ntmps29
  go_wp2_with fail
  change Calls _ _ _ (bx3 w W D J S ⟨o, 1, q, v, x, y, s⟩) _
  generalize bx3 w W D J S ⟨o, 1, q, v, x, y, s⟩ = w0 at BX BF B0 Z hz ⊢
  refine (Tells.of (rgoes_any W D J S 0 4 A n c l ⟨o, 1, q, v, x, y, s⟩ _ HN.out) (v' := .bool true) (by rw [HG.out])).mono ?_
  rintro _ w1 ⟨rfl, z⟩
  have BX1 := Lib.hid (BX.below z)
  have BF1 := Lib.hid (BF.after z)
  have B01 := Lib.hid (B0.after z)
  have hh2 : w.heap.size + 1 + 1 < w1.heap.size := by have := z.size; omega
  have Z1 := Lib.hid (Z.trans (z.mono (by omega)))
  clear z BX BF B0 Z hz
  have hl2 : w.heap.size ≤ w.heap.size + 1 + 1 := by omega
  obtain ⟨a0, a1, a2, a3, a4, a5, a6⟩ := BF1.out.cells
  have la := BF1.out.lt
  obtain ⟨gx, x0, x1, x2, x3⟩ := BX1.out
  simp only at a0 a1 a2 a3 a4 a5 a6
  go_wp2_with fail
  refine (rtop_any W D J S q _).mono ?_
  rintro _ w2 ⟨rfl, z⟩
  clear a0 a1 a2 a3 a4 a5 a6 la gx x0 x1 x2 x3
  have BX2 := Lib.hid (BX1.out.below z)
  have BF2 := Lib.hid (BF1.out.after z)
  have B02 := Lib.hid (B01.out.after z)
  have Z2 := Lib.hid (Z1.out.trans (z.mono Z1.out.size))
  clear z
  obtain ⟨a0, a1, a2, a3, a4, a5, a6⟩ := BF2.out.cells
  have la := BF2.out.lt
  simp only at a0 a1 a2 a3 a4 a5 a6
  go_wp2_with fail
  refine (ret_of (rload_any A n c l _ _ (H.out.below Z2.out) HN.out) (v' := .int .u64 Y) (by rw [HY.out])).mono ?_
  rintro _ w3 ⟨rfl, z⟩
  clear a0 a1 a2 a3 a4 a5 a6 la
  have BX3 := Lib.hid (BX2.out.below z)
  have BF3 := Lib.hid (BF2.out.after z)
  have B03 := Lib.hid (B02.out.after z)
  have Z3 := Lib.hid (Z2.out.trans (z.mono Z2.out.size))
  clear z
  obtain ⟨a0, a1, a2, a3, a4, a5, a6⟩ := BF3.out.cells
  have la := BF3.out.lt
  simp only at a0 a1 a2 a3 a4 a5 a6
  have fz := BF3.out.free
  have BY : Hid (Bf (w3.setCell ⟨w.heap.size + 1, 5, none⟩ (.int .u64 Y)) (w.heap.size + 1) ⟨o, 1, q, v, x, Y, s⟩) := Lib.hid (BF3.out.setY _)
  have BY0 : Hid (Bf (w3.setCell ⟨w.heap.size + 1, 5, none⟩ (.int .u64 Y)) (w.heap.size + 1 + 1) f0) := Lib.hid (B03.out.other (by simp) _)
  have BYX : Hid (Bx (w3.setCell ⟨w.heap.size + 1, 5, none⟩ (.int .u64 Y)) w.heap.size W D J S) := Lib.hid (BX3.out.other (by simp) _)
  have ZY : Hid (Below w.heap.size w (w3.setCell ⟨w.heap.size + 1, 5, none⟩ (.int .u64 Y))) := Lib.hid (Z3.out.setCell (p := ⟨w.heap.size + 1, 5, none⟩) (by simp) _)
  go_upto_region 11 with fail
  change Code.wp _ _ _ _ (w3.setCell ⟨w.heap.size + 1, 5, none⟩ (.int .u64 Y))
  generalize w3.setCell ⟨w.heap.size + 1, 5, none⟩ (.int .u64 Y) = wy at BY BY0 BYX ZY ⊢
  clear a0 a1 a2 a3 a4 a5 a6 la fz
  obtain ⟨a0, a1, a2, a3, a4, a5, a6⟩ := BY.out.cells
  have la := BY.out.lt
  obtain ⟨gx, x0, x1, x2, x3⟩ := BYX.out
  simp only at a0 a1 a2 a3 a4 a5 a6
  have fz := BY.out.free
  have BQ : Hid (Bf (wy.setCell ⟨w.heap.size + 1, 1, none⟩ (.int .i64 2)) (w.heap.size + 1) ⟨o, 2, q, v, x, Y, s⟩) := Lib.hid (BY.out.setPc _)
  have BQ0 : Hid (Bf (wy.setCell ⟨w.heap.size + 1, 1, none⟩ (.int .i64 2)) (w.heap.size + 1 + 1) f0) := Lib.hid (BY0.out.other (by simp) _)
  have ZQ : Hid (Below w.heap.size w (wy.setCell ⟨w.heap.size + 1, 1, none⟩ (.int .i64 2))) := Lib.hid (ZY.out.setCell (p := ⟨w.heap.size + 1, 1, none⟩) (by simp) _)
  go_upto_region 14 with fail
  change Code.wp _ _ _ _ (wy.setCell ⟨w.heap.size + 1, 1, none⟩ (.int .i64 2))
  generalize wy.setCell ⟨w.heap.size + 1, 1, none⟩ (.int .i64 2) = wq at BQ BQ0 ZQ ⊢
  clear a0 a1 a2 a3 a4 a5 a6 la fz
  obtain ⟨a0, a1, a2, a3, a4, a5, a6⟩ := BQ.out.cells
  have la := BQ.out.lt
  obtain ⟨d0, d1, d2, d3, d4, d5, d6⟩ := BQ0.out.cells
  have ld := BQ0.out.lt
  simp only at a0 a1 a2 a3 a4 a5 a6
  have fz := BQ0.out.free
  go_region
  all_goals
    go_wp2
    change bodyPost _ _ _ _ _ (pf wq (w.heap.size + 1 + 1) ⟨o, 2, q, v, x, Y, s⟩).drew
    refine bodyPost_ret (results_fr Try.results29 _ rfl ((BQ0.out.pf _).drew)) rfl ?_
    exact ⟨A, c, rfl, .inl ⟨rfl, rfl⟩, (below_pf ZQ.out hl2 _).drew⟩
set_option maxRecDepth 100000 in
set_option maxHeartbeats 2000000 in
theorem rstep_2 (W D J S : Int) (A : Option Addr) (n c : Nat) (l : List Int) (o q v x y s : Int) (w : World) (h : Rd w A l) (hn : l.length = n) (hs : n ≤ 500) (hg : goes W D J S l ⟨o, 2, q, v, x, y, s⟩ 0 4 = true) (hx : U x) :
    Calls Try.prog 29 #[cf W D J S, .slice A n c, fv ⟨o, 2, q, v, x, y, s⟩] w (RetU w A l n (put l (sl W D J S q x) v) ⟨o, 3, q, v, x, y, s⟩) := by
  have HX := Lib.hid hx
  clear hx
  obtain ⟨BX, BF, B0, Z, hz⟩ := boxes3 w W D J S ⟨o, 2, q, v, x, y, s⟩
  have H := Lib.hid h; clear h
  have HN := Lib.hid hn; clear hn
  have HS := Lib.hid hs; clear hs
  have HG := Lib.hid hg; clear hg
  go_enter Try.func29, Try.ntmps29
  go_wp2_with fail
  change Calls _ _ _ (bx3 w W D J S ⟨o, 2, q, v, x, y, s⟩) _
  generalize bx3 w W D J S ⟨o, 2, q, v, x, y, s⟩ = w0 at BX BF B0 Z hz ⊢
  refine (Tells.of (rgoes_any W D J S 0 4 A n c l ⟨o, 2, q, v, x, y, s⟩ _ HN.out) (v' := .bool true) (by rw [HG.out])).mono ?_
  rintro _ w1 ⟨rfl, z⟩
  have BX1 := Lib.hid (BX.below z)
  have BF1 := Lib.hid (BF.after z)
  have B01 := Lib.hid (B0.after z)
  have hh2 : w.heap.size + 1 + 1 < w1.heap.size := by have := z.size; omega
  have Z1 := Lib.hid (Z.trans (z.mono (by omega)))
  clear z BX BF B0 Z hz
  have hl2 : w.heap.size ≤ w.heap.size + 1 + 1 := by omega
  obtain ⟨a0, a1, a2, a3, a4, a5, a6⟩ := BF1.out.cells
  have la := BF1.out.lt
  obtain ⟨gx, x0, x1, x2, x3⟩ := BX1.out
  simp only at a0 a1 a2 a3 a4 a5 a6
  have fz := BF1.out.free
  have BQ : Hid (Bf (w1.setCell ⟨w.heap.size + 1, 1, none⟩ (.int .i64 3)) (w.heap.size + 1) ⟨o, 3, q, v, x, y, s⟩) := Lib.hid (BF1.out.setPc _)
  have BQ0 : Hid (Bf (w1.setCell ⟨w.heap.size + 1, 1, none⟩ (.int .i64 3)) (w.heap.size + 1 + 1) f0) := Lib.hid (B01.out.other (by simp) _)
  have BQX : Hid (Bx (w1.setCell ⟨w.heap.size + 1, 1, none⟩ (.int .i64 3)) w.heap.size W D J S) := Lib.hid (BX1.out.other (by simp) _)
  have ZQ : Hid (Below w.heap.size w (w1.setCell ⟨w.heap.size + 1, 1, none⟩ (.int .i64 3))) := Lib.hid (Z1.out.setCell (p := ⟨w.heap.size + 1, 1, none⟩) (by simp) _)
  have hq2 : w.heap.size + 1 + 1 < (w1.setCell ⟨w.heap.size + 1, 1, none⟩ (.int .i64 3)).heap.size := by simpa using hh2
  go_upto_region 18 with fail
  change Code.wp _ _ _ _ (w1.setCell ⟨w.heap.size + 1, 1, none⟩ (.int .i64 3))
  generalize w1.setCell ⟨w.heap.size + 1, 1, none⟩ (.int .i64 3) = wq at BQ BQ0 BQX ZQ hq2 ⊢
  clear a0 a1 a2 a3 a4 a5 a6 la fz gx x0 x1 x2 x3
  have HK := Lib.hid (show ∀ x', Below (w.heap.size + 1 + 1) wq x' → (fun w' => w'.cell? ⟨w.heap.size, 0, none⟩ = some (.int .i64 W) ∧ w'.cell? ⟨w.heap.size, 1, none⟩ = some (.int .i64 D) ∧ w'.cell? ⟨w.heap.size, 2, none⟩ = some (.int .i64 J) ∧ w'.cell? ⟨w.heap.size, 3, none⟩ = some (.int .i64 S) ∧ w'.cell? ⟨w.heap.size + 1, 0, none⟩ = some (.int .i64 o) ∧ w'.cell? ⟨w.heap.size + 1, 1, none⟩ = some (.int .i64 3) ∧ w'.cell? ⟨w.heap.size + 1, 2, none⟩ = some (.int .i64 q) ∧ w'.cell? ⟨w.heap.size + 1, 3, none⟩ = some (.int .u64 v) ∧ w'.cell? ⟨w.heap.size + 1, 4, none⟩ = some (.int .u64 x) ∧ w'.cell? ⟨w.heap.size + 1, 5, none⟩ = some (.int .u64 y) ∧ w'.cell? ⟨w.heap.size + 1, 6, none⟩ = some (.int .i64 s) ∧ Below (w.heap.size + 1 + 1) wq w') x' from fun x' hx => by
    have e := hx.block w.heap.size (by omega)
    obtain ⟨_, e0, e1, e2, e3⟩ := BQX.out
    obtain ⟨f0, f1, f2, f3, f4, f5, f6⟩ := (BQ.out.below hx (by omega)).cells
    exact ⟨(World.cell?_of_block e).trans e0, (World.cell?_of_block e).trans e1, (World.cell?_of_block e).trans e2, (World.cell?_of_block e).trans e3, f0, f1, f2, f3, f4, f5, f6, hx⟩)
  have HZ := Lib.hid (show ∀ x', (fun w' => w'.cell? ⟨w.heap.size, 0, none⟩ = some (.int .i64 W) ∧ w'.cell? ⟨w.heap.size, 1, none⟩ = some (.int .i64 D) ∧ w'.cell? ⟨w.heap.size, 2, none⟩ = some (.int .i64 J) ∧ w'.cell? ⟨w.heap.size, 3, none⟩ = some (.int .i64 S) ∧ w'.cell? ⟨w.heap.size + 1, 0, none⟩ = some (.int .i64 o) ∧ w'.cell? ⟨w.heap.size + 1, 1, none⟩ = some (.int .i64 3) ∧ w'.cell? ⟨w.heap.size + 1, 2, none⟩ = some (.int .i64 q) ∧ w'.cell? ⟨w.heap.size + 1, 3, none⟩ = some (.int .u64 v) ∧ w'.cell? ⟨w.heap.size + 1, 4, none⟩ = some (.int .u64 x) ∧ w'.cell? ⟨w.heap.size + 1, 5, none⟩ = some (.int .u64 y) ∧ w'.cell? ⟨w.heap.size + 1, 6, none⟩ = some (.int .i64 s) ∧ Below (w.heap.size + 1 + 1) wq w') x' → Below w.heap.size w x' from fun x' hx => ZQ.out.trans (hx.2.2.2.2.2.2.2.2.2.2.2.mono (by omega)))
  have HR := Lib.hid (show ∀ x', (fun w' => w'.cell? ⟨w.heap.size, 0, none⟩ = some (.int .i64 W) ∧ w'.cell? ⟨w.heap.size, 1, none⟩ = some (.int .i64 D) ∧ w'.cell? ⟨w.heap.size, 2, none⟩ = some (.int .i64 J) ∧ w'.cell? ⟨w.heap.size, 3, none⟩ = some (.int .i64 S) ∧ w'.cell? ⟨w.heap.size + 1, 0, none⟩ = some (.int .i64 o) ∧ w'.cell? ⟨w.heap.size + 1, 1, none⟩ = some (.int .i64 3) ∧ w'.cell? ⟨w.heap.size + 1, 2, none⟩ = some (.int .i64 q) ∧ w'.cell? ⟨w.heap.size + 1, 3, none⟩ = some (.int .u64 v) ∧ w'.cell? ⟨w.heap.size + 1, 4, none⟩ = some (.int .u64 x) ∧ w'.cell? ⟨w.heap.size + 1, 5, none⟩ = some (.int .u64 y) ∧ w'.cell? ⟨w.heap.size + 1, 6, none⟩ = some (.int .i64 s) ∧ Below (w.heap.size + 1 + 1) wq w') x' → Rd x' A l from fun x' hx => H.out.below (ZQ.out.trans (hx.2.2.2.2.2.2.2.2.2.2.2.mono (by omega))))
  have hn0 : w.heap.size + 1 + 1 ≤ wq.heap.size := by omega
  have hHeld0 := HK.out _ (Below.refl _ _)
  have zq := Lib.hid (Below.refl wq.heap.size wq)
  obtain ⟨d0, d1, d2, d3, d4, d5, d6⟩ := BQ0.out.cells
  have ld := BQ0.out.lt
  have fz := BQ0.out.free
  go_region_held3 (fun w' => w'.cell? ⟨w.heap.size, 0, none⟩ = some (.int .i64 W) ∧ w'.cell? ⟨w.heap.size, 1, none⟩ = some (.int .i64 D) ∧ w'.cell? ⟨w.heap.size, 2, none⟩ = some (.int .i64 J) ∧ w'.cell? ⟨w.heap.size, 3, none⟩ = some (.int .i64 S) ∧ w'.cell? ⟨w.heap.size + 1, 0, none⟩ = some (.int .i64 o) ∧ w'.cell? ⟨w.heap.size + 1, 1, none⟩ = some (.int .i64 3) ∧ w'.cell? ⟨w.heap.size + 1, 2, none⟩ = some (.int .i64 q) ∧ w'.cell? ⟨w.heap.size + 1, 3, none⟩ = some (.int .u64 v) ∧ w'.cell? ⟨w.heap.size + 1, 4, none⟩ = some (.int .u64 x) ∧ w'.cell? ⟨w.heap.size + 1, 5, none⟩ = some (.int .u64 y) ∧ w'.cell? ⟨w.heap.size + 1, 6, none⟩ = some (.int .i64 s) ∧ Below (w.heap.size + 1 + 1) wq w')
    (first | with_reducible exact hd_drew HK.out (fun _ h => h.2.2.2.2.2.2.2.2.2.2.2) (by assumption) | with_reducible exact hd_call HK.out (fun _ h => h.2.2.2.2.2.2.2.2.2.2.2) (by assumption) (by assumption) hn0 | with_reducible exact hd_set7 HK.out (fun _ h => h.2.2.2.2.2.2.2.2.2.2.2) _ _ _ _ _ _ _ (by assumption))
    (first
      | (go_at_call 65; (refine (rslot_any W D J S q x _ HX.out).mono ?_); rintro _ w5 ⟨rfl, hb5⟩; have z5 := Lib.hid (keep_call hb5 zq.out.drew); have e := BQ0.out.after z5.out; obtain ⟨d0, d1, d2, d3, d4, d5, d6⟩ := e.cells; have fz := e.free; have ld := e.lt)
      | (go_at_call 64; (refine (rstore_new A n c l _ v _ (HR.out _ (by assumption)) HN.out HS.out).mono ?_); rintro _ w6 ⟨A6, c6, rfl, hr6, hb6⟩; have z6 := Lib.hid (keep_call hb6 z5.out); have e := BQ0.out.after z6.out; obtain ⟨d0, d1, d2, d3, d4, d5, d6⟩ := e.cells; have fz := e.free; have ld := e.lt))
  all_goals
    go_wp2
    change bodyPost _ _ _ _ _ (pf w6 (w.heap.size + 1 + 1) ⟨o, 3, q, v, x, y, s⟩)
    refine bodyPost_ret (results_fr Try.results29 _ rfl ((BQ0.out.after z6.out).pf _)) rfl ?_
    exact ⟨A6, c6, rfl, .inr (hr6.pfO (Nat.lt_of_lt_of_le hq2 z5.out.size) (by omega) _), HZ.out _ (by assumption)⟩
set_option maxRecDepth 100000 in
set_option maxHeartbeats 2000000 in
theorem rstep_3 (W D J S : Int) (A : Option Addr) (n c : Nat) (l : List Int) (o q v x y s : Int) (w : World) (h : Rd w A l) (hn : l.length = n) (hs : n ≤ 500) (hg : goes W D J S l ⟨o, 3, q, v, x, y, s⟩ 0 4 = true) (hx : U x) (T : Int) (hT : IntKind.u64.wrap (x + 1) = T) :
    Calls Try.prog 29 #[cf W D J S, .slice A n c, fv ⟨o, 3, q, v, x, y, s⟩] w (RetU w A l n (put l (ow W D J S q 1) T) ⟨o, 0, q, v, 0, 0, 1⟩) := by
  have HX := Lib.hid hx
  clear hx
  obtain ⟨BX, BF, B0, Z, hz⟩ := boxes3 w W D J S ⟨o, 3, q, v, x, y, s⟩
  have H := Lib.hid h; clear h
  have HN := Lib.hid hn; clear hn
  have HS := Lib.hid hs; clear hs
  have HG := Lib.hid hg; clear hg
  go_enter Try.func29, Try.ntmps29
  go_wp2_with fail
  change Calls _ _ _ (bx3 w W D J S ⟨o, 3, q, v, x, y, s⟩) _
  generalize bx3 w W D J S ⟨o, 3, q, v, x, y, s⟩ = w0 at BX BF B0 Z hz ⊢
  refine (Tells.of (rgoes_any W D J S 0 4 A n c l ⟨o, 3, q, v, x, y, s⟩ _ HN.out) (v' := .bool true) (by rw [HG.out])).mono ?_
  rintro _ w1 ⟨rfl, z⟩
  have BX1 := Lib.hid (BX.below z)
  have BF1 := Lib.hid (BF.after z)
  have B01 := Lib.hid (B0.after z)
  have hh2 : w.heap.size + 1 + 1 < w1.heap.size := by have := z.size; omega
  have Z1 := Lib.hid (Z.trans (z.mono (by omega)))
  clear z BX BF B0 Z hz
  have hl2 : w.heap.size ≤ w.heap.size + 1 + 1 := by omega
  obtain ⟨a0, a1, a2, a3, a4, a5, a6⟩ := BF1.out.cells
  have la := BF1.out.lt
  obtain ⟨gx, x0, x1, x2, x3⟩ := BX1.out
  simp only at a0 a1 a2 a3 a4 a5 a6
  have fz := BF1.out.free
  obtain ⟨wq, hwq⟩ : ∃ wq, wq = w1 := ⟨_, rfl⟩
  subst hwq
  have BQ := BF1
  have BQ0 := B01
  have BQX := BX1
  have ZQ := Z1
  have hq2 := hh2
  go_upto_region 19 with fail
  clear a0 a1 a2 a3 a4 a5 a6 la fz gx x0 x1 x2 x3
  have HK := Lib.hid (show ∀ x', Below (w.heap.size + 1 + 1) wq x' → (fun w' => w'.cell? ⟨w.heap.size, 0, none⟩ = some (.int .i64 W) ∧ w'.cell? ⟨w.heap.size, 1, none⟩ = some (.int .i64 D) ∧ w'.cell? ⟨w.heap.size, 2, none⟩ = some (.int .i64 J) ∧ w'.cell? ⟨w.heap.size, 3, none⟩ = some (.int .i64 S) ∧ w'.cell? ⟨w.heap.size + 1, 0, none⟩ = some (.int .i64 o) ∧ w'.cell? ⟨w.heap.size + 1, 1, none⟩ = some (.int .i64 3) ∧ w'.cell? ⟨w.heap.size + 1, 2, none⟩ = some (.int .i64 q) ∧ w'.cell? ⟨w.heap.size + 1, 3, none⟩ = some (.int .u64 v) ∧ w'.cell? ⟨w.heap.size + 1, 4, none⟩ = some (.int .u64 x) ∧ w'.cell? ⟨w.heap.size + 1, 5, none⟩ = some (.int .u64 y) ∧ w'.cell? ⟨w.heap.size + 1, 6, none⟩ = some (.int .i64 s) ∧ Below (w.heap.size + 1 + 1) wq w') x' from fun x' hx => by
    have e := hx.block w.heap.size (by omega)
    obtain ⟨_, e0, e1, e2, e3⟩ := BQX.out
    obtain ⟨f0, f1, f2, f3, f4, f5, f6⟩ := (BQ.out.below hx (by omega)).cells
    exact ⟨(World.cell?_of_block e).trans e0, (World.cell?_of_block e).trans e1, (World.cell?_of_block e).trans e2, (World.cell?_of_block e).trans e3, f0, f1, f2, f3, f4, f5, f6, hx⟩)
  have HZ := Lib.hid (show ∀ x', (fun w' => w'.cell? ⟨w.heap.size, 0, none⟩ = some (.int .i64 W) ∧ w'.cell? ⟨w.heap.size, 1, none⟩ = some (.int .i64 D) ∧ w'.cell? ⟨w.heap.size, 2, none⟩ = some (.int .i64 J) ∧ w'.cell? ⟨w.heap.size, 3, none⟩ = some (.int .i64 S) ∧ w'.cell? ⟨w.heap.size + 1, 0, none⟩ = some (.int .i64 o) ∧ w'.cell? ⟨w.heap.size + 1, 1, none⟩ = some (.int .i64 3) ∧ w'.cell? ⟨w.heap.size + 1, 2, none⟩ = some (.int .i64 q) ∧ w'.cell? ⟨w.heap.size + 1, 3, none⟩ = some (.int .u64 v) ∧ w'.cell? ⟨w.heap.size + 1, 4, none⟩ = some (.int .u64 x) ∧ w'.cell? ⟨w.heap.size + 1, 5, none⟩ = some (.int .u64 y) ∧ w'.cell? ⟨w.heap.size + 1, 6, none⟩ = some (.int .i64 s) ∧ Below (w.heap.size + 1 + 1) wq w') x' → Below w.heap.size w x' from fun x' hx => ZQ.out.trans (hx.2.2.2.2.2.2.2.2.2.2.2.mono (by omega)))
  have HR := Lib.hid (show ∀ x', (fun w' => w'.cell? ⟨w.heap.size, 0, none⟩ = some (.int .i64 W) ∧ w'.cell? ⟨w.heap.size, 1, none⟩ = some (.int .i64 D) ∧ w'.cell? ⟨w.heap.size, 2, none⟩ = some (.int .i64 J) ∧ w'.cell? ⟨w.heap.size, 3, none⟩ = some (.int .i64 S) ∧ w'.cell? ⟨w.heap.size + 1, 0, none⟩ = some (.int .i64 o) ∧ w'.cell? ⟨w.heap.size + 1, 1, none⟩ = some (.int .i64 3) ∧ w'.cell? ⟨w.heap.size + 1, 2, none⟩ = some (.int .i64 q) ∧ w'.cell? ⟨w.heap.size + 1, 3, none⟩ = some (.int .u64 v) ∧ w'.cell? ⟨w.heap.size + 1, 4, none⟩ = some (.int .u64 x) ∧ w'.cell? ⟨w.heap.size + 1, 5, none⟩ = some (.int .u64 y) ∧ w'.cell? ⟨w.heap.size + 1, 6, none⟩ = some (.int .i64 s) ∧ Below (w.heap.size + 1 + 1) wq w') x' → Rd x' A l from fun x' hx => H.out.below (ZQ.out.trans (hx.2.2.2.2.2.2.2.2.2.2.2.mono (by omega))))
  have hn0 : w.heap.size + 1 + 1 ≤ wq.heap.size := by omega
  have hHeld0 := HK.out _ (Below.refl _ _)
  have zq := Lib.hid (Below.refl wq.heap.size wq)
  obtain ⟨d0, d1, d2, d3, d4, d5, d6⟩ := BQ0.out.cells
  have ld := BQ0.out.lt
  have fz := BQ0.out.free
  go_region_held3 (fun w' => w'.cell? ⟨w.heap.size, 0, none⟩ = some (.int .i64 W) ∧ w'.cell? ⟨w.heap.size, 1, none⟩ = some (.int .i64 D) ∧ w'.cell? ⟨w.heap.size, 2, none⟩ = some (.int .i64 J) ∧ w'.cell? ⟨w.heap.size, 3, none⟩ = some (.int .i64 S) ∧ w'.cell? ⟨w.heap.size + 1, 0, none⟩ = some (.int .i64 o) ∧ w'.cell? ⟨w.heap.size + 1, 1, none⟩ = some (.int .i64 3) ∧ w'.cell? ⟨w.heap.size + 1, 2, none⟩ = some (.int .i64 q) ∧ w'.cell? ⟨w.heap.size + 1, 3, none⟩ = some (.int .u64 v) ∧ w'.cell? ⟨w.heap.size + 1, 4, none⟩ = some (.int .u64 x) ∧ w'.cell? ⟨w.heap.size + 1, 5, none⟩ = some (.int .u64 y) ∧ w'.cell? ⟨w.heap.size + 1, 6, none⟩ = some (.int .i64 s) ∧ Below (w.heap.size + 1 + 1) wq w')
    (first | with_reducible exact hd_drew HK.out (fun _ h => h.2.2.2.2.2.2.2.2.2.2.2) (by assumption) | with_reducible exact hd_call HK.out (fun _ h => h.2.2.2.2.2.2.2.2.2.2.2) (by assumption) (by assumption) hn0 | with_reducible exact hd_set7 HK.out (fun _ h => h.2.2.2.2.2.2.2.2.2.2.2) _ _ _ _ _ _ _ (by assumption))
    (first
      | (go_at_call 61; (refine (rbottom_any W D J S q _).mono ?_); rintro _ w5 ⟨rfl, hb5⟩; have z5 : Hid (Below wq.heap.size wq w5) := Lib.hid (by first | exact keep_call hb5 z7.out | exact keep_call hb5 z6.out | exact keep_call hb5 z5.out | exact keep_call hb5 zq.out.drew); have e := BQ0.out.after z5.out; obtain ⟨d0, d1, d2, d3, d4, d5, d6⟩ := e.cells; have fz := e.free; have ld := e.lt)
      | (go_at_call 64; (refine (rstore_new A n c l _ T _ (HR.out _ (by assumption)) HN.out HS.out).mono ?_); rintro _ w6 ⟨A6, c6, rfl, hr6, hb6⟩; have z6 : Hid (Below wq.heap.size wq w6) := Lib.hid (by first | exact keep_call hb6 z7.out | exact keep_call hb6 z6.out | exact keep_call hb6 z5.out | exact keep_call hb6 zq.out.drew); have e := BQ0.out.after z6.out; obtain ⟨d0, d1, d2, d3, d4, d5, d6⟩ := e.cells; have fz := e.free; have ld := e.lt)
      | (go_at_call 63; (refine (rend_any ⟨o, 3, q, v, x, y, s⟩ 1 v _).mono ?_); rintro _ w7 ⟨rfl, hb7⟩; have z7 : Hid (Below wq.heap.size wq w7) := Lib.hid (by first | exact keep_call hb7 z7.out | exact keep_call hb7 z6.out | exact keep_call hb7 z5.out | exact keep_call hb7 zq.out.drew); have e := BQ0.out.after z7.out; obtain ⟨d0, d1, d2, d3, d4, d5, d6⟩ := e.cells; have fz := e.free; have ld := e.lt))
  all_goals
    go_wp2
    first
    | (change bodyPost _ _ _ _ _ (pf w7 (w.heap.size + 1 + 1) ⟨o, 0, q, v, 0, 0, 1⟩); refine bodyPost_ret (results_fr Try.results29 _ rfl ((BQ0.out.after z7.out).pf _)) rfl ?_; exact ⟨A6, c6, rfl, .inr ((hr6.below hb7).pfO (Nat.lt_of_lt_of_le hq2 z5.out.size) (by omega) _), HZ.out _ (by assumption)⟩)
    | (change bodyPost _ _ _ _ _ (pf w6 (w.heap.size + 1 + 1) ⟨o, 0, q, v, 0, 0, 1⟩); refine bodyPost_ret (results_fr Try.results29 _ rfl ((BQ0.out.after z6.out).pf _)) rfl ?_; exact ⟨A6, c6, rfl, .inr (hr6.pfO (by first | exact Nat.lt_of_lt_of_le hq2 z7.out.size | exact Nat.lt_of_lt_of_le hq2 z5.out.size) (by omega) _), HZ.out _ (by assumption)⟩)
set_option maxRecDepth 100000 in
theorem RetU.of {w : World} {A₀ : Option Addr} {l₀ : List Int} {n : Nat} {l l' : List Int} {f f' : Fr} {P : Program} {F : FuncId} {args : Array Value} (h : Calls P F args w (RetU w A₀ l₀ n l f)) (e1 : l = l') (e2 : f = f') : Calls P F args w (RetU w A₀ l₀ n l' f') := by rw [← e1, ← e2]; exact h
set_option maxRecDepth 100000 in
theorem rstep_u (W D J S : Int) (A : Option Addr) (n c : Nat) (l : List Int) (f : Fr) (w : World) (h : Rd w A l) (hn : l.length = n) (hs : n ≤ 500) (hf : UF f) {l' : List Int} {f' : Fr} (e : pushS W D J S l f = (l', f')) :
    Calls Try.prog 29 #[cf W D J S, .slice A n c, fv f] w (RetU w A l n l' f') := by
  cases hg : goes W D J S l f 0 4
  · have e2 : pushS W D J S l f = (l, f) := by unfold pushS; rw [hg]; rfl
    rw [e2] at e
    injection e with e3 e4
    subst e3 e4
    obtain ⟨o, p, q, v, x, y, s⟩ := f
    exact rstep_leave W D J S A n c l o p q v x y s w h hn hs hg
  · obtain ⟨hk, hr, ho, h0, h4⟩ := goes_iff.1 hg
    obtain ⟨hW, hD, hJ, hS⟩ := may_lim (okw_iff.1 hk).1
    have hp : f.pc = 0 ∨ f.pc = 1 ∨ f.pc = 2 ∨ f.pc = 3 := by omega
    unfold pushS at e
    rw [if_pos hg] at e
    obtain ⟨o, p, q, v, x, y, s⟩ := f
    simp only at hr ho h0 h4 hp e hk
    subst hr ho
    rcases hp with rfl | rfl | rfl | rfl
    · rw [if_pos rfl] at e
      injection e with e3 e4
      subst e3 e4
      exact RetU.of (rstep_0 W D J S A n c l 0 q v x y 0 w h hn hs hg) rfl (by rw [ow_ok hk])
    · rw [if_neg (by omega), if_pos rfl] at e
      by_cases hd : D ≤ (x - at0 l (bg D J q)) % 18446744073709551616
      · rw [if_pos hd] at e
        injection e with e3 e4
        subst e3 e4
        exact rstep_1f W D J S A n c l 0 q v x y 0 w h hn hs hg _ (by rw [ow_ok hk, Int.add_zero]) hD (decide_eq_true hd)
      · rw [if_neg hd] at e
        injection e with e3 e4
        subst e3 e4
        exact rstep_1r W D J S A n c l 0 q v x y 0 w h hn hs hg _ (by rw [ow_ok hk, Int.add_zero]) hD (decide_eq_false hd)
    · rw [if_neg (by omega), if_neg (by omega), if_pos rfl] at e
      injection e with e3 e4
      subst e3 e4
      exact RetU.of (rstep_2 W D J S A n c l 0 q v x y 0 w h hn hs hg hf.2.1) (by rw [sl_ok hk]) rfl
    · rw [if_neg (by omega), if_neg (by omega), if_neg (by omega)] at e
      injection e with e3 e4
      subst e3 e4
      exact RetU.of (rstep_3 W D J S A n c l 0 q v x y 0 w h hn hs hg hf.2.1 _ (IntKind.wrap_u64 _)) (by rw [ow_ok hk]) rfl
set_option maxRecDepth 100000 in
theorem rstep_any (W D J S : Int) (A : Option Addr) (n c : Nat) (l : List Int) (f : Fr) (w : World) (h : Rd w A l) (hn : l.length = n) (hs : n ≤ 500) (hf : UF f) {l' : List Int} {f' : Fr} (e : pushS W D J S l f = (l', f')) :
    Calls Try.prog 29 #[cf W D J S, .slice A n c, fv f] w (RetT w n l' f') :=
  (rstep_u W D J S A n c l f w h hn hs hf e).mono fun _ _ h2 => h2.t h
end Go.Proofs.Ytpeaahihjeplmaa
