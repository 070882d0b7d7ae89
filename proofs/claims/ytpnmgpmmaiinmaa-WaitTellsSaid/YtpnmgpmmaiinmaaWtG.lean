/- Contracts of the document's own Step, Parked and Waits of layer 14. -/
import Derived.Test.YtpnmgpmmaiinmaaPuS
import Derived.Test.YtpnmgpmmaiinmaaPuR
import Derived.Test.YtpnmgpmmaiinmaaNxG
import Derived.Test.YtpnmgpmmaiinmaaLaR
import Derived.Test.YtpnmgpmmaiinmaaWordR
import Derived.Test.YtpnmgpmmaiinmaaWtM
import Derived.IntWalk
import Derived.Deep.RegionHeld3
namespace Go.Proofs.Ytpnmgpmmaiinmaa
open Go.RowKit Go.Deep
set_option maxHeartbeats 2000000 in
theorem rwt_leave (W D J S : Int) (A : Option Addr) (n c : Nat) (l : List Int) (o p q v x y s : Int) (w : World) (h : Rd w A l) (hn : l.length = n) (hs : n ≤ 500) (hg : goes W D J S l ⟨o, p, q, v, x, y, s⟩ 5 5 = false) :
    Calls Try.prog 11 #[cf W D J S, .slice A n c, fv ⟨o, p, q, v, x, y, s⟩] w (RetT w n l ⟨o, p, q, v, x, y, s⟩) := by
  obtain ⟨BX0, BF0, B00, Z0, hz⟩ := boxes3 w W D J S ⟨o, p, q, v, x, y, s⟩
  have H := Lib.hid h; clear h
  have HN := Lib.hid hn; clear hn
  have HS := Lib.hid hs; clear hs
  have HG := Lib.hid hg; clear hg
  go_enter Try.func11, Try.ntmps11
  go_wp2_with fail
  change Calls _ _ _ (bx3 w W D J S ⟨o, p, q, v, x, y, s⟩) _
  generalize bx3 w W D J S ⟨o, p, q, v, x, y, s⟩ = w0 at BX0 BF0 B00 Z0 hz ⊢
  refine (Tells.of (rgoes_any W D J S 5 5 A n c l ⟨o, p, q, v, x, y, s⟩ _ HN.out) (v' := .bool false) (by rw [HG.out])).mono ?_
  rintro _ w1 ⟨rfl, z⟩
  have BX := Lib.hid (BX0.below z)
  have BF := Lib.hid (BF0.after z)
  have B0 := Lib.hid (B00.after z)
  have hh2 : w.heap.size + 1 + 1 < w1.heap.size := by have := z.size; omega
  have Z := Lib.hid (Z0.trans (z.mono (by omega)))
  clear z BX0 BF0 B00 Z0 hz
  have hl2 : w.heap.size ≤ w.heap.size + 1 + 1 := by omega
  obtain ⟨a0, a1, a2, a3, a4, a5, a6⟩ := BF.out.cells
  have la := BF.out.lt
  obtain ⟨gx, x0, x1, x2, x3⟩ := BX.out
  simp only at a0 a1 a2 a3 a4 a5 a6
  obtain ⟨d0, d1, d2, d3, d4, d5, d6⟩ := B0.out.cells
  have ld := B0.out.lt
  have fz := B0.out.free
  go_wp2_with fail
  go_region
  all_goals
    go_wp2
    change bodyPost _ _ _ _ _ (pf w1 (w.heap.size + 1 + 1) ⟨o, p, q, v, x, y, s⟩).drew
    refine bodyPost_ret (results_fr Try.results11 _ rfl ((B0.out.pf _).drew)) rfl ?_
    exact ⟨A, c, rfl, H.out.below (below_pf Z.out hl2 _).drew, (below_pf Z.out hl2 _).drew⟩
set_option maxHeartbeats 2000000 in
theorem rwt_0 (W D J S : Int) (A : Option Addr) (n c : Nat) (l : List Int) (q v x y : Int) (w : World) (h : Rd w A l) (hn : l.length = n) (hs : n ≤ 500) (hg : goes W D J S l ⟨5, 0, q, v, x, y, 0⟩ 5 5 = true) :
    Calls Try.prog 11 #[cf W D J S, .slice A n c, fv ⟨5, 0, q, v, x, y, 0⟩] w (RetT w n l ⟨5, 1, q, v, at0 l 2, y, 0⟩) := by
  obtain ⟨BX0, BF0, B00, Z0, hz⟩ := boxes3 w W D J S ⟨5, 0, q, v, x, y, 0⟩
  have H := Lib.hid h; clear h
  have HN := Lib.hid hn; clear hn
  have HS := Lib.hid hs; clear hs
  have HG := Lib.hid hg; clear hg
  go_enter Try.func11, Try.ntmps11
  go_wp2_with fail
  change Calls _ _ _ (bx3 w W D J S ⟨5, 0, q, v, x, y, 0⟩) _
  generalize bx3 w W D J S ⟨5, 0, q, v, x, y, 0⟩ = w0 at BX0 BF0 B00 Z0 hz ⊢
  refine (Tells.of (rgoes_any W D J S 5 5 A n c l ⟨5, 0, q, v, x, y, 0⟩ _ HN.out) (v' := .bool true) (by rw [HG.out])).mono ?_
  rintro _ w1 ⟨rfl, z⟩
  have BX := Lib.hid (BX0.below z)
  have BF := Lib.hid (BF0.after z)
  have B0 := Lib.hid (B00.after z)
  have hh2 : w.heap.size + 1 + 1 < w1.heap.size := by have := z.size; omega
  have Z := Lib.hid (Z0.trans (z.mono (by omega)))
  clear z BX0 BF0 B00 Z0 hz
  have hl2 : w.heap.size ≤ w.heap.size + 1 + 1 := by omega
  obtain ⟨a0, a1, a2, a3, a4, a5, a6⟩ := BF.out.cells
  have la := BF.out.lt
  obtain ⟨gx, x0, x1, x2, x3⟩ := BX.out
  simp only at a0 a1 a2 a3 a4 a5 a6
  go_wp2_with fail
  refine (rload_any A n c l 2 _ (H.out.below Z.out) HN.out).mono ?_
  rintro _ w2 ⟨rfl, z⟩
  clear a0 a1 a2 a3 a4 a5 a6 la gx x0 x1 x2 x3
  replace BX := Lib.hid (BX.out.below z)
  replace BF := Lib.hid (BF.out.after z)
  replace B0 := Lib.hid (B0.out.after z)
  replace Z := Lib.hid (Z.out.trans (z.mono Z.out.size))
  clear z
  obtain ⟨a0, a1, a2, a3, a4, a5, a6⟩ := BF.out.cells
  have la := BF.out.lt
  obtain ⟨gx, x0, x1, x2, x3⟩ := BX.out
  simp only at a0 a1 a2 a3 a4 a5 a6
  have fz := BF.out.free
  have BQ : Hid (Bf ((w2.setCell ⟨w.heap.size + 1, 4, none⟩ (.int .u64 (at0 l 2))).setCell ⟨w.heap.size + 1, 1, none⟩ (.int .i64 1)) (w.heap.size + 1) ⟨5, 1, q, v, at0 l 2, y, 0⟩) := Lib.hid ((BF.out.setX _).setPc _)
  have B0Q : Hid (Bf ((w2.setCell ⟨w.heap.size + 1, 4, none⟩ (.int .u64 (at0 l 2))).setCell ⟨w.heap.size + 1, 1, none⟩ (.int .i64 1)) (w.heap.size + 1 + 1) f0) := Lib.hid ((B0.out.other (by simp) _).other (by simp) _)
  have BXQ : Hid (Bx ((w2.setCell ⟨w.heap.size + 1, 4, none⟩ (.int .u64 (at0 l 2))).setCell ⟨w.heap.size + 1, 1, none⟩ (.int .i64 1)) w.heap.size W D J S) := Lib.hid ((BX.out.other (by simp) _).other (by simp) _)
  have ZQ : Hid (Below w.heap.size w ((w2.setCell ⟨w.heap.size + 1, 4, none⟩ (.int .u64 (at0 l 2))).setCell ⟨w.heap.size + 1, 1, none⟩ (.int .i64 1))) := Lib.hid ((Z.out.setCell (p := ⟨w.heap.size + 1, 4, none⟩) (by simp) _).setCell (p := ⟨w.heap.size + 1, 1, none⟩) (by simp) _)
  go_upto_region 8 with fail
  change Code.wp _ _ _ _ ((w2.setCell ⟨w.heap.size + 1, 4, none⟩ (.int .u64 (at0 l 2))).setCell ⟨w.heap.size + 1, 1, none⟩ (.int .i64 1))
  generalize (w2.setCell ⟨w.heap.size + 1, 4, none⟩ (.int .u64 (at0 l 2))).setCell ⟨w.heap.size + 1, 1, none⟩ (.int .i64 1) = w3 at BQ B0Q BXQ ZQ ⊢
  clear a0 a1 a2 a3 a4 a5 a6 la gx x0 x1 x2 x3 fz
  clear BF B0 BX Z
  have BF := BQ
  have B0 := B0Q
  have BX := BXQ
  have Z := ZQ
  clear BQ B0Q BXQ ZQ
  obtain ⟨a0, a1, a2, a3, a4, a5, a6⟩ := BF.out.cells
  have la := BF.out.lt
  obtain ⟨gx, x0, x1, x2, x3⟩ := BX.out
  simp only at a0 a1 a2 a3 a4 a5 a6
  obtain ⟨d0, d1, d2, d3, d4, d5, d6⟩ := B0.out.cells
  have ld := B0.out.lt
  have fz := B0.out.free
  go_region
  all_goals
    go_wp2
    change bodyPost _ _ _ _ _ (pf w3 (w.heap.size + 1 + 1) ⟨5, 1, q, v, at0 l 2, y, 0⟩).drew
    refine bodyPost_ret (results_fr Try.results11 _ rfl ((B0.out.pf _).drew)) rfl ?_
    exact ⟨A, c, rfl, H.out.below (below_pf Z.out hl2 _).drew, (below_pf Z.out hl2 _).drew⟩
set_option maxHeartbeats 2000000 in
theorem rwt_1y (W D J S : Int) (A : Option Addr) (n c : Nat) (l : List Int) (q v x y : Int) (w : World) (h : Rd w A l) (hn : l.length = n) (hs : n ≤ 500) (hg : goes W D J S l ⟨5, 1, q, v, x, y, 0⟩ 5 5 = true) (Y : Int) (hY : at0 l 2 = Y) (hb : (Y / 65536 != x / 65536) = false) (hux : U x) (huy : U Y) :
    Calls Try.prog 11 #[cf W D J S, .slice A n c, fv ⟨5, 1, q, v, x, y, 0⟩] w (RetT w n l ⟨5, 2, q, v, x, Y, 0⟩) := by
  have HY := Lib.hid hY
  have HBB := Lib.hid hb
  have HUX := Lib.hid hux
  have HUY := Lib.hid huy
  clear hY hb hux huy
  obtain ⟨BX0, BF0, B00, Z0, hz⟩ := boxes3 w W D J S ⟨5, 1, q, v, x, y, 0⟩
  have H := Lib.hid h; clear h
  have HN := Lib.hid hn; clear hn
  have HS := Lib.hid hs; clear hs
  have HG := Lib.hid hg; clear hg
  go_enter Try.func11, Try.ntmps11
  go_wp2_with fail
  change Calls _ _ _ (bx3 w W D J S ⟨5, 1, q, v, x, y, 0⟩) _
  generalize bx3 w W D J S ⟨5, 1, q, v, x, y, 0⟩ = w0 at BX0 BF0 B00 Z0 hz ⊢
  refine (Tells.of (rgoes_any W D J S 5 5 A n c l ⟨5, 1, q, v, x, y, 0⟩ _ HN.out) (v' := .bool true) (by rw [HG.out])).mono ?_
  rintro _ w1 ⟨rfl, z⟩
  have BX := Lib.hid (BX0.below z)
  have BF := Lib.hid (BF0.after z)
  have B0 := Lib.hid (B00.after z)
  have hh2 : w.heap.size + 1 + 1 < w1.heap.size := by have := z.size; omega
  have Z := Lib.hid (Z0.trans (z.mono (by omega)))
  clear z BX0 BF0 B00 Z0 hz
  have hl2 : w.heap.size ≤ w.heap.size + 1 + 1 := by omega
  obtain ⟨a0, a1, a2, a3, a4, a5, a6⟩ := BF.out.cells
  have la := BF.out.lt
  obtain ⟨gx, x0, x1, x2, x3⟩ := BX.out
  simp only at a0 a1 a2 a3 a4 a5 a6
  go_wp2_with fail
  refine (ret_of (rload_any A n c l 2 _ (H.out.below Z.out) HN.out) (v' := .int .u64 Y) (by rw [HY.out])).mono ?_
  rintro _ w2 ⟨rfl, z⟩
  clear a0 a1 a2 a3 a4 a5 a6 la gx x0 x1 x2 x3
  replace BX := Lib.hid (BX.out.below z)
  replace BF := Lib.hid (BF.out.after z)
  replace B0 := Lib.hid (B0.out.after z)
  replace Z := Lib.hid (Z.out.trans (z.mono Z.out.size))
  clear z
  obtain ⟨a0, a1, a2, a3, a4, a5, a6⟩ := BF.out.cells
  have la := BF.out.lt
  obtain ⟨gx, x0, x1, x2, x3⟩ := BX.out
  simp only at a0 a1 a2 a3 a4 a5 a6
  have fz := BF.out.free
  have BQ : Hid (Bf ((w2.setCell ⟨w.heap.size + 1, 5, none⟩ (.int .u64 Y)).setCell ⟨w.heap.size + 1, 1, none⟩ (.int .i64 2)) (w.heap.size + 1) ⟨5, 2, q, v, x, Y, 0⟩) := Lib.hid ((BF.out.setY _).setPc _)
  have B0Q : Hid (Bf ((w2.setCell ⟨w.heap.size + 1, 5, none⟩ (.int .u64 Y)).setCell ⟨w.heap.size + 1, 1, none⟩ (.int .i64 2)) (w.heap.size + 1 + 1) f0) := Lib.hid ((B0.out.other (by simp) _).other (by simp) _)
  have BXQ : Hid (Bx ((w2.setCell ⟨w.heap.size + 1, 5, none⟩ (.int .u64 Y)).setCell ⟨w.heap.size + 1, 1, none⟩ (.int .i64 2)) w.heap.size W D J S) := Lib.hid ((BX.out.other (by simp) _).other (by simp) _)
  have ZQ : Hid (Below w.heap.size w ((w2.setCell ⟨w.heap.size + 1, 5, none⟩ (.int .u64 Y)).setCell ⟨w.heap.size + 1, 1, none⟩ (.int .i64 2))) := Lib.hid ((Z.out.setCell (p := ⟨w.heap.size + 1, 5, none⟩) (by simp) _).setCell (p := ⟨w.heap.size + 1, 1, none⟩) (by simp) _)
  go_upto_region 12 with fail
  change Code.wp _ _ _ _ ((w2.setCell ⟨w.heap.size + 1, 5, none⟩ (.int .u64 Y)).setCell ⟨w.heap.size + 1, 1, none⟩ (.int .i64 2))
  generalize (w2.setCell ⟨w.heap.size + 1, 5, none⟩ (.int .u64 Y)).setCell ⟨w.heap.size + 1, 1, none⟩ (.int .i64 2) = w3 at BQ B0Q BXQ ZQ ⊢
  clear a0 a1 a2 a3 a4 a5 a6 la gx x0 x1 x2 x3 fz
  clear BF B0 BX Z
  have BF := BQ
  have B0 := B0Q
  have BX := BXQ
  have Z := ZQ
  clear BQ B0Q BXQ ZQ
  have HK := Lib.hid (show ∀ x', Below w3.heap.size w3 x' → (fun w' => w'.cell? ⟨w.heap.size + 1, 4, none⟩ = some (.int .u64 x) ∧ w'.cell? ⟨w.heap.size + 1, 5, none⟩ = some (.int .u64 Y) ∧ Below w3.heap.size w3 w') x' from fun x' hx => by
    obtain ⟨f0, f1, f2, f3, f4, f5, f6⟩ := (BF.out.after hx).cells
    exact ⟨f4, f5, hx⟩)
  have hHeld0 := HK.out _ (Below.refl _ _)
  have hn0 : w3.heap.size ≤ w3.heap.size := Nat.le_refl _
  have ZC := Lib.hid (Below.refl w3.heap.size w3).drew
  go_region_held3 (fun w' => w'.cell? ⟨w.heap.size + 1, 4, none⟩ = some (.int .u64 x) ∧ w'.cell? ⟨w.heap.size + 1, 5, none⟩ = some (.int .u64 Y) ∧ Below w3.heap.size w3 w')
    (first | with_reducible exact hd_drew HK.out (fun _ h => h.2.2) (by assumption) | with_reducible exact hd_call HK.out (fun _ h => h.2.2) (by assumption) (by assumption) hn0)
    (first
    | (go_at_call 30; (refine ((repoch_any _ _ (by first | exact HUX.out | exact HUY.out)).tells).mono ?_); rintro _ w4 ⟨rfl, hb⟩; replace ZC := Lib.hid (keep_call (w2 := w3) hb ZC.out)))
  replace BX := Lib.hid (BX.out.below ZC.out)
  replace BF := Lib.hid (BF.out.after ZC.out)
  replace B0 := Lib.hid (B0.out.after ZC.out)
  replace Z := Lib.hid (Z.out.trans (ZC.out.mono Z.out.size))
  clear HK hHeld0
  have hne := HBB.out
  go_wp2_with fail
  obtain ⟨a0, a1, a2, a3, a4, a5, a6⟩ := BF.out.cells
  have la := BF.out.lt
  obtain ⟨gx, x0, x1, x2, x3⟩ := BX.out
  simp only at a0 a1 a2 a3 a4 a5 a6
  obtain ⟨d0, d1, d2, d3, d4, d5, d6⟩ := B0.out.cells
  have ld := B0.out.lt
  have fz := B0.out.free
  go_region
  all_goals
    go_wp2
    change bodyPost _ _ _ _ _ (pf w4 (w.heap.size + 1 + 1) ⟨5, 2, q, v, x, Y, 0⟩).drew
    refine bodyPost_ret (results_fr Try.results11 _ rfl ((B0.out.pf _).drew)) rfl ?_
    exact ⟨A, c, rfl, H.out.below (below_pf Z.out hl2 _).drew, (below_pf Z.out hl2 _).drew⟩
set_option maxHeartbeats 2000000 in
theorem rwt_1n (W D J S : Int) (A : Option Addr) (n c : Nat) (l : List Int) (q v x y : Int) (w : World) (h : Rd w A l) (hn : l.length = n) (hs : n ≤ 500) (hg : goes W D J S l ⟨5, 1, q, v, x, y, 0⟩ 5 5 = true) (Y : Int) (hY : at0 l 2 = Y) (hb : (Y / 65536 != x / 65536) = true) (hux : U x) (huy : U Y) :
    Calls Try.prog 11 #[cf W D J S, .slice A n c, fv ⟨5, 1, q, v, x, y, 0⟩] w (RetT w n l ⟨5, 0, q, 0, 0, 0, 4⟩) := by
  have HY := Lib.hid hY
  have HBB := Lib.hid hb
  have HUX := Lib.hid hux
  have HUY := Lib.hid huy
  clear hY hb hux huy
  obtain ⟨BX0, BF0, B00, Z0, hz⟩ := boxes3 w W D J S ⟨5, 1, q, v, x, y, 0⟩
  have H := Lib.hid h; clear h
  have HN := Lib.hid hn; clear hn
  have HS := Lib.hid hs; clear hs
  have HG := Lib.hid hg; clear hg
  go_enter Try.func11, Try.ntmps11
  go_wp2_with fail
  change Calls _ _ _ (bx3 w W D J S ⟨5, 1, q, v, x, y, 0⟩) _
  generalize bx3 w W D J S ⟨5, 1, q, v, x, y, 0⟩ = w0 at BX0 BF0 B00 Z0 hz ⊢
  refine (Tells.of (rgoes_any W D J S 5 5 A n c l ⟨5, 1, q, v, x, y, 0⟩ _ HN.out) (v' := .bool true) (by rw [HG.out])).mono ?_
  rintro _ w1 ⟨rfl, z⟩
  have BX := Lib.hid (BX0.below z)
  have BF := Lib.hid (BF0.after z)
  have B0 := Lib.hid (B00.after z)
  have hh2 : w.heap.size + 1 + 1 < w1.heap.size := by have := z.size; omega
  have Z := Lib.hid (Z0.trans (z.mono (by omega)))
  clear z BX0 BF0 B00 Z0 hz
  have hl2 : w.heap.size ≤ w.heap.size + 1 + 1 := by omega
  obtain ⟨a0, a1, a2, a3, a4, a5, a6⟩ := BF.out.cells
  have la := BF.out.lt
  obtain ⟨gx, x0, x1, x2, x3⟩ := BX.out
  simp only at a0 a1 a2 a3 a4 a5 a6
  go_wp2_with fail
  refine (ret_of (rload_any A n c l 2 _ (H.out.below Z.out) HN.out) (v' := .int .u64 Y) (by rw [HY.out])).mono ?_
  rintro _ w2 ⟨rfl, z⟩
  clear a0 a1 a2 a3 a4 a5 a6 la gx x0 x1 x2 x3
  replace BX := Lib.hid (BX.out.below z)
  replace BF := Lib.hid (BF.out.after z)
  replace B0 := Lib.hid (B0.out.after z)
  replace Z := Lib.hid (Z.out.trans (z.mono Z.out.size))
  clear z
  obtain ⟨a0, a1, a2, a3, a4, a5, a6⟩ := BF.out.cells
  have la := BF.out.lt
  obtain ⟨gx, x0, x1, x2, x3⟩ := BX.out
  simp only at a0 a1 a2 a3 a4 a5 a6
  have fz := BF.out.free
  have BQ : Hid (Bf ((w2.setCell ⟨w.heap.size + 1, 5, none⟩ (.int .u64 Y)).setCell ⟨w.heap.size + 1, 1, none⟩ (.int .i64 2)) (w.heap.size + 1) ⟨5, 2, q, v, x, Y, 0⟩) := Lib.hid ((BF.out.setY _).setPc _)
  have B0Q : Hid (Bf ((w2.setCell ⟨w.heap.size + 1, 5, none⟩ (.int .u64 Y)).setCell ⟨w.heap.size + 1, 1, none⟩ (.int .i64 2)) (w.heap.size + 1 + 1) f0) := Lib.hid ((B0.out.other (by simp) _).other (by simp) _)
  have BXQ : Hid (Bx ((w2.setCell ⟨w.heap.size + 1, 5, none⟩ (.int .u64 Y)).setCell ⟨w.heap.size + 1, 1, none⟩ (.int .i64 2)) w.heap.size W D J S) := Lib.hid ((BX.out.other (by simp) _).other (by simp) _)
  have ZQ : Hid (Below w.heap.size w ((w2.setCell ⟨w.heap.size + 1, 5, none⟩ (.int .u64 Y)).setCell ⟨w.heap.size + 1, 1, none⟩ (.int .i64 2))) := Lib.hid ((Z.out.setCell (p := ⟨w.heap.size + 1, 5, none⟩) (by simp) _).setCell (p := ⟨w.heap.size + 1, 1, none⟩) (by simp) _)
  go_upto_region 12 with fail
  change Code.wp _ _ _ _ ((w2.setCell ⟨w.heap.size + 1, 5, none⟩ (.int .u64 Y)).setCell ⟨w.heap.size + 1, 1, none⟩ (.int .i64 2))
  generalize (w2.setCell ⟨w.heap.size + 1, 5, none⟩ (.int .u64 Y)).setCell ⟨w.heap.size + 1, 1, none⟩ (.int .i64 2) = w3 at BQ B0Q BXQ ZQ ⊢
  clear a0 a1 a2 a3 a4 a5 a6 la gx x0 x1 x2 x3 fz
  clear BF B0 BX Z
  have BF := BQ
  have B0 := B0Q
  have BX := BXQ
  have Z := ZQ
  clear BQ B0Q BXQ ZQ
  have HK := Lib.hid (show ∀ x', Below w3.heap.size w3 x' → (fun w' => w'.cell? ⟨w.heap.size + 1, 4, none⟩ = some (.int .u64 x) ∧ w'.cell? ⟨w.heap.size + 1, 5, none⟩ = some (.int .u64 Y) ∧ Below w3.heap.size w3 w') x' from fun x' hx => by
    obtain ⟨f0, f1, f2, f3, f4, f5, f6⟩ := (BF.out.after hx).cells
    exact ⟨f4, f5, hx⟩)
  have hHeld0 := HK.out _ (Below.refl _ _)
  have hn0 : w3.heap.size ≤ w3.heap.size := Nat.le_refl _
  have ZC := Lib.hid (Below.refl w3.heap.size w3).drew
  go_region_held3 (fun w' => w'.cell? ⟨w.heap.size + 1, 4, none⟩ = some (.int .u64 x) ∧ w'.cell? ⟨w.heap.size + 1, 5, none⟩ = some (.int .u64 Y) ∧ Below w3.heap.size w3 w')
    (first | with_reducible exact hd_drew HK.out (fun _ h => h.2.2) (by assumption) | with_reducible exact hd_call HK.out (fun _ h => h.2.2) (by assumption) (by assumption) hn0)
    (first
    | (go_at_call 30; (refine ((repoch_any _ _ (by first | exact HUX.out | exact HUY.out)).tells).mono ?_); rintro _ w4 ⟨rfl, hb⟩; replace ZC := Lib.hid (keep_call (w2 := w3) hb ZC.out)))
  replace BX := Lib.hid (BX.out.below ZC.out)
  replace BF := Lib.hid (BF.out.after ZC.out)
  replace B0 := Lib.hid (B0.out.after ZC.out)
  replace Z := Lib.hid (Z.out.trans (ZC.out.mono Z.out.size))
  clear HK hHeld0
  have hne := HBB.out
  obtain ⟨a0, a1, a2, a3, a4, a5, a6⟩ := BF.out.cells
  have la := BF.out.lt
  obtain ⟨gx, x0, x1, x2, x3⟩ := BX.out
  simp only at a0 a1 a2 a3 a4 a5 a6
  have fz := BF.out.free
  go_wp2_with fail
  refine (rend_any ⟨5, 2, q, v, x, Y, 0⟩ 4 0 _).mono ?_
  rintro _ w5 ⟨rfl, z⟩
  clear a0 a1 a2 a3 a4 a5 a6 la gx x0 x1 x2 x3 fz
  replace BX := Lib.hid (BX.out.below z)
  replace BF := Lib.hid (BF.out.after z)
  replace B0 := Lib.hid (B0.out.after z)
  replace Z := Lib.hid (Z.out.trans (z.mono Z.out.size))
  clear z
  obtain ⟨a0, a1, a2, a3, a4, a5, a6⟩ := BF.out.cells
  have la := BF.out.lt
  obtain ⟨gx, x0, x1, x2, x3⟩ := BX.out
  simp only at a0 a1 a2 a3 a4 a5 a6
  obtain ⟨d0, d1, d2, d3, d4, d5, d6⟩ := B0.out.cells
  have ld := B0.out.lt
  have fz := B0.out.free
  go_wp2
  change bodyPost _ _ _ _ _ (pf w5 (w.heap.size + 1 + 1) ⟨5, 0, q, 0, 0, 0, 4⟩)
  refine bodyPost_ret (results_fr Try.results11 _ rfl (B0.out.pf _)) rfl ?_
  exact ⟨A, c, rfl, H.out.below (below_pf Z.out hl2 _), below_pf Z.out hl2 _⟩
set_option maxHeartbeats 2000000 in
theorem rwt_2t (W D J S : Int) (A : Option Addr) (n c : Nat) (l : List Int) (q v x y : Int) (w : World) (h : Rd w A l) (hn : l.length = n) (hs : n ≤ 500) (hg : goes W D J S l ⟨5, 2, q, v, x, y, 0⟩ 5 5 = true) (huy : U y) (T2 : List Int) (hb : isAt l 2 y = true) (hT2 : (if isAt l 2 y = true then put l 2 (st y q) else l) = T2) :
    Calls Try.prog 11 #[cf W D J S, .slice A n c, fv ⟨5, 2, q, v, x, y, 0⟩] w (RetT w n T2 ⟨5, 3, q, v, x, y, 0⟩) := by
  have HIB := Lib.hid hb
  have HT2 := Lib.hid hT2
  have HUY := Lib.hid huy
  clear hb hT2 huy
  obtain ⟨BX0, BF0, B00, Z0, hz⟩ := boxes3 w W D J S ⟨5, 2, q, v, x, y, 0⟩
  have H := Lib.hid h; clear h
  have HN := Lib.hid hn; clear hn
  have HS := Lib.hid hs; clear hs
  have HG := Lib.hid hg; clear hg
  go_enter Try.func11, Try.ntmps11
  go_wp2_with fail
  change Calls _ _ _ (bx3 w W D J S ⟨5, 2, q, v, x, y, 0⟩) _
  generalize bx3 w W D J S ⟨5, 2, q, v, x, y, 0⟩ = w0 at BX0 BF0 B00 Z0 hz ⊢
  refine (Tells.of (rgoes_any W D J S 5 5 A n c l ⟨5, 2, q, v, x, y, 0⟩ _ HN.out) (v' := .bool true) (by rw [HG.out])).mono ?_
  rintro _ w1 ⟨rfl, z⟩
  have BX := Lib.hid (BX0.below z)
  have BF := Lib.hid (BF0.after z)
  have B0 := Lib.hid (B00.after z)
  have hh2 : w.heap.size + 1 + 1 < w1.heap.size := by have := z.size; omega
  have Z := Lib.hid (Z0.trans (z.mono (by omega)))
  clear z BX0 BF0 B00 Z0 hz
  have hl2 : w.heap.size ≤ w.heap.size + 1 + 1 := by omega
  obtain ⟨a0, a1, a2, a3, a4, a5, a6⟩ := BF.out.cells
  have la := BF.out.lt
  obtain ⟨gx, x0, x1, x2, x3⟩ := BX.out
  simp only at a0 a1 a2 a3 a4 a5 a6
  go_upto_region 16 with fail
  clear a0 a1 a2 a3 a4 a5 a6 la gx x0 x1 x2 x3
  have HK := Lib.hid (show ∀ x', Below w1.heap.size w1 x' → (fun w' => w'.cell? ⟨w.heap.size + 1, 2, none⟩ = some (.int .i64 q) ∧ w'.cell? ⟨w.heap.size + 1, 5, none⟩ = some (.int .u64 y) ∧ Below w1.heap.size w1 w') x' from fun x' hx => by
    obtain ⟨f0, f1, f2, f3, f4, f5, f6⟩ := (BF.out.after hx).cells
    exact ⟨f2, f5, hx⟩)
  have hHeld0 := HK.out _ (Below.refl _ _)
  have hn0 : w1.heap.size ≤ w1.heap.size := Nat.le_refl _
  have ZC := Lib.hid (Below.refl w1.heap.size w1).drew
  go_region_held3 (fun w' => w'.cell? ⟨w.heap.size + 1, 2, none⟩ = some (.int .i64 q) ∧ w'.cell? ⟨w.heap.size + 1, 5, none⟩ = some (.int .u64 y) ∧ Below w1.heap.size w1 w')
    (first | with_reducible exact hd_drew HK.out (fun _ h => h.2.2) (by assumption) | with_reducible exact hd_call HK.out (fun _ h => h.2.2) (by assumption) (by assumption) hn0)
    (first
    | (go_at_call 33; (refine ((rset_any y q _ HUY.out).tells).mono ?_); rintro _ w2 ⟨rfl, hb⟩; replace ZC := Lib.hid (keep_call (w2 := w1) hb ZC.out); have ZA := Lib.hid (show w.heap.size + 1 + 1 < w2.heap.size from Nat.lt_of_lt_of_le hh2 ZC.out.size))
    | (go_at_call 32; (refine (rcasn_n (v := st y q) (H.out.below (Z.out.trans (ZC.out.mono Z.out.size))) HN.out HS.out HIB.out HT2.out).mono ?_); rintro _ w3 ⟨A2, c2, rfl, hr2, hb⟩; replace ZC := Lib.hid (keep_call (w2 := w1) hb ZC.out); have H2 := Lib.hid hr2; have HLW := Lib.hid hb.size; clear hr2))
  replace BX := Lib.hid (BX.out.below ZC.out)
  replace BF := Lib.hid (BF.out.after ZC.out)
  replace B0 := Lib.hid (B0.out.after ZC.out)
  replace Z := Lib.hid (Z.out.trans (ZC.out.mono Z.out.size))
  clear HK hHeld0
  obtain ⟨a0, a1, a2, a3, a4, a5, a6⟩ := BF.out.cells
  have la := BF.out.lt
  obtain ⟨gx, x0, x1, x2, x3⟩ := BX.out
  simp only at a0 a1 a2 a3 a4 a5 a6
  have fz := BF.out.free
  have hlow : w.heap.size + 1 < w2.heap.size := by have := ZA.out; omega
  have hlow2 : w.heap.size + 1 + 1 < w2.heap.size := ZA.out
  have H3 : Hid (Rn w2.heap.size ((w3.setCell ⟨w.heap.size + 1, 1, none⟩ (.int .i64 1)).setCell ⟨w.heap.size + 1, 1, none⟩ (.int .i64 3)) A2 T2) := Lib.hid ((H2.out.set (p := ⟨w.heap.size + 1, 1, none⟩) hlow _).set (p := ⟨w.heap.size + 1, 1, none⟩) hlow _)
  have BQ : Hid (Bf ((w3.setCell ⟨w.heap.size + 1, 1, none⟩ (.int .i64 1)).setCell ⟨w.heap.size + 1, 1, none⟩ (.int .i64 3)) (w.heap.size + 1) ⟨5, 3, q, v, x, y, 0⟩) := Lib.hid ((BF.out.setPc _).setPc _)
  have B0Q : Hid (Bf ((w3.setCell ⟨w.heap.size + 1, 1, none⟩ (.int .i64 1)).setCell ⟨w.heap.size + 1, 1, none⟩ (.int .i64 3)) (w.heap.size + 1 + 1) f0) := Lib.hid ((B0.out.other (by simp) _).other (by simp) _)
  have BXQ : Hid (Bx ((w3.setCell ⟨w.heap.size + 1, 1, none⟩ (.int .i64 1)).setCell ⟨w.heap.size + 1, 1, none⟩ (.int .i64 3)) w.heap.size W D J S) := Lib.hid ((BX.out.other (by simp) _).other (by simp) _)
  have ZQ : Hid (Below w.heap.size w ((w3.setCell ⟨w.heap.size + 1, 1, none⟩ (.int .i64 1)).setCell ⟨w.heap.size + 1, 1, none⟩ (.int .i64 3))) := Lib.hid ((Z.out.setCell (p := ⟨w.heap.size + 1, 1, none⟩) (by simp) _).setCell (p := ⟨w.heap.size + 1, 1, none⟩) (by simp) _)
  go_upto_region 20 with fail
  change Code.wp _ _ _ _ ((w3.setCell ⟨w.heap.size + 1, 1, none⟩ (.int .i64 1)).setCell ⟨w.heap.size + 1, 1, none⟩ (.int .i64 3))
  generalize (w3.setCell ⟨w.heap.size + 1, 1, none⟩ (.int .i64 1)).setCell ⟨w.heap.size + 1, 1, none⟩ (.int .i64 3) = w4 at BQ B0Q BXQ ZQ H3 ⊢
  clear a0 a1 a2 a3 a4 a5 a6 la gx x0 x1 x2 x3 fz
  clear BF B0 BX Z
  have BF := BQ
  have B0 := B0Q
  have BX := BXQ
  have Z := ZQ
  clear BQ B0Q BXQ ZQ
  obtain ⟨a0, a1, a2, a3, a4, a5, a6⟩ := BF.out.cells
  have la := BF.out.lt
  obtain ⟨gx, x0, x1, x2, x3⟩ := BX.out
  simp only at a0 a1 a2 a3 a4 a5 a6
  obtain ⟨d0, d1, d2, d3, d4, d5, d6⟩ := B0.out.cells
  have ld := B0.out.lt
  have fz := B0.out.free
  go_region
  all_goals
    go_wp2
    change bodyPost _ _ _ _ _ (pf w4 (w.heap.size + 1 + 1) ⟨5, 3, q, v, x, y, 0⟩).drew
    refine bodyPost_ret (results_fr Try.results11 _ rfl ((B0.out.pf _).drew)) rfl ?_
    exact ⟨A2, c2, rfl, ((H3.out.pf hlow2 _).drew).rd, (below_pf Z.out hl2 _).drew⟩
set_option maxHeartbeats 2000000 in
theorem rwt_2f (W D J S : Int) (A : Option Addr) (n c : Nat) (l : List Int) (q v x y : Int) (w : World) (h : Rd w A l) (hn : l.length = n) (hs : n ≤ 500) (hg : goes W D J S l ⟨5, 2, q, v, x, y, 0⟩ 5 5 = true) (huy : U y) (T2 : List Int) (hb : isAt l 2 y = false) (hT2 : (if isAt l 2 y = true then put l 2 (st y q) else l) = T2) :
    Calls Try.prog 11 #[cf W D J S, .slice A n c, fv ⟨5, 2, q, v, x, y, 0⟩] w (RetT w n T2 ⟨5, 1, q, v, x, y, 0⟩) := by
  have HIB := Lib.hid hb
  have HT2 := Lib.hid hT2
  have HUY := Lib.hid huy
  clear hb hT2 huy
  obtain ⟨BX0, BF0, B00, Z0, hz⟩ := boxes3 w W D J S ⟨5, 2, q, v, x, y, 0⟩
  have H := Lib.hid h; clear h
  have HN := Lib.hid hn; clear hn
  have HS := Lib.hid hs; clear hs
  have HG := Lib.hid hg; clear hg
  go_enter Try.func11, Try.ntmps11
  go_wp2_with fail
  change Calls _ _ _ (bx3 w W D J S ⟨5, 2, q, v, x, y, 0⟩) _
  generalize bx3 w W D J S ⟨5, 2, q, v, x, y, 0⟩ = w0 at BX0 BF0 B00 Z0 hz ⊢
  refine (Tells.of (rgoes_any W D J S 5 5 A n c l ⟨5, 2, q, v, x, y, 0⟩ _ HN.out) (v' := .bool true) (by rw [HG.out])).mono ?_
  rintro _ w1 ⟨rfl, z⟩
  have BX := Lib.hid (BX0.below z)
  have BF := Lib.hid (BF0.after z)
  have B0 := Lib.hid (B00.after z)
  have hh2 : w.heap.size + 1 + 1 < w1.heap.size := by have := z.size; omega
  have Z := Lib.hid (Z0.trans (z.mono (by omega)))
  clear z BX0 BF0 B00 Z0 hz
  have hl2 : w.heap.size ≤ w.heap.size + 1 + 1 := by omega
  obtain ⟨a0, a1, a2, a3, a4, a5, a6⟩ := BF.out.cells
  have la := BF.out.lt
  obtain ⟨gx, x0, x1, x2, x3⟩ := BX.out
  simp only at a0 a1 a2 a3 a4 a5 a6
  go_upto_region 16 with fail
  clear a0 a1 a2 a3 a4 a5 a6 la gx x0 x1 x2 x3
  have HK := Lib.hid (show ∀ x', Below w1.heap.size w1 x' → (fun w' => w'.cell? ⟨w.heap.size + 1, 2, none⟩ = some (.int .i64 q) ∧ w'.cell? ⟨w.heap.size + 1, 5, none⟩ = some (.int .u64 y) ∧ Below w1.heap.size w1 w') x' from fun x' hx => by
    obtain ⟨f0, f1, f2, f3, f4, f5, f6⟩ := (BF.out.after hx).cells
    exact ⟨f2, f5, hx⟩)
  have hHeld0 := HK.out _ (Below.refl _ _)
  have hn0 : w1.heap.size ≤ w1.heap.size := Nat.le_refl _
  have ZC := Lib.hid (Below.refl w1.heap.size w1).drew
  go_region_held3 (fun w' => w'.cell? ⟨w.heap.size + 1, 2, none⟩ = some (.int .i64 q) ∧ w'.cell? ⟨w.heap.size + 1, 5, none⟩ = some (.int .u64 y) ∧ Below w1.heap.size w1 w')
    (first | with_reducible exact hd_drew HK.out (fun _ h => h.2.2) (by assumption) | with_reducible exact hd_call HK.out (fun _ h => h.2.2) (by assumption) (by assumption) hn0)
    (first
    | (go_at_call 33; (refine ((rset_any y q _ HUY.out).tells).mono ?_); rintro _ w2 ⟨rfl, hb⟩; replace ZC := Lib.hid (keep_call (w2 := w1) hb ZC.out); have ZA := Lib.hid (show w.heap.size + 1 + 1 < w2.heap.size from Nat.lt_of_lt_of_le hh2 ZC.out.size))
    | (go_at_call 32; (refine (rcasn_n (v := st y q) (H.out.below (Z.out.trans (ZC.out.mono Z.out.size))) HN.out HS.out HIB.out HT2.out).mono ?_); rintro _ w3 ⟨A2, c2, rfl, hr2, hb⟩; replace ZC := Lib.hid (keep_call (w2 := w1) hb ZC.out); have H2 := Lib.hid hr2; have HLW := Lib.hid hb.size; clear hr2))
  replace BX := Lib.hid (BX.out.below ZC.out)
  replace BF := Lib.hid (BF.out.after ZC.out)
  replace B0 := Lib.hid (B0.out.after ZC.out)
  replace Z := Lib.hid (Z.out.trans (ZC.out.mono Z.out.size))
  clear HK hHeld0
  obtain ⟨a0, a1, a2, a3, a4, a5, a6⟩ := BF.out.cells
  have la := BF.out.lt
  obtain ⟨gx, x0, x1, x2, x3⟩ := BX.out
  simp only at a0 a1 a2 a3 a4 a5 a6
  have fz := BF.out.free
  have hlow : w.heap.size + 1 < w2.heap.size := by have := ZA.out; omega
  have hlow2 : w.heap.size + 1 + 1 < w2.heap.size := ZA.out
  have H3 : Hid (Rn w2.heap.size (w3.setCell ⟨w.heap.size + 1, 1, none⟩ (.int .i64 1)) A2 T2) := Lib.hid (H2.out.set (p := ⟨w.heap.size + 1, 1, none⟩) hlow _)
  have BQ : Hid (Bf (w3.setCell ⟨w.heap.size + 1, 1, none⟩ (.int .i64 1)) (w.heap.size + 1) ⟨5, 1, q, v, x, y, 0⟩) := Lib.hid (BF.out.setPc _)
  have B0Q : Hid (Bf (w3.setCell ⟨w.heap.size + 1, 1, none⟩ (.int .i64 1)) (w.heap.size + 1 + 1) f0) := Lib.hid (B0.out.other (by simp) _)
  have BXQ : Hid (Bx (w3.setCell ⟨w.heap.size + 1, 1, none⟩ (.int .i64 1)) w.heap.size W D J S) := Lib.hid (BX.out.other (by simp) _)
  have ZQ : Hid (Below w.heap.size w (w3.setCell ⟨w.heap.size + 1, 1, none⟩ (.int .i64 1))) := Lib.hid (Z.out.setCell (p := ⟨w.heap.size + 1, 1, none⟩) (by simp) _)
  go_upto_region 20 with fail
  change Code.wp _ _ _ _ (w3.setCell ⟨w.heap.size + 1, 1, none⟩ (.int .i64 1))
  generalize w3.setCell ⟨w.heap.size + 1, 1, none⟩ (.int .i64 1) = w4 at BQ B0Q BXQ ZQ H3 ⊢
  clear a0 a1 a2 a3 a4 a5 a6 la gx x0 x1 x2 x3 fz
  clear BF B0 BX Z
  have BF := BQ
  have B0 := B0Q
  have BX := BXQ
  have Z := ZQ
  clear BQ B0Q BXQ ZQ
  obtain ⟨a0, a1, a2, a3, a4, a5, a6⟩ := BF.out.cells
  have la := BF.out.lt
  obtain ⟨gx, x0, x1, x2, x3⟩ := BX.out
  simp only at a0 a1 a2 a3 a4 a5 a6
  obtain ⟨d0, d1, d2, d3, d4, d5, d6⟩ := B0.out.cells
  have ld := B0.out.lt
  have fz := B0.out.free
  go_region
  all_goals
    go_wp2
    change bodyPost _ _ _ _ _ (pf w4 (w.heap.size + 1 + 1) ⟨5, 1, q, v, x, y, 0⟩).drew
    refine bodyPost_ret (results_fr Try.results11 _ rfl ((B0.out.pf _).drew)) rfl ?_
    exact ⟨A2, c2, rfl, ((H3.out.pf hlow2 _).drew).rd, (below_pf Z.out hl2 _).drew⟩
set_option maxHeartbeats 2000000 in
theorem rwt_3z (W D J S : Int) (A : Option Addr) (n c : Nat) (l : List Int) (q v x y : Int) (w : World) (h : Rd w A l) (hn : l.length = n) (hs : n ≤ 500) (hg : goes W D J S l ⟨5, 3, q, v, x, y, 0⟩ 5 5 = true) (Y : Int) (hY : at0 l (ow W D J S q 2) = Y) (hb : (Y != 0) = false) :
    Calls Try.prog 11 #[cf W D J S, .slice A n c, fv ⟨5, 3, q, v, x, y, 0⟩] w (RetT w n l ⟨5, 3, q, v, x, Y, 0⟩) := by
  have HY := Lib.hid hY
  clear hY
  obtain ⟨BX0, BF0, B00, Z0, hz⟩ := boxes3 w W D J S ⟨5, 3, q, v, x, y, 0⟩
  have H := Lib.hid h; clear h
  have HN := Lib.hid hn; clear hn
  have HS := Lib.hid hs; clear hs
  have HG := Lib.hid hg; clear hg
  go_enter Try.func11, Try.ntmps11
  go_wp2_with fail
  change Calls _ _ _ (bx3 w W D J S ⟨5, 3, q, v, x, y, 0⟩) _
  generalize bx3 w W D J S ⟨5, 3, q, v, x, y, 0⟩ = w0 at BX0 BF0 B00 Z0 hz ⊢
  refine (Tells.of (rgoes_any W D J S 5 5 A n c l ⟨5, 3, q, v, x, y, 0⟩ _ HN.out) (v' := .bool true) (by rw [HG.out])).mono ?_
  rintro _ w1 ⟨rfl, z⟩
  have BX := Lib.hid (BX0.below z)
  have BF := Lib.hid (BF0.after z)
  have B0 := Lib.hid (B00.after z)
  have hh2 : w.heap.size + 1 + 1 < w1.heap.size := by have := z.size; omega
  have Z := Lib.hid (Z0.trans (z.mono (by omega)))
  clear z BX0 BF0 B00 Z0 hz
  have hl2 : w.heap.size ≤ w.heap.size + 1 + 1 := by omega
  obtain ⟨a0, a1, a2, a3, a4, a5, a6⟩ := BF.out.cells
  have la := BF.out.lt
  obtain ⟨gx, x0, x1, x2, x3⟩ := BX.out
  simp only at a0 a1 a2 a3 a4 a5 a6
  go_wp2_with fail
  refine (rpark_any W D J S q _).mono ?_
  rintro _ w2 ⟨rfl, z⟩
  clear a0 a1 a2 a3 a4 a5 a6 la gx x0 x1 x2 x3
  replace BX := Lib.hid (BX.out.below z)
  replace BF := Lib.hid (BF.out.after z)
  replace B0 := Lib.hid (B0.out.after z)
  replace Z := Lib.hid (Z.out.trans (z.mono Z.out.size))
  clear z
  obtain ⟨a0, a1, a2, a3, a4, a5, a6⟩ := BF.out.cells
  have la := BF.out.lt
  obtain ⟨gx, x0, x1, x2, x3⟩ := BX.out
  simp only at a0 a1 a2 a3 a4 a5 a6
  go_wp2_with fail
  refine (ret_of (rload_any A n c l _ _ (H.out.below Z.out) HN.out) (v' := .int .u64 Y) (by rw [HY.out])).mono ?_
  rintro _ w3 ⟨rfl, z⟩
  clear a0 a1 a2 a3 a4 a5 a6 la gx x0 x1 x2 x3
  replace BX := Lib.hid (BX.out.below z)
  replace BF := Lib.hid (BF.out.after z)
  replace B0 := Lib.hid (B0.out.after z)
  replace Z := Lib.hid (Z.out.trans (z.mono Z.out.size))
  clear z
  obtain ⟨a0, a1, a2, a3, a4, a5, a6⟩ := BF.out.cells
  have la := BF.out.lt
  obtain ⟨gx, x0, x1, x2, x3⟩ := BX.out
  simp only at a0 a1 a2 a3 a4 a5 a6
  have fz := BF.out.free
  have BQ : Hid (Bf (w3.setCell ⟨w.heap.size + 1, 5, none⟩ (.int .u64 Y)) (w.heap.size + 1) ⟨5, 3, q, v, x, Y, 0⟩) := Lib.hid (BF.out.setY _)
  have B0Q : Hid (Bf (w3.setCell ⟨w.heap.size + 1, 5, none⟩ (.int .u64 Y)) (w.heap.size + 1 + 1) f0) := Lib.hid (B0.out.other (by simp) _)
  have BXQ : Hid (Bx (w3.setCell ⟨w.heap.size + 1, 5, none⟩ (.int .u64 Y)) w.heap.size W D J S) := Lib.hid (BX.out.other (by simp) _)
  have ZQ : Hid (Below w.heap.size w (w3.setCell ⟨w.heap.size + 1, 5, none⟩ (.int .u64 Y))) := Lib.hid (Z.out.setCell (p := ⟨w.heap.size + 1, 5, none⟩) (by simp) _)
  go_upto_region 25 with fail
  change Code.wp _ _ _ _ (w3.setCell ⟨w.heap.size + 1, 5, none⟩ (.int .u64 Y))
  generalize w3.setCell ⟨w.heap.size + 1, 5, none⟩ (.int .u64 Y) = w4 at BQ B0Q BXQ ZQ ⊢
  clear a0 a1 a2 a3 a4 a5 a6 la gx x0 x1 x2 x3 fz
  clear BF B0 BX Z
  have BF := BQ
  have B0 := B0Q
  have BX := BXQ
  have Z := ZQ
  clear BQ B0Q BXQ ZQ
  obtain ⟨a0, a1, a2, a3, a4, a5, a6⟩ := BF.out.cells
  have la := BF.out.lt
  obtain ⟨gx, x0, x1, x2, x3⟩ := BX.out
  simp only at a0 a1 a2 a3 a4 a5 a6
  obtain ⟨d0, d1, d2, d3, d4, d5, d6⟩ := B0.out.cells
  have ld := B0.out.lt
  have fz := B0.out.free
  go_region
  all_goals
    go_wp2
    change bodyPost _ _ _ _ _ (pf w4 (w.heap.size + 1 + 1) ⟨5, 3, q, v, x, Y, 0⟩).drew
    refine bodyPost_ret (results_fr Try.results11 _ rfl ((B0.out.pf _).drew)) rfl ?_
    exact ⟨A, c, rfl, H.out.below (below_pf Z.out hl2 _).drew, (below_pf Z.out hl2 _).drew⟩
set_option maxHeartbeats 2000000 in
theorem rwt_3n (W D J S : Int) (A : Option Addr) (n c : Nat) (l : List Int) (q v x y : Int) (w : World) (h : Rd w A l) (hn : l.length = n) (hs : n ≤ 500) (hg : goes W D J S l ⟨5, 3, q, v, x, y, 0⟩ 5 5 = true) (Y : Int) (hY : at0 l (ow W D J S q 2) = Y) (hb : (Y != 0) = true) :
    Calls Try.prog 11 #[cf W D J S, .slice A n c, fv ⟨5, 3, q, v, x, y, 0⟩] w (RetT w n l ⟨5, 4, q, v, x, Y, 0⟩) := by
  have HY := Lib.hid hY
  clear hY
  obtain ⟨BX0, BF0, B00, Z0, hz⟩ := boxes3 w W D J S ⟨5, 3, q, v, x, y, 0⟩
  have H := Lib.hid h; clear h
  have HN := Lib.hid hn; clear hn
  have HS := Lib.hid hs; clear hs
  have HG := Lib.hid hg; clear hg
  go_enter Try.func11, Try.ntmps11
  go_wp2_with fail
  change Calls _ _ _ (bx3 w W D J S ⟨5, 3, q, v, x, y, 0⟩) _
  generalize bx3 w W D J S ⟨5, 3, q, v, x, y, 0⟩ = w0 at BX0 BF0 B00 Z0 hz ⊢
  refine (Tells.of (rgoes_any W D J S 5 5 A n c l ⟨5, 3, q, v, x, y, 0⟩ _ HN.out) (v' := .bool true) (by rw [HG.out])).mono ?_
  rintro _ w1 ⟨rfl, z⟩
  have BX := Lib.hid (BX0.below z)
  have BF := Lib.hid (BF0.after z)
  have B0 := Lib.hid (B00.after z)
  have hh2 : w.heap.size + 1 + 1 < w1.heap.size := by have := z.size; omega
  have Z := Lib.hid (Z0.trans (z.mono (by omega)))
  clear z BX0 BF0 B00 Z0 hz
  have hl2 : w.heap.size ≤ w.heap.size + 1 + 1 := by omega
  obtain ⟨a0, a1, a2, a3, a4, a5, a6⟩ := BF.out.cells
  have la := BF.out.lt
  obtain ⟨gx, x0, x1, x2, x3⟩ := BX.out
  simp only at a0 a1 a2 a3 a4 a5 a6
  go_wp2_with fail
  refine (rpark_any W D J S q _).mono ?_
  rintro _ w2 ⟨rfl, z⟩
  clear a0 a1 a2 a3 a4 a5 a6 la gx x0 x1 x2 x3
  replace BX := Lib.hid (BX.out.below z)
  replace BF := Lib.hid (BF.out.after z)
  replace B0 := Lib.hid (B0.out.after z)
  replace Z := Lib.hid (Z.out.trans (z.mono Z.out.size))
  clear z
  obtain ⟨a0, a1, a2, a3, a4, a5, a6⟩ := BF.out.cells
  have la := BF.out.lt
  obtain ⟨gx, x0, x1, x2, x3⟩ := BX.out
  simp only at a0 a1 a2 a3 a4 a5 a6
  go_wp2_with fail
  refine (ret_of (rload_any A n c l _ _ (H.out.below Z.out) HN.out) (v' := .int .u64 Y) (by rw [HY.out])).mono ?_
  rintro _ w3 ⟨rfl, z⟩
  clear a0 a1 a2 a3 a4 a5 a6 la gx x0 x1 x2 x3
  replace BX := Lib.hid (BX.out.below z)
  replace BF := Lib.hid (BF.out.after z)
  replace B0 := Lib.hid (B0.out.after z)
  replace Z := Lib.hid (Z.out.trans (z.mono Z.out.size))
  clear z
  obtain ⟨a0, a1, a2, a3, a4, a5, a6⟩ := BF.out.cells
  have la := BF.out.lt
  obtain ⟨gx, x0, x1, x2, x3⟩ := BX.out
  simp only at a0 a1 a2 a3 a4 a5 a6
  have fz := BF.out.free
  have BQ : Hid (Bf ((w3.setCell ⟨w.heap.size + 1, 5, none⟩ (.int .u64 Y)).setCell ⟨w.heap.size + 1, 1, none⟩ (.int .i64 4)) (w.heap.size + 1) ⟨5, 4, q, v, x, Y, 0⟩) := Lib.hid ((BF.out.setY _).setPc _)
  have B0Q : Hid (Bf ((w3.setCell ⟨w.heap.size + 1, 5, none⟩ (.int .u64 Y)).setCell ⟨w.heap.size + 1, 1, none⟩ (.int .i64 4)) (w.heap.size + 1 + 1) f0) := Lib.hid ((B0.out.other (by simp) _).other (by simp) _)
  have BXQ : Hid (Bx ((w3.setCell ⟨w.heap.size + 1, 5, none⟩ (.int .u64 Y)).setCell ⟨w.heap.size + 1, 1, none⟩ (.int .i64 4)) w.heap.size W D J S) := Lib.hid ((BX.out.other (by simp) _).other (by simp) _)
  have ZQ : Hid (Below w.heap.size w ((w3.setCell ⟨w.heap.size + 1, 5, none⟩ (.int .u64 Y)).setCell ⟨w.heap.size + 1, 1, none⟩ (.int .i64 4))) := Lib.hid ((Z.out.setCell (p := ⟨w.heap.size + 1, 5, none⟩) (by simp) _).setCell (p := ⟨w.heap.size + 1, 1, none⟩) (by simp) _)
  go_upto_region 25 with fail
  change Code.wp _ _ _ _ ((w3.setCell ⟨w.heap.size + 1, 5, none⟩ (.int .u64 Y)).setCell ⟨w.heap.size + 1, 1, none⟩ (.int .i64 4))
  generalize (w3.setCell ⟨w.heap.size + 1, 5, none⟩ (.int .u64 Y)).setCell ⟨w.heap.size + 1, 1, none⟩ (.int .i64 4) = w4 at BQ B0Q BXQ ZQ ⊢
  clear a0 a1 a2 a3 a4 a5 a6 la gx x0 x1 x2 x3 fz
  clear BF B0 BX Z
  have BF := BQ
  have B0 := B0Q
  have BX := BXQ
  have Z := ZQ
  clear BQ B0Q BXQ ZQ
  obtain ⟨a0, a1, a2, a3, a4, a5, a6⟩ := BF.out.cells
  have la := BF.out.lt
  obtain ⟨gx, x0, x1, x2, x3⟩ := BX.out
  simp only at a0 a1 a2 a3 a4 a5 a6
  obtain ⟨d0, d1, d2, d3, d4, d5, d6⟩ := B0.out.cells
  have ld := B0.out.lt
  have fz := B0.out.free
  go_region
  all_goals
    go_wp2
    change bodyPost _ _ _ _ _ (pf w4 (w.heap.size + 1 + 1) ⟨5, 4, q, v, x, Y, 0⟩).drew
    refine bodyPost_ret (results_fr Try.results11 _ rfl ((B0.out.pf _).drew)) rfl ?_
    exact ⟨A, c, rfl, H.out.below (below_pf Z.out hl2 _).drew, (below_pf Z.out hl2 _).drew⟩
set_option maxHeartbeats 2000000 in
theorem rwt_4 (W D J S : Int) (A : Option Addr) (n c : Nat) (l : List Int) (q v x y : Int) (w : World) (h : Rd w A l) (hn : l.length = n) (hs : n ≤ 500) (hg : goes W D J S l ⟨5, 4, q, v, x, y, 0⟩ 5 5 = true) :
    Calls Try.prog 11 #[cf W D J S, .slice A n c, fv ⟨5, 4, q, v, x, y, 0⟩] w (RetT w n (put l (ow W D J S q 2) 0) ⟨5, 0, q, 0, 0, 0, 1⟩) := by
  obtain ⟨BX0, BF0, B00, Z0, hz⟩ := boxes3 w W D J S ⟨5, 4, q, v, x, y, 0⟩
  have H := Lib.hid h; clear h
  have HN := Lib.hid hn; clear hn
  have HS := Lib.hid hs; clear hs
  have HG := Lib.hid hg; clear hg
  go_enter Try.func11, Try.ntmps11
  go_wp2_with fail
  change Calls _ _ _ (bx3 w W D J S ⟨5, 4, q, v, x, y, 0⟩) _
  generalize bx3 w W D J S ⟨5, 4, q, v, x, y, 0⟩ = w0 at BX0 BF0 B00 Z0 hz ⊢
  refine (Tells.of (rgoes_any W D J S 5 5 A n c l ⟨5, 4, q, v, x, y, 0⟩ _ HN.out) (v' := .bool true) (by rw [HG.out])).mono ?_
  rintro _ w1 ⟨rfl, z⟩
  have BX := Lib.hid (BX0.below z)
  have BF := Lib.hid (BF0.after z)
  have B0 := Lib.hid (B00.after z)
  have hh2 : w.heap.size + 1 + 1 < w1.heap.size := by have := z.size; omega
  have Z := Lib.hid (Z0.trans (z.mono (by omega)))
  clear z BX0 BF0 B00 Z0 hz
  have hl2 : w.heap.size ≤ w.heap.size + 1 + 1 := by omega
  obtain ⟨a0, a1, a2, a3, a4, a5, a6⟩ := BF.out.cells
  have la := BF.out.lt
  obtain ⟨gx, x0, x1, x2, x3⟩ := BX.out
  simp only at a0 a1 a2 a3 a4 a5 a6
  have fz := BF.out.free
  have hq2 := hh2
  go_upto_region 26 with fail
  clear a0 a1 a2 a3 a4 a5 a6 la gx x0 x1 x2 x3 fz
  have HK := Lib.hid (show ∀ x', Below (w.heap.size + 1 + 1) w1 x' → (fun w' => w'.cell? ⟨w.heap.size, 0, none⟩ = some (.int .i64 W) ∧ w'.cell? ⟨w.heap.size, 1, none⟩ = some (.int .i64 D) ∧ w'.cell? ⟨w.heap.size, 2, none⟩ = some (.int .i64 J) ∧ w'.cell? ⟨w.heap.size, 3, none⟩ = some (.int .i64 S) ∧ w'.cell? ⟨w.heap.size + 1, 0, none⟩ = some (.int .i64 5) ∧ w'.cell? ⟨w.heap.size + 1, 1, none⟩ = some (.int .i64 4) ∧ w'.cell? ⟨w.heap.size + 1, 2, none⟩ = some (.int .i64 q) ∧ w'.cell? ⟨w.heap.size + 1, 3, none⟩ = some (.int .u64 v) ∧ w'.cell? ⟨w.heap.size + 1, 4, none⟩ = some (.int .u64 x) ∧ w'.cell? ⟨w.heap.size + 1, 5, none⟩ = some (.int .u64 y) ∧ w'.cell? ⟨w.heap.size + 1, 6, none⟩ = some (.int .i64 0) ∧ Below (w.heap.size + 1 + 1) w1 w') x' from fun x' hx => by
    have e := hx.block w.heap.size (by omega)
    obtain ⟨_, e0, e1, e2, e3⟩ := BX.out
    obtain ⟨f0, f1, f2, f3, f4, f5, f6⟩ := (BF.out.below hx (by omega)).cells
    exact ⟨(World.cell?_of_block e).trans e0, (World.cell?_of_block e).trans e1, (World.cell?_of_block e).trans e2, (World.cell?_of_block e).trans e3, f0, f1, f2, f3, f4, f5, f6, hx⟩)
  have HZ := Lib.hid (show ∀ x', (fun w' => w'.cell? ⟨w.heap.size, 0, none⟩ = some (.int .i64 W) ∧ w'.cell? ⟨w.heap.size, 1, none⟩ = some (.int .i64 D) ∧ w'.cell? ⟨w.heap.size, 2, none⟩ = some (.int .i64 J) ∧ w'.cell? ⟨w.heap.size, 3, none⟩ = some (.int .i64 S) ∧ w'.cell? ⟨w.heap.size + 1, 0, none⟩ = some (.int .i64 5) ∧ w'.cell? ⟨w.heap.size + 1, 1, none⟩ = some (.int .i64 4) ∧ w'.cell? ⟨w.heap.size + 1, 2, none⟩ = some (.int .i64 q) ∧ w'.cell? ⟨w.heap.size + 1, 3, none⟩ = some (.int .u64 v) ∧ w'.cell? ⟨w.heap.size + 1, 4, none⟩ = some (.int .u64 x) ∧ w'.cell? ⟨w.heap.size + 1, 5, none⟩ = some (.int .u64 y) ∧ w'.cell? ⟨w.heap.size + 1, 6, none⟩ = some (.int .i64 0) ∧ Below (w.heap.size + 1 + 1) w1 w') x' → Below w.heap.size w x' from fun x' hx => Z.out.trans (hx.2.2.2.2.2.2.2.2.2.2.2.mono (by omega)))
  have HR := Lib.hid (show ∀ x', (fun w' => w'.cell? ⟨w.heap.size, 0, none⟩ = some (.int .i64 W) ∧ w'.cell? ⟨w.heap.size, 1, none⟩ = some (.int .i64 D) ∧ w'.cell? ⟨w.heap.size, 2, none⟩ = some (.int .i64 J) ∧ w'.cell? ⟨w.heap.size, 3, none⟩ = some (.int .i64 S) ∧ w'.cell? ⟨w.heap.size + 1, 0, none⟩ = some (.int .i64 5) ∧ w'.cell? ⟨w.heap.size + 1, 1, none⟩ = some (.int .i64 4) ∧ w'.cell? ⟨w.heap.size + 1, 2, none⟩ = some (.int .i64 q) ∧ w'.cell? ⟨w.heap.size + 1, 3, none⟩ = some (.int .u64 v) ∧ w'.cell? ⟨w.heap.size + 1, 4, none⟩ = some (.int .u64 x) ∧ w'.cell? ⟨w.heap.size + 1, 5, none⟩ = some (.int .u64 y) ∧ w'.cell? ⟨w.heap.size + 1, 6, none⟩ = some (.int .i64 0) ∧ Below (w.heap.size + 1 + 1) w1 w') x' → Rd x' A l from fun x' hx => H.out.below (Z.out.trans (hx.2.2.2.2.2.2.2.2.2.2.2.mono (by omega))))
  have hn0 : w.heap.size + 1 + 1 ≤ w1.heap.size := by omega
  have hHeld0 := HK.out _ (Below.refl _ _)
  have zq := Lib.hid (Below.refl w1.heap.size w1)
  obtain ⟨d0, d1, d2, d3, d4, d5, d6⟩ := B0.out.cells
  have ld := B0.out.lt
  have fz := B0.out.free
  go_region_held3 (fun w' => w'.cell? ⟨w.heap.size, 0, none⟩ = some (.int .i64 W) ∧ w'.cell? ⟨w.heap.size, 1, none⟩ = some (.int .i64 D) ∧ w'.cell? ⟨w.heap.size, 2, none⟩ = some (.int .i64 J) ∧ w'.cell? ⟨w.heap.size, 3, none⟩ = some (.int .i64 S) ∧ w'.cell? ⟨w.heap.size + 1, 0, none⟩ = some (.int .i64 5) ∧ w'.cell? ⟨w.heap.size + 1, 1, none⟩ = some (.int .i64 4) ∧ w'.cell? ⟨w.heap.size + 1, 2, none⟩ = some (.int .i64 q) ∧ w'.cell? ⟨w.heap.size + 1, 3, none⟩ = some (.int .u64 v) ∧ w'.cell? ⟨w.heap.size + 1, 4, none⟩ = some (.int .u64 x) ∧ w'.cell? ⟨w.heap.size + 1, 5, none⟩ = some (.int .u64 y) ∧ w'.cell? ⟨w.heap.size + 1, 6, none⟩ = some (.int .i64 0) ∧ Below (w.heap.size + 1 + 1) w1 w')
    (first | with_reducible exact hd_drew HK.out (fun _ h => h.2.2.2.2.2.2.2.2.2.2.2) (by assumption) | with_reducible exact hd_call HK.out (fun _ h => h.2.2.2.2.2.2.2.2.2.2.2) (by assumption) (by assumption) hn0 | with_reducible exact hd_set7 HK.out (fun _ h => h.2.2.2.2.2.2.2.2.2.2.2) _ _ _ _ _ _ _ (by assumption))
    (first
    | (go_at_call 34; (refine (rpark_any W D J S q _).mono ?_); rintro _ w5 ⟨rfl, hb5⟩; have z5 : Hid (Below w1.heap.size w1 w5) := Lib.hid (by first | exact keep_call hb5 z7.out | exact keep_call hb5 z6.out | exact keep_call hb5 z5.out | exact keep_call hb5 zq.out.drew); have e := B0.out.after z5.out; obtain ⟨d0, d1, d2, d3, d4, d5, d6⟩ := e.cells; have fz := e.free; have ld := e.lt)
    | (go_at_call 35; (refine (rstore_new A n c l _ 0 _ (HR.out _ (by assumption)) HN.out HS.out).mono ?_); rintro _ w6 ⟨A6, c6, rfl, hr6, hb6⟩; have z6 : Hid (Below w1.heap.size w1 w6) := Lib.hid (by first | exact keep_call hb6 z7.out | exact keep_call hb6 z6.out | exact keep_call hb6 z5.out | exact keep_call hb6 zq.out.drew); have e := B0.out.after z6.out; obtain ⟨d0, d1, d2, d3, d4, d5, d6⟩ := e.cells; have fz := e.free; have ld := e.lt)
    | (go_at_call 31; (refine (rend_any ⟨5, 4, q, v, x, y, 0⟩ 1 0 _).mono ?_); rintro _ w7 ⟨rfl, hb7⟩; have z7 : Hid (Below w1.heap.size w1 w7) := Lib.hid (by first | exact keep_call hb7 z7.out | exact keep_call hb7 z6.out | exact keep_call hb7 z5.out | exact keep_call hb7 zq.out.drew); have e := B0.out.after z7.out; obtain ⟨d0, d1, d2, d3, d4, d5, d6⟩ := e.cells; have fz := e.free; have ld := e.lt))
  all_goals
    go_wp2
    first
    | (change bodyPost _ _ _ _ _ (pf w7 (w.heap.size + 1 + 1) ⟨5, 0, q, 0, 0, 0, 1⟩); refine bodyPost_ret (results_fr Try.results11 _ rfl ((B0.out.after z7.out).pf _)) rfl ?_; exact ⟨A6, c6, rfl, ((hr6.below hb7).pf (Nat.lt_of_lt_of_le hq2 z5.out.size) _).rd, HZ.out _ (by assumption)⟩)
    | (change bodyPost _ _ _ _ _ (pf w6 (w.heap.size + 1 + 1) ⟨5, 0, q, 0, 0, 0, 1⟩); refine bodyPost_ret (results_fr Try.results11 _ rfl ((B0.out.after z6.out).pf _)) rfl ?_; exact ⟨A6, c6, rfl, (hr6.pf (by first | exact Nat.lt_of_lt_of_le hq2 z7.out.size | exact Nat.lt_of_lt_of_le hq2 z5.out.size) _).rd, HZ.out _ (by assumption)⟩)
theorem rwt_any (W D J S : Int) (A : Option Addr) (n c : Nat) (l : List Int) (f : Fr) (w : World) (h : Rd w A l) (hn : l.length = n) (hs : n ≤ 500) (hf : UF f) (hu : UM l) :
    Calls Try.prog 11 #[cf W D J S, .slice A n c, fv f] w (RetT w n (waitS W D J S l f).1 (waitS W D J S l f).2) := by
  cases hg : goes W D J S l f 5 5
  · rw [waitS_stay hg]
    obtain ⟨o, p, q, v, x, y, s⟩ := f
    exact rwt_leave W D J S A n c l o p q v x y s w h hn hs hg
  · obtain ⟨hk, hr, ho, h0, h4⟩ := goes_iff.1 hg
    have hlong := okw_long hk
    have hp : f.pc = 0 ∨ f.pc = 1 ∨ f.pc = 2 ∨ f.pc = 3 ∨ f.pc = 4 := by omega
    obtain ⟨o, p, q, v, x, y, s⟩ := f
    simp only at hr ho h0 h4 hp hf hk
    subst hr ho
    rcases hp with rfl | rfl | rfl | rfl | rfl
    · rw [waitS_0 hk]
      exact rwt_0 W D J S A n c l q v x y w h hn hs hg
    · rw [waitS_1 hk]
      split
      · rename_i e
        exact rwt_1y W D J S A n c l q v x y w h hn hs hg _ rfl (by simpa using e) hf.2.1 (at0_U hu 2)
      · rename_i e
        exact rwt_1n W D J S A n c l q v x y w h hn hs hg _ rfl (by simpa using e) hf.2.1 (at0_U hu 2)
    · rw [waitS_2 hk]
      have e5 : isAt l 2 y = decide (at0 l 2 = y) := isAt_at0 (by omega) (by omega)
      split
      · rename_i e
        exact rwt_2t W D J S A n c l q v x y w h hn hs hg hf.2.2 _ (by rw [e5]; simpa using e) (by rw [e5, if_pos (by simpa using e)])
      · rename_i e
        exact rwt_2f W D J S A n c l q v x y w h hn hs hg hf.2.2 _ (by rw [e5]; simpa using e) (by rw [e5, if_neg (by simpa using e)])
    · rw [waitS_3 hk]
      split
      · rename_i e
        exact rwt_3z W D J S A n c l q v x y w h hn hs hg 0 (by rw [pkI_ow hk]; exact e) rfl
      · rename_i e
        exact rwt_3n W D J S A n c l q v x y w h hn hs hg _ (by rw [pkI_ow hk]) (by simpa using e)
    · rw [waitS_4 hk, ← pkI_ow hk]
      exact rwt_4 W D J S A n c l q v x y w h hn hs hg
theorem rwt_n {W D J S : Int} {A : Option Addr} {n c : Nat} {l : List Int} {f : Fr} {w : World} (h : Rd w A l) (hn : l.length = n) (hs : n ≤ 500) (hf : UF f) (hu : UM l) {l' : List Int} {f' : Fr} (e : waitS W D J S l f = (l', f')) :
    Calls Try.prog 11 #[cf W D J S, .slice A n c, fv f] w (RetT w n l' f') := by
  have h2 := rwt_any W D J S A n c l f w h hn hs hf hu
  rw [e] at h2
  exact h2
theorem rprk_op (o p q v x y s : Int) (w : World) (ho : (o == 5) = false) : Tells 13 #[fv ⟨o, p, q, v, x, y, s⟩] w (.bool false) := by
  go_enter Try.func13, Try.ntmps13
  go_wp2
  go_ret
  exact ⟨rfl, box_below _ _⟩
theorem rprk_over (o p q v x y s : Int) (w : World) (ho : (o == 5) = true) (hs : (s == 0) = false) : Tells 13 #[fv ⟨o, p, q, v, x, y, s⟩] w (.bool false) := by
  go_enter Try.func13, Try.ntmps13
  go_wp2
  go_ret
  exact ⟨rfl, box_below _ _⟩
theorem rprk_pc (o p q v x y s : Int) (w : World) (ho : (o == 5) = true) (hs : (s == 0) = true) : Tells 13 #[fv ⟨o, p, q, v, x, y, s⟩] w (.bool (p == 3)) := by
  go_enter Try.func13, Try.ntmps13
  go_wp2
  go_ret
  exact ⟨rfl, box_below _ _⟩
theorem rprk_any (f : Fr) (w : World) : Tells 13 #[fv f] w (.bool (prk f)) := by
  obtain ⟨o, p, q, v, x, y, s⟩ := f
  have e : prk ⟨o, p, q, v, x, y, s⟩ = ((o == 5) && (s == 0) && (p == 3)) := by unfold prk; exact Bool.eq_iff_iff.2 (by simp)
  rw [e]
  cases h1 : (o == 5)
  · exact rprk_op o p q v x y s w h1
  · cases h2 : (s == 0)
    · exact rprk_over o p q v x y s w h1 h2
    · simpa using rprk_pc o p q v x y s w h1 h2
theorem rwts_0 (W D J S x : Int) (A : Option Addr) (n c : Nat) (m : List Int) (w : World) (h : Rd w A m) (hn : m.length = n) (hu : UM m) (h0 : may W D J S = false) : Tells 14 #[cf W D J S, .slice A n c, .int .i64 x] w (.bool false) := by
  have BX0 := Bx.mk w W D J S 23
  have H := Lib.hid h
  have HN := Lib.hid hn
  have HM := Lib.hid h0
  have HU := Lib.hid hu
  clear h hn h0 hu
  go_enter Try.func14, Try.ntmps14
  go_wp2_with fail
  refine (Tells.of (rmay_any W D J S _) (v' := .bool false) (by rw [HM.out])).mono ?_
  rintro _ w1 ⟨rfl, z⟩
  have BX := Lib.hid (BX0.below z)
  have Z := Lib.hid ((box_below w _).trans (z.mono (by simp)))
  clear z BX0
  obtain ⟨gx, x0, x1, x2, x3⟩ := BX.out
  go_wp2
  go_ret
  exact ⟨rfl, Z.out⟩
theorem rwts_1 (W D J S x : Int) (A : Option Addr) (n c : Nat) (m : List Int) (w : World) (h : Rd w A m) (hn : m.length = n) (hu : UM m) (h0 : may W D J S = true) (h1 : ((n : Int) != sz W D J S) = true) : Tells 14 #[cf W D J S, .slice A n c, .int .i64 x] w (.bool false) := by
  have BX0 := Bx.mk w W D J S 23
  have H := Lib.hid h
  have HN := Lib.hid hn
  have HM := Lib.hid h0
  have HU := Lib.hid hu
  clear h hn h0 hu
  go_enter Try.func14, Try.ntmps14
  go_wp2_with fail
  refine (Tells.of (rmay_any W D J S _) (v' := .bool true) (by rw [HM.out])).mono ?_
  rintro _ w1 ⟨rfl, z⟩
  have BX := Lib.hid (BX0.below z)
  have Z := Lib.hid ((box_below w _).trans (z.mono (by simp)))
  clear z BX0
  obtain ⟨gx, x0, x1, x2, x3⟩ := BX.out
  go_wp2_with fail
  refine (rsize_any W D J S _).mono ?_
  rintro _ w2 ⟨rfl, z⟩
  clear gx x0 x1 x2 x3
  replace BX := Lib.hid (BX.out.below z)
  replace Z := Lib.hid (Z.out.trans (z.mono Z.out.size))
  clear z
  obtain ⟨gx, x0, x1, x2, x3⟩ := BX.out
  go_wp2
  go_ret
  exact ⟨rfl, Z.out⟩
theorem rwts_2 (W D J S x : Int) (A : Option Addr) (n c : Nat) (m : List Int) (w : World) (h : Rd w A m) (hn : m.length = n) (hu : UM m) (h0 : may W D J S = true) (h1 : ((n : Int) != sz W D J S) = false) (h2 : x < 0) : Tells 14 #[cf W D J S, .slice A n c, .int .i64 x] w (.bool false) := by
  have BX0 := Bx.mk w W D J S 23
  have H := Lib.hid h
  have HN := Lib.hid hn
  have HM := Lib.hid h0
  have HU := Lib.hid hu
  clear h hn h0 hu
  go_enter Try.func14, Try.ntmps14
  go_wp2_with fail
  refine (Tells.of (rmay_any W D J S _) (v' := .bool true) (by rw [HM.out])).mono ?_
  rintro _ w1 ⟨rfl, z⟩
  have BX := Lib.hid (BX0.below z)
  have Z := Lib.hid ((box_below w _).trans (z.mono (by simp)))
  clear z BX0
  obtain ⟨gx, x0, x1, x2, x3⟩ := BX.out
  go_wp2_with fail
  refine (rsize_any W D J S _).mono ?_
  rintro _ w2 ⟨rfl, z⟩
  clear gx x0 x1 x2 x3
  replace BX := Lib.hid (BX.out.below z)
  replace Z := Lib.hid (Z.out.trans (z.mono Z.out.size))
  clear z
  obtain ⟨gx, x0, x1, x2, x3⟩ := BX.out
  go_wp2
  go_ret
  exact ⟨rfl, Z.out⟩
theorem rwts_3 (W D J S x : Int) (A : Option Addr) (n c : Nat) (m : List Int) (w : World) (h : Rd w A m) (hn : m.length = n) (hu : UM m) (h0 : may W D J S = true) (h1 : ((n : Int) != sz W D J S) = false) (h2 : 0 ≤ x) (h3 : W ≤ x) : Tells 14 #[cf W D J S, .slice A n c, .int .i64 x] w (.bool false) := by
  have BX0 := Bx.mk w W D J S 23
  have H := Lib.hid h
  have HN := Lib.hid hn
  have HM := Lib.hid h0
  have HU := Lib.hid hu
  clear h hn h0 hu
  go_enter Try.func14, Try.ntmps14
  go_wp2_with fail
  refine (Tells.of (rmay_any W D J S _) (v' := .bool true) (by rw [HM.out])).mono ?_
  rintro _ w1 ⟨rfl, z⟩
  have BX := Lib.hid (BX0.below z)
  have Z := Lib.hid ((box_below w _).trans (z.mono (by simp)))
  clear z BX0
  obtain ⟨gx, x0, x1, x2, x3⟩ := BX.out
  go_wp2_with fail
  refine (rsize_any W D J S _).mono ?_
  rintro _ w2 ⟨rfl, z⟩
  clear gx x0 x1 x2 x3
  replace BX := Lib.hid (BX.out.below z)
  replace Z := Lib.hid (Z.out.trans (z.mono Z.out.size))
  clear z
  obtain ⟨gx, x0, x1, x2, x3⟩ := BX.out
  go_wp2
  go_ret
  exact ⟨rfl, Z.out⟩
theorem rwts_5 (W D J S : Int) (x : Nat) (A : Option Addr) (n c : Nat) (m : List Int) (w : World) (h : Rd w A m) (hn : m.length = n) (hu : UM m) (h0 : may W D J S = true) (h1 : ((n : Int) != sz W D J S) = false) (h3 : (x : Int) < W) (hx : x < 16) (hl : 10 < n) : Tells 14 #[cf W D J S, .slice A n c, .int .i64 (x : Int)] w (.bool (decide (at0 m 2 % 65536 / 2 ^ x % 2 = 1))) := by
  have BX0 := Bx.mk w W D J S 23
  have H := Lib.hid h
  have HN := Lib.hid hn
  have HM := Lib.hid h0
  have HU := Lib.hid hu
  clear h hn h0 hu
  have HX := Lib.hid hx
  have HL := Lib.hid hl
  clear hl
  go_enter Try.func14, Try.ntmps14
  go_wp2_with fail
  refine (Tells.of (rmay_any W D J S _) (v' := .bool true) (by rw [HM.out])).mono ?_
  rintro _ w1 ⟨rfl, z⟩
  have BX := Lib.hid (BX0.below z)
  have Z := Lib.hid ((box_below w _).trans (z.mono (by simp)))
  clear z BX0
  obtain ⟨gx, x0, x1, x2, x3⟩ := BX.out
  go_wp2_with fail
  refine (rsize_any W D J S _).mono ?_
  rintro _ w2 ⟨rfl, z⟩
  clear gx x0 x1 x2 x3
  replace BX := Lib.hid (BX.out.below z)
  replace Z := Lib.hid (Z.out.trans (z.mono Z.out.size))
  clear z
  obtain ⟨gx, x0, x1, x2, x3⟩ := BX.out
  have h2 : 2 < m.length := by have := HL.out; have := HN.out; omega
  obtain ⟨ad, hA, al, ac⟩ := (H.out.below Z.out) (by omega)
  subst hA
  have k2 := ac 2 _ (List.getElem?_eq_getElem h2)
  have r2 := at0_in (l := m) (i := 2) (by omega) (by omega)
  change at0 m 2 = m[2] at r2
  rw [← r2] at k2
  change w2.cell? ⟨ad.block, ad.off + 2, none⟩ = _ at k2
  have hn2 : (2 : Int) < (n : Int) := by have := HL.out; omega
  clear ac al r2
  go_wp2_with fail
  refine (rmask_any _ _ (at0_U HU.out 2)).mono ?_
  rintro _ _ ⟨rfl, rfl⟩
  go_wp2_with fail
  refine (has_any _ x HX.out _ (mask_u _)).mono ?_
  rintro _ _ ⟨rfl, rfl⟩
  go_wp2
  go_ret
  exact ⟨rfl, Z.out⟩
theorem rwts_any (W D J S x : Int) (A : Option Addr) (n c : Nat) (m : List Int) (w : World) (h : Rd w A m) (hn : m.length = n) (hu : UM m) : Tells 14 #[cf W D J S, .slice A n c, .int .i64 x] w (.bool (wts W D J S m x)) := by
  unfold wts
  cases ho : okw W D J S m x
  · rw [Bool.false_and]
    cases h0 : may W D J S
    · exact rwts_0 W D J S x A n c m w h hn hu h0
    · by_cases h1 : (n : Int) = sz W D J S
      · rcases Int.lt_or_le x 0 with h2 | h2
        · exact rwts_2 W D J S x A n c m w h hn hu h0 (by simpa using h1) h2
        · rcases Int.lt_or_le x W with h3 | h3
          · exfalso
            unfold okw at ho
            rw [h0, hn, h1] at ho
            simp [h2, h3] at ho
          · exact rwts_3 W D J S x A n c m w h hn hu h0 (by simpa using h1) h2 h3
      · exact rwts_1 W D J S x A n c m w h hn hu h0 (by simpa using h1)
  · rw [Bool.true_and]
    have hlong := okw_long ho
    obtain ⟨hx0, hx8⟩ := okw_who ho
    obtain ⟨h0, hl, _, h3⟩ := okw_iff.1 ho
    obtain ⟨k, rfl⟩ := Int.eq_ofNat_of_zero_le hx0
    rw [st_has (at0 m 2) k (by omega)]
    refine rwts_5 W D J S k A n c m w h hn hu h0 ?_ h3 (by omega) (by omega)
    have : (n : Int) = sz W D J S := by unfold sz; rw [h0, ← hn, hl]; rfl
    simpa using this
end Go.Proofs.Ytpnmgpmmaiinmaa
