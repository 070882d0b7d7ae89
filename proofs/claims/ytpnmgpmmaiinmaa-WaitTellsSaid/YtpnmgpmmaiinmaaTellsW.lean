/- The walk of WaitTells. -/
import Derived.Test.YtpnmgpmmaiinmaaWtF
import Derived.Test.YtpnmgpmmaiinmaaWtG
import Derived.Test.YtpnmgpmmaiinmaaPuL
import Derived.Test.YtpnmgpmmaiinmaaFrH2
namespace Go.Proofs.Ytpnmgpmmaiinmaa
open Go.RowKit Go.Deep
attribute [local go_sem ↓] eql_fr guard_fr
theorem tells_big (W D J S : Int) (A : Option Addr) (n c : Nat) (f : Fr) (w : World) (hn : 500 < n) : Tells 3 #[cf W D J S, .slice A n c, fv f] w (.bool true) := by
  obtain ⟨o, p, q, v, x, y, s⟩ := f
  have hd : decide ((500 : Int) < (n : Int)) = true := decide_eq_true (by omega)
  obtain ⟨BX0, BF0, Z0, hz⟩ := boxes2 w W D J S ⟨o, p, q, v, x, y, s⟩
  go_enter Try.func3, Try.ntmps3
  go_wp2_with fail
  change Calls _ _ _ (bxc w W D J S ⟨o, p, q, v, x, y, s⟩) _
  generalize bxc w W D J S ⟨o, p, q, v, x, y, s⟩ = w0 at BX0 BF0 Z0 hz ⊢
  refine (awake_any _).mono ?_
  rintro _ w1 ⟨rfl, z⟩
  have Z := Lib.hid (Z0.trans (z.mono (by omega)))
  have BX := Lib.hid (BX0.below z)
  have BF := Lib.hid (BF0.after z)
  have HZ0 := Lib.hid (show w.heap.size ≤ w0.heap.size by omega)
  clear z Z0 BX0 BF0 hz HZ0
  obtain ⟨gx, x_0, x_1, x_2, x_3⟩ := BX.out
  obtain ⟨a0, a1, a2, a3, a4, a5, a6⟩ := BF.out.cells
  have la := BF.out.lt
  simp only at a0 a1 a2 a3 a4 a5 a6
  go_wp2
  go_ret
  exact ⟨rfl, Z.out⟩
set_option maxHeartbeats 4000000 in
theorem tells_main (W D J S : Int) (A : Option Addr) (n c : Nat) (m : List Int) (f : Fr) (w : World) (hm : Rd w A m) (hn : m.length = n) (hs : n ≤ 500) (hu : UM m) (hf : UF f) : Tells 3 #[cf W D J S, .slice A n c, fv f] w (.bool true) := by
  have hlen2 := (waitS_len W D J S m f).trans hn
  obtain ⟨l', f', hP⟩ : ∃ l' f', waitS W D J S m f = (l', f') := ⟨_, _, rfl⟩
  rw [hP] at hlen2
  simp only at hlen2
  obtain ⟨o, p, q, v, x, y, s⟩ := f
  obtain ⟨PB, hPB⟩ : ∃ b, prk ⟨o, p, q, v, x, y, s⟩ = b := ⟨_, rfl⟩
  obtain ⟨WB, hWB⟩ : ∃ b, wts W D J S m q = b := ⟨_, rfl⟩
  have hd : decide ((500 : Int) < (n : Int)) = false := decide_eq_false (by omega)
  have HP := Lib.hid hP
  have HN := Lib.hid hn
  have HU := Lib.hid hf
  have HUM := Lib.hid hu
  have HS := Lib.hid hs
  have HL2 := Lib.hid hlen2
  have HPB := Lib.hid hPB
  have HWB := Lib.hid hWB
  have LM0 := Lib.hid hm
  clear hP hn hf hu hs hlen2 hPB hWB hm
  obtain ⟨BX0, BF0, Z0, hz⟩ := boxes2 w W D J S ⟨o, p, q, v, x, y, s⟩
  go_enter Try.func3, Try.ntmps3
  go_wp2_with fail
  change Calls _ _ _ (bxc w W D J S ⟨o, p, q, v, x, y, s⟩) _
  generalize bxc w W D J S ⟨o, p, q, v, x, y, s⟩ = w0 at BX0 BF0 Z0 hz ⊢
  refine (awake_any _).mono ?_
  rintro _ w1 ⟨rfl, z⟩
  have Z := Lib.hid (Z0.trans (z.mono (by omega)))
  have BX := Lib.hid (BX0.below z)
  have BF := Lib.hid (BF0.after z)
  have HZ0 := Lib.hid (show w.heap.size ≤ w0.heap.size by omega)
  have LM := Lib.hid (LM0.out.below Z.out)
  clear LM0
  clear z Z0 BX0 BF0 hz HZ0
  obtain ⟨gx, x_0, x_1, x_2, x_3⟩ := BX.out
  obtain ⟨a0, a1, a2, a3, a4, a5, a6⟩ := BF.out.cells
  have la := BF.out.lt
  simp only at a0 a1 a2 a3 a4 a5 a6
  go_wp2_with fail
  refine (wait_n LM.out HN.out HS.out HU.out HP.out).mono ?_
  rintro _ w2 ⟨A2, c2, rfl, hn2, z⟩
  clear gx x_0 x_1 x_2 x_3 a0 a1 a2 a3 a4 a5 a6 la
  replace Z := Lib.hid (Z.out.trans (z.mono Z.out.size))
  replace BX := Lib.hid (BX.out.below z)
  replace BF := Lib.hid (BF.out.after z)
  replace LM := Lib.hid (LM.out.below z)
  have LA := Lib.hid hn2.rd
  clear hn2 z
  obtain ⟨gx, x_0, x_1, x_2, x_3⟩ := BX.out
  obtain ⟨a0, a1, a2, a3, a4, a5, a6⟩ := BF.out.cells
  have la := BF.out.lt
  simp only at a0 a1 a2 a3 a4 a5 a6
  go_wp2_with fail
  refine (rwt_n (LM.out.alloc _) HN.out HS.out HU.out HUM.out HP.out).mono ?_
  rintro _ w3 ⟨A3, c3, rfl, hn3, z⟩
  clear gx x_0 x_1 x_2 x_3 a0 a1 a2 a3 a4 a5 a6 la
  have BG := Lib.hid ((Bf.new w2 f').after z)
  replace z := keep_call z (bel_alloc w2 _)
  replace Z := Lib.hid (Z.out.trans (z.mono Z.out.size))
  replace BX := Lib.hid (BX.out.below z)
  replace BF := Lib.hid (BF.out.after z)
  replace LM := Lib.hid (LM.out.below z)
  replace LA := Lib.hid (LA.out.below z)
  have LB := Lib.hid hn3
  clear hn3 z
  obtain ⟨gx, x_0, x_1, x_2, x_3⟩ := BX.out
  obtain ⟨a0, a1, a2, a3, a4, a5, a6⟩ := BF.out.cells
  have la := BF.out.lt
  simp only at a0 a1 a2 a3 a4 a5 a6
  go_wp2_with fail
  refine (rsame_eq2 (l := l') (LA.out.alloc _) (LB.out.alloc _) HL2.out HS.out).mono ?_
  rintro _ w4 ⟨rfl, z⟩
  clear gx x_0 x_1 x_2 x_3 a0 a1 a2 a3 a4 a5 a6 la
  have BH := Lib.hid ((Bf.new w3 f').after z)
  replace z := keep_call z (bel_alloc w3 _)
  replace Z := Lib.hid (Z.out.trans (z.mono Z.out.size))
  replace BX := Lib.hid (BX.out.below z)
  replace BF := Lib.hid (BF.out.after z)
  replace LM := Lib.hid (LM.out.below z)
  replace LA := Lib.hid (LA.out.below z)
  replace BG := Lib.hid (BG.out.after z)
  replace LB := Lib.hid (LB.out.below z)
  clear z
  obtain ⟨gx, x_0, x_1, x_2, x_3⟩ := BX.out
  obtain ⟨a0, a1, a2, a3, a4, a5, a6⟩ := BF.out.cells
  have la := BF.out.lt
  simp only at a0 a1 a2 a3 a4 a5 a6
  go_wp2_with fail
  refine (Tells.of (rprk_any ⟨o, p, q, v, x, y, s⟩ _) (v' := .bool PB) (by rw [HPB.out])).mono ?_
  rintro _ w5 ⟨rfl, z⟩
  clear gx x_0 x_1 x_2 x_3 a0 a1 a2 a3 a4 a5 a6 la
  replace Z := Lib.hid (Z.out.trans (z.mono Z.out.size))
  replace BX := Lib.hid (BX.out.below z)
  replace BF := Lib.hid (BF.out.after z)
  replace LM := Lib.hid (LM.out.below z)
  replace LA := Lib.hid (LA.out.below z)
  replace BG := Lib.hid (BG.out.after z)
  replace LB := Lib.hid (LB.out.below z)
  replace BH := Lib.hid (BH.out.after z)
  clear z
  obtain ⟨gx, x_0, x_1, x_2, x_3⟩ := BX.out
  obtain ⟨a0, a1, a2, a3, a4, a5, a6⟩ := BF.out.cells
  have la := BF.out.lt
  simp only at a0 a1 a2 a3 a4 a5 a6
  go_wp2_with fail
  refine (Tells.of (rwts_any W D J S q A n c m _ LM.out HN.out HUM.out) (v' := .bool WB) (by rw [HWB.out])).mono ?_
  rintro _ w6 ⟨rfl, z⟩
  clear gx x_0 x_1 x_2 x_3 a0 a1 a2 a3 a4 a5 a6 la
  replace Z := Lib.hid (Z.out.trans (z.mono Z.out.size))
  replace BX := Lib.hid (BX.out.below z)
  replace BF := Lib.hid (BF.out.after z)
  replace LM := Lib.hid (LM.out.below z)
  replace LA := Lib.hid (LA.out.below z)
  replace BG := Lib.hid (BG.out.after z)
  replace LB := Lib.hid (LB.out.below z)
  replace BH := Lib.hid (BH.out.after z)
  clear z
  obtain ⟨gx, x_0, x_1, x_2, x_3⟩ := BX.out
  obtain ⟨a0, a1, a2, a3, a4, a5, a6⟩ := BF.out.cells
  have la := BF.out.lt
  simp only at a0 a1 a2 a3 a4 a5 a6
  obtain ⟨b0, b1, b2, b3, b4, b5, b6⟩ := BG.out.cells
  have lb := BG.out.lt
  obtain ⟨d0, d1, d2, d3, d4, d5, d6⟩ := BH.out.cells
  have ld := BH.out.lt
  go_wp2_with fail
  refine (Tells.of (prk_any ⟨o, p, q, v, x, y, s⟩ _) (v' := .bool PB) (by rw [HPB.out])).mono ?_
  rintro _ w7 ⟨rfl, z⟩
  clear gx x_0 x_1 x_2 x_3 a0 a1 a2 a3 a4 a5 a6 la b0 b1 b2 b3 b4 b5 b6 lb d0 d1 d2 d3 d4 d5 d6 ld
  replace Z := Lib.hid (Z.out.trans (z.mono Z.out.size))
  replace BX := Lib.hid (BX.out.below z)
  replace BF := Lib.hid (BF.out.after z)
  replace LM := Lib.hid (LM.out.below z)
  replace LA := Lib.hid (LA.out.below z)
  replace BG := Lib.hid (BG.out.after z)
  replace LB := Lib.hid (LB.out.below z)
  replace BH := Lib.hid (BH.out.after z)
  clear z
  obtain ⟨gx, x_0, x_1, x_2, x_3⟩ := BX.out
  obtain ⟨a0, a1, a2, a3, a4, a5, a6⟩ := BF.out.cells
  have la := BF.out.lt
  simp only at a0 a1 a2 a3 a4 a5 a6
  have hpp : (PB == PB) = true := by simp
  have hww : (WB == WB) = true := by simp
  go_wp2_with fail
  refine (Tells.of (waits_any W D J S q A n c m _ LM.out HN.out HS.out HUM.out) (v' := .bool WB) (by rw [HWB.out])).mono ?_
  rintro _ w8 ⟨rfl, z⟩
  clear gx x_0 x_1 x_2 x_3 a0 a1 a2 a3 a4 a5 a6 la
  replace Z := Lib.hid (Z.out.trans (z.mono Z.out.size))
  replace BX := Lib.hid (BX.out.below z)
  replace BF := Lib.hid (BF.out.after z)
  replace LM := Lib.hid (LM.out.below z)
  replace LA := Lib.hid (LA.out.below z)
  replace BG := Lib.hid (BG.out.after z)
  replace LB := Lib.hid (LB.out.below z)
  replace BH := Lib.hid (BH.out.after z)
  clear z
  go_wp2
  go_ret
  exact ⟨rfl, Z.out⟩
theorem tells_walk (W D J S : Int) (A : Option Addr) (n c : Nat) (m : List Int) (f : Fr) (w : World) (hm : Rd w A m) (hn : m.length = n) (hu : UM m) (hf : UF f) : Tells 3 #[cf W D J S, .slice A n c, fv f] w (.bool true) := by
  by_cases hs : n ≤ 500
  · exact tells_main W D J S A n c m f w hm hn hs hu hf
  · exact tells_big W D J S A n c f w (by omega)
end Go.Proofs.Ytpnmgpmmaiinmaa
