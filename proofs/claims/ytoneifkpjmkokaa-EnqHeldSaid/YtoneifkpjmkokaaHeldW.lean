/- The walk of EnqHeld. -/
import Derived.Test.YtoneifkpjmkokaaEnF
namespace Go.Proofs.Ytoneifkpjmkokaa
open Go.RowKit Go.Deep
theorem held_big (W D J S : Int) (A : Option Addr) (n c : Nat) (f : Fr) (w : World) (hn : 500 < n) : Tells 8 #[cf W D J S, .slice A n c, fv f] w (.bool true) := by
  obtain ⟨o, p, q, v, x, y, s⟩ := f
  have hd : decide ((500 : Int) < (n : Int)) = true := decide_eq_true (by omega)
  obtain ⟨BX0, BF0, Z0, hz⟩ := boxes2 w W D J S ⟨o, p, q, v, x, y, s⟩
  go_enter Try.func8, Try.ntmps8
  go_wp2_with fail
  change Calls _ _ _ (bxc w W D J S ⟨o, p, q, v, x, y, s⟩) _
  generalize bxc w W D J S ⟨o, p, q, v, x, y, s⟩ = w0 at BX0 BF0 Z0 hz ⊢
  refine (awake_any _).mono ?_
  rintro _ w1 ⟨rfl, z⟩
  have Z := Lib.hid (Z0.trans (z.mono (by omega)))
  have BX := Lib.hid (BX0.below z)
  have BF := Lib.hid (BF0.after z)
  have HZ0 := Lib.hid (show w.heap.size ≤ w0.heap.size by omega)
  clear z Z0 BX0 BF0 hz HZ0
  obtain ⟨gx, x_0, x_1, x_2, x_3⟩ := BX.out
  obtain ⟨a0, a1, a2, a3, a4, a5, a6⟩ := BF.out.cells
  have la := BF.out.lt
  simp only at a0 a1 a2 a3 a4 a5 a6
  go_wp2
  go_ret
  exact ⟨rfl, Z.out⟩
theorem held_pc (W D J S : Int) (A : Option Addr) (n c : Nat) (f : Fr) (w : World) (hn : n ≤ 500) (hp : f.pc ≠ 3) : Tells 8 #[cf W D J S, .slice A n c, fv f] w (.bool true) := by
  obtain ⟨o, p, q, v, x, y, s⟩ := f
  have hd : decide ((500 : Int) < (n : Int)) = false := decide_eq_false (by omega)
  simp only at hp
  have hp2 : (p != 3) = true := by simpa using hp
  clear hp
  obtain ⟨BX0, BF0, Z0, hz⟩ := boxes2 w W D J S ⟨o, p, q, v, x, y, s⟩
  go_enter Try.func8, Try.ntmps8
  go_wp2_with fail
  change Calls _ _ _ (bxc w W D J S ⟨o, p, q, v, x, y, s⟩) _
  generalize bxc w W D J S ⟨o, p, q, v, x, y, s⟩ = w0 at BX0 BF0 Z0 hz ⊢
  refine (awake_any _).mono ?_
  rintro _ w1 ⟨rfl, z⟩
  have Z := Lib.hid (Z0.trans (z.mono (by omega)))
  have BX := Lib.hid (BX0.below z)
  have BF := Lib.hid (BF0.after z)
  have HZ0 := Lib.hid (show w.heap.size ≤ w0.heap.size by omega)
  clear z Z0 BX0 BF0 hz HZ0
  obtain ⟨gx, x_0, x_1, x_2, x_3⟩ := BX.out
  obtain ⟨a0, a1, a2, a3, a4, a5, a6⟩ := BF.out.cells
  have la := BF.out.lt
  simp only at a0 a1 a2 a3 a4 a5 a6
  go_wp2
  go_ret
  exact ⟨rfl, Z.out⟩
theorem held_no (W D J S : Int) (A : Option Addr) (n c : Nat) (m : List Int) (f : Fr) (w : World) (hn : m.length = n) (hs : n ≤ 500) (hp : f.pc = 3) (hg : goesE W D J S m f 3 = false) : Tells 8 #[cf W D J S, .slice A n c, fv f] w (.bool true) := by
  obtain ⟨o, p, q, v, x, y, s⟩ := f
  have hd : decide ((500 : Int) < (n : Int)) = false := decide_eq_false (by omega)
  simp only at hp
  subst hp
  have HN := Lib.hid hn
  have HG := Lib.hid hg
  clear hn hg
  obtain ⟨BX0, BF0, Z0, hz⟩ := boxes2 w W D J S ⟨o, 3, q, v, x, y, s⟩
  go_enter Try.func8, Try.ntmps8
  go_wp2_with fail
  change Calls _ _ _ (bxc w W D J S ⟨o, 3, q, v, x, y, s⟩) _
  generalize bxc w W D J S ⟨o, 3, q, v, x, y, s⟩ = w0 at BX0 BF0 Z0 hz ⊢
  refine (awake_any _).mono ?_
  rintro _ w1 ⟨rfl, z⟩
  have Z := Lib.hid (Z0.trans (z.mono (by omega)))
  have BX := Lib.hid (BX0.below z)
  have BF := Lib.hid (BF0.after z)
  have HZ0 := Lib.hid (show w.heap.size ≤ w0.heap.size by omega)
  clear z Z0 BX0 BF0 hz HZ0
  obtain ⟨gx, x_0, x_1, x_2, x_3⟩ := BX.out
  obtain ⟨a0, a1, a2, a3, a4, a5, a6⟩ := BF.out.cells
  have la := BF.out.lt
  simp only at a0 a1 a2 a3 a4 a5 a6
  go_wp2_with fail
  refine (Tells.of (qgoes_any W D J S 3 A n c m ⟨o, 3, q, v, x, y, s⟩ _ HN.out) (v' := .bool false) (by rw [HG.out])).mono ?_
  rintro _ w2 ⟨rfl, z⟩
  clear gx x_0 x_1 x_2 x_3 a0 a1 a2 a3 a4 a5 a6 la
  replace Z := Lib.hid (Z.out.trans (z.mono Z.out.size))
  replace BX := Lib.hid (BX.out.below z)
  replace BF := Lib.hid (BF.out.after z)
  clear z
  go_wp2
  go_ret
  exact ⟨rfl, Z.out⟩
set_option maxHeartbeats 1000000 in
theorem held_main (W D J S : Int) (A : Option Addr) (n c : Nat) (m : List Int) (f : Fr) (w : World) (hm : Rd w A m) (hn : m.length = n) (hs : n ≤ 500) (hf : UF f) (hp : f.pc = 3) (hg : goesE W D J S m f 3 = true) : Tells 8 #[cf W D J S, .slice A n c, fv f] w (.bool true) := by
  obtain ⟨hk, hr, ho, h0, h4⟩ := goesE_iff.1 hg
  obtain ⟨hm1, hlen⟩ := okm_iff.1 hk
  obtain ⟨hW, hD, hJ, hS⟩ := may_lim hm1
  have hlong := okm_long hk
  obtain ⟨o, p, q, v, x, y, s⟩ := f
  simp only at hr ho hp hf
  subst hr ho hp
  have hv := vl_lim hJ.1 x
  have hq := sq_lim hJ.1 x
  have e1 := enqS_3 (w := q) (v := v) (x := x) (y := y) hk
  obtain ⟨m1, hm1⟩ : ∃ m1, m1 = put m (vlI J x) v := ⟨_, rfl⟩
  rw [← hm1] at e1
  have hk1 : okm W D J S m1 = true := by rw [hm1]; exact okm_put hk _ _
  have e2 := enqS_4 (w := q) (v := v) (x := x) (y := y) hk1
  obtain ⟨m2, hm2⟩ : ∃ m2, m2 = put m1 (sqI J x) ((tw J x + 1) % 18446744073709551616) := ⟨_, rfl⟩
  rw [← hm2] at e2
  have HE1 := Lib.hid e1
  have HE2 := Lib.hid e2
  have HL1 := Lib.hid (show m1.length = n by rw [hm1, len_put]; exact hn)
  have HL2 := Lib.hid (show m2.length = n by rw [hm2, len_put, hm1, len_put]; exact hn)
  have HA5 := Lib.hid (show at0 m2 5 = at0 m 5 by rw [hm2, at0_put_ne _ _ (by omega), hm1, at0_put_ne _ _ (by omega)])
  have HA4 := Lib.hid (show at0 m2 4 = at0 m 4 by rw [hm2, at0_put_ne _ _ (by omega), hm1, at0_put_ne _ _ (by omega)])
  have HU := Lib.hid hf
  have HU4 := Lib.hid (show UF ⟨3, 4, q, v, x, y, 0⟩ from ⟨hf.1, hf.2.1, hf.2.2⟩)
  have HN := Lib.hid hn
  have HS := Lib.hid hs
  have HG := Lib.hid hg
  have LM0 := Lib.hid hm
  have hd : decide ((500 : Int) < (n : Int)) = false := decide_eq_false (by omega)
  clear e1 e2 hm1 hm2 hk hk1 hlen hW hD hJ hS hlong hv hq h0 h4 hf hn hs hg hm
  obtain ⟨BX0, BF0, Z0, hz⟩ := boxes2 w W D J S ⟨3, 3, q, v, x, y, 0⟩
  go_enter Try.func8, Try.ntmps8
  go_wp2_with fail
  change Calls _ _ _ (bxc w W D J S ⟨3, 3, q, v, x, y, 0⟩) _
  generalize bxc w W D J S ⟨3, 3, q, v, x, y, 0⟩ = w0 at BX0 BF0 Z0 hz ⊢
  refine (awake_any _).mono ?_
  rintro _ w1 ⟨rfl, z⟩
  have Z := Lib.hid (Z0.trans (z.mono (by omega)))
  have BX := Lib.hid (BX0.below z)
  have BF := Lib.hid (BF0.after z)
  have HZ0 := Lib.hid (show w.heap.size ≤ w0.heap.size by omega)
  have LM := Lib.hid (LM0.out.below Z.out)
  clear LM0
  clear z Z0 BX0 BF0 hz HZ0
  obtain ⟨gx, x_0, x_1, x_2, x_3⟩ := BX.out
  obtain ⟨a0, a1, a2, a3, a4, a5, a6⟩ := BF.out.cells
  have la := BF.out.lt
  simp only at a0 a1 a2 a3 a4 a5 a6
  go_wp2_with fail
  refine (Tells.of (qgoes_any W D J S 3 A n c m ⟨3, 3, q, v, x, y, 0⟩ _ HN.out) (v' := .bool true) (by rw [HG.out])).mono ?_
  rintro _ w2 ⟨rfl, z⟩
  clear gx x_0 x_1 x_2 x_3 a0 a1 a2 a3 a4 a5 a6 la
  replace Z := Lib.hid (Z.out.trans (z.mono Z.out.size))
  replace BX := Lib.hid (BX.out.below z)
  replace BF := Lib.hid (BF.out.after z)
  replace LM := Lib.hid (LM.out.below z)
  clear z
  obtain ⟨gx, x_0, x_1, x_2, x_3⟩ := BX.out
  obtain ⟨a0, a1, a2, a3, a4, a5, a6⟩ := BF.out.cells
  have la := BF.out.lt
  simp only at a0 a1 a2 a3 a4 a5 a6
  go_wp2_with fail
  refine (enq_n LM.out HN.out HS.out HU.out HE1.out).mono ?_
  rintro _ w3 ⟨A3, c3, rfl, hn3, z⟩
  clear gx x_0 x_1 x_2 x_3 a0 a1 a2 a3 a4 a5 a6 la
  replace Z := Lib.hid (Z.out.trans (z.mono Z.out.size))
  replace BX := Lib.hid (BX.out.below z)
  replace BF := Lib.hid (BF.out.after z)
  replace LM := Lib.hid (LM.out.below z)
  have LA := Lib.hid hn3.rd
  clear hn3 z
  obtain ⟨gx, x_0, x_1, x_2, x_3⟩ := BX.out
  go_wp2_with fail
  refine (enq_n (LA.out.alloc _) HL1.out HS.out HU4.out HE2.out).mono ?_
  rintro _ w4 ⟨A4, c4, rfl, hn4, z⟩
  clear gx x_0 x_1 x_2 x_3
  have BG := Lib.hid ((Bf.new w3 ⟨3, 4, q, v, x, y, 0⟩).after z)
  replace z := keep_call z (bel_alloc w3 _)
  replace Z := Lib.hid (Z.out.trans (z.mono Z.out.size))
  replace BX := Lib.hid (BX.out.below z)
  replace BF := Lib.hid (BF.out.after z)
  replace LM := Lib.hid (LM.out.below z)
  replace LA := Lib.hid (LA.out.below z)
  have LB := Lib.hid hn4.rd
  clear hn4 z
  obtain ⟨gx, x_0, x_1, x_2, x_3⟩ := BX.out
  obtain ⟨a0, a1, a2, a3, a4, a5, a6⟩ := BF.out.cells
  have la := BF.out.lt
  simp only at a0 a1 a2 a3 a4 a5 a6
  obtain ⟨b0, b1, b2, b3, b4, b5, b6⟩ := BG.out.cells
  have lb := BG.out.lt
  simp only at b0 b1 b2 b3 b4 b5 b6
  go_wp2_with fail
  refine (over_any ⟨3, 4, q, v, x, y, 0⟩ _).mono ?_
  rintro _ w5 ⟨rfl, z⟩
  clear gx x_0 x_1 x_2 x_3 a0 a1 a2 a3 a4 a5 a6 la b0 b1 b2 b3 b4 b5 b6 lb
  have BH := Lib.hid ((Bf.new w4 ⟨3, 0, q, v, 0, 0, 1⟩).after z)
  replace z := keep_call z (bel_alloc w4 _)
  replace Z := Lib.hid (Z.out.trans (z.mono Z.out.size))
  replace BX := Lib.hid (BX.out.below z)
  replace BF := Lib.hid (BF.out.after z)
  replace LM := Lib.hid (LM.out.below z)
  replace LA := Lib.hid (LA.out.below z)
  replace BG := Lib.hid (BG.out.after z)
  replace LB := Lib.hid (LB.out.below z)
  clear z
  obtain ⟨gx, x_0, x_1, x_2, x_3⟩ := BX.out
  obtain ⟨a0, a1, a2, a3, a4, a5, a6⟩ := BF.out.cells
  have la := BF.out.lt
  simp only at a0 a1 a2 a3 a4 a5 a6
  obtain ⟨b0, b1, b2, b3, b4, b5, b6⟩ := BG.out.cells
  have lb := BG.out.lt
  simp only at b0 b1 b2 b3 b4 b5 b6
  obtain ⟨d0, d1, d2, d3, d4, d5, d6⟩ := BH.out.cells
  have ld := BH.out.lt
  simp only at d0 d1 d2 d3 d4 d5 d6
  go_wp2_with fail
  refine (load_any A4 n c4 m2 5 _ LB.out HL2.out HS.out).mono ?_
  rintro _ w6 ⟨rfl, z⟩
  clear gx x_0 x_1 x_2 x_3 a0 a1 a2 a3 a4 a5 a6 la b0 b1 b2 b3 b4 b5 b6 lb d0 d1 d2 d3 d4 d5 d6 ld
  replace Z := Lib.hid (Z.out.trans (z.mono Z.out.size))
  replace BX := Lib.hid (BX.out.below z)
  replace BF := Lib.hid (BF.out.after z)
  replace LM := Lib.hid (LM.out.below z)
  replace LA := Lib.hid (LA.out.below z)
  replace BG := Lib.hid (BG.out.after z)
  replace LB := Lib.hid (LB.out.below z)
  replace BH := Lib.hid (BH.out.after z)
  clear z
  go_wp2_with fail
  refine (ret_of (load_any A n c m 5 _ LM.out HN.out HS.out) (v' := .int .u64 (at0 m2 5)) (by rw [HA5.out])).mono ?_
  rintro _ w7 ⟨rfl, z⟩
  replace Z := Lib.hid (Z.out.trans (z.mono Z.out.size))
  replace BX := Lib.hid (BX.out.below z)
  replace BF := Lib.hid (BF.out.after z)
  replace LM := Lib.hid (LM.out.below z)
  replace LA := Lib.hid (LA.out.below z)
  replace BG := Lib.hid (BG.out.after z)
  replace LB := Lib.hid (LB.out.below z)
  replace BH := Lib.hid (BH.out.after z)
  clear z
  go_wp2_with fail
  refine (load_any A4 n c4 m2 4 _ LB.out HL2.out HS.out).mono ?_
  rintro _ w8 ⟨rfl, z⟩
  replace Z := Lib.hid (Z.out.trans (z.mono Z.out.size))
  replace BX := Lib.hid (BX.out.below z)
  replace BF := Lib.hid (BF.out.after z)
  replace LM := Lib.hid (LM.out.below z)
  replace LA := Lib.hid (LA.out.below z)
  replace BG := Lib.hid (BG.out.after z)
  replace LB := Lib.hid (LB.out.below z)
  replace BH := Lib.hid (BH.out.after z)
  clear z
  go_wp2_with fail
  refine (ret_of (load_any A n c m 4 _ LM.out HN.out HS.out) (v' := .int .u64 (at0 m2 4)) (by rw [HA4.out])).mono ?_
  rintro _ w9 ⟨rfl, z⟩
  replace Z := Lib.hid (Z.out.trans (z.mono Z.out.size))
  replace BX := Lib.hid (BX.out.below z)
  replace BF := Lib.hid (BF.out.after z)
  replace LM := Lib.hid (LM.out.below z)
  replace LA := Lib.hid (LA.out.below z)
  replace BG := Lib.hid (BG.out.after z)
  replace LB := Lib.hid (LB.out.below z)
  replace BH := Lib.hid (BH.out.after z)
  clear z
  go_wp2
  go_ret
  exact ⟨rfl, Z.out⟩
theorem held_walk (W D J S : Int) (A : Option Addr) (n c : Nat) (m : List Int) (f : Fr) (w : World) (hm : Rd w A m) (hn : m.length = n) (hf : UF f) : Tells 8 #[cf W D J S, .slice A n c, fv f] w (.bool true) := by
  by_cases hs : n ≤ 500
  · by_cases hp : f.pc = 3
    · cases hg : goesE W D J S m f 3
      · exact held_no W D J S A n c m f w hn hs hp hg
      · exact held_main W D J S A n c m f w hm hn hs hf hp hg
    · exact held_pc W D J S A n c f w hs hp
  · exact held_big W D J S A n c f w (by omega)
end Go.Proofs.Ytoneifkpjmkokaa
