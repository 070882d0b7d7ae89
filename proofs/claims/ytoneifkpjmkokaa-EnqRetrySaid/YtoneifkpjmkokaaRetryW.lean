/- The walk of EnqRetry. -/
import Derived.Test.YtoneifkpjmkokaaEnF
namespace Go.Proofs.Ytoneifkpjmkokaa
open Go.RowKit Go.Deep
theorem retry_big (W D J S : Int) (A : Option Addr) (n c : Nat) (f : Fr) (k : Int) (w : World) (hn : 500 < n) : Tells 7 #[cf W D J S, .slice A n c, fv f, .int .u64 k] w (.bool true) := by
  obtain ⟨o, p, q, v, x, y, s⟩ := f
  have hd : decide ((500 : Int) < (n : Int)) = true := decide_eq_true (by omega)
  obtain ⟨BX0, BF0, Z0, hz⟩ := boxes2 w W D J S ⟨o, p, q, v, x, y, s⟩
  go_enter Try.func7, Try.ntmps7
  go_wp2_with fail
  change Calls _ _ _ (bxc w W D J S ⟨o, p, q, v, x, y, s⟩) _
  generalize bxc w W D J S ⟨o, p, q, v, x, y, s⟩ = w0 at BX0 BF0 Z0 hz ⊢
  refine (awake_any _).mono ?_
  rintro _ w1 ⟨rfl, z⟩
  have Z := Lib.hid (Z0.trans (z.mono (by omega)))
  have BX := Lib.hid (BX0.below z)
  have BF := Lib.hid (BF0.after z)
  have HZ0 := Lib.hid (show w.heap.size ≤ w0.heap.size by omega)
  clear z Z0 BX0 BF0 hz HZ0
  obtain ⟨gx, x_0, x_1, x_2, x_3⟩ := BX.out
  obtain ⟨a0, a1, a2, a3, a4, a5, a6⟩ := BF.out.cells
  have la := BF.out.lt
  simp only at a0 a1 a2 a3 a4 a5 a6
  go_wp2
  go_ret
  exact ⟨rfl, Z.out⟩
theorem retry_by (W D J S : Int) (A : Option Addr) (n c : Nat) (f : Fr) (w : World) (hn : n ≤ 500) : Tells 7 #[cf W D J S, .slice A n c, fv f, .int .u64 0] w (.bool true) := by
  obtain ⟨o, p, q, v, x, y, s⟩ := f
  have hd : decide ((500 : Int) < (n : Int)) = false := decide_eq_false (by omega)
  obtain ⟨BX0, BF0, Z0, hz⟩ := boxes2 w W D J S ⟨o, p, q, v, x, y, s⟩
  go_enter Try.func7, Try.ntmps7
  go_wp2_with fail
  change Calls _ _ _ (bxc w W D J S ⟨o, p, q, v, x, y, s⟩) _
  generalize bxc w W D J S ⟨o, p, q, v, x, y, s⟩ = w0 at BX0 BF0 Z0 hz ⊢
  refine (awake_any _).mono ?_
  rintro _ w1 ⟨rfl, z⟩
  have Z := Lib.hid (Z0.trans (z.mono (by omega)))
  have BX := Lib.hid (BX0.below z)
  have BF := Lib.hid (BF0.after z)
  have HZ0 := Lib.hid (show w.heap.size ≤ w0.heap.size by omega)
  clear z Z0 BX0 BF0 hz HZ0
  obtain ⟨gx, x_0, x_1, x_2, x_3⟩ := BX.out
  obtain ⟨a0, a1, a2, a3, a4, a5, a6⟩ := BF.out.cells
  have la := BF.out.lt
  simp only at a0 a1 a2 a3 a4 a5 a6
  go_wp2
  go_ret
  exact ⟨rfl, Z.out⟩
theorem retry_pc (W D J S : Int) (A : Option Addr) (n c : Nat) (f : Fr) (k : Int) (w : World) (hn : n ≤ 500) (hk : ¬ k = 0) (hp : f.pc ≠ 2) : Tells 7 #[cf W D J S, .slice A n c, fv f, .int .u64 k] w (.bool true) := by
  obtain ⟨o, p, q, v, x, y, s⟩ := f
  have hd : decide ((500 : Int) < (n : Int)) = false := decide_eq_false (by omega)
  simp only at hp
  have hp2 : (p != 2) = true := by simpa using hp
  clear hp
  have hk0 : (k == 0) = false := by simpa using hk
  clear hk
  obtain ⟨BX0, BF0, Z0, hz⟩ := boxes2 w W D J S ⟨o, p, q, v, x, y, s⟩
  go_enter Try.func7, Try.ntmps7
  go_wp2_with fail
  change Calls _ _ _ (bxc w W D J S ⟨o, p, q, v, x, y, s⟩) _
  generalize bxc w W D J S ⟨o, p, q, v, x, y, s⟩ = w0 at BX0 BF0 Z0 hz ⊢
  refine (awake_any _).mono ?_
  rintro _ w1 ⟨rfl, z⟩
  have Z := Lib.hid (Z0.trans (z.mono (by omega)))
  have BX := Lib.hid (BX0.below z)
  have BF := Lib.hid (BF0.after z)
  have HZ0 := Lib.hid (show w.heap.size ≤ w0.heap.size by omega)
  clear z Z0 BX0 BF0 hz HZ0
  obtain ⟨gx, x_0, x_1, x_2, x_3⟩ := BX.out
  obtain ⟨a0, a1, a2, a3, a4, a5, a6⟩ := BF.out.cells
  have la := BF.out.lt
  simp only at a0 a1 a2 a3 a4 a5 a6
  go_wp2
  go_ret
  exact ⟨rfl, Z.out⟩
theorem retry_no (W D J S : Int) (A : Option Addr) (n c : Nat) (m : List Int) (f : Fr) (k : Int) (w : World) (hn : m.length = n) (hs : n ≤ 500) (hk : ¬ k = 0) (hp : f.pc = 2) (hg : goesE W D J S m f 3 = false) : Tells 7 #[cf W D J S, .slice A n c, fv f, .int .u64 k] w (.bool true) := by
  obtain ⟨o, p, q, v, x, y, s⟩ := f
  have hd : decide ((500 : Int) < (n : Int)) = false := decide_eq_false (by omega)
  simp only at hp
  subst hp
  have HN := Lib.hid hn
  have HG := Lib.hid hg
  clear hn hg
  have hk0 : (k == 0) = false := by simpa using hk
  clear hk
  obtain ⟨BX0, BF0, Z0, hz⟩ := boxes2 w W D J S ⟨o, 2, q, v, x, y, s⟩
  go_enter Try.func7, Try.ntmps7
  go_wp2_with fail
  change Calls _ _ _ (bxc w W D J S ⟨o, 2, q, v, x, y, s⟩) _
  generalize bxc w W D J S ⟨o, 2, q, v, x, y, s⟩ = w0 at BX0 BF0 Z0 hz ⊢
  refine (awake_any _).mono ?_
  rintro _ w1 ⟨rfl, z⟩
  have Z := Lib.hid (Z0.trans (z.mono (by omega)))
  have BX := Lib.hid (BX0.below z)
  have BF := Lib.hid (BF0.after z)
  have HZ0 := Lib.hid (show w.heap.size ≤ w0.heap.size by omega)
  clear z Z0 BX0 BF0 hz HZ0
  obtain ⟨gx, x_0, x_1, x_2, x_3⟩ := BX.out
  obtain ⟨a0, a1, a2, a3, a4, a5, a6⟩ := BF.out.cells
  have la := BF.out.lt
  simp only at a0 a1 a2 a3 a4 a5 a6
  go_wp2_with fail
  refine (Tells.of (qgoes_any W D J S 3 A n c m ⟨o, 2, q, v, x, y, s⟩ _ HN.out) (v' := .bool false) (by rw [HG.out])).mono ?_
  rintro _ w2 ⟨rfl, z⟩
  clear gx x_0 x_1 x_2 x_3 a0 a1 a2 a3 a4 a5 a6 la
  replace Z := Lib.hid (Z.out.trans (z.mono Z.out.size))
  replace BX := Lib.hid (BX.out.below z)
  replace BF := Lib.hid (BF.out.after z)
  clear z
  go_wp2
  go_ret
  exact ⟨rfl, Z.out⟩
set_option maxHeartbeats 1000000 in
theorem retry_main (W D J S : Int) (A : Option Addr) (n c : Nat) (m : List Int) (f : Fr) (k : Int) (w : World) (hm : Rd w A m) (hn : m.length = n) (hs : n ≤ 500) (hf : UF f) (hkk : ¬ k = 0) (hku : U k) (hp : f.pc = 2) (hg : goesE W D J S m f 3 = true) : Tells 7 #[cf W D J S, .slice A n c, fv f, .int .u64 k] w (.bool true) := by
  obtain ⟨hk, hr, ho, h0, h4⟩ := goesE_iff.1 hg
  obtain ⟨hm1, hlen⟩ := okm_iff.1 hk
  obtain ⟨hW, hD, hJ, hS⟩ := may_lim hm1
  have hlong := okm_long hk
  obtain ⟨o, p, q, v, x, y, s⟩ := f
  simp only at hr ho hp hf
  subst hr ho hp
  have hw1 : IntKind.u64.wrap (x + k) = (x + k) % 18446744073709551616 := IntKind.wrap_u64 _
  have hk0 : (k == 0) = false := by simpa using hkk
  have hux := hf.2.1
  have hne : ¬ (x + k) % 18446744073709551616 = x := by unfold U at hux hku; omega
  obtain ⟨X, hX⟩ : ∃ X, X = (x + k) % 18446744073709551616 := ⟨_, rfl⟩
  rw [← hX] at hw1 hne
  obtain ⟨m1, hm1⟩ : ∃ m1, m1 = put m 5 X := ⟨_, rfl⟩
  have hk1 : okm W D J S m1 = true := by rw [hm1]; exact okm_put hk _ _
  have e1 := enqS_2 (w := q) (v := v) (x := x) (y := y) hk1
  rw [if_neg (by rw [hm1, at0_put _ (by omega) (by omega)]; exact hne)] at e1
  have HE1 := Lib.hid e1
  have HL1 := Lib.hid (show m1.length = n by rw [hm1, len_put]; exact hn)
  have HM1 := Lib.hid hm1
  have HU := Lib.hid hf
  have HN := Lib.hid hn
  have HS := Lib.hid hs
  have HG := Lib.hid hg
  have LM0 := Lib.hid hm
  have hd : decide ((500 : Int) < (n : Int)) = false := decide_eq_false (by omega)
  clear e1 hm1 hk hk1 hlen hW hD hJ hS hlong h0 h4 hf hn hs hg hm hne hX hux hku hkk
  obtain ⟨BX0, BF0, Z0, hz⟩ := boxes2 w W D J S ⟨3, 2, q, v, x, y, 0⟩
  go_enter Try.func7, Try.ntmps7
  go_wp2_with fail
  change Calls _ _ _ (bxc w W D J S ⟨3, 2, q, v, x, y, 0⟩) _
  generalize bxc w W D J S ⟨3, 2, q, v, x, y, 0⟩ = w0 at BX0 BF0 Z0 hz ⊢
  refine (awake_any _).mono ?_
  rintro _ w1 ⟨rfl, z⟩
  have Z := Lib.hid (Z0.trans (z.mono (by omega)))
  have BX := Lib.hid (BX0.below z)
  have BF := Lib.hid (BF0.after z)
  have HZ0 := Lib.hid (show w.heap.size ≤ w0.heap.size by omega)
  have LM := Lib.hid (LM0.out.below Z.out)
  clear LM0
  clear z Z0 BX0 BF0 hz HZ0
  obtain ⟨gx, x_0, x_1, x_2, x_3⟩ := BX.out
  obtain ⟨a0, a1, a2, a3, a4, a5, a6⟩ := BF.out.cells
  have la := BF.out.lt
  simp only at a0 a1 a2 a3 a4 a5 a6
  go_wp2_with fail
  refine (Tells.of (qgoes_any W D J S 3 A n c m ⟨3, 2, q, v, x, y, 0⟩ _ HN.out) (v' := .bool true) (by rw [HG.out])).mono ?_
  rintro _ w2 ⟨rfl, z⟩
  clear gx x_0 x_1 x_2 x_3 a0 a1 a2 a3 a4 a5 a6 la
  replace Z := Lib.hid (Z.out.trans (z.mono Z.out.size))
  replace BX := Lib.hid (BX.out.below z)
  replace BF := Lib.hid (BF.out.after z)
  replace LM := Lib.hid (LM.out.below z)
  clear z
  obtain ⟨gx, x_0, x_1, x_2, x_3⟩ := BX.out
  obtain ⟨a0, a1, a2, a3, a4, a5, a6⟩ := BF.out.cells
  have la := BF.out.lt
  simp only at a0 a1 a2 a3 a4 a5 a6
  go_wp2_with fail
  refine (store_new A n c m 5 X _ LM.out HN.out HS.out).mono ?_
  rintro _ w3 ⟨g3, rfl, hg3, hb3, z⟩
  clear gx x_0 x_1 x_2 x_3 a0 a1 a2 a3 a4 a5 a6 la
  replace Z := Lib.hid (Z.out.trans (z.mono Z.out.size))
  replace BX := Lib.hid (BX.out.below z)
  replace BF := Lib.hid (BF.out.after z)
  replace LM := Lib.hid (LM.out.below z)
  have L1 := Lib.hid (show Rd w3 (some ⟨g3, 0, none⟩) m1 by rw [HM1.out]; exact hb3.rd)
  clear hg3 hb3 z
  obtain ⟨gx, x_0, x_1, x_2, x_3⟩ := BX.out
  obtain ⟨a0, a1, a2, a3, a4, a5, a6⟩ := BF.out.cells
  have la := BF.out.lt
  simp only at a0 a1 a2 a3 a4 a5 a6
  go_wp2_with fail
  refine (enq_n L1.out HL1.out HS.out HU.out HE1.out).mono ?_
  rintro _ w4 ⟨A4, c4, rfl, hn4, z⟩
  clear gx x_0 x_1 x_2 x_3 a0 a1 a2 a3 a4 a5 a6 la
  replace Z := Lib.hid (Z.out.trans (z.mono Z.out.size))
  replace BX := Lib.hid (BX.out.below z)
  replace BF := Lib.hid (BF.out.after z)
  replace LM := Lib.hid (LM.out.below z)
  replace L1 := Lib.hid (L1.out.below z)
  have LA := Lib.hid hn4.rd
  clear hn4 z
  obtain ⟨gx, x_0, x_1, x_2, x_3⟩ := BX.out
  obtain ⟨a0, a1, a2, a3, a4, a5, a6⟩ := BF.out.cells
  have la := BF.out.lt
  simp only at a0 a1 a2 a3 a4 a5 a6
  go_wp2_with fail
  refine (ret_of (same_any A4 (some ⟨g3, 0, none⟩) n c4 n n m1 m1 _ (LA.out.alloc _) (L1.out.alloc _) HL1.out HL1.out (by have := HS.out; omega)) (v' := .bool true) (by simp)).mono ?_
  rintro _ w5 ⟨rfl, z⟩
  clear gx x_0 x_1 x_2 x_3 a0 a1 a2 a3 a4 a5 a6 la
  have BH := Lib.hid ((Bf.new w4 ⟨3, 0, q, v, x, y, 0⟩).after z)
  replace z := keep_call z (bel_alloc w4 _)
  replace Z := Lib.hid (Z.out.trans (z.mono Z.out.size))
  replace BX := Lib.hid (BX.out.below z)
  replace BF := Lib.hid (BF.out.after z)
  replace LM := Lib.hid (LM.out.below z)
  replace L1 := Lib.hid (L1.out.below z)
  replace LA := Lib.hid (LA.out.below z)
  clear z
  obtain ⟨gx, x_0, x_1, x_2, x_3⟩ := BX.out
  obtain ⟨a0, a1, a2, a3, a4, a5, a6⟩ := BF.out.cells
  have la := BF.out.lt
  simp only at a0 a1 a2 a3 a4 a5 a6
  obtain ⟨d0, d1, d2, d3, d4, d5, d6⟩ := BH.out.cells
  have ld := BH.out.lt
  simp only at d0 d1 d2 d3 d4 d5 d6
  go_wp2_with fail
  refine (over_any ⟨3, 0, q, v, x, y, 0⟩ _).mono ?_
  rintro _ w6 ⟨rfl, z⟩
  clear gx x_0 x_1 x_2 x_3 a0 a1 a2 a3 a4 a5 a6 la d0 d1 d2 d3 d4 d5 d6 ld
  replace Z := Lib.hid (Z.out.trans (z.mono Z.out.size))
  replace BX := Lib.hid (BX.out.below z)
  replace BF := Lib.hid (BF.out.after z)
  replace LM := Lib.hid (LM.out.below z)
  replace L1 := Lib.hid (L1.out.below z)
  replace LA := Lib.hid (LA.out.below z)
  replace BH := Lib.hid (BH.out.after z)
  clear z
  obtain ⟨gx, x_0, x_1, x_2, x_3⟩ := BX.out
  obtain ⟨a0, a1, a2, a3, a4, a5, a6⟩ := BF.out.cells
  have la := BF.out.lt
  simp only at a0 a1 a2 a3 a4 a5 a6
  obtain ⟨d0, d1, d2, d3, d4, d5, d6⟩ := BH.out.cells
  have ld := BH.out.lt
  simp only at d0 d1 d2 d3 d4 d5 d6
  go_wp2
  go_ret
  exact ⟨rfl, Z.out⟩
theorem retry_walk (W D J S : Int) (A : Option Addr) (n c : Nat) (m : List Int) (f : Fr) (k : Int) (w : World) (hm : Rd w A m) (hn : m.length = n) (hf : UF f) (hku : U k) : Tells 7 #[cf W D J S, .slice A n c, fv f, .int .u64 k] w (.bool true) := by
  by_cases hs : n ≤ 500
  · by_cases hk : k = 0
    · subst hk
      exact retry_by W D J S A n c f w hs
    · by_cases hp : f.pc = 2
      · cases hg : goesE W D J S m f 3
        · exact retry_no W D J S A n c m f k w hn hs hk hp hg
        · exact retry_main W D J S A n c m f k w hm hn hs hf hk hku hp hg
      · exact retry_pc W D J S A n c f k w hs hk hp
  · exact retry_big W D J S A n c f k w (by omega)
end Go.Proofs.Ytoneifkpjmkokaa
