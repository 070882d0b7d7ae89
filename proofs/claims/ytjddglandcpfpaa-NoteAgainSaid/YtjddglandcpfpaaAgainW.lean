/- The walk of NoteAgain. -/
import Derived.Test.YtjddglandcpfpaaNtF
import Derived.Test.YtjddglandcpfpaaPuL
import Derived.Test.YtjddglandcpfpaaFrH2
import Derived.IntWalk
import Derived.Deep.RegionHeld3
namespace Go.Proofs.Ytjddglandcpfpaa
open Go.RowKit Go.Deep
theorem again_big (W D J S : Int) (A : Option Addr) (n c : Nat) (f : Fr) (e : Int) (w : World) (hn : 500 < n) : Tells 7 #[cf W D J S, .slice A n c, fv f, .int .u64 e] w (.bool true) := by
  obtain ⟨o, p, q, v, x, y, s⟩ := f
  have hd : decide ((500 : Int) < (n : Int)) = true := decide_eq_true (by omega)
  obtain ⟨BX0, BF0, Z0, hz⟩ := boxes2 w W D J S ⟨o, p, q, v, x, y, s⟩
  go_enter Try.func7, Try.ntmps7
  go_wp2_with fail
  change Calls _ _ _ (bxc w W D J S ⟨o, p, q, v, x, y, s⟩) _
  generalize bxc w W D J S ⟨o, p, q, v, x, y, s⟩ = w0 at BX0 BF0 Z0 hz ⊢
  refine (awake_any _).mono ?_
  rintro _ w1 ⟨rfl, z⟩
  have Z := Lib.hid (Z0.trans (z.mono (by omega)))
  have BX := Lib.hid (BX0.below z)
  have BF := Lib.hid (BF0.after z)
  have HZ0 := Lib.hid (show w.heap.size ≤ w0.heap.size by omega)
  clear z Z0 BX0 BF0 hz HZ0
  obtain ⟨gx, x_0, x_1, x_2, x_3⟩ := BX.out
  obtain ⟨a0, a1, a2, a3, a4, a5, a6⟩ := BF.out.cells
  have la := BF.out.lt
  simp only at a0 a1 a2 a3 a4 a5 a6
  go_wp2
  go_ret
  exact ⟨rfl, Z.out⟩
theorem again_pc (W D J S : Int) (A : Option Addr) (n c : Nat) (f : Fr) (e : Int) (w : World) (hn : n ≤ 500) (hp : f.pc ≠ 1) : Tells 7 #[cf W D J S, .slice A n c, fv f, .int .u64 e] w (.bool true) := by
  obtain ⟨o, p, q, v, x, y, s⟩ := f
  have hd : decide ((500 : Int) < (n : Int)) = false := decide_eq_false (by omega)
  simp only at hp
  have hp2 : (p != 1) = true := by simpa using hp
  clear hp
  obtain ⟨BX0, BF0, Z0, hz⟩ := boxes2 w W D J S ⟨o, p, q, v, x, y, s⟩
  go_enter Try.func7, Try.ntmps7
  go_wp2_with fail
  change Calls _ _ _ (bxc w W D J S ⟨o, p, q, v, x, y, s⟩) _
  generalize bxc w W D J S ⟨o, p, q, v, x, y, s⟩ = w0 at BX0 BF0 Z0 hz ⊢
  refine (awake_any _).mono ?_
  rintro _ w1 ⟨rfl, z⟩
  have Z := Lib.hid (Z0.trans (z.mono (by omega)))
  have BX := Lib.hid (BX0.below z)
  have BF := Lib.hid (BF0.after z)
  have HZ0 := Lib.hid (show w.heap.size ≤ w0.heap.size by omega)
  clear z Z0 BX0 BF0 hz HZ0
  obtain ⟨gx, x_0, x_1, x_2, x_3⟩ := BX.out
  obtain ⟨a0, a1, a2, a3, a4, a5, a6⟩ := BF.out.cells
  have la := BF.out.lt
  simp only at a0 a1 a2 a3 a4 a5 a6
  go_wp2
  go_ret
  exact ⟨rfl, Z.out⟩
theorem again_no (W D J S : Int) (A : Option Addr) (n c : Nat) (m : List Int) (f : Fr) (e : Int) (w : World) (hn : m.length = n) (hs : n ≤ 500) (hp : f.pc = 1) (hg : goesN W D J S m f = false) : Tells 7 #[cf W D J S, .slice A n c, fv f, .int .u64 e] w (.bool true) := by
  obtain ⟨o, p, q, v, x, y, s⟩ := f
  have hd : decide ((500 : Int) < (n : Int)) = false := decide_eq_false (by omega)
  simp only at hp
  subst hp
  have HN := Lib.hid hn
  have HG := Lib.hid hg
  clear hn hg
  obtain ⟨BX0, BF0, Z0, hz⟩ := boxes2 w W D J S ⟨o, 1, q, v, x, y, s⟩
  go_enter Try.func7, Try.ntmps7
  go_wp2_with fail
  change Calls _ _ _ (bxc w W D J S ⟨o, 1, q, v, x, y, s⟩) _
  generalize bxc w W D J S ⟨o, 1, q, v, x, y, s⟩ = w0 at BX0 BF0 Z0 hz ⊢
  refine (awake_any _).mono ?_
  rintro _ w1 ⟨rfl, z⟩
  have Z := Lib.hid (Z0.trans (z.mono (by omega)))
  have BX := Lib.hid (BX0.below z)
  have BF := Lib.hid (BF0.after z)
  have HZ0 := Lib.hid (show w.heap.size ≤ w0.heap.size by omega)
  clear z Z0 BX0 BF0 hz HZ0
  obtain ⟨gx, x_0, x_1, x_2, x_3⟩ := BX.out
  obtain ⟨a0, a1, a2, a3, a4, a5, a6⟩ := BF.out.cells
  have la := BF.out.lt
  simp only at a0 a1 a2 a3 a4 a5 a6
  go_wp2_with fail
  refine (Tells.of (ngoes_any W D J S A n c m ⟨o, 1, q, v, x, y, s⟩ _ HN.out) (v' := .bool false) (by rw [HG.out])).mono ?_
  rintro _ w2 ⟨rfl, z⟩
  clear gx x_0 x_1 x_2 x_3 a0 a1 a2 a3 a4 a5 a6 la
  replace Z := Lib.hid (Z.out.trans (z.mono Z.out.size))
  replace BX := Lib.hid (BX.out.below z)
  replace BF := Lib.hid (BF.out.after z)
  clear z
  go_wp2
  go_ret
  exact ⟨rfl, Z.out⟩
theorem again_same (W D J S : Int) (A : Option Addr) (n c : Nat) (m : List Int) (f : Fr) (w : World) (hn : m.length = n) (hs : n ≤ 500) (hp : f.pc = 1) (hg : goesN W D J S m f = true) : Tells 7 #[cf W D J S, .slice A n c, fv f, .int .u64 f.x] w (.bool true) := by
  obtain ⟨o, p, q, v, x, y, s⟩ := f
  have hd : decide ((500 : Int) < (n : Int)) = false := decide_eq_false (by omega)
  simp only at hp ⊢
  subst hp
  have hxx : (x == x) = true := by simp
  have HN := Lib.hid hn
  have HG := Lib.hid hg
  clear hn hg
  obtain ⟨BX0, BF0, Z0, hz⟩ := boxes2 w W D J S ⟨o, 1, q, v, x, y, s⟩
  go_enter Try.func7, Try.ntmps7
  go_wp2_with fail
  change Calls _ _ _ (bxc w W D J S ⟨o, 1, q, v, x, y, s⟩) _
  generalize bxc w W D J S ⟨o, 1, q, v, x, y, s⟩ = w0 at BX0 BF0 Z0 hz ⊢
  refine (awake_any _).mono ?_
  rintro _ w1 ⟨rfl, z⟩
  have Z := Lib.hid (Z0.trans (z.mono (by omega)))
  have BX := Lib.hid (BX0.below z)
  have BF := Lib.hid (BF0.after z)
  have HZ0 := Lib.hid (show w.heap.size ≤ w0.heap.size by omega)
  clear z Z0 BX0 BF0 hz HZ0
  obtain ⟨gx, x_0, x_1, x_2, x_3⟩ := BX.out
  obtain ⟨a0, a1, a2, a3, a4, a5, a6⟩ := BF.out.cells
  have la := BF.out.lt
  simp only at a0 a1 a2 a3 a4 a5 a6
  go_wp2_with fail
  refine (Tells.of (ngoes_any W D J S A n c m ⟨o, 1, q, v, x, y, s⟩ _ HN.out) (v' := .bool true) (by rw [HG.out])).mono ?_
  rintro _ w2 ⟨rfl, z⟩
  clear gx x_0 x_1 x_2 x_3 a0 a1 a2 a3 a4 a5 a6 la
  replace Z := Lib.hid (Z.out.trans (z.mono Z.out.size))
  replace BX := Lib.hid (BX.out.below z)
  replace BF := Lib.hid (BF.out.after z)
  clear z
  obtain ⟨a0, a1, a2, a3, a4, a5, a6⟩ := BF.out.cells
  have la := BF.out.lt
  simp only at a0 a1 a2 a3 a4 a5 a6
  go_wp2
  go_ret
  exact ⟨rfl, Z.out⟩
set_option maxHeartbeats 1000000 in
theorem again_main (W D J S : Int) (A : Option Addr) (n c : Nat) (m : List Int) (f : Fr) (e : Int) (w : World) (hm : Rd w A m) (hn : m.length = n) (hs : n ≤ 500) (hf : UF f) (hp : f.pc = 1) (hg : goesN W D J S m f = true) (hne : ¬ e = f.x) : Tells 7 #[cf W D J S, .slice A n c, fv f, .int .u64 e] w (.bool true) := by
  obtain ⟨hk, hr, ho, h0, h4⟩ := goesN_iff.1 hg
  have hlong := okm_long10 hk
  obtain ⟨o, p, q, v, x, y, s⟩ := f
  simp only at hr ho hp hf hk hne
  subst hr hp
  obtain ⟨m1, hm1⟩ : ∃ m1, m1 = put m 2 e := ⟨_, rfl⟩
  have hk1 : okm W D J S m1 = true := by rw [hm1]; exact okm_put hk _ _
  have ea : at0 m1 2 = e := by rw [hm1]; exact at0_put _ (by omega) (by omega)
  have e1 := noteS_1n (w := q) (v := v) (x := x) (y := y) hk1 ho (by rw [ea]; exact hne)
  have hn1 : m1.length = n := by rw [hm1, len_put]; exact hn
  have hex : (e == x) = false := by simpa using hne
  have hd : decide ((500 : Int) < (n : Int)) = false := decide_eq_false (by omega)
  have hov : owesN ⟨o, 0, q, v, x, y, 0⟩ 0 = false := by simp [owesN]
  have HE1 := Lib.hid e1
  have HN1 := Lib.hid hn1
  have HM1 := Lib.hid hm1
  have HU := Lib.hid hf
  have HN := Lib.hid hn
  have HS := Lib.hid hs
  have HG := Lib.hid hg
  have LM0 := Lib.hid hm
  have HOV := Lib.hid hov
  clear hne hk hk1 ho h0 h4 hlong ea e1 hn1 hm1 hf hn hs hg hm hov
  obtain ⟨BX0, BF0, Z0, hz⟩ := boxes2 w W D J S ⟨o, 1, q, v, x, y, 0⟩
  go_enter Try.func7, Try.ntmps7
  go_wp2_with fail
  change Calls _ _ _ (bxc w W D J S ⟨o, 1, q, v, x, y, 0⟩) _
  generalize bxc w W D J S ⟨o, 1, q, v, x, y, 0⟩ = w0 at BX0 BF0 Z0 hz ⊢
  refine (awake_any _).mono ?_
  rintro _ w1 ⟨rfl, z⟩
  have Z := Lib.hid (Z0.trans (z.mono (by omega)))
  have BX := Lib.hid (BX0.below z)
  have BF := Lib.hid (BF0.after z)
  have HZ0 := Lib.hid (show w.heap.size ≤ w0.heap.size by omega)
  have LM := Lib.hid (LM0.out.below Z.out)
  clear LM0
  clear z Z0 BX0 BF0 hz HZ0
  obtain ⟨gx, x_0, x_1, x_2, x_3⟩ := BX.out
  obtain ⟨a0, a1, a2, a3, a4, a5, a6⟩ := BF.out.cells
  have la := BF.out.lt
  simp only at a0 a1 a2 a3 a4 a5 a6
  go_wp2_with fail
  refine (Tells.of (ngoes_any W D J S A n c m ⟨o, 1, q, v, x, y, 0⟩ _ HN.out) (v' := .bool true) (by rw [HG.out])).mono ?_
  rintro _ w2 ⟨rfl, z⟩
  clear gx x_0 x_1 x_2 x_3 a0 a1 a2 a3 a4 a5 a6 la
  replace Z := Lib.hid (Z.out.trans (z.mono Z.out.size))
  replace BX := Lib.hid (BX.out.below z)
  replace BF := Lib.hid (BF.out.after z)
  replace LM := Lib.hid (LM.out.below z)
  clear z
  obtain ⟨gx, x_0, x_1, x_2, x_3⟩ := BX.out
  obtain ⟨a0, a1, a2, a3, a4, a5, a6⟩ := BF.out.cells
  have la := BF.out.lt
  simp only at a0 a1 a2 a3 a4 a5 a6
  go_wp2_with fail
  refine (store_new A n c m 2 e _ LM.out HN.out HS.out).mono ?_
  rintro _ w3 ⟨g3, rfl, hg3, hb3, z⟩
  clear gx x_0 x_1 x_2 x_3 a0 a1 a2 a3 a4 a5 a6 la
  replace Z := Lib.hid (Z.out.trans (z.mono Z.out.size))
  replace BX := Lib.hid (BX.out.below z)
  replace BF := Lib.hid (BF.out.after z)
  replace LM := Lib.hid (LM.out.below z)
  have L1 := Lib.hid (show Rd w3 (some ⟨g3, 0, none⟩) m1 by rw [HM1.out]; exact hb3.rd)
  clear hg3 hb3 z
  obtain ⟨gx, x_0, x_1, x_2, x_3⟩ := BX.out
  obtain ⟨a0, a1, a2, a3, a4, a5, a6⟩ := BF.out.cells
  have la := BF.out.lt
  simp only at a0 a1 a2 a3 a4 a5 a6
  go_wp2_with fail
  refine (note_n (f := ⟨o, 1, q, v, x, y, 0⟩) L1.out HN1.out HS.out HU.out HE1.out).mono ?_
  rintro _ w4 ⟨A4, c4, rfl, hn4, z⟩
  clear gx x_0 x_1 x_2 x_3 a0 a1 a2 a3 a4 a5 a6 la
  replace Z := Lib.hid (Z.out.trans (z.mono Z.out.size))
  replace BX := Lib.hid (BX.out.below z)
  replace BF := Lib.hid (BF.out.after z)
  replace LM := Lib.hid (LM.out.below z)
  replace L1 := Lib.hid (L1.out.below z)
  have LA := Lib.hid hn4.rd
  clear hn4 z
  go_wp2_with fail
  refine (ret_of (same_any A4 (some ⟨g3, 0, none⟩) n c4 n n m1 m1 _ (LA.out.alloc _) (L1.out.alloc _) HN1.out HN1.out (by have := HS.out; omega)) (v' := .bool true) (by simp)).mono ?_
  rintro _ w5 ⟨rfl, z⟩
  have BG := Lib.hid ((Bf.new w4 ⟨o, 0, q, v, x, y, 0⟩).after z)
  replace z := keep_call z (bel_alloc w4 _)
  replace Z := Lib.hid (Z.out.trans (z.mono Z.out.size))
  replace BX := Lib.hid (BX.out.below z)
  replace BF := Lib.hid (BF.out.after z)
  replace LM := Lib.hid (LM.out.below z)
  replace L1 := Lib.hid (L1.out.below z)
  replace LA := Lib.hid (LA.out.below z)
  clear z
  obtain ⟨b0, b1, b2, b3, b4, b5, b6⟩ := BG.out.cells
  have lb := BG.out.lt
  simp only at b0 b1 b2 b3 b4 b5 b6
  go_wp2_with fail
  refine (Tells.of (over_any ⟨o, 0, q, v, x, y, 0⟩ _) (v' := .bool false) (by rfl)).mono ?_
  rintro _ w6 ⟨rfl, z⟩
  clear b0 b1 b2 b3 b4 b5 b6 lb
  replace Z := Lib.hid (Z.out.trans (z.mono Z.out.size))
  replace BX := Lib.hid (BX.out.below z)
  replace BF := Lib.hid (BF.out.after z)
  replace LM := Lib.hid (LM.out.below z)
  replace L1 := Lib.hid (L1.out.below z)
  replace LA := Lib.hid (LA.out.below z)
  replace BG := Lib.hid (BG.out.after z)
  clear z
  obtain ⟨b0, b1, b2, b3, b4, b5, b6⟩ := BG.out.cells
  have lb := BG.out.lt
  simp only at b0 b1 b2 b3 b4 b5 b6
  go_wp2_with fail
  refine (Tells.of (owes_any ⟨o, 0, q, v, x, y, 0⟩ 0 _ HU.out) (v' := .bool false) (by rw [HOV.out])).mono ?_
  rintro _ w7 ⟨rfl, z⟩
  clear b0 b1 b2 b3 b4 b5 b6 lb
  replace Z := Lib.hid (Z.out.trans (z.mono Z.out.size))
  replace BX := Lib.hid (BX.out.below z)
  replace BF := Lib.hid (BF.out.after z)
  replace LM := Lib.hid (LM.out.below z)
  replace L1 := Lib.hid (L1.out.below z)
  replace LA := Lib.hid (LA.out.below z)
  replace BG := Lib.hid (BG.out.after z)
  clear z
  go_wp2
  go_ret
  exact ⟨rfl, Z.out⟩
theorem again_walk (W D J S : Int) (A : Option Addr) (n c : Nat) (m : List Int) (f : Fr) (e : Int) (w : World) (hm : Rd w A m) (hn : m.length = n) (hf : UF f) : Tells 7 #[cf W D J S, .slice A n c, fv f, .int .u64 e] w (.bool true) := by
  by_cases hs : n ≤ 500
  · by_cases hp : f.pc = 1
    · cases hg : goesN W D J S m f
      · exact again_no W D J S A n c m f e w hn hs hp hg
      · by_cases he : e = f.x
        · subst he
          exact again_same W D J S A n c m f w hn hs hp hg
        · exact again_main W D J S A n c m f e w hm hn hs hf hp hg he
    · exact again_pc W D J S A n c f e w hs hp
  · exact again_big W D J S A n c f e w (by omega)
end Go.Proofs.Ytjddglandcpfpaa
