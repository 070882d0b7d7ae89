/- The walk of PushGoes. -/
import Derived.Test.YtjbmldadlpbiaaaPuK
import Derived.Test.YtjbmldadlpbiaaaFrQ
namespace Go.Proofs.Ytjbmldadlpbiaaa
open Go.RowKit Go.Deep
theorem goes_pc (W D J S : Int) (m : List Int) (f : Fr) (op k : Int) : goes W D J S m { f with pc := k } op k = false := by
  cases h : goes W D J S m { f with pc := k } op k
  · rfl
  · obtain ⟨_, _, _, _, h⟩ := goes_iff.1 h
    simp only at h; omega
theorem goes_more {W D J S : Int} {m : List Int} {f : Fr} {op k : Int} (h : goes W D J S m f op k = true) : goes W D J S m f op (k + 1) = true := by
  obtain ⟨a, b, c, d, e⟩ := goes_iff.1 h
  exact goes_iff.2 ⟨a, b, c, d, by omega⟩
theorem goes_op {W D J S : Int} {m : List Int} {f : Fr} {op k : Int} (h : ¬ f.op = op) : goes W D J S m f op k = false := by
  cases h' : goes W D J S m f op k
  · rfl
  · exact absurd (goes_iff.1 h').2.2.1 h
theorem goes_over {W D J S : Int} {m : List Int} {f : Fr} {op k : Int} (h : f.res ≠ 0) : goes W D J S m f op k = false := by
  cases h' : goes W D J S m f op k
  · rfl
  · exact absurd (goes_iff.1 h').2.1 h
theorem pushGoes_big (W D J S res : Int) (A : Option Addr) (n c : Nat) (f : Fr) (w : World) (hn : 500 < n) : Tells 8 #[cf W D J S, .slice A n c, fv f, .int .i64 res] w (.bool true) := by
  obtain ⟨BX, BF, Z0, hz⟩ := boxes2 w W D J S f
  obtain ⟨o, p, q, v, x, y, s⟩ := f
  have hd : decide ((500 : Int) < (n : Int)) = true := decide_eq_true (by omega)
  go_enter Try.func8, Try.ntmps8
  go_wp2_with fail
  change Calls _ _ _ (bxc w W D J S ⟨o, p, q, v, x, y, s⟩) _
  generalize bxc w W D J S ⟨o, p, q, v, x, y, s⟩ = w0 at BX BF Z0 hz ⊢
  refine (awake_any _).mono ?_
  rintro _ w1 ⟨rfl, z⟩
  have Z := Lib.hid (Z0.trans (z.mono (by omega)))
  clear z
  go_wp2
  go_ret
  exact ⟨rfl, Z.out⟩
theorem pushGoes_yy (W D J S res : Int) (A : Option Addr) (n c : Nat) (m : List Int) (f : Fr) (w : World) (hn : m.length = n) (hs : n ≤ 500) (hg : goes W D J S m f f.op 4 = true) (hr : res = 0) : Tells 8 #[cf W D J S, .slice A n c, fv f, .int .i64 res] w (.bool true) := by
  obtain ⟨BX0, BF0, Z0, hz⟩ := boxes2 w W D J S f
  obtain ⟨o, p, q, v, x, y, s⟩ := f
  simp only at hg
  have hd : decide ((500 : Int) < (n : Int)) = false := decide_eq_false (by omega)
  have E1 := Lib.hid hg
  have E2 := Lib.hid (goes_pc W D J S m ⟨o, p, q, v, x, y, s⟩ o 4)
  have E3 := Lib.hid (show goes W D J S m ⟨o, p, q, v, x, y, s⟩ o 5 = true from goes_more hg)
  obtain ⟨P, hP⟩ : ∃ P, IntKind.i64.wrap (o + 1) = P := ⟨_, rfl⟩
  have E4 := Lib.hid (goes_op (W := W) (D := D) (J := J) (S := S) (m := m) (f := ⟨o, p, q, v, x, y, s⟩) (op := P) (k := 4) (by rw [← hP, IntKind.wrap_i64]; show ¬ o = _; omega))
  have hr0 : (res == 0) = true := by simp [hr]
  clear hg hr
  go_enter Try.func8, Try.ntmps8
  go_wp2_with fail
  change Calls _ _ _ (bxc w W D J S ⟨o, p, q, v, x, y, s⟩) _
  generalize bxc w W D J S ⟨o, p, q, v, x, y, s⟩ = w0 at BX0 BF0 Z0 hz ⊢
  refine (awake_any _).mono ?_
  rintro _ w1 ⟨rfl, z⟩
  have Z := Lib.hid (Z0.trans (z.mono (by omega)))
  have BX := Lib.hid (BX0.below z)
  have BF := Lib.hid (BF0.after z)
  clear z Z0 BX0 BF0 hz
  obtain ⟨gx, x_0, x_1, x_2, x_3⟩ := BX.out
  obtain ⟨a0, a1, a2, a3, a4, a5, a6⟩ := BF.out.cells
  have la := BF.out.lt
  simp only at a0 a1 a2 a3 a4 a5 a6
  go_wp2_with fail
  refine (Tells.of (goes_any W D J S o 4 A n c m ⟨o, p, q, v, x, y, s⟩ _ hn) (v' := .bool true) (by rw [E1.out])).mono ?_
  rintro _ w2 ⟨rfl, z⟩
  clear gx x_0 x_1 x_2 x_3 a0 a1 a2 a3 a4 a5 a6 la
  replace Z := Lib.hid (Z.out.trans (z.mono Z.out.size))
  replace BX := Lib.hid (BX.out.below z)
  replace BF := Lib.hid (BF.out.after z)
  clear z
  obtain ⟨gx, x_0, x_1, x_2, x_3⟩ := BX.out
  obtain ⟨a0, a1, a2, a3, a4, a5, a6⟩ := BF.out.cells
  have la := BF.out.lt
  simp only at a0 a1 a2 a3 a4 a5 a6
  go_wp2_with fail
  refine (Tells.of (end_any ⟨o, p, q, v, x, y, s⟩ res v _) (v' := fv ⟨o, 0, q, v, 0, 0, res⟩) rfl).mono ?_
  rintro _ w3 ⟨rfl, z⟩
  clear gx x_0 x_1 x_2 x_3 a0 a1 a2 a3 a4 a5 a6 la
  have BG := Lib.hid ((Bf.new w2 ⟨o, 4, q, v, x, y, s⟩).after z)
  replace z := keep_call z (bel_alloc w2 _)
  replace Z := Lib.hid (Z.out.trans (z.mono Z.out.size))
  replace BX := Lib.hid (BX.out.below z)
  replace BF := Lib.hid (BF.out.after z)
  clear z
  obtain ⟨gx, x_0, x_1, x_2, x_3⟩ := BX.out
  obtain ⟨a0, a1, a2, a3, a4, a5, a6⟩ := BF.out.cells
  have la := BF.out.lt
  simp only at a0 a1 a2 a3 a4 a5 a6
  obtain ⟨b0, b1, b2, b3, b4, b5, b6⟩ := BG.out.cells
  have lb := BG.out.lt
  simp only at b0 b1 b2 b3 b4 b5 b6
  go_wp2_with fail
  refine (Tells.of (goes_any W D J S o 4 A n c m ⟨o, 4, q, v, x, y, s⟩ _ hn) (v' := .bool false) (by rw [E2.out])).mono ?_
  rintro _ w4 ⟨rfl, z⟩
  clear gx x_0 x_1 x_2 x_3 a0 a1 a2 a3 a4 a5 a6 la b0 b1 b2 b3 b4 b5 b6 lb
  have BO := Lib.hid ((Bf.new w3 ⟨o, 0, q, v, 0, 0, res⟩).after z)
  replace z := keep_call z (bel_alloc w3 _)
  replace Z := Lib.hid (Z.out.trans (z.mono Z.out.size))
  replace BX := Lib.hid (BX.out.below z)
  replace BF := Lib.hid (BF.out.after z)
  replace BG := Lib.hid (BG.out.after z)
  clear z
  obtain ⟨gx, x_0, x_1, x_2, x_3⟩ := BX.out
  obtain ⟨a0, a1, a2, a3, a4, a5, a6⟩ := BF.out.cells
  have la := BF.out.lt
  simp only at a0 a1 a2 a3 a4 a5 a6
  obtain ⟨b0, b1, b2, b3, b4, b5, b6⟩ := BG.out.cells
  have lb := BG.out.lt
  simp only at b0 b1 b2 b3 b4 b5 b6
  go_wp2_with fail
  refine (Tells.of (goes_any W D J S o 5 A n c m ⟨o, p, q, v, x, y, s⟩ _ hn) (v' := .bool true) (by rw [E3.out])).mono ?_
  rintro _ w5 ⟨rfl, z⟩
  clear gx x_0 x_1 x_2 x_3 a0 a1 a2 a3 a4 a5 a6 la b0 b1 b2 b3 b4 b5 b6 lb
  replace Z := Lib.hid (Z.out.trans (z.mono Z.out.size))
  replace BX := Lib.hid (BX.out.below z)
  replace BF := Lib.hid (BF.out.after z)
  replace BG := Lib.hid (BG.out.after z)
  replace BO := Lib.hid (BO.out.after z)
  clear z
  obtain ⟨gx, x_0, x_1, x_2, x_3⟩ := BX.out
  obtain ⟨a0, a1, a2, a3, a4, a5, a6⟩ := BF.out.cells
  have la := BF.out.lt
  simp only at a0 a1 a2 a3 a4 a5 a6
  obtain ⟨b0, b1, b2, b3, b4, b5, b6⟩ := BG.out.cells
  have lb := BG.out.lt
  simp only at b0 b1 b2 b3 b4 b5 b6
  go_wp2_with fail
  refine (Tells.of (goes_any W D J S P 4 A n c m ⟨o, p, q, v, x, y, s⟩ _ hn) (v' := .bool false) (by rw [E4.out])).mono ?_
  rintro _ w6 ⟨rfl, z⟩
  clear gx x_0 x_1 x_2 x_3 a0 a1 a2 a3 a4 a5 a6 la b0 b1 b2 b3 b4 b5 b6 lb
  replace Z := Lib.hid (Z.out.trans (z.mono Z.out.size))
  replace BX := Lib.hid (BX.out.below z)
  replace BF := Lib.hid (BF.out.after z)
  replace BG := Lib.hid (BG.out.after z)
  replace BO := Lib.hid (BO.out.after z)
  clear z
  go_wp2
  go_ret
  exact ⟨rfl, Z.out⟩
theorem pushGoes_yn (W D J S res : Int) (A : Option Addr) (n c : Nat) (m : List Int) (f : Fr) (w : World) (hn : m.length = n) (hs : n ≤ 500) (hg : goes W D J S m f f.op 4 = true) (hr : res ≠ 0) : Tells 8 #[cf W D J S, .slice A n c, fv f, .int .i64 res] w (.bool true) := by
  obtain ⟨BX0, BF0, Z0, hz⟩ := boxes2 w W D J S f
  obtain ⟨o, p, q, v, x, y, s⟩ := f
  simp only at hg
  have hd : decide ((500 : Int) < (n : Int)) = false := decide_eq_false (by omega)
  have E1 := Lib.hid hg
  have E2 := Lib.hid (goes_pc W D J S m ⟨o, p, q, v, x, y, s⟩ o 4)
  have E3 := Lib.hid (show goes W D J S m ⟨o, p, q, v, x, y, s⟩ o 5 = true from goes_more hg)
  obtain ⟨P, hP⟩ : ∃ P, IntKind.i64.wrap (o + 1) = P := ⟨_, rfl⟩
  have E4 := Lib.hid (goes_op (W := W) (D := D) (J := J) (S := S) (m := m) (f := ⟨o, p, q, v, x, y, s⟩) (op := P) (k := 4) (by rw [← hP, IntKind.wrap_i64]; show ¬ o = _; omega))
  have hr0 : (res == 0) = false := by simp [hr]
  have E5 := Lib.hid (goes_over (W := W) (D := D) (J := J) (S := S) (m := m) (f := ⟨o, 0, q, v, 0, 0, res⟩) (op := o) (k := 4) hr)
  clear hg hr
  go_enter Try.func8, Try.ntmps8
  go_wp2_with fail
  change Calls _ _ _ (bxc w W D J S ⟨o, p, q, v, x, y, s⟩) _
  generalize bxc w W D J S ⟨o, p, q, v, x, y, s⟩ = w0 at BX0 BF0 Z0 hz ⊢
  refine (awake_any _).mono ?_
  rintro _ w1 ⟨rfl, z⟩
  have Z := Lib.hid (Z0.trans (z.mono (by omega)))
  have BX := Lib.hid (BX0.below z)
  have BF := Lib.hid (BF0.after z)
  clear z Z0 BX0 BF0 hz
  obtain ⟨gx, x_0, x_1, x_2, x_3⟩ := BX.out
  obtain ⟨a0, a1, a2, a3, a4, a5, a6⟩ := BF.out.cells
  have la := BF.out.lt
  simp only at a0 a1 a2 a3 a4 a5 a6
  go_wp2_with fail
  refine (Tells.of (goes_any W D J S o 4 A n c m ⟨o, p, q, v, x, y, s⟩ _ hn) (v' := .bool true) (by rw [E1.out])).mono ?_
  rintro _ w2 ⟨rfl, z⟩
  clear gx x_0 x_1 x_2 x_3 a0 a1 a2 a3 a4 a5 a6 la
  replace Z := Lib.hid (Z.out.trans (z.mono Z.out.size))
  replace BX := Lib.hid (BX.out.below z)
  replace BF := Lib.hid (BF.out.after z)
  clear z
  obtain ⟨gx, x_0, x_1, x_2, x_3⟩ := BX.out
  obtain ⟨a0, a1, a2, a3, a4, a5, a6⟩ := BF.out.cells
  have la := BF.out.lt
  simp only at a0 a1 a2 a3 a4 a5 a6
  go_wp2_with fail
  refine (Tells.of (end_any ⟨o, p, q, v, x, y, s⟩ res v _) (v' := fv ⟨o, 0, q, v, 0, 0, res⟩) rfl).mono ?_
  rintro _ w3 ⟨rfl, z⟩
  clear gx x_0 x_1 x_2 x_3 a0 a1 a2 a3 a4 a5 a6 la
  have BG := Lib.hid ((Bf.new w2 ⟨o, 4, q, v, x, y, s⟩).after z)
  replace z := keep_call z (bel_alloc w2 _)
  replace Z := Lib.hid (Z.out.trans (z.mono Z.out.size))
  replace BX := Lib.hid (BX.out.below z)
  replace BF := Lib.hid (BF.out.after z)
  clear z
  obtain ⟨gx, x_0, x_1, x_2, x_3⟩ := BX.out
  obtain ⟨a0, a1, a2, a3, a4, a5, a6⟩ := BF.out.cells
  have la := BF.out.lt
  simp only at a0 a1 a2 a3 a4 a5 a6
  obtain ⟨b0, b1, b2, b3, b4, b5, b6⟩ := BG.out.cells
  have lb := BG.out.lt
  simp only at b0 b1 b2 b3 b4 b5 b6
  go_wp2_with fail
  refine (Tells.of (goes_any W D J S o 4 A n c m ⟨o, 4, q, v, x, y, s⟩ _ hn) (v' := .bool false) (by rw [E2.out])).mono ?_
  rintro _ w4 ⟨rfl, z⟩
  clear gx x_0 x_1 x_2 x_3 a0 a1 a2 a3 a4 a5 a6 la b0 b1 b2 b3 b4 b5 b6 lb
  have BO := Lib.hid ((Bf.new w3 ⟨o, 0, q, v, 0, 0, res⟩).after z)
  replace z := keep_call z (bel_alloc w3 _)
  replace Z := Lib.hid (Z.out.trans (z.mono Z.out.size))
  replace BX := Lib.hid (BX.out.below z)
  replace BF := Lib.hid (BF.out.after z)
  replace BG := Lib.hid (BG.out.after z)
  clear z
  obtain ⟨gx, x_0, x_1, x_2, x_3⟩ := BX.out
  obtain ⟨a0, a1, a2, a3, a4, a5, a6⟩ := BF.out.cells
  have la := BF.out.lt
  simp only at a0 a1 a2 a3 a4 a5 a6
  obtain ⟨b0, b1, b2, b3, b4, b5, b6⟩ := BG.out.cells
  have lb := BG.out.lt
  simp only at b0 b1 b2 b3 b4 b5 b6
  go_wp2_with fail
  refine (Tells.of (goes_any W D J S o 5 A n c m ⟨o, p, q, v, x, y, s⟩ _ hn) (v' := .bool true) (by rw [E3.out])).mono ?_
  rintro _ w5 ⟨rfl, z⟩
  clear gx x_0 x_1 x_2 x_3 a0 a1 a2 a3 a4 a5 a6 la b0 b1 b2 b3 b4 b5 b6 lb
  replace Z := Lib.hid (Z.out.trans (z.mono Z.out.size))
  replace BX := Lib.hid (BX.out.below z)
  replace BF := Lib.hid (BF.out.after z)
  replace BG := Lib.hid (BG.out.after z)
  replace BO := Lib.hid (BO.out.after z)
  clear z
  obtain ⟨gx, x_0, x_1, x_2, x_3⟩ := BX.out
  obtain ⟨a0, a1, a2, a3, a4, a5, a6⟩ := BF.out.cells
  have la := BF.out.lt
  simp only at a0 a1 a2 a3 a4 a5 a6
  obtain ⟨b0, b1, b2, b3, b4, b5, b6⟩ := BG.out.cells
  have lb := BG.out.lt
  simp only at b0 b1 b2 b3 b4 b5 b6
  go_wp2_with fail
  refine (Tells.of (goes_any W D J S P 4 A n c m ⟨o, p, q, v, x, y, s⟩ _ hn) (v' := .bool false) (by rw [E4.out])).mono ?_
  rintro _ w6 ⟨rfl, z⟩
  clear gx x_0 x_1 x_2 x_3 a0 a1 a2 a3 a4 a5 a6 la b0 b1 b2 b3 b4 b5 b6 lb
  replace Z := Lib.hid (Z.out.trans (z.mono Z.out.size))
  replace BX := Lib.hid (BX.out.below z)
  replace BF := Lib.hid (BF.out.after z)
  replace BG := Lib.hid (BG.out.after z)
  replace BO := Lib.hid (BO.out.after z)
  clear z
  obtain ⟨gx, x_0, x_1, x_2, x_3⟩ := BX.out
  obtain ⟨a0, a1, a2, a3, a4, a5, a6⟩ := BF.out.cells
  have la := BF.out.lt
  simp only at a0 a1 a2 a3 a4 a5 a6
  obtain ⟨d0, d1, d2, d3, d4, d5, d6⟩ := BO.out.cells
  have ld := BO.out.lt
  simp only at d0 d1 d2 d3 d4 d5 d6
  go_wp2_with fail
  refine (Tells.of (goes_any W D J S o 4 A n c m ⟨o, 0, q, v, 0, 0, res⟩ _ hn) (v' := .bool false) (by rw [E5.out])).mono ?_
  rintro _ w7 ⟨rfl, z⟩
  clear gx x_0 x_1 x_2 x_3 a0 a1 a2 a3 a4 a5 a6 la d0 d1 d2 d3 d4 d5 d6 ld
  replace Z := Lib.hid (Z.out.trans (z.mono Z.out.size))
  replace BX := Lib.hid (BX.out.below z)
  replace BF := Lib.hid (BF.out.after z)
  replace BG := Lib.hid (BG.out.after z)
  replace BO := Lib.hid (BO.out.after z)
  clear z
  go_wp2
  go_ret
  exact ⟨rfl, Z.out⟩
theorem pushGoes_ny (W D J S res : Int) (A : Option Addr) (n c : Nat) (m : List Int) (f : Fr) (w : World) (hn : m.length = n) (hs : n ≤ 500) (hg : goes W D J S m f f.op 4 = false) (hr : res = 0) : Tells 8 #[cf W D J S, .slice A n c, fv f, .int .i64 res] w (.bool true) := by
  obtain ⟨BX0, BF0, Z0, hz⟩ := boxes2 w W D J S f
  obtain ⟨o, p, q, v, x, y, s⟩ := f
  simp only at hg
  have hd : decide ((500 : Int) < (n : Int)) = false := decide_eq_false (by omega)
  have E1 := Lib.hid hg
  have E2 := Lib.hid (goes_pc W D J S m ⟨o, p, q, v, x, y, s⟩ o 4)
  have hr0 : (res == 0) = true := by simp [hr]
  clear hg hr
  go_enter Try.func8, Try.ntmps8
  go_wp2_with fail
  change Calls _ _ _ (bxc w W D J S ⟨o, p, q, v, x, y, s⟩) _
  generalize bxc w W D J S ⟨o, p, q, v, x, y, s⟩ = w0 at BX0 BF0 Z0 hz ⊢
  refine (awake_any _).mono ?_
  rintro _ w1 ⟨rfl, z⟩
  have Z := Lib.hid (Z0.trans (z.mono (by omega)))
  have BX := Lib.hid (BX0.below z)
  have BF := Lib.hid (BF0.after z)
  clear z Z0 BX0 BF0 hz
  obtain ⟨gx, x_0, x_1, x_2, x_3⟩ := BX.out
  obtain ⟨a0, a1, a2, a3, a4, a5, a6⟩ := BF.out.cells
  have la := BF.out.lt
  simp only at a0 a1 a2 a3 a4 a5 a6
  go_wp2_with fail
  refine (Tells.of (goes_any W D J S o 4 A n c m ⟨o, p, q, v, x, y, s⟩ _ hn) (v' := .bool false) (by rw [E1.out])).mono ?_
  rintro _ w2 ⟨rfl, z⟩
  clear gx x_0 x_1 x_2 x_3 a0 a1 a2 a3 a4 a5 a6 la
  replace Z := Lib.hid (Z.out.trans (z.mono Z.out.size))
  replace BX := Lib.hid (BX.out.below z)
  replace BF := Lib.hid (BF.out.after z)
  clear z
  obtain ⟨gx, x_0, x_1, x_2, x_3⟩ := BX.out
  obtain ⟨a0, a1, a2, a3, a4, a5, a6⟩ := BF.out.cells
  have la := BF.out.lt
  simp only at a0 a1 a2 a3 a4 a5 a6
  go_wp2_with fail
  refine (Tells.of (end_any ⟨o, p, q, v, x, y, s⟩ res v _) (v' := fv ⟨o, 0, q, v, 0, 0, res⟩) rfl).mono ?_
  rintro _ w3 ⟨rfl, z⟩
  clear gx x_0 x_1 x_2 x_3 a0 a1 a2 a3 a4 a5 a6 la
  have BG := Lib.hid ((Bf.new w2 ⟨o, 4, q, v, x, y, s⟩).after z)
  replace z := keep_call z (bel_alloc w2 _)
  replace Z := Lib.hid (Z.out.trans (z.mono Z.out.size))
  replace BX := Lib.hid (BX.out.below z)
  replace BF := Lib.hid (BF.out.after z)
  clear z
  obtain ⟨gx, x_0, x_1, x_2, x_3⟩ := BX.out
  obtain ⟨a0, a1, a2, a3, a4, a5, a6⟩ := BF.out.cells
  have la := BF.out.lt
  simp only at a0 a1 a2 a3 a4 a5 a6
  obtain ⟨b0, b1, b2, b3, b4, b5, b6⟩ := BG.out.cells
  have lb := BG.out.lt
  simp only at b0 b1 b2 b3 b4 b5 b6
  go_wp2_with fail
  refine (Tells.of (goes_any W D J S o 4 A n c m ⟨o, 4, q, v, x, y, s⟩ _ hn) (v' := .bool false) (by rw [E2.out])).mono ?_
  rintro _ w4 ⟨rfl, z⟩
  clear gx x_0 x_1 x_2 x_3 a0 a1 a2 a3 a4 a5 a6 la b0 b1 b2 b3 b4 b5 b6 lb
  have BO := Lib.hid ((Bf.new w3 ⟨o, 0, q, v, 0, 0, res⟩).after z)
  replace z := keep_call z (bel_alloc w3 _)
  replace Z := Lib.hid (Z.out.trans (z.mono Z.out.size))
  replace BX := Lib.hid (BX.out.below z)
  replace BF := Lib.hid (BF.out.after z)
  replace BG := Lib.hid (BG.out.after z)
  clear z
  go_wp2
  go_ret
  exact ⟨rfl, Z.out⟩
theorem pushGoes_nn (W D J S res : Int) (A : Option Addr) (n c : Nat) (m : List Int) (f : Fr) (w : World) (hn : m.length = n) (hs : n ≤ 500) (hg : goes W D J S m f f.op 4 = false) (hr : res ≠ 0) : Tells 8 #[cf W D J S, .slice A n c, fv f, .int .i64 res] w (.bool true) := by
  obtain ⟨BX0, BF0, Z0, hz⟩ := boxes2 w W D J S f
  obtain ⟨o, p, q, v, x, y, s⟩ := f
  simp only at hg
  have hd : decide ((500 : Int) < (n : Int)) = false := decide_eq_false (by omega)
  have E1 := Lib.hid hg
  have E2 := Lib.hid (goes_pc W D J S m ⟨o, p, q, v, x, y, s⟩ o 4)
  have hr0 : (res == 0) = false := by simp [hr]
  have E5 := Lib.hid (goes_over (W := W) (D := D) (J := J) (S := S) (m := m) (f := ⟨o, 0, q, v, 0, 0, res⟩) (op := o) (k := 4) hr)
  clear hg hr
  go_enter Try.func8, Try.ntmps8
  go_wp2_with fail
  change Calls _ _ _ (bxc w W D J S ⟨o, p, q, v, x, y, s⟩) _
  generalize bxc w W D J S ⟨o, p, q, v, x, y, s⟩ = w0 at BX0 BF0 Z0 hz ⊢
  refine (awake_any _).mono ?_
  rintro _ w1 ⟨rfl, z⟩
  have Z := Lib.hid (Z0.trans (z.mono (by omega)))
  have BX := Lib.hid (BX0.below z)
  have BF := Lib.hid (BF0.after z)
  clear z Z0 BX0 BF0 hz
  obtain ⟨gx, x_0, x_1, x_2, x_3⟩ := BX.out
  obtain ⟨a0, a1, a2, a3, a4, a5, a6⟩ := BF.out.cells
  have la := BF.out.lt
  simp only at a0 a1 a2 a3 a4 a5 a6
  go_wp2_with fail
  refine (Tells.of (goes_any W D J S o 4 A n c m ⟨o, p, q, v, x, y, s⟩ _ hn) (v' := .bool false) (by rw [E1.out])).mono ?_
  rintro _ w2 ⟨rfl, z⟩
  clear gx x_0 x_1 x_2 x_3 a0 a1 a2 a3 a4 a5 a6 la
  replace Z := Lib.hid (Z.out.trans (z.mono Z.out.size))
  replace BX := Lib.hid (BX.out.below z)
  replace BF := Lib.hid (BF.out.after z)
  clear z
  obtain ⟨gx, x_0, x_1, x_2, x_3⟩ := BX.out
  obtain ⟨a0, a1, a2, a3, a4, a5, a6⟩ := BF.out.cells
  have la := BF.out.lt
  simp only at a0 a1 a2 a3 a4 a5 a6
  go_wp2_with fail
  refine (Tells.of (end_any ⟨o, p, q, v, x, y, s⟩ res v _) (v' := fv ⟨o, 0, q, v, 0, 0, res⟩) rfl).mono ?_
  rintro _ w3 ⟨rfl, z⟩
  clear gx x_0 x_1 x_2 x_3 a0 a1 a2 a3 a4 a5 a6 la
  have BG := Lib.hid ((Bf.new w2 ⟨o, 4, q, v, x, y, s⟩).after z)
  replace z := keep_call z (bel_alloc w2 _)
  replace Z := Lib.hid (Z.out.trans (z.mono Z.out.size))
  replace BX := Lib.hid (BX.out.below z)
  replace BF := Lib.hid (BF.out.after z)
  clear z
  obtain ⟨gx, x_0, x_1, x_2, x_3⟩ := BX.out
  obtain ⟨a0, a1, a2, a3, a4, a5, a6⟩ := BF.out.cells
  have la := BF.out.lt
  simp only at a0 a1 a2 a3 a4 a5 a6
  obtain ⟨b0, b1, b2, b3, b4, b5, b6⟩ := BG.out.cells
  have lb := BG.out.lt
  simp only at b0 b1 b2 b3 b4 b5 b6
  go_wp2_with fail
  refine (Tells.of (goes_any W D J S o 4 A n c m ⟨o, 4, q, v, x, y, s⟩ _ hn) (v' := .bool false) (by rw [E2.out])).mono ?_
  rintro _ w4 ⟨rfl, z⟩
  clear gx x_0 x_1 x_2 x_3 a0 a1 a2 a3 a4 a5 a6 la b0 b1 b2 b3 b4 b5 b6 lb
  have BO := Lib.hid ((Bf.new w3 ⟨o, 0, q, v, 0, 0, res⟩).after z)
  replace z := keep_call z (bel_alloc w3 _)
  replace Z := Lib.hid (Z.out.trans (z.mono Z.out.size))
  replace BX := Lib.hid (BX.out.below z)
  replace BF := Lib.hid (BF.out.after z)
  replace BG := Lib.hid (BG.out.after z)
  clear z
  obtain ⟨gx, x_0, x_1, x_2, x_3⟩ := BX.out
  obtain ⟨a0, a1, a2, a3, a4, a5, a6⟩ := BF.out.cells
  have la := BF.out.lt
  simp only at a0 a1 a2 a3 a4 a5 a6
  obtain ⟨d0, d1, d2, d3, d4, d5, d6⟩ := BO.out.cells
  have ld := BO.out.lt
  simp only at d0 d1 d2 d3 d4 d5 d6
  go_wp2_with fail
  refine (Tells.of (goes_any W D J S o 4 A n c m ⟨o, 0, q, v, 0, 0, res⟩ _ hn) (v' := .bool false) (by rw [E5.out])).mono ?_
  rintro _ w5 ⟨rfl, z⟩
  clear gx x_0 x_1 x_2 x_3 a0 a1 a2 a3 a4 a5 a6 la d0 d1 d2 d3 d4 d5 d6 ld
  replace Z := Lib.hid (Z.out.trans (z.mono Z.out.size))
  replace BX := Lib.hid (BX.out.below z)
  replace BF := Lib.hid (BF.out.after z)
  replace BG := Lib.hid (BG.out.after z)
  replace BO := Lib.hid (BO.out.after z)
  clear z
  go_wp2
  go_ret
  exact ⟨rfl, Z.out⟩
theorem pushGoes_walk (W D J S res : Int) (A : Option Addr) (n c : Nat) (m : List Int) (f : Fr) (w : World) (hn : m.length = n) : Tells 8 #[cf W D J S, .slice A n c, fv f, .int .i64 res] w (.bool true) := by
  by_cases hs : n ≤ 500
  · cases hg : goes W D J S m f f.op 4
    · by_cases hr : res = 0
      · exact pushGoes_ny W D J S res A n c m f w hn hs hg hr
      · exact pushGoes_nn W D J S res A n c m f w hn hs hg hr
    · by_cases hr : res = 0
      · exact pushGoes_yy W D J S res A n c m f w hn hs hg hr
      · exact pushGoes_yn W D J S res A n c m f w hn hs hg hr
  · exact pushGoes_big W D J S res A n c f w (by omega)
end Go.Proofs.Ytjbmldadlpbiaaa
