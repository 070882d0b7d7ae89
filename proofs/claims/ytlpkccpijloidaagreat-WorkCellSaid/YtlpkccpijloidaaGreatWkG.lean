/- A worker's step methods (layer 18): what it runs, spawns, and finishes. -/
import Derived.Test.YtlpkccpijloidaaGreatWkE
namespace Go.Proofs.YtlpkccpijloidaaGreat
set_option maxRecDepth 100000
open Go.RowKit Go.Deep
section
variable (k : Wc) {x : WkS} {m : List Int} {w : World}
set_option maxHeartbeats 4000000 in
theorem wrun_any (hp : x.pc = 9) (ok : Wok k x m) (h : Wst k x m [] w) : Calls Tryz.prog 41 #[.pointer (some ⟨k.g, 0, none⟩)] w (Wrt k (stepW k.W k.D k.J k.S k.T m k.me x k.d).2.1 (stepW k.W k.D k.J k.S k.T m k.me x k.d).1 (stepW k.W k.D k.J k.S k.T m k.me x k.d).2.2 w) := by
  obtain ⟨p, s, ⟨xo, xp, xq, xv, xx, xy, xr⟩, sp, lk⟩ := x
  simp only at hp
  subst hp
  rw [stepW_9]
  obtain ⟨A0, c0, SA0, cs0, E0, ce0, V0⟩ := h
  have H := Lib.hid V0.st
  have hg := V0.bx.lt
  clear V0
  have hsl : s.length ≤ 1000 := by have := ok.sl; simp only at this; omega
  cases hn : Fo.nextS k.T s with
  | mk a tk =>
  have hk := nextS_kind k.T s
  rw [hn] at hk
  simp only at hk ⊢
  rcases hk with rfl | rfl | rfl | rfl <;> simp only [Int.reduceEq, if_true, if_false]
  · go_enter Tryz.func41, Tryz.ntmps41
    go_wp2_with fail
    refine (wnext_any k hn ok.sm hsl H.out).mono ?_
    rintro _ w1 ⟨rfl, z1⟩
    have ZZ := Lib.hid z1
    have W1 := Lib.hid (H.out.after z1)
    clear z1
    have hfk := Fo.field_kind 0 tk w1
    go_wp2_with fail
    refine (wgocall_any k 0 1 0 W1.out).mono ?_
    rintro _ w2 ⟨rfl, W2, Z2⟩
    go_wp2
    go_end0
    exact ⟨rfl, W2, ((Kb.refl _ _).call hg ZZ.out).kd.trans Z2⟩
  · go_enter Tryz.func41, Tryz.ntmps41
    go_wp2_with fail
    refine (wnext_any k hn ok.sm hsl H.out).mono ?_
    rintro _ w1 ⟨rfl, z1⟩
    have ZZ := Lib.hid z1
    have W1 := Lib.hid (H.out.after z1)
    clear z1
    have hfk := Fo.field_kind 1 tk w1
    go_wp2_with fail
    refine (wdo_any k rfl ok.sm hsl W1.out).mono ?_
    rintro _ w2 ⟨rfl, W2, Z2⟩
    go_wp2
    go_end0
    exact ⟨rfl, W2, ((Kb.refl _ _).call hg ZZ.out).kd.trans Z2⟩
  · go_enter Tryz.func41, Tryz.ntmps41
    go_wp2_with fail
    refine (wnext_any k hn ok.sm hsl H.out).mono ?_
    rintro _ w1 ⟨rfl, z1⟩
    have ZZ := Lib.hid z1
    have W1 := Lib.hid (H.out.after z1)
    clear z1
    have hfk := Fo.field_kind 2 tk w1
    obtain ⟨A1, c1, SA1, cs1, E1, ce1, V1⟩ := W1.out
    have VV1 := Lib.hid V1
    obtain ⟨b0, b1, b2, b3, b4, b5, b6, b7, b8, b9, b10, b11, b12, b13, b14, b15, b16, b17, b18, b19⟩ := V1.bx.cells
    have fz1 := V1.bx.free
    have hl1 := V1.bx.lt
    simp only at b0 b1 b2 b3 b4 b5 b6 b7 b8 b9 b10 b11 b12 b13 b14 b15 b16 b17 b18 b19
    clear V1
    go_wp2
    go_end0
    exact ⟨rfl, (VV1.out.setPc 10).st, ((Kb.refl _ _).call hg ZZ.out).kd.trans ((Kb.refl _ _).set _ _).kd⟩
  · go_enter Tryz.func41, Tryz.ntmps41
    go_wp2_with fail
    refine (wnext_any k hn ok.sm hsl H.out).mono ?_
    rintro _ w1 ⟨rfl, z1⟩
    have ZZ := Lib.hid z1
    have W1 := Lib.hid (H.out.after z1)
    clear z1
    have hfk := Fo.field_kind 3 tk w1
    obtain ⟨A1, c1, SA1, cs1, E1, ce1, V1⟩ := W1.out
    have VV1 := Lib.hid V1
    obtain ⟨b0, b1, b2, b3, b4, b5, b6, b7, b8, b9, b10, b11, b12, b13, b14, b15, b16, b17, b18, b19⟩ := V1.bx.cells
    have fz1 := V1.bx.free
    have hl1 := V1.bx.lt
    simp only at b0 b1 b2 b3 b4 b5 b6 b7 b8 b9 b10 b11 b12 b13 b14 b15 b16 b17 b18 b19
    clear V1
    go_wp2
    go_end0
    exact ⟨rfl, (VV1.out.setPc 15).st, ((Kb.refl _ _).call hg ZZ.out).kd.trans ((Kb.refl _ _).set _ _).kd⟩
set_option maxHeartbeats 4000000 in
theorem wspawn_any (hp : x.pc = 10) (ok : Wok k x m) (h : Wst k x m [] w) : Calls Tryz.prog 42 #[.pointer (some ⟨k.g, 0, none⟩)] w (Wrt k (stepW k.W k.D k.J k.S k.T m k.me x k.d).2.1 (stepW k.W k.D k.J k.S k.T m k.me x k.d).1 (stepW k.W k.D k.J k.S k.T m k.me x k.d).2.2 w) := by
  obtain ⟨p, s, ⟨xo, xp, xq, xv, xx, xy, xr⟩, sp, lk⟩ := x
  simp only at hp
  subst hp
  rw [stepW_10]
  obtain ⟨A0, c0, SA0, cs0, E0, ce0, V0⟩ := h
  have H := Lib.hid V0.st
  have hg := V0.bx.lt
  clear V0
  have hsl : s.length ≤ 1000 := by have := ok.sl; simp only at this; omega
  cases hn : Fo.nextS k.T s with
  | mk a tk =>
  have hk := nextS_kind k.T s
  rw [hn] at hk
  simp only at hk ⊢
  by_cases h1 : a = 2
  · subst h1
    rw [if_pos rfl]
    clear hk
    go_enter Tryz.func42, Tryz.ntmps42
    go_wp2_with fail
    refine (wnext_any k hn ok.sm hsl H.out).mono ?_
    rintro _ w1 ⟨rfl, z1⟩
    have ZZ := Lib.hid z1
    have W1 := Lib.hid (H.out.after z1)
    clear z1
    have AB1 := Lib.hid (Fo.Ab.new w1 2 tk)
    have W2 := Lib.hid (W1.out.after (bel_alloc w1 (.cells #[.int .i64 2, .int .i64 tk] 88)))
    have Z2 := Lib.hid (((Kb.refl _ _).call hg ZZ.out).kd.trans ((Kb.refl k.g w1).call (Nat.lt_of_lt_of_le hg ZZ.out.size) (bel_alloc w1 (.cells #[.int .i64 2, .int .i64 tk] 88))).kd)
    have hne : w1.heap.size ≠ k.g := by have := ZZ.out.size; omega
    obtain ⟨q0, q1, q2, q3⟩ := AB1.out.cells
    go_wp2_with fail
    refine (wadd_any k 0 1 (inc_add m 0) rfl ok.hs W2.out).mono ?_
    rintro _ w3 ⟨rfl, W3, Z3⟩
    clear q0 q1 q2 q3
    have AB3 := Lib.hid (Ab_kd AB1.out Z3 hne)
    obtain ⟨q0, q1, q2, q3⟩ := AB3.out.cells
    go_wp2_with fail
    refine (wtell_any k 3 tk rfl (by simp) W3).mono ?_
    rintro _ w4 ⟨rfl, W4, Z4⟩
    clear q0 q1 q2 q3
    have AB4 := Lib.hid (Ab_kd AB3.out Z4 hne)
    obtain ⟨q0, q1, q2, q3⟩ := AB4.out.cells
    go_wp2_with fail
    refine (wdo_any k rfl ok.sm hsl W4).mono ?_
    rintro _ w5 ⟨rfl, W5, Z5⟩
    clear q0 q1 q2 q3
    have AB5 := Lib.hid (Ab_kd AB4.out Z5 hne)
    obtain ⟨q0, q1, q2, q3⟩ := AB5.out.cells
    go_wp2_with fail
    refine (wgocall_any k 11 0 _ W5).mono ?_
    rintro _ w6 ⟨rfl, W6, Z6⟩
    go_wp2
    go_end0
    refine ⟨rfl, ?_, Z2.out.trans (Z3.trans (Z4.trans (Z5.trans Z6)))⟩
    exact W6
  · have h2 : (a != 2) = true := by simpa using h1
    rw [if_neg h1]
    clear h1 hk
    go_enter Tryz.func42, Tryz.ntmps42
    go_wp2_with fail
    refine (wnext_any k hn ok.sm hsl H.out).mono ?_
    rintro _ w1 ⟨rfl, z1⟩
    have ZZ := Lib.hid z1
    have W1 := Lib.hid (H.out.after z1)
    clear z1
    have AB1 := Lib.hid (Fo.Ab.new w1 a tk)
    have W2 := Lib.hid (W1.out.after (bel_alloc w1 (.cells #[.int .i64 a, .int .i64 tk] 88)))
    have Z2 := Lib.hid (((Kb.refl _ _).call hg ZZ.out).kd.trans ((Kb.refl k.g w1).call (Nat.lt_of_lt_of_le hg ZZ.out.size) (bel_alloc w1 (.cells #[.int .i64 a, .int .i64 tk] 88))).kd)
    have hne : w1.heap.size ≠ k.g := by have := ZZ.out.size; omega
    obtain ⟨q0, q1, q2, q3⟩ := AB1.out.cells
    go_wp2_with fail
    refine (wgoto_any k 9 W2.out).mono ?_
    rintro _ w3 ⟨rfl, W3, Z3⟩
    go_wp2
    go_end0
    exact ⟨rfl, W3, Z2.out.trans Z3⟩
set_option maxHeartbeats 4000000 in
theorem wfinish_any (hp : x.pc = 15) (ok : Wok k x m) (h : Wst k x m [] w) : Calls Tryz.prog 47 #[.pointer (some ⟨k.g, 0, none⟩)] w (Wrt k (stepW k.W k.D k.J k.S k.T m k.me x k.d).2.1 (stepW k.W k.D k.J k.S k.T m k.me x k.d).1 (stepW k.W k.D k.J k.S k.T m k.me x k.d).2.2 w) := by
  obtain ⟨p, s, ⟨xo, xp, xq, xv, xx, xy, xr⟩, sp, lk⟩ := x
  simp only at hp
  subst hp
  rw [stepW_15]
  obtain ⟨A0, c0, SA0, cs0, E0, ce0, V0⟩ := h
  have H := Lib.hid V0.st
  have hg := V0.bx.lt
  clear V0
  have hsl : s.length ≤ 1000 := by have := ok.sl; simp only at this; omega
  cases hn : Fo.nextS k.T s with
  | mk a tk =>
  have hk := nextS_kind k.T s
  rw [hn] at hk
  simp only at hk ⊢
  by_cases h1 : a = 3
  · subst h1
    rw [if_pos rfl]
    clear hk
    by_cases e1 : at0 m 0 = 1
    · rw [if_pos e1]
      by_cases e2 : Fo.doS k.T s = []
      · rw [if_pos e2, e2]
        go_enter Tryz.func47, Tryz.ntmps47
        go_wp2_with fail
        refine (wnext_any k hn ok.sm hsl H.out).mono ?_
        rintro _ w1 ⟨rfl, z1⟩
        have ZZ := Lib.hid z1
        have W1 := Lib.hid (H.out.after z1)
        clear z1
        have AB1 := Lib.hid (Fo.Ab.new w1 3 tk)
        have W2 := Lib.hid (W1.out.after (bel_alloc w1 (.cells #[.int .i64 3, .int .i64 tk] 88)))
        have Z2 := Lib.hid (((Kb.refl _ _).call hg ZZ.out).kd.trans ((Kb.refl k.g w1).call (Nat.lt_of_lt_of_le hg ZZ.out.size) (bel_alloc w1 (.cells #[.int .i64 3, .int .i64 tk] 88))).kd)
        have hne : w1.heap.size ≠ k.g := by have := ZZ.out.size; omega
        obtain ⟨q0, q1, q2, q3⟩ := AB1.out.cells
        go_wp2_with fail
        refine (wtell_any k 4 tk rfl (by simp) W2.out).mono ?_
        rintro _ w3 ⟨rfl, W3, Z3⟩
        clear q0 q1 q2 q3
        go_wp2_with fail
        refine (wadd_any k 0 18446744073709551615 (dec_add m 0) e1 ok.hs W3).mono ?_
        rintro _ w4 ⟨rfl, W4, Z4⟩
        go_wp2_with fail
        refine (wtell_any k 5 0 rfl (by simp) W4).mono ?_
        rintro _ w5 ⟨rfl, W5, Z5⟩
        go_wp2_with fail
        refine (wdo_any k e2 ok.sm hsl W5).mono ?_
        rintro _ w6 ⟨rfl, W6, Z6⟩
        obtain ⟨A1, c1, SA1, cs1, E1, ce1, V1⟩ := W6
        have VV1 := Lib.hid V1
        obtain ⟨b0, b1, b2, b3, b4, b5, b6, b7, b8, b9, b10, b11, b12, b13, b14, b15, b16, b17, b18, b19⟩ := V1.bx.cells
        have fz1 := V1.bx.free
        have hl1 := V1.bx.lt
        simp only at b0 b1 b2 b3 b4 b5 b6 b7 b8 b9 b10 b11 b12 b13 b14 b15 b16 b17 b18 b19
        clear V1
        go_wp2_with fail
        refine (wgocall_any k 0 1 0 VV1.out.st).mono ?_
        rintro _ w7 ⟨rfl, W7, Z7⟩
        go_wp2
        go_end0
        exact ⟨rfl, W7, Z2.out.trans (Z3.trans (Z4.trans (Z5.trans (Z6.trans Z7))))⟩
      · rw [if_neg e2]
        obtain ⟨s2, hs2⟩ : ∃ s2, Fo.doS k.T s = s2 := ⟨_, rfl⟩
        rw [hs2] at e2 ⊢
        have e3 : ((s2.length : Int) == 0) = false := by cases s2 with | nil => exact absurd rfl e2 | cons y s2 => simp; omega
        clear e2
        go_enter Tryz.func47, Tryz.ntmps47
        go_wp2_with fail
        refine (wnext_any k hn ok.sm hsl H.out).mono ?_
        rintro _ w1 ⟨rfl, z1⟩
        have ZZ := Lib.hid z1
        have W1 := Lib.hid (H.out.after z1)
        clear z1
        have AB1 := Lib.hid (Fo.Ab.new w1 3 tk)
        have W2 := Lib.hid (W1.out.after (bel_alloc w1 (.cells #[.int .i64 3, .int .i64 tk] 88)))
        have Z2 := Lib.hid (((Kb.refl _ _).call hg ZZ.out).kd.trans ((Kb.refl k.g w1).call (Nat.lt_of_lt_of_le hg ZZ.out.size) (bel_alloc w1 (.cells #[.int .i64 3, .int .i64 tk] 88))).kd)
        have hne : w1.heap.size ≠ k.g := by have := ZZ.out.size; omega
        obtain ⟨q0, q1, q2, q3⟩ := AB1.out.cells
        go_wp2_with fail
        refine (wtell_any k 4 tk rfl (by simp) W2.out).mono ?_
        rintro _ w3 ⟨rfl, W3, Z3⟩
        clear q0 q1 q2 q3
        go_wp2_with fail
        refine (wadd_any k 0 18446744073709551615 (dec_add m 0) e1 ok.hs W3).mono ?_
        rintro _ w4 ⟨rfl, W4, Z4⟩
        go_wp2_with fail
        refine (wtell_any k 5 0 rfl (by simp) W4).mono ?_
        rintro _ w5 ⟨rfl, W5, Z5⟩
        go_wp2_with fail
        refine (wdo_any k hs2 ok.sm hsl W5).mono ?_
        rintro _ w6 ⟨rfl, W6, Z6⟩
        obtain ⟨A1, c1, SA1, cs1, E1, ce1, V1⟩ := W6
        have VV1 := Lib.hid V1
        obtain ⟨b0, b1, b2, b3, b4, b5, b6, b7, b8, b9, b10, b11, b12, b13, b14, b15, b16, b17, b18, b19⟩ := V1.bx.cells
        have fz1 := V1.bx.free
        have hl1 := V1.bx.lt
        simp only at b0 b1 b2 b3 b4 b5 b6 b7 b8 b9 b10 b11 b12 b13 b14 b15 b16 b17 b18 b19
        clear V1
        go_wp2_with fail
        refine (wgoto_any k 9 VV1.out.st).mono ?_
        rintro _ w7 ⟨rfl, W7, Z7⟩
        go_wp2
        go_end0
        exact ⟨rfl, W7, Z2.out.trans (Z3.trans (Z4.trans (Z5.trans (Z6.trans Z7))))⟩
    · rw [if_neg e1]
      have hb : (at0 m 0 == 1) = false := by simpa using e1
      clear e1
      obtain ⟨v, hv⟩ : ∃ v, at0 m 0 = v := ⟨_, rfl⟩
      rw [hv] at hb
      by_cases e2 : Fo.doS k.T s = []
      · rw [if_pos e2, e2]
        go_enter Tryz.func47, Tryz.ntmps47
        go_wp2_with fail
        refine (wnext_any k hn ok.sm hsl H.out).mono ?_
        rintro _ w1 ⟨rfl, z1⟩
        have ZZ := Lib.hid z1
        have W1 := Lib.hid (H.out.after z1)
        clear z1
        have AB1 := Lib.hid (Fo.Ab.new w1 3 tk)
        have W2 := Lib.hid (W1.out.after (bel_alloc w1 (.cells #[.int .i64 3, .int .i64 tk] 88)))
        have Z2 := Lib.hid (((Kb.refl _ _).call hg ZZ.out).kd.trans ((Kb.refl k.g w1).call (Nat.lt_of_lt_of_le hg ZZ.out.size) (bel_alloc w1 (.cells #[.int .i64 3, .int .i64 tk] 88))).kd)
        have hne : w1.heap.size ≠ k.g := by have := ZZ.out.size; omega
        obtain ⟨q0, q1, q2, q3⟩ := AB1.out.cells
        go_wp2_with fail
        refine (wtell_any k 4 tk rfl (by simp) W2.out).mono ?_
        rintro _ w3 ⟨rfl, W3, Z3⟩
        clear q0 q1 q2 q3
        go_wp2_with fail
        refine (wadd_any k 0 18446744073709551615 (dec_add m 0) hv ok.hs W3).mono ?_
        rintro _ w4 ⟨rfl, W4, Z4⟩
        go_wp2_with fail
        refine (wdo_any k e2 ok.sm hsl W4).mono ?_
        rintro _ w6 ⟨rfl, W6, Z6⟩
        obtain ⟨A1, c1, SA1, cs1, E1, ce1, V1⟩ := W6
        have VV1 := Lib.hid V1
        obtain ⟨b0, b1, b2, b3, b4, b5, b6, b7, b8, b9, b10, b11, b12, b13, b14, b15, b16, b17, b18, b19⟩ := V1.bx.cells
        have fz1 := V1.bx.free
        have hl1 := V1.bx.lt
        simp only at b0 b1 b2 b3 b4 b5 b6 b7 b8 b9 b10 b11 b12 b13 b14 b15 b16 b17 b18 b19
        clear V1
        go_wp2_with fail
        refine (wgocall_any k 0 1 0 VV1.out.st).mono ?_
        rintro _ w7 ⟨rfl, W7, Z7⟩
        go_wp2
        go_end0
        exact ⟨rfl, W7, Z2.out.trans (Z3.trans (Z4.trans ((Z6.trans Z7))))⟩
      · rw [if_neg e2]
        obtain ⟨s2, hs2⟩ : ∃ s2, Fo.doS k.T s = s2 := ⟨_, rfl⟩
        rw [hs2] at e2 ⊢
        have e3 : ((s2.length : Int) == 0) = false := by cases s2 with | nil => exact absurd rfl e2 | cons y s2 => simp; omega
        clear e2
        go_enter Tryz.func47, Tryz.ntmps47
        go_wp2_with fail
        refine (wnext_any k hn ok.sm hsl H.out).mono ?_
        rintro _ w1 ⟨rfl, z1⟩
        have ZZ := Lib.hid z1
        have W1 := Lib.hid (H.out.after z1)
        clear z1
        have AB1 := Lib.hid (Fo.Ab.new w1 3 tk)
        have W2 := Lib.hid (W1.out.after (bel_alloc w1 (.cells #[.int .i64 3, .int .i64 tk] 88)))
        have Z2 := Lib.hid (((Kb.refl _ _).call hg ZZ.out).kd.trans ((Kb.refl k.g w1).call (Nat.lt_of_lt_of_le hg ZZ.out.size) (bel_alloc w1 (.cells #[.int .i64 3, .int .i64 tk] 88))).kd)
        have hne : w1.heap.size ≠ k.g := by have := ZZ.out.size; omega
        obtain ⟨q0, q1, q2, q3⟩ := AB1.out.cells
        go_wp2_with fail
        refine (wtell_any k 4 tk rfl (by simp) W2.out).mono ?_
        rintro _ w3 ⟨rfl, W3, Z3⟩
        clear q0 q1 q2 q3
        go_wp2_with fail
        refine (wadd_any k 0 18446744073709551615 (dec_add m 0) hv ok.hs W3).mono ?_
        rintro _ w4 ⟨rfl, W4, Z4⟩
        go_wp2_with fail
        refine (wdo_any k hs2 ok.sm hsl W4).mono ?_
        rintro _ w6 ⟨rfl, W6, Z6⟩
        obtain ⟨A1, c1, SA1, cs1, E1, ce1, V1⟩ := W6
        have VV1 := Lib.hid V1
        obtain ⟨b0, b1, b2, b3, b4, b5, b6, b7, b8, b9, b10, b11, b12, b13, b14, b15, b16, b17, b18, b19⟩ := V1.bx.cells
        have fz1 := V1.bx.free
        have hl1 := V1.bx.lt
        simp only at b0 b1 b2 b3 b4 b5 b6 b7 b8 b9 b10 b11 b12 b13 b14 b15 b16 b17 b18 b19
        clear V1
        go_wp2_with fail
        refine (wgoto_any k 9 VV1.out.st).mono ?_
        rintro _ w7 ⟨rfl, W7, Z7⟩
        go_wp2
        go_end0
        exact ⟨rfl, W7, Z2.out.trans (Z3.trans (Z4.trans ((Z6.trans Z7))))⟩
  · have h2 : (a != 3) = true := by simpa using h1
    rw [if_neg h1]
    clear h1 hk
    go_enter Tryz.func47, Tryz.ntmps47
    go_wp2_with fail
    refine (wnext_any k hn ok.sm hsl H.out).mono ?_
    rintro _ w1 ⟨rfl, z1⟩
    have ZZ := Lib.hid z1
    have W1 := Lib.hid (H.out.after z1)
    clear z1
    have AB1 := Lib.hid (Fo.Ab.new w1 a tk)
    have W2 := Lib.hid (W1.out.after (bel_alloc w1 (.cells #[.int .i64 a, .int .i64 tk] 88)))
    have Z2 := Lib.hid (((Kb.refl _ _).call hg ZZ.out).kd.trans ((Kb.refl k.g w1).call (Nat.lt_of_lt_of_le hg ZZ.out.size) (bel_alloc w1 (.cells #[.int .i64 a, .int .i64 tk] 88))).kd)
    have hne : w1.heap.size ≠ k.g := by have := ZZ.out.size; omega
    obtain ⟨q0, q1, q2, q3⟩ := AB1.out.cells
    go_wp2_with fail
    refine (wgoto_any k 9 W2.out).mono ?_
    rintro _ w3 ⟨rfl, W3, Z3⟩
    go_wp2
    go_end0
    exact ⟨rfl, W3, Z2.out.trans Z3⟩
end
end Go.Proofs.YtlpkccpijloidaaGreat
