/- A worker's step methods (layer 18), each as on lists: those that call, and those that add. -/
import Derived.Test.YtlpkccpijloidaaGreatWkD
namespace Go.Proofs.YtlpkccpijloidaaGreat
set_option maxRecDepth 100000
open Go.RowKit Go.Deep
/-- What a step wants of a worker and its cells. -/
structure Wok (k : Wc) (x : WkS) (m : List Int) : Prop where
  hs : m.length ≤ 500
  hu : UM m
  hf : UF x.f
  sm : Fo.Sm k.T
  sl : x.stk.length ≤ 900
  iw : I k.W
  im : I k.me
  ud : U k.d
  sp : I x.spins
  lk : I x.look
  lw : 1 ≤ k.W ∧ k.W ≤ 8
  ok : okw k.W k.D k.J k.S m k.me = true
theorem inc_add (m : List Int) (i : Int) : put m i ((at0 m i + 1) % 18446744073709551616) = incC m i := rfl
theorem dec_add (m : List Int) (i : Int) : put m i ((at0 m i + 18446744073709551615) % 18446744073709551616) = decC m i := by
  unfold decC
  congr 1
  omega
theorem Ab_kd {g b : Nat} {w w' : World} {i j : Int} (h : Fo.Ab w b i j) (hk : Kd g w w') (hne : b ≠ g) : Fo.Ab w' b i j := by
  refine (hk.others b h.lt hne fun c z q => ?_).trans h
  unfold Fo.Ab at h
  rw [h] at q
  injection q with q
  injection q with _ q _
  cases q
theorem nextS_kind (T : List Fo.Tsk) (s : List Fo.Itm) : (Fo.nextS T s).1 = 0 ∨ (Fo.nextS T s).1 = 1 ∨ (Fo.nextS T s).1 = 2 ∨ (Fo.nextS T s).1 = 3 := by
  unfold Fo.nextS
  split
  · split
    · rcases Fo.kind_at (T := T) (x := by assumption) with h | h | h
      · exact .inr (.inl h)
      · exact .inr (.inr (.inl h))
      · exact .inr (.inr (.inr h))
    · exact .inl rfl
  · exact .inl rfl
section
variable (k : Wc) {x : WkS} {m : List Int} {w : World}
set_option maxHeartbeats 4000000 in
theorem wpop_any (hp : x.pc = 0) (ok : Wok k x m) (h : Wst k x m [] w) : Calls Tryz.prog 33 #[.pointer (some ⟨k.g, 0, none⟩)] w (Wrt k (stepW k.W k.D k.J k.S k.T m k.me x k.d).2.1 (stepW k.W k.D k.J k.S k.T m k.me x k.d).1 (stepW k.W k.D k.J k.S k.T m k.me x k.d).2.2 w) := by
  obtain ⟨p, s, ⟨xo, xp, xq, xv, xx, xy, xr⟩, sp, lk⟩ := x
  simp only at hp
  subst hp
  rw [stepW_c (by omega)]
  have H := Lib.hid h
  clear h
  cases hc : callS k.W k.D k.J k.S m ⟨xo, xp, xq, xv, xx, xy, xr⟩ with
  | mk m1 f1 =>
  obtain ⟨fo, fp, fq, fv1, ffx, fy, fr⟩ := f1
  dsimp only
  by_cases h0 : fr = 0
  · have hb : ((⟨fo, fp, fq, fv1, ffx, fy, fr⟩ : Fr).res != 0) = false := by simp [h0]
    rw [if_pos h0]
    go_enter Tryz.func33, Tryz.ntmps33
    go_wp2_with fail
    refine (wends_any k hc hb ok.hs ok.hu ok.hf H.out).mono ?_
    rintro _ w1 ⟨rfl, W1, Z1⟩
    go_wp2
    go_end0
    exact ⟨rfl, W1, Z1⟩
  · have hb : ((⟨fo, fp, fq, fv1, ffx, fy, fr⟩ : Fr).res != 0) = true := by simp [h0]
    rw [if_neg h0]
    unfold endW
    simp only [Int.reduceEq, if_true, if_false]
    by_cases h1 : fr = 1
    · subst h1
      simp only [if_true]
      go_enter Tryz.func33, Tryz.ntmps33
      go_wp2_with fail
      refine (wends_any k hc hb ok.hs ok.hu ok.hf H.out).mono ?_
      rintro _ w1 ⟨rfl, W1, Z1⟩
      obtain ⟨A1, c1, SA1, cs1, E1, ce1, V1⟩ := W1
      have VV1 := Lib.hid V1
      obtain ⟨b0, b1, b2, b3, b4, b5, b6, b7, b8, b9, b10, b11, b12, b13, b14, b15, b16, b17, b18, b19⟩ := V1.bx.cells
      have fz1 := V1.bx.free
      have hl1 := V1.bx.lt
      simp only at b0 b1 b2 b3 b4 b5 b6 b7 b8 b9 b10 b11 b12 b13 b14 b15 b16 b17 b18 b19
      clear V1
      go_wp2_with fail
      refine (wstart_any k rfl rfl rfl ok.sm (by have := ok.sl; simp only at this ⊢; omega) (by simp) VV1.out.st).mono ?_
      rintro _ w2 ⟨rfl, W2, Z2⟩
      go_wp2_with fail
      refine (wgoto_any k 9 W2).mono ?_
      rintro _ w3 ⟨rfl, W3, Z3⟩
      go_wp2
      go_end0
      exact ⟨rfl, W3, Z1.trans (Z2.trans Z3)⟩
    · have h1' : (fr != 1) = true := by simpa using h1
      rw [if_neg h1]
      go_enter Tryz.func33, Tryz.ntmps33
      go_wp2_with fail
      refine (wends_any k hc hb ok.hs ok.hu ok.hf H.out).mono ?_
      rintro _ w1 ⟨rfl, W1, Z1⟩
      obtain ⟨A1, c1, SA1, cs1, E1, ce1, V1⟩ := W1
      have VV1 := Lib.hid V1
      obtain ⟨b0, b1, b2, b3, b4, b5, b6, b7, b8, b9, b10, b11, b12, b13, b14, b15, b16, b17, b18, b19⟩ := V1.bx.cells
      have fz1 := V1.bx.free
      have hl1 := V1.bx.lt
      simp only at b0 b1 b2 b3 b4 b5 b6 b7 b8 b9 b10 b11 b12 b13 b14 b15 b16 b17 b18 b19
      clear V1
      go_wp2_with fail
      refine (wgoto_any k 1 VV1.out.st).mono ?_
      rintro _ w2 ⟨rfl, W2, Z2⟩
      go_wp2
      go_end0
      exact ⟨rfl, W2, Z1.trans Z2⟩
set_option maxHeartbeats 4000000 in
theorem wover_any (hp : x.pc = 12) (ok : Wok k x m) (h : Wst k x m [] w) : Calls Tryz.prog 44 #[.pointer (some ⟨k.g, 0, none⟩)] w (Wrt k (stepW k.W k.D k.J k.S k.T m k.me x k.d).2.1 (stepW k.W k.D k.J k.S k.T m k.me x k.d).1 (stepW k.W k.D k.J k.S k.T m k.me x k.d).2.2 w) := by
  obtain ⟨p, s, ⟨xo, xp, xq, xv, xx, xy, xr⟩, sp, lk⟩ := x
  simp only at hp
  subst hp
  rw [stepW_c (by omega)]
  have H := Lib.hid h
  clear h
  cases hc : callS k.W k.D k.J k.S m ⟨xo, xp, xq, xv, xx, xy, xr⟩ with
  | mk m1 f1 =>
  obtain ⟨fo, fp, fq, fv1, ffx, fy, fr⟩ := f1
  dsimp only
  by_cases h0 : fr = 0
  · have hb : ((⟨fo, fp, fq, fv1, ffx, fy, fr⟩ : Fr).res != 0) = false := by simp [h0]
    rw [if_pos h0]
    go_enter Tryz.func44, Tryz.ntmps44
    go_wp2_with fail
    refine (wends_any k hc hb ok.hs ok.hu ok.hf H.out).mono ?_
    rintro _ w1 ⟨rfl, W1, Z1⟩
    go_wp2
    go_end0
    exact ⟨rfl, W1, Z1⟩
  · have hb : ((⟨fo, fp, fq, fv1, ffx, fy, fr⟩ : Fr).res != 0) = true := by simp [h0]
    rw [if_neg h0]
    unfold endW
    simp only [Int.reduceEq, if_true, if_false]
    by_cases h1 : fr = 2
    · subst h1
      simp only [if_true]
      go_enter Tryz.func44, Tryz.ntmps44
      go_wp2_with fail
      refine (wends_any k hc hb ok.hs ok.hu ok.hf H.out).mono ?_
      rintro _ w1 ⟨rfl, W1, Z1⟩
      obtain ⟨A1, c1, SA1, cs1, E1, ce1, V1⟩ := W1
      have VV1 := Lib.hid V1
      obtain ⟨b0, b1, b2, b3, b4, b5, b6, b7, b8, b9, b10, b11, b12, b13, b14, b15, b16, b17, b18, b19⟩ := V1.bx.cells
      have fz1 := V1.bx.free
      have hl1 := V1.bx.lt
      simp only at b0 b1 b2 b3 b4 b5 b6 b7 b8 b9 b10 b11 b12 b13 b14 b15 b16 b17 b18 b19
      clear V1
      go_wp2_with fail
      refine (wstart_any k rfl rfl rfl ok.sm (by have := ok.sl; simp only at this ⊢; omega) (by simp) VV1.out.st).mono ?_
      rintro _ w2 ⟨rfl, W2, Z2⟩
      go_wp2_with fail
      refine (wgoto_any k 9 W2).mono ?_
      rintro _ w3 ⟨rfl, W3, Z3⟩
      go_wp2
      go_end0
      exact ⟨rfl, W3, Z1.trans (Z2.trans Z3)⟩
    · have h1' : (fr != 2) = true := by simpa using h1
      rw [if_neg h1]
      go_enter Tryz.func44, Tryz.ntmps44
      go_wp2_with fail
      refine (wends_any k hc hb ok.hs ok.hu ok.hf H.out).mono ?_
      rintro _ w1 ⟨rfl, W1, Z1⟩
      obtain ⟨A1, c1, SA1, cs1, E1, ce1, V1⟩ := W1
      have VV1 := Lib.hid V1
      obtain ⟨b0, b1, b2, b3, b4, b5, b6, b7, b8, b9, b10, b11, b12, b13, b14, b15, b16, b17, b18, b19⟩ := V1.bx.cells
      have fz1 := V1.bx.free
      have hl1 := V1.bx.lt
      simp only at b0 b1 b2 b3 b4 b5 b6 b7 b8 b9 b10 b11 b12 b13 b14 b15 b16 b17 b18 b19
      clear V1
      go_wp2_with fail
      refine (wgoto_any k 13 VV1.out.st).mono ?_
      rintro _ w2 ⟨rfl, W2, Z2⟩
      go_wp2
      go_end0
      exact ⟨rfl, W2, Z1.trans Z2⟩
set_option maxHeartbeats 4000000 in
theorem wpush_any (hp : x.pc = 11) (ok : Wok k x m) (h : Wst k x m [] w) : Calls Tryz.prog 43 #[.pointer (some ⟨k.g, 0, none⟩)] w (Wrt k (stepW k.W k.D k.J k.S k.T m k.me x k.d).2.1 (stepW k.W k.D k.J k.S k.T m k.me x k.d).1 (stepW k.W k.D k.J k.S k.T m k.me x k.d).2.2 w) := by
  obtain ⟨p, s, ⟨xo, xp, xq, xv, xx, xy, xr⟩, sp, lk⟩ := x
  simp only at hp
  subst hp
  rw [stepW_c (by omega)]
  have H := Lib.hid h
  clear h
  cases hc : callS k.W k.D k.J k.S m ⟨xo, xp, xq, xv, xx, xy, xr⟩ with
  | mk m1 f1 =>
  obtain ⟨fo, fp, fq, fv1, ffx, fy, fr⟩ := f1
  dsimp only
  by_cases h0 : fr = 0
  · have hb : ((⟨fo, fp, fq, fv1, ffx, fy, fr⟩ : Fr).res != 0) = false := by simp [h0]
    rw [if_pos h0]
    go_enter Tryz.func43, Tryz.ntmps43
    go_wp2_with fail
    refine (wends_any k hc hb ok.hs ok.hu ok.hf H.out).mono ?_
    rintro _ w1 ⟨rfl, W1, Z1⟩
    go_wp2
    go_end0
    exact ⟨rfl, W1, Z1⟩
  · have hb : ((⟨fo, fp, fq, fv1, ffx, fy, fr⟩ : Fr).res != 0) = true := by simp [h0]
    rw [if_neg h0]
    unfold endW
    simp only [Int.reduceEq, if_true, if_false]
    by_cases h1 : fr = 2
    · subst h1
      simp only [if_true]
      go_enter Tryz.func43, Tryz.ntmps43
      go_wp2_with fail
      refine (wends_any k hc hb ok.hs ok.hu ok.hf H.out).mono ?_
      rintro _ w1 ⟨rfl, W1, Z1⟩
      obtain ⟨A1, c1, SA1, cs1, E1, ce1, V1⟩ := W1
      have VV1 := Lib.hid V1
      obtain ⟨b0, b1, b2, b3, b4, b5, b6, b7, b8, b9, b10, b11, b12, b13, b14, b15, b16, b17, b18, b19⟩ := V1.bx.cells
      have fz1 := V1.bx.free
      have hl1 := V1.bx.lt
      simp only at b0 b1 b2 b3 b4 b5 b6 b7 b8 b9 b10 b11 b12 b13 b14 b15 b16 b17 b18 b19
      clear V1
      go_wp2_with fail
      refine (wgocall_any k 12 3 fv1 VV1.out.st).mono ?_
      rintro _ w2 ⟨rfl, W2, Z2⟩
      go_wp2
      go_end0
      exact ⟨rfl, W2, Z1.trans Z2⟩
    · have h1' : (fr != 2) = true := by simpa using h1
      rw [if_neg h1]
      go_enter Tryz.func43, Tryz.ntmps43
      go_wp2_with fail
      refine (wends_any k hc hb ok.hs ok.hu ok.hf H.out).mono ?_
      rintro _ w1 ⟨rfl, W1, Z1⟩
      obtain ⟨A1, c1, SA1, cs1, E1, ce1, V1⟩ := W1
      have VV1 := Lib.hid V1
      obtain ⟨b0, b1, b2, b3, b4, b5, b6, b7, b8, b9, b10, b11, b12, b13, b14, b15, b16, b17, b18, b19⟩ := V1.bx.cells
      have fz1 := V1.bx.free
      have hl1 := V1.bx.lt
      simp only at b0 b1 b2 b3 b4 b5 b6 b7 b8 b9 b10 b11 b12 b13 b14 b15 b16 b17 b18 b19
      clear V1
      go_wp2_with fail
      refine (wgoto_any k 13 VV1.out.st).mono ?_
      rintro _ w2 ⟨rfl, W2, Z2⟩
      go_wp2
      go_end0
      exact ⟨rfl, W2, Z1.trans Z2⟩
set_option maxHeartbeats 4000000 in
theorem wstepwake_any (hp : x.pc = 14) (ok : Wok k x m) (h : Wst k x m [] w) : Calls Tryz.prog 46 #[.pointer (some ⟨k.g, 0, none⟩)] w (Wrt k (stepW k.W k.D k.J k.S k.T m k.me x k.d).2.1 (stepW k.W k.D k.J k.S k.T m k.me x k.d).1 (stepW k.W k.D k.J k.S k.T m k.me x k.d).2.2 w) := by
  obtain ⟨p, s, ⟨xo, xp, xq, xv, xx, xy, xr⟩, sp, lk⟩ := x
  simp only at hp
  subst hp
  rw [stepW_c (by omega)]
  have H := Lib.hid h
  clear h
  cases hc : callS k.W k.D k.J k.S m ⟨xo, xp, xq, xv, xx, xy, xr⟩ with
  | mk m1 f1 =>
  obtain ⟨fo, fp, fq, fv1, ffx, fy, fr⟩ := f1
  dsimp only
  by_cases h0 : fr = 0
  · have hb : ((⟨fo, fp, fq, fv1, ffx, fy, fr⟩ : Fr).res != 0) = false := by simp [h0]
    rw [if_pos h0]
    go_enter Tryz.func46, Tryz.ntmps46
    go_wp2_with fail
    refine (wends_any k hc hb ok.hs ok.hu ok.hf H.out).mono ?_
    rintro _ w1 ⟨rfl, W1, Z1⟩
    go_wp2
    go_end0
    exact ⟨rfl, W1, Z1⟩
  · have hb : ((⟨fo, fp, fq, fv1, ffx, fy, fr⟩ : Fr).res != 0) = true := by simp [h0]
    rw [if_neg h0]
    unfold endW
    simp only [Int.reduceEq, if_false]
    go_enter Tryz.func46, Tryz.ntmps46
    go_wp2_with fail
    refine (wends_any k hc hb ok.hs ok.hu ok.hf H.out).mono ?_
    rintro _ w1 ⟨rfl, W1, Z1⟩
    go_wp2_with fail
    refine (wgoto_any k 9 W1).mono ?_
    rintro _ w2 ⟨rfl, W2, Z2⟩
    go_wp2
    go_end0
    exact ⟨rfl, W2, Z1.trans Z2⟩
set_option maxHeartbeats 4000000 in
theorem wcommit_any (hp : x.pc = 8) (ok : Wok k x m) (h : Wst k x m [] w) : Calls Tryz.prog 40 #[.pointer (some ⟨k.g, 0, none⟩)] w (Wrt k (stepW k.W k.D k.J k.S k.T m k.me x k.d).2.1 (stepW k.W k.D k.J k.S k.T m k.me x k.d).1 (stepW k.W k.D k.J k.S k.T m k.me x k.d).2.2 w) := by
  obtain ⟨p, s, ⟨xo, xp, xq, xv, xx, xy, xr⟩, sp, lk⟩ := x
  simp only at hp
  subst hp
  rw [stepW_c (by omega)]
  have H := Lib.hid h
  clear h
  cases hc : callS k.W k.D k.J k.S m ⟨xo, xp, xq, xv, xx, xy, xr⟩ with
  | mk m1 f1 =>
  obtain ⟨fo, fp, fq, fv1, ffx, fy, fr⟩ := f1
  dsimp only
  by_cases h0 : fr = 0
  · have hb : ((⟨fo, fp, fq, fv1, ffx, fy, fr⟩ : Fr).res != 0) = false := by simp [h0]
    rw [if_pos h0]
    go_enter Tryz.func40, Tryz.ntmps40
    go_wp2_with fail
    refine (wends_any k hc hb ok.hs ok.hu ok.hf H.out).mono ?_
    rintro _ w1 ⟨rfl, W1, Z1⟩
    go_wp2
    go_end0
    exact ⟨rfl, W1, Z1⟩
  · have hb : ((⟨fo, fp, fq, fv1, ffx, fy, fr⟩ : Fr).res != 0) = true := by simp [h0]
    rw [if_neg h0]
    unfold endW
    simp only [Int.reduceEq, if_true, if_false]
    go_enter Tryz.func40, Tryz.ntmps40
    go_wp2_with fail
    refine (wends_any k hc hb ok.hs ok.hu ok.hf H.out).mono ?_
    rintro _ w1 ⟨rfl, W1, Z1⟩
    go_wp2_with fail
    refine (wgoto_any k 1 W1).mono ?_
    rintro _ w2 ⟨rfl, W2, Z2⟩
    go_wp2
    go_end0
    exact ⟨rfl, W2, Z1.trans Z2⟩
set_option maxHeartbeats 4000000 in
theorem wprep_any (hp : x.pc = 5) (ok : Wok k x m) (h : Wst k x m [] w) : Calls Tryz.prog 37 #[.pointer (some ⟨k.g, 0, none⟩)] w (Wrt k (stepW k.W k.D k.J k.S k.T m k.me x k.d).2.1 (stepW k.W k.D k.J k.S k.T m k.me x k.d).1 (stepW k.W k.D k.J k.S k.T m k.me x k.d).2.2 w) := by
  obtain ⟨p, s, ⟨xo, xp, xq, xv, xx, xy, xr⟩, sp, lk⟩ := x
  simp only at hp
  subst hp
  rw [stepW_5]
  have H := Lib.hid h
  clear h
  cases hc : callS k.W k.D k.J k.S m ⟨xo, xp, xq, xv, xx, xy, xr⟩ with
  | mk m1 f1 =>
  obtain ⟨fo, fp, fq, fv1, ffx, fy, fr⟩ := f1
  dsimp only
  obtain ⟨b, hb⟩ : ∃ b, ((⟨fo, fp, fq, fv1, ffx, fy, fr⟩ : Fr).res != 0) = b := ⟨_, rfl⟩
  go_enter Tryz.func37, Tryz.ntmps37
  go_wp2_with fail
  refine (wends_any k hc hb ok.hs ok.hu ok.hf H.out).mono ?_
  rintro _ w1 ⟨rfl, W1, Z1⟩
  obtain ⟨A1, c1, SA1, cs1, E1, ce1, V1⟩ := W1
  have VV1 := Lib.hid V1
  obtain ⟨b0, b1, b2, b3, b4, b5, b6, b7, b8, b9, b10, b11, b12, b13, b14, b15, b16, b17, b18, b19⟩ := V1.bx.cells
  have fz1 := V1.bx.free
  have hl1 := V1.bx.lt
  simp only at b0 b1 b2 b3 b4 b5 b6 b7 b8 b9 b10 b11 b12 b13 b14 b15 b16 b17 b18 b19
  clear V1
  go_wp2
  go_end0
  exact ⟨rfl, (VV1.out.setPc 6).st, Z1.trans ((Kb.refl _ _).set _ _).kd⟩
set_option maxHeartbeats 4000000 in
theorem wseek_any (hp : x.pc = 1) (ok : Wok k x m) (h : Wst k x m [] w) : Calls Tryz.prog 34 #[.pointer (some ⟨k.g, 0, none⟩)] w (Wrt k (stepW k.W k.D k.J k.S k.T m k.me x k.d).2.1 (stepW k.W k.D k.J k.S k.T m k.me x k.d).1 (stepW k.W k.D k.J k.S k.T m k.me x k.d).2.2 w) := by
  obtain ⟨p, s, ⟨xo, xp, xq, xv, xx, xy, xr⟩, sp, lk⟩ := x
  simp only at hp
  subst hp
  rw [stepW_1]
  have H := Lib.hid h
  clear h
  go_enter Tryz.func34, Tryz.ntmps34
  go_wp2_with fail
  refine (wadd_any k 1 1 (inc_add m 1) rfl ok.hs H.out).mono ?_
  rintro _ w1 ⟨rfl, W1, Z1⟩
  obtain ⟨A1, c1, SA1, cs1, E1, ce1, V1⟩ := W1
  have VV1 := Lib.hid V1
  obtain ⟨b0, b1, b2, b3, b4, b5, b6, b7, b8, b9, b10, b11, b12, b13, b14, b15, b16, b17, b18, b19⟩ := V1.bx.cells
  have fz1 := V1.bx.free
  have hl1 := V1.bx.lt
  simp only at b0 b1 b2 b3 b4 b5 b6 b7 b8 b9 b10 b11 b12 b13 b14 b15 b16 b17 b18 b19
  clear V1
  go_wp2_with fail
  refine (wgocall_any k 2 4 0 (VV1.out.setSp k.S).st).mono ?_
  rintro _ w2 ⟨rfl, W2, Z2⟩
  go_wp2
  go_end0
  exact ⟨rfl, W2, Z1.trans (((Kb.refl _ _).set _ _).kd.trans Z2)⟩
set_option maxHeartbeats 4000000 in
theorem wleave_any (hp : x.pc = 6) (ok : Wok k x m) (h : Wst k x m [] w) : Calls Tryz.prog 38 #[.pointer (some ⟨k.g, 0, none⟩)] w (Wrt k (stepW k.W k.D k.J k.S k.T m k.me x k.d).2.1 (stepW k.W k.D k.J k.S k.T m k.me x k.d).1 (stepW k.W k.D k.J k.S k.T m k.me x k.d).2.2 w) := by
  obtain ⟨p, s, ⟨xo, xp, xq, xv, xx, xy, xr⟩, sp, lk⟩ := x
  simp only at hp
  subst hp
  rw [stepW_6]
  have H := Lib.hid h
  clear h
  go_enter Tryz.func38, Tryz.ntmps38
  go_wp2_with fail
  refine (wadd_any k 1 18446744073709551615 (dec_add m 1) rfl ok.hs H.out).mono ?_
  rintro _ w1 ⟨rfl, W1, Z1⟩
  obtain ⟨A1, c1, SA1, cs1, E1, ce1, V1⟩ := W1
  have VV1 := Lib.hid V1
  obtain ⟨b0, b1, b2, b3, b4, b5, b6, b7, b8, b9, b10, b11, b12, b13, b14, b15, b16, b17, b18, b19⟩ := V1.bx.cells
  have fz1 := V1.bx.free
  have hl1 := V1.bx.lt
  simp only at b0 b1 b2 b3 b4 b5 b6 b7 b8 b9 b10 b11 b12 b13 b14 b15 b16 b17 b18 b19
  clear V1
  go_wp2
  go_end0
  exact ⟨rfl, ((VV1.out.setPc 7).setLk 0).st, Z1.trans (((Kb.refl _ _).set _ _).set _ _).kd⟩
set_option maxHeartbeats 4000000 in
theorem wfound_any (hp : x.pc = 4) (ok : Wok k x m) (h : Wst k x m [] w) : Calls Tryz.prog 36 #[.pointer (some ⟨k.g, 0, none⟩)] w (Wrt k (stepW k.W k.D k.J k.S k.T m k.me x k.d).2.1 (stepW k.W k.D k.J k.S k.T m k.me x k.d).1 (stepW k.W k.D k.J k.S k.T m k.me x k.d).2.2 w) := by
  obtain ⟨p, s, ⟨xo, xp, xq, xv, xx, xy, xr⟩, sp, lk⟩ := x
  simp only at hp
  subst hp
  rw [stepW_4]
  obtain ⟨A1, c1, SA1, cs1, E1, ce1, V1⟩ := h
  have VV1 := Lib.hid V1
  clear V1
  by_cases e1 : at0 m 1 = 1
  · rw [if_pos e1]
    go_enter Tryz.func36, Tryz.ntmps36
    go_wp2_with fail
    refine (wstart_any k (u := wrap64 xv) rfl rfl rfl ok.sm (by have := ok.sl; simp only at this ⊢; omega) (by simp) VV1.out.st).mono ?_
    rintro _ w2 ⟨rfl, W2, Z2⟩
    go_wp2_with fail
    refine (wadd_any k 1 18446744073709551615 (dec_add m 1) e1 ok.hs W2).mono ?_
    rintro _ w3 ⟨rfl, W3, Z3⟩
    go_wp2_with fail
    refine (wwake_any k true W3).mono ?_
    rintro _ w4 ⟨rfl, W4, Z4⟩
    go_wp2
    go_end0
    exact ⟨rfl, W4, Z2.trans (Z3.trans Z4)⟩
  · rw [if_neg e1]
    have hb : (at0 m 1 == 1) = false := by simpa using e1
    clear e1
    obtain ⟨v, hv⟩ : ∃ v, at0 m 1 = v := ⟨_, rfl⟩
    rw [hv] at hb
    go_enter Tryz.func36, Tryz.ntmps36
    go_wp2_with fail
    refine (wstart_any k (u := wrap64 xv) rfl rfl rfl ok.sm (by have := ok.sl; simp only at this ⊢; omega) (by simp) VV1.out.st).mono ?_
    rintro _ w2 ⟨rfl, W2, Z2⟩
    go_wp2_with fail
    refine (wadd_any k 1 18446744073709551615 (dec_add m 1) hv ok.hs W2).mono ?_
    rintro _ w3 ⟨rfl, W3, Z3⟩
    go_wp2_with fail
    refine (wwake_any k false W3).mono ?_
    rintro _ w4 ⟨rfl, W4, Z4⟩
    go_wp2
    go_end0
    exact ⟨rfl, W4, Z2.trans (Z3.trans Z4)⟩
set_option maxHeartbeats 4000000 in
theorem wsee_any (hp : x.pc = 13) (ok : Wok k x m) (h : Wst k x m [] w) : Calls Tryz.prog 45 #[.pointer (some ⟨k.g, 0, none⟩)] w (Wrt k (stepW k.W k.D k.J k.S k.T m k.me x k.d).2.1 (stepW k.W k.D k.J k.S k.T m k.me x k.d).1 (stepW k.W k.D k.J k.S k.T m k.me x k.d).2.2 w) := by
  obtain ⟨p, s, ⟨xo, xp, xq, xv, xx, xy, xr⟩, sp, lk⟩ := x
  simp only at hp
  subst hp
  rw [stepW_13]
  obtain ⟨A1, c1, SA1, cs1, E1, ce1, V1⟩ := h
  have VV1 := Lib.hid V1
  obtain ⟨b0, b1, b2, b3, b4, b5, b6, b7, b8, b9, b10, b11, b12, b13, b14, b15, b16, b17, b18, b19⟩ := V1.bx.cells
  have fz1 := V1.bx.free
  have hl1 := V1.bx.lt
  simp only at b0 b1 b2 b3 b4 b5 b6 b7 b8 b9 b10 b11 b12 b13 b14 b15 b16 b17 b18 b19
  clear V1
  by_cases e1 : at0 m 1 = 0
  · rw [if_pos e1]
    go_enter Tryz.func45, Tryz.ntmps45
    go_wp2_with fail
    refine (ret_of (load_any A1 m.length c1 m 1 _ VV1.out.rm.rd rfl ok.hs) (v' := .int .u64 0) (by rw [e1])).mono ?_
    rintro _ w1 ⟨rfl, z1⟩
    have ZZ := Lib.hid z1
    clear z1
    go_wp2_with fail
    refine (wwake_any k true (VV1.out.after ZZ.out).st).mono ?_
    rintro _ w2 ⟨rfl, W2, Z2⟩
    go_wp2
    go_end0
    exact ⟨rfl, W2, ((Kb.refl _ _).call hl1 ZZ.out).kd.trans Z2⟩
  · rw [if_neg e1]
    have hb : (at0 m 1 == 0) = false := by simpa using e1
    clear e1
    obtain ⟨v, hv⟩ : ∃ v, at0 m 1 = v := ⟨_, rfl⟩
    rw [hv] at hb
    go_enter Tryz.func45, Tryz.ntmps45
    go_wp2_with fail
    refine (ret_of (load_any A1 m.length c1 m 1 _ VV1.out.rm.rd rfl ok.hs) (v' := .int .u64 v) (by rw [hv])).mono ?_
    rintro _ w1 ⟨rfl, z1⟩
    have ZZ := Lib.hid z1
    clear z1
    go_wp2_with fail
    refine (wwake_any k false (VV1.out.after ZZ.out).st).mono ?_
    rintro _ w2 ⟨rfl, W2, Z2⟩
    go_wp2
    go_end0
    exact ⟨rfl, W2, ((Kb.refl _ _).call hl1 ZZ.out).kd.trans Z2⟩
end
end Go.Proofs.YtlpkccpijloidaaGreat
