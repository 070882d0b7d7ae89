/- A worker's step methods (layer 18): what it finds, runs, spawns, finishes, and looks at. -/
import Derived.Test.YtlpkccpijloidaaGreatWkE
import Derived.Deep.QuietTactic
import Derived.BigQuiet
namespace Go.Proofs.YtlpkccpijloidaaGreat
set_option maxRecDepth 100000
open Go.RowKit Go.Deep
attribute [local go_sem] exTo_normal exTo_exit exTo_ret exTo_goto
section
variable (k : Wc) {x : WkS} {m : List Int} {w : World}
set_option maxHeartbeats 4000000 in
theorem whunt3_any (hp : x.pc = 3) (ok : Wok k x m) (h : Wst k x m [] w) : Calls Tryz.prog 35 #[.pointer (some ⟨k.g, 0, none⟩)] w (Wrt k (stepW k.W k.D k.J k.S k.T m k.me x k.d).2.1 (stepW k.W k.D k.J k.S k.T m k.me x k.d).1 (stepW k.W k.D k.J k.S k.T m k.me x k.d).2.2 w) := by
  obtain ⟨p, s, ⟨xo, xp, xq, xv, xx, xy, xr⟩, sp, lk⟩ := x
  simp only at hp
  subst hp
  rw [stepW_c (by omega)]
  have H := Lib.hid h
  clear h
  cases hc : callS k.W k.D k.J k.S m ⟨xo, xp, xq, xv, xx, xy, xr⟩ with
  | mk m1 f1 =>
  obtain ⟨fo, fp, fq, fv1, ffx, fy, fr⟩ := f1
  dsimp only
  have isp : -9223372036854775808 ≤ sp ∧ sp ≤ 9223372036854775807 := ok.sp
  by_cases h0 : fr = 0
  · subst h0
    have hb : ((⟨fo, fp, fq, fv1, ffx, fy, 0⟩ : Fr).res != 0) = false := rfl
    rw [if_pos rfl]
    go_enter Tryz.func35, Tryz.ntmps35
    go_wp2_with fail
    refine wp_scope_to _ (fun _ _ _ h => h) ?_
    generalize hJ : (fun (l : Nat) (a : Act) (w : World) => ∃ rest, findLabel _ l = some rest ∧ rest.wp _ _ a w) = JJ
    have HJ := Lib.hid hJ
    clear hJ
    go_wp2_with fail
    refine (wends_any k hc hb ok.hs ok.hu ok.hf H.out).mono ?_
    rintro _ w1 ⟨rfl, W1, Z1⟩
    go_wp2
    go_end0
    exact ⟨rfl, W1, Z1⟩
  · have hb : ((⟨fo, fp, fq, fv1, ffx, fy, fr⟩ : Fr).res != 0) = true := by simp [h0]
    rw [if_neg h0]
    unfold endW
    simp only [Int.reduceEq, if_true, if_false]
    by_cases h1 : fr = 1
    · subst h1
      simp only [if_true]
      go_enter Tryz.func35, Tryz.ntmps35
      go_wp2_with fail
      refine wp_scope_to _ (fun _ _ _ h => h) ?_
      generalize hJ : (fun (l : Nat) (a : Act) (w : World) => ∃ rest, findLabel _ l = some rest ∧ rest.wp _ _ a w) = JJ
      have HJ := Lib.hid hJ
      clear hJ
      go_wp2_with fail
      refine (wends_any k hc hb ok.hs ok.hu ok.hf H.out).mono ?_
      rintro _ w1 ⟨rfl, W1, Z1⟩
      obtain ⟨A1, c1, SA1, cs1, E1, ce1, V1⟩ := W1
      have VV1 := Lib.hid V1
      obtain ⟨b0, b1, b2, b3, b4, b5, b6, b7, b8, b9, b10, b11, b12, b13, b14, b15, b16, b17, b18, b19⟩ := V1.bx.cells
      have fz1 := V1.bx.free
      have hl1 := V1.bx.lt
      simp only at b0 b1 b2 b3 b4 b5 b6 b7 b8 b9 b10 b11 b12 b13 b14 b15 b16 b17 b18 b19
      clear V1
      go_wp2
      go_end0
      exact ⟨rfl, (VV1.out.setPc 4).st, Z1.trans ((Kb.refl _ _).set _ _).kd⟩
    · have h1' : (fr == 1) = false := by simpa using h1
      rw [if_neg h1]
      unfold failW
      by_cases h2 : 0 < sp
      · rw [if_pos h2]
        have h3 : decide (0 < sp) = true := decide_eq_true h2
        go_enter Tryz.func35, Tryz.ntmps35
        go_wp2_with fail
        refine wp_scope_to _ (fun _ _ _ h => h) ?_
        generalize hJ : (fun (l : Nat) (a : Act) (w : World) => ∃ rest, findLabel _ l = some rest ∧ rest.wp _ _ a w) = JJ
        have HJ := Lib.hid hJ
        clear hJ
        go_wp2_with fail
        refine (wends_any k hc hb ok.hs ok.hu ok.hf H.out).mono ?_
        rintro _ w1 ⟨rfl, W1, Z1⟩
        obtain ⟨A1, c1, SA1, cs1, E1, ce1, V1⟩ := W1
        have VV1 := Lib.hid V1
        obtain ⟨b0, b1, b2, b3, b4, b5, b6, b7, b8, b9, b10, b11, b12, b13, b14, b15, b16, b17, b18, b19⟩ := V1.bx.cells
        have fz1 := V1.bx.free
        have hl1 := V1.bx.lt
        simp only at b0 b1 b2 b3 b4 b5 b6 b7 b8 b9 b10 b11 b12 b13 b14 b15 b16 b17 b18 b19
        clear V1
        go_wp2
        go_step3
        change JJ 0 _ _
        rw [← HJ.out]
        refine ⟨_, rfl, ?_⟩
        clear HJ
        go_wp2_with fail
        have e3 : wrap64 (sp - 1) = sp - 1 := by unfold wrap64; omega
        refine (wgocall_any k 2 4 0 (VV1.out.setSp (sp - 1)).st).mono ?_
        rintro _ w2 ⟨rfl, W2, Z2⟩
        go_wp2
        try rw [Exit.noGoto_ret]
        go_end0
        exact ⟨rfl, W2, Z1.trans (((Kb.refl _ _).set _ _).kd.trans Z2)⟩
      · rw [if_neg h2]
        have h3 : decide (0 < sp) = false := decide_eq_false h2
        go_enter Tryz.func35, Tryz.ntmps35
        go_wp2_with fail
        refine wp_scope_to _ (fun _ _ _ h => h) ?_
        generalize hJ : (fun (l : Nat) (a : Act) (w : World) => ∃ rest, findLabel _ l = some rest ∧ rest.wp _ _ a w) = JJ
        have HJ := Lib.hid hJ
        clear hJ
        go_wp2_with fail
        refine (wends_any k hc hb ok.hs ok.hu ok.hf H.out).mono ?_
        rintro _ w1 ⟨rfl, W1, Z1⟩
        obtain ⟨A1, c1, SA1, cs1, E1, ce1, V1⟩ := W1
        have VV1 := Lib.hid V1
        obtain ⟨b0, b1, b2, b3, b4, b5, b6, b7, b8, b9, b10, b11, b12, b13, b14, b15, b16, b17, b18, b19⟩ := V1.bx.cells
        have fz1 := V1.bx.free
        have hl1 := V1.bx.lt
        simp only at b0 b1 b2 b3 b4 b5 b6 b7 b8 b9 b10 b11 b12 b13 b14 b15 b16 b17 b18 b19
        clear V1
        go_wp2
        go_step3
        change JJ 0 _ _
        rw [← HJ.out]
        refine ⟨_, rfl, ?_⟩
        clear HJ
        go_wp2_with fail
        refine (wgocall_any k 5 5 0 VV1.out.st).mono ?_
        rintro _ w2 ⟨rfl, W2, Z2⟩
        go_wp2
        try rw [Exit.noGoto_ret]
        go_end0
        exact ⟨rfl, W2, Z1.trans (Z2)⟩
set_option maxHeartbeats 4000000 in
theorem whunt2_any (hp : x.pc = 2) (ok : Wok k x m) (h : Wst k x m [] w) : Calls Tryz.prog 35 #[.pointer (some ⟨k.g, 0, none⟩)] w (Wrt k (stepW k.W k.D k.J k.S k.T m k.me x k.d).2.1 (stepW k.W k.D k.J k.S k.T m k.me x k.d).1 (stepW k.W k.D k.J k.S k.T m k.me x k.d).2.2 w) := by
  obtain ⟨p, s, ⟨xo, xp, xq, xv, xx, xy, xr⟩, sp, lk⟩ := x
  simp only at hp
  subst hp
  rw [stepW_c (by omega)]
  have H := Lib.hid h
  clear h
  cases hc : callS k.W k.D k.J k.S m ⟨xo, xp, xq, xv, xx, xy, xr⟩ with
  | mk m1 f1 =>
  obtain ⟨fo, fp, fq, fv1, ffx, fy, fr⟩ := f1
  dsimp only
  have isp : -9223372036854775808 ≤ sp ∧ sp ≤ 9223372036854775807 := ok.sp
  by_cases h0 : fr = 0
  · subst h0
    have hb : ((⟨fo, fp, fq, fv1, ffx, fy, 0⟩ : Fr).res != 0) = false := rfl
    rw [if_pos rfl]
    go_enter Tryz.func35, Tryz.ntmps35
    go_wp2_with fail
    refine wp_scope_to _ (fun _ _ _ h => h) ?_
    generalize hJ : (fun (l : Nat) (a : Act) (w : World) => ∃ rest, findLabel _ l = some rest ∧ rest.wp _ _ a w) = JJ
    have HJ := Lib.hid hJ
    clear hJ
    go_wp2_with fail
    refine (wends_any k hc hb ok.hs ok.hu ok.hf H.out).mono ?_
    rintro _ w1 ⟨rfl, W1, Z1⟩
    go_wp2
    go_end0
    exact ⟨rfl, W1, Z1⟩
  · have hb : ((⟨fo, fp, fq, fv1, ffx, fy, fr⟩ : Fr).res != 0) = true := by simp [h0]
    rw [if_neg h0]
    unfold endW
    simp only [Int.reduceEq, if_true, if_false]
    by_cases h1 : fr = 1
    · subst h1
      simp only [if_true]
      go_enter Tryz.func35, Tryz.ntmps35
      go_wp2_with fail
      refine wp_scope_to _ (fun _ _ _ h => h) ?_
      generalize hJ : (fun (l : Nat) (a : Act) (w : World) => ∃ rest, findLabel _ l = some rest ∧ rest.wp _ _ a w) = JJ
      have HJ := Lib.hid hJ
      clear hJ
      go_wp2_with fail
      refine (wends_any k hc hb ok.hs ok.hu ok.hf H.out).mono ?_
      rintro _ w1 ⟨rfl, W1, Z1⟩
      obtain ⟨A1, c1, SA1, cs1, E1, ce1, V1⟩ := W1
      have VV1 := Lib.hid V1
      obtain ⟨b0, b1, b2, b3, b4, b5, b6, b7, b8, b9, b10, b11, b12, b13, b14, b15, b16, b17, b18, b19⟩ := V1.bx.cells
      have fz1 := V1.bx.free
      have hl1 := V1.bx.lt
      simp only at b0 b1 b2 b3 b4 b5 b6 b7 b8 b9 b10 b11 b12 b13 b14 b15 b16 b17 b18 b19
      clear V1
      go_wp2
      go_end0
      exact ⟨rfl, (VV1.out.setPc 4).st, Z1.trans ((Kb.refl _ _).set _ _).kd⟩
    · have h1' : (fr == 1) = false := by simpa using h1
      rw [if_neg h1]
      by_cases hv : Dr.vic k.d k.me k.W = -1
      · rw [if_pos hv]
        unfold failW
        by_cases h2 : 0 < sp
        · rw [if_pos h2]
          have h3 : decide (0 < sp) = true := decide_eq_true h2
          go_enter Tryz.func35, Tryz.ntmps35
          go_wp2_with fail
          refine wp_scope_to _ (fun _ _ _ h => h) ?_
          generalize hJ : (fun (l : Nat) (a : Act) (w : World) => ∃ rest, findLabel _ l = some rest ∧ rest.wp _ _ a w) = JJ
          have HJ := Lib.hid hJ
          clear hJ
          go_wp2_with fail
          refine (wends_any k hc hb ok.hs ok.hu ok.hf H.out).mono ?_
          rintro _ w1 ⟨rfl, W1, Z1⟩
          obtain ⟨A1, c1, SA1, cs1, E1, ce1, V1⟩ := W1
          have VV1 := Lib.hid V1
          obtain ⟨b0, b1, b2, b3, b4, b5, b6, b7, b8, b9, b10, b11, b12, b13, b14, b15, b16, b17, b18, b19⟩ := V1.bx.cells
          have fz1 := V1.bx.free
          have hl1 := V1.bx.lt
          simp only at b0 b1 b2 b3 b4 b5 b6 b7 b8 b9 b10 b11 b12 b13 b14 b15 b16 b17 b18 b19
          clear V1
          go_wp2
          go_quiet ((go_at_call 63; exact Calls.quiet_of_same (Gives.of (Dr.vic_any k.d k.me k.W _ ok.ud ok.im ok.iw) (v' := .int .i64 (-1)) (by rw [hv]))))
          go_wp2
          go_step3
          go_wp2_with fail
          have e3 : wrap64 (sp - 1) = sp - 1 := by unfold wrap64; omega
          refine (wgocall_any k 2 4 0 ((VV1.out.after (below_drewN _ _)).setSp (sp - 1)).st).mono ?_
          rintro _ w2 ⟨rfl, W2, Z2⟩
          go_wp2
          go_end0
          exact ⟨rfl, W2, Z1.trans (((Kb.refl _ _).call hl1 (below_drewN _ _)).kd.trans (((Kb.refl _ _).set _ _).kd.trans Z2))⟩
        · rw [if_neg h2]
          have h3 : decide (0 < sp) = false := decide_eq_false h2
          go_enter Tryz.func35, Tryz.ntmps35
          go_wp2_with fail
          refine wp_scope_to _ (fun _ _ _ h => h) ?_
          generalize hJ : (fun (l : Nat) (a : Act) (w : World) => ∃ rest, findLabel _ l = some rest ∧ rest.wp _ _ a w) = JJ
          have HJ := Lib.hid hJ
          clear hJ
          go_wp2_with fail
          refine (wends_any k hc hb ok.hs ok.hu ok.hf H.out).mono ?_
          rintro _ w1 ⟨rfl, W1, Z1⟩
          obtain ⟨A1, c1, SA1, cs1, E1, ce1, V1⟩ := W1
          have VV1 := Lib.hid V1
          obtain ⟨b0, b1, b2, b3, b4, b5, b6, b7, b8, b9, b10, b11, b12, b13, b14, b15, b16, b17, b18, b19⟩ := V1.bx.cells
          have fz1 := V1.bx.free
          have hl1 := V1.bx.lt
          simp only at b0 b1 b2 b3 b4 b5 b6 b7 b8 b9 b10 b11 b12 b13 b14 b15 b16 b17 b18 b19
          clear V1
          go_wp2
          go_quiet ((go_at_call 63; exact Calls.quiet_of_same (Gives.of (Dr.vic_any k.d k.me k.W _ ok.ud ok.im ok.iw) (v' := .int .i64 (-1)) (by rw [hv]))))
          go_wp2
          go_step3
          go_wp2_with fail
          refine (wgocall_any k 5 5 0 (VV1.out.after (below_drewN _ _)).st).mono ?_
          rintro _ w2 ⟨rfl, W2, Z2⟩
          go_wp2
          go_end0
          exact ⟨rfl, W2, Z1.trans (((Kb.refl _ _).call hl1 (below_drewN _ _)).kd.trans (Z2))⟩
      · rw [if_neg hv]
        obtain ⟨v, hv2⟩ : ∃ v, Dr.vic k.d k.me k.W = v := ⟨_, rfl⟩
        rw [hv2] at hv
        have hv3 : (v != -1) = true := by simpa using hv
        clear hv
        rw [hv2]
        go_enter Tryz.func35, Tryz.ntmps35
        go_wp2_with fail
        refine wp_scope_to _ (fun _ _ _ h => h) ?_
        generalize hJ : (fun (l : Nat) (a : Act) (w : World) => ∃ rest, findLabel _ l = some rest ∧ rest.wp _ _ a w) = JJ
        have HJ := Lib.hid hJ
        clear hJ
        go_wp2_with fail
        refine (wends_any k hc hb ok.hs ok.hu ok.hf H.out).mono ?_
        rintro _ w1 ⟨rfl, W1, Z1⟩
        obtain ⟨A1, c1, SA1, cs1, E1, ce1, V1⟩ := W1
        have VV1 := Lib.hid V1
        obtain ⟨b0, b1, b2, b3, b4, b5, b6, b7, b8, b9, b10, b11, b12, b13, b14, b15, b16, b17, b18, b19⟩ := V1.bx.cells
        have fz1 := V1.bx.free
        have hl1 := V1.bx.lt
        simp only at b0 b1 b2 b3 b4 b5 b6 b7 b8 b9 b10 b11 b12 b13 b14 b15 b16 b17 b18 b19
        clear V1
        go_wp2
        go_quiet ((go_at_call 63; exact Calls.quiet_of_same (Gives.of (Dr.vic_any k.d k.me k.W _ ok.ud ok.im ok.iw) (v' := .int .i64 v) (by rw [hv2]))))
        go_wp2_with fail
        refine (begin_any 2 v 0 _).mono ?_
        rintro _ w2 ⟨rfl, z2⟩
        have ZZ := Lib.hid z2
        have VV2 := Lib.hid ((VV1.out.after (below_drewN _ _)).after z2)
        clear z2 b0 b1 b2 b3 b4 b5 b6 b7 b8 b9 b10 b11 b12 b13 b14 b15 b16 b17 b18 b19 fz1
        obtain ⟨b0, b1, b2, b3, b4, b5, b6, b7, b8, b9, b10, b11, b12, b13, b14, b15, b16, b17, b18, b19⟩ := VV2.out.bx.cells
        have fz2 := VV2.out.bx.free
        simp only at b0 b1 b2 b3 b4 b5 b6 b7 b8 b9 b10 b11 b12 b13 b14 b15 b16 b17 b18 b19
        go_wp2
        change exTo _ _ _ _ (pwk (w2.setCell ⟨k.g, 0, none⟩ (.int .i64 3)) k.g (fbg 2 v 0))
        rw [exTo_ret]
        go_end0
        exact ⟨rfl, ((VV2.out.setPc 3).pwk _).st, Z1.trans ((((((Kb.refl _ _).call hl1 (below_drewN _ _)).call hl1 ZZ.out).set _ _).pwk _).kd)⟩
end
end Go.Proofs.YtlpkccpijloidaaGreat
