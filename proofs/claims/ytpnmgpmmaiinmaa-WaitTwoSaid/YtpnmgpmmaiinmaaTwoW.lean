/- The walk of WaitTwo. -/
import Derived.Test.YtpnmgpmmaiinmaaWtF
import Derived.Test.YtpnmgpmmaiinmaaWtT
import Derived.Test.YtpnmgpmmaiinmaaDuL
import Derived.Test.YtpnmgpmmaiinmaaPuL
import Derived.IntWalk
import Derived.Deep.RegionHeld3
namespace Go.Proofs.Ytpnmgpmmaiinmaa
open Go.RowKit Go.Deep
theorem two_big (W D J S q r : Int) (A0 : Option Addr) (n c0 : Nat) (m : List Int) (w : World) (hm : Rd w A0 m) (hn : m.length = n) (hs : 500 < n) : Tells 7 #[cf W D J S, .slice A0 n c0, .int .i64 q, .int .i64 r] w (.bool true) := by
  have LM0 := Lib.hid hm
  have HN := Lib.hid hn
  clear hm hn
  have hd : decide ((500 : Int) < (n : Int)) = true := decide_eq_true (by omega)
  go_enter Try.func7, Try.ntmps7
  go_wp2_with fail
  refine (awake_any _).mono ?_
  rintro _ w1 ⟨rfl, z⟩
  have BX := Lib.hid ((Bx.mk w W D J S 23).below z)
  replace z := (box_below w _).trans (z.mono (by simp))
  have Z := Lib.hid z
  have LM := Lib.hid (LM0.out.below z)
  clear z LM0
  obtain ⟨gx, x_0, x_1, x_2, x_3⟩ := BX.out
  go_wp2_with fail
  refine (begin_any 5 q 0 _).mono ?_
  rintro _ w2 ⟨rfl, z⟩
  clear gx x_0 x_1 x_2 x_3
  replace Z := Lib.hid (Z.out.trans (z.mono Z.out.size))
  replace BX := Lib.hid (BX.out.below z)
  replace LM := Lib.hid (LM.out.below z)
  clear z
  go_wp2_with fail
  refine (begin_any 5 r 0 _).mono ?_
  rintro _ w3 ⟨rfl, z⟩
  have BF := Lib.hid ((Bf.new w2 (fbg 5 q 0)).after z)
  replace z := keep_call z (bel_alloc w2 _)
  replace Z := Lib.hid (Z.out.trans (z.mono Z.out.size))
  replace BX := Lib.hid (BX.out.below z)
  replace LM := Lib.hid (LM.out.below z)
  clear z
  go_wp2
  go_ret
  exact ⟨rfl, Z.out.alloc Z.out.size _⟩
theorem two_one (W D J S q : Int) (A0 : Option Addr) (n c0 : Nat) (m : List Int) (w : World) (hm : Rd w A0 m) (hn : m.length = n) (hs : n ≤ 500) : Tells 7 #[cf W D J S, .slice A0 n c0, .int .i64 q, .int .i64 q] w (.bool true) := by
  have LM0 := Lib.hid hm
  have HN := Lib.hid hn
  clear hm hn
  have hd : decide ((500 : Int) < (n : Int)) = false := decide_eq_false (by omega)
  have hqq : (q == q) = true := by simp
  go_enter Try.func7, Try.ntmps7
  go_wp2_with fail
  refine (awake_any _).mono ?_
  rintro _ w1 ⟨rfl, z⟩
  have BX := Lib.hid ((Bx.mk w W D J S 23).below z)
  replace z := (box_below w _).trans (z.mono (by simp))
  have Z := Lib.hid z
  have LM := Lib.hid (LM0.out.below z)
  clear z LM0
  obtain ⟨gx, x_0, x_1, x_2, x_3⟩ := BX.out
  go_wp2_with fail
  refine (begin_any 5 q 0 _).mono ?_
  rintro _ w2 ⟨rfl, z⟩
  clear gx x_0 x_1 x_2 x_3
  replace Z := Lib.hid (Z.out.trans (z.mono Z.out.size))
  replace BX := Lib.hid (BX.out.below z)
  replace LM := Lib.hid (LM.out.below z)
  clear z
  go_wp2_with fail
  refine (begin_any 5 q 0 _).mono ?_
  rintro _ w3 ⟨rfl, z⟩
  have BF := Lib.hid ((Bf.new w2 (fbg 5 q 0)).after z)
  replace z := keep_call z (bel_alloc w2 _)
  replace Z := Lib.hid (Z.out.trans (z.mono Z.out.size))
  replace BX := Lib.hid (BX.out.below z)
  replace LM := Lib.hid (LM.out.below z)
  clear z
  go_wp2
  go_ret
  exact ⟨rfl, Z.out.alloc Z.out.size _⟩
theorem two_noq (W D J S q r : Int) (A0 : Option Addr) (n c0 : Nat) (m : List Int) (w : World) (hm : Rd w A0 m) (hn : m.length = n) (hs : n ≤ 500) (hne : ¬ r = q) (ho : okw W D J S m q = false) : Tells 7 #[cf W D J S, .slice A0 n c0, .int .i64 q, .int .i64 r] w (.bool true) := by
  have LM0 := Lib.hid hm
  have HN := Lib.hid hn
  clear hm hn
  have hd : decide ((500 : Int) < (n : Int)) = false := decide_eq_false (by omega)
  have hrq : (r == q) = false := by simpa using hne
  have HO := Lib.hid ho
  clear ho hne
  go_enter Try.func7, Try.ntmps7
  go_wp2_with fail
  refine (awake_any _).mono ?_
  rintro _ w1 ⟨rfl, z⟩
  have BX := Lib.hid ((Bx.mk w W D J S 23).below z)
  replace z := (box_below w _).trans (z.mono (by simp))
  have Z := Lib.hid z
  have LM := Lib.hid (LM0.out.below z)
  clear z LM0
  obtain ⟨gx, x_0, x_1, x_2, x_3⟩ := BX.out
  go_wp2_with fail
  refine (begin_any 5 q 0 _).mono ?_
  rintro _ w2 ⟨rfl, z⟩
  clear gx x_0 x_1 x_2 x_3
  replace Z := Lib.hid (Z.out.trans (z.mono Z.out.size))
  replace BX := Lib.hid (BX.out.below z)
  replace LM := Lib.hid (LM.out.below z)
  clear z
  obtain ⟨gx, x_0, x_1, x_2, x_3⟩ := BX.out
  go_wp2_with fail
  refine (begin_any 5 r 0 _).mono ?_
  rintro _ w3 ⟨rfl, z⟩
  clear gx x_0 x_1 x_2 x_3
  have BF := Lib.hid ((Bf.new w2 (fbg 5 q 0)).after z)
  replace z := keep_call z (bel_alloc w2 _)
  replace Z := Lib.hid (Z.out.trans (z.mono Z.out.size))
  replace BX := Lib.hid (BX.out.below z)
  replace LM := Lib.hid (LM.out.below z)
  clear z
  obtain ⟨gx, x_0, x_1, x_2, x_3⟩ := BX.out
  obtain ⟨a0, a1, a2, a3, a4, a5, a6⟩ := BF.out.cells
  have la := BF.out.lt
  simp only [fbg] at a0 a1 a2 a3 a4 a5 a6
  go_wp2_with fail
  refine (Tells.of (goes_any W D J S 5 5 A0 n c0 m (fbg 5 q 0) _ HN.out) (v' := .bool false) (by rw [goes_begun, HO.out])).mono ?_
  rintro _ w4 ⟨rfl, z⟩
  clear gx x_0 x_1 x_2 x_3 a0 a1 a2 a3 a4 a5 a6 la
  have BG := Lib.hid ((Bf.new w3 (fbg 5 r 0)).after z)
  replace z := keep_call z (bel_alloc w3 _)
  replace Z := Lib.hid (Z.out.trans (z.mono Z.out.size))
  replace BX := Lib.hid (BX.out.below z)
  replace LM := Lib.hid (LM.out.below z)
  replace BF := Lib.hid (BF.out.after z)
  clear z
  go_wp2
  go_ret
  exact ⟨rfl, Z.out⟩
theorem two_nor (W D J S q r : Int) (A0 : Option Addr) (n c0 : Nat) (m : List Int) (w : World) (hm : Rd w A0 m) (hn : m.length = n) (hs : n ≤ 500) (hne : ¬ r = q) (ho : okw W D J S m q = true) (hr : okw W D J S m r = false) : Tells 7 #[cf W D J S, .slice A0 n c0, .int .i64 q, .int .i64 r] w (.bool true) := by
  have LM0 := Lib.hid hm
  have HN := Lib.hid hn
  clear hm hn
  have hd : decide ((500 : Int) < (n : Int)) = false := decide_eq_false (by omega)
  have hrq : (r == q) = false := by simpa using hne
  have HO := Lib.hid ho
  have HR := Lib.hid hr
  clear ho hr hne
  go_enter Try.func7, Try.ntmps7
  go_wp2_with fail
  refine (awake_any _).mono ?_
  rintro _ w1 ⟨rfl, z⟩
  have BX := Lib.hid ((Bx.mk w W D J S 23).below z)
  replace z := (box_below w _).trans (z.mono (by simp))
  have Z := Lib.hid z
  have LM := Lib.hid (LM0.out.below z)
  clear z LM0
  obtain ⟨gx, x_0, x_1, x_2, x_3⟩ := BX.out
  go_wp2_with fail
  refine (begin_any 5 q 0 _).mono ?_
  rintro _ w2 ⟨rfl, z⟩
  clear gx x_0 x_1 x_2 x_3
  replace Z := Lib.hid (Z.out.trans (z.mono Z.out.size))
  replace BX := Lib.hid (BX.out.below z)
  replace LM := Lib.hid (LM.out.below z)
  clear z
  obtain ⟨gx, x_0, x_1, x_2, x_3⟩ := BX.out
  go_wp2_with fail
  refine (begin_any 5 r 0 _).mono ?_
  rintro _ w3 ⟨rfl, z⟩
  clear gx x_0 x_1 x_2 x_3
  have BF := Lib.hid ((Bf.new w2 (fbg 5 q 0)).after z)
  replace z := keep_call z (bel_alloc w2 _)
  replace Z := Lib.hid (Z.out.trans (z.mono Z.out.size))
  replace BX := Lib.hid (BX.out.below z)
  replace LM := Lib.hid (LM.out.below z)
  clear z
  obtain ⟨gx, x_0, x_1, x_2, x_3⟩ := BX.out
  obtain ⟨a0, a1, a2, a3, a4, a5, a6⟩ := BF.out.cells
  have la := BF.out.lt
  simp only [fbg] at a0 a1 a2 a3 a4 a5 a6
  go_wp2_with fail
  refine (Tells.of (goes_any W D J S 5 5 A0 n c0 m (fbg 5 q 0) _ HN.out) (v' := .bool true) (by rw [goes_begun, HO.out])).mono ?_
  rintro _ w4 ⟨rfl, z⟩
  clear gx x_0 x_1 x_2 x_3 a0 a1 a2 a3 a4 a5 a6 la
  have BG := Lib.hid ((Bf.new w3 (fbg 5 r 0)).after z)
  replace z := keep_call z (bel_alloc w3 _)
  replace Z := Lib.hid (Z.out.trans (z.mono Z.out.size))
  replace BX := Lib.hid (BX.out.below z)
  replace LM := Lib.hid (LM.out.below z)
  replace BF := Lib.hid (BF.out.after z)
  clear z
  obtain ⟨gx, x_0, x_1, x_2, x_3⟩ := BX.out
  obtain ⟨b0, b1, b2, b3, b4, b5, b6⟩ := BG.out.cells
  have lb := BG.out.lt
  simp only [fbg] at b0 b1 b2 b3 b4 b5 b6
  go_wp2_with fail
  refine (Tells.of (goes_any W D J S 5 5 A0 n c0 m (fbg 5 r 0) _ HN.out) (v' := .bool false) (by rw [goes_begun, HR.out])).mono ?_
  rintro _ w5 ⟨rfl, z⟩
  clear gx x_0 x_1 x_2 x_3 b0 b1 b2 b3 b4 b5 b6 lb
  replace Z := Lib.hid (Z.out.trans (z.mono Z.out.size))
  replace BX := Lib.hid (BX.out.below z)
  replace LM := Lib.hid (LM.out.below z)
  replace BF := Lib.hid (BF.out.after z)
  replace BG := Lib.hid (BG.out.after z)
  clear z
  go_wp2
  go_ret
  exact ⟨rfl, Z.out⟩
set_option maxRecDepth 100000 in
set_option maxHeartbeats 2000000 in
theorem two_main (W D J S q r : Int) (A0 : Option Addr) (n c0 : Nat) (m : List Int) (w : World) (hm : Rd w A0 m) (hn : m.length = n) (hs : n ≤ 500) (hu : UM m) (hne : ¬ r = q) (ho : okw W D J S m q = true) (hr : okw W D J S m r = true) : Tells 7 #[cf W D J S, .slice A0 n c0, .int .i64 q, .int .i64 r] w (.bool true) := by
  have hlong := okw_long ho
  have pq := pkI_lim ho
  have pr := pkI_lim hr
  have oq := pkI_ow ho
  have orr := pkI_ow hr
  have hap : ¬ pkI D J r = pkI D J q := by
    obtain ⟨hm1, _⟩ := okw_iff.1 ho
    have hD := (may_lim hm1).2.1
    have h := bg_apart (D := D) (J := J) (w := q) (k := r) (a := 2) (b := 2) hD.1 hne (by omega) (by omega)
    unfold pkI; exact fun e => h e.symm
  obtain ⟨m9, hm9⟩ : ∃ m9, m9 = put m (ow W D J S q 2) 0 := ⟨_, rfl⟩
  obtain ⟨m0, hm0⟩ : ∃ m0, m0 = put m9 (ow W D J S r 2) 0 := ⟨_, rfl⟩
  have n9 : m9.length = n := by rw [hm9, len_put]; exact hn
  have n0 : m0.length = n := by rw [hm0, len_put]; exact n9
  have u9 : UM m9 := by rw [hm9]; exact put_U hu _ U0
  have u0 : UM m0 := by rw [hm0]; exact put_U u9 _ U0
  have kq : okw W D J S m0 q = true := by rw [hm0, hm9]; exact okw_put (okw_put ho _ _) _ _
  have kr : okw W D J S m0 r = true := by rw [hm0, hm9]; exact okw_put (okw_put hr _ _) _ _
  have zr : at0 m0 (pkI D J r) = 0 := by rw [hm0, orr]; exact at0_put _ (by omega) (by omega)
  have zq : at0 m0 (pkI D J q) = 0 := by rw [hm0, orr, at0_put_ne _ _ hap, hm9, oq]; exact at0_put _ (by omega) (by omega)
  have e2 : at0 m0 2 = at0 m 2 := by rw [hm0, orr, at0_put_ne _ _ (by omega), hm9, oq, at0_put_ne _ _ (by omega)]
  obtain ⟨m', X, Y, hduo, hw1, hw2, hep⟩ := wait_two kq kr zq zr (at0_U u0 2)
  rw [e2] at hep
  obtain ⟨P, hP⟩ : ∃ P, at0 m 2 / 65536 = P := ⟨_, rfl⟩
  have hep2 : at0 m' 2 / 65536 = P := hep.trans hP
  have hPP : (P == P) = true := by simp
  have hrq : (r == q) = false := by simpa using hne
  have HU := Lib.hid (fun k => duo_inv (s1 := waitS W D J S) (s2 := waitS W D J S) (P := fun m => UM m ∧ m.length = n) (Q := UF) (fun m f h1 h2 => ⟨⟨(waitS_U h1.1 h2).1, (waitS_len _ _ _ _ _ _).trans h1.2⟩, (waitS_U h1.1 h2).2⟩) (fun m f h1 h2 => ⟨⟨(waitS_U h1.1 h2).1, (waitS_len _ _ _ _ _ _).trans h1.2⟩, (waitS_U h1.1 h2).2⟩) (s := (m0, fbg 5 q 0, fbg 5 r 0)) ⟨u0, n0⟩ ⟨U0, U0, U0⟩ ⟨U0, U0, U0⟩ k)
  have LM0 := Lib.hid hm
  have HN := Lib.hid hn
  clear hm hn
  have hd : decide ((500 : Int) < (n : Int)) = false := decide_eq_false (by omega)
  have HI := Lib.hid hduo
  have HO := Lib.hid ho
  have HR := Lib.hid hr
  have HS := Lib.hid hs
  have HN9 := Lib.hid n9
  have HN0 := Lib.hid n0
  have HM9 := Lib.hid hm9
  have HM0 := Lib.hid hm0
  have HW1 := Lib.hid hw1
  have HW2 := Lib.hid hw2
  have HP := Lib.hid hP
  have HEP := Lib.hid hep2
  clear hduo ho hr n9 n0 hm9 hm0 hw1 hw2 hP hep2 hlong pq pr oq orr hap u9 u0 kq kr zr zq e2 hep hne hu
  go_enter Try.func7, Try.ntmps7
  go_wp2_with fail
  refine (awake_any _).mono ?_
  rintro _ w1 ⟨rfl, z⟩
  have BX := Lib.hid ((Bx.mk w W D J S 23).below z)
  replace z := (box_below w _).trans (z.mono (by simp))
  have Z := Lib.hid z
  have LM := Lib.hid (LM0.out.below z)
  clear z LM0
  obtain ⟨gx, x_0, x_1, x_2, x_3⟩ := BX.out
  go_wp2_with fail
  refine (begin_any 5 q 0 _).mono ?_
  rintro _ w2 ⟨rfl, z⟩
  clear gx x_0 x_1 x_2 x_3
  replace Z := Lib.hid (Z.out.trans (z.mono Z.out.size))
  replace BX := Lib.hid (BX.out.below z)
  replace LM := Lib.hid (LM.out.below z)
  clear z
  replace LM := Lib.hid (LM.out.rx (Nat.le_refl w2.heap.size))
  have hgf := Lib.hid (show w.heap.size < w2.heap.size from BX.out.1)
  have hzf := Lib.hid Z.out.size
  obtain ⟨gx, x_0, x_1, x_2, x_3⟩ := BX.out
  go_wp2_with fail
  refine (begin_any 5 r 0 _).mono ?_
  rintro _ w3 ⟨rfl, z⟩
  clear gx x_0 x_1 x_2 x_3
  have BF := Lib.hid ((Bf.new w2 (fbg 5 q 0)).after z)
  replace z := keep_call z (bel_alloc w2 _)
  replace Z := Lib.hid (Z.out.trans (z.mono Z.out.size))
  replace BX := Lib.hid (BX.out.below z)
  replace LM := Lib.hid (LM.out.after z)
  clear z
  have LO := Lib.hid (LM.out.ru (Nat.le_refl w3.heap.size))
  clear LM
  have HGK := Lib.hid BF.out.lt
  have HBX1 := Lib.hid (Nat.ne_of_lt hgf.out)
  have HBX2 := Lib.hid (Nat.ne_of_lt BX.out.1)
  obtain ⟨gx, x_0, x_1, x_2, x_3⟩ := BX.out
  obtain ⟨a0, a1, a2, a3, a4, a5, a6⟩ := BF.out.cells
  have la := BF.out.lt
  simp only [fbg] at a0 a1 a2 a3 a4 a5 a6
  go_wp2_with fail
  refine (Tells.of (goes_any W D J S 5 5 A0 n c0 m (fbg 5 q 0) _ HN.out) (v' := .bool true) (by rw [goes_begun, HO.out])).mono ?_
  rintro _ w4 ⟨rfl, z⟩
  clear gx x_0 x_1 x_2 x_3 a0 a1 a2 a3 a4 a5 a6 la
  have BG := Lib.hid ((Bf.new w3 (fbg 5 r 0)).after z)
  replace z := keep_call z (bel_alloc w3 _)
  replace Z := Lib.hid (Z.out.trans (z.mono Z.out.size))
  replace BX := Lib.hid (BX.out.below z)
  replace BF := Lib.hid (BF.out.after z)
  replace LO := Lib.hid (LO.out.after z)
  clear z
  obtain ⟨gx, x_0, x_1, x_2, x_3⟩ := BX.out
  obtain ⟨b0, b1, b2, b3, b4, b5, b6⟩ := BG.out.cells
  have lb := BG.out.lt
  simp only [fbg] at b0 b1 b2 b3 b4 b5 b6
  go_wp2_with fail
  refine (Tells.of (goes_any W D J S 5 5 A0 n c0 m (fbg 5 r 0) _ HN.out) (v' := .bool true) (by rw [goes_begun, HR.out])).mono ?_
  rintro _ w5 ⟨rfl, z⟩
  clear gx x_0 x_1 x_2 x_3 b0 b1 b2 b3 b4 b5 b6 lb
  replace Z := Lib.hid (Z.out.trans (z.mono Z.out.size))
  replace BX := Lib.hid (BX.out.below z)
  replace BF := Lib.hid (BF.out.after z)
  replace LO := Lib.hid (LO.out.after z)
  replace BG := Lib.hid (BG.out.after z)
  clear z
  go_upto_region 6 with fail
  go_cut [12] from 46 to 54 (fun s wz => ∃ k : Nat, s = .slice (some ⟨k, 0, none⟩) n n ∧ Hid (Bk wz k m0) ∧ Hid (Below w5.heap.size w5 wz))
  case first =>
    have HK := Lib.hid (show ∀ x', Below w5.heap.size w5 x' → (fun w' => w'.cell? ⟨w.heap.size, 0, none⟩ = some (.int .i64 W) ∧ w'.cell? ⟨w.heap.size, 1, none⟩ = some (.int .i64 D) ∧ w'.cell? ⟨w.heap.size, 2, none⟩ = some (.int .i64 J) ∧ w'.cell? ⟨w.heap.size, 3, none⟩ = some (.int .i64 S) ∧ Below w5.heap.size w5 w') x' from fun x' hx => by
      obtain ⟨_, e0, e1, e2, e3⟩ := BX.out.below hx
      exact ⟨e0, e1, e2, e3, hx⟩)
    have hHeld0 := HK.out _ (Below.refl _ _)
    have ZC := Lib.hid (Below.refl w5.heap.size w5).drew
    refine wp_region_held_drew (S := fun w' => w'.cell? ⟨w.heap.size, 0, none⟩ = some (.int .i64 W) ∧ w'.cell? ⟨w.heap.size, 1, none⟩ = some (.int .i64 D) ∧ w'.cell? ⟨w.heap.size, 2, none⟩ = some (.int .i64 J) ∧ w'.cell? ⟨w.heap.size, 3, none⟩ = some (.int .i64 S) ∧ Below w5.heap.size w5 w') (by kernel_rfl) (hd_drew HK.out (fun _ h => h.2.2.2.2) hHeld0) (fun hHeld => ?_)
    refine wpAnyH_take (i := 0) (oi := { dst := some 46, op := Go.Op.move (Go.Operand.tmp 1), type := 25, pos := "more.go:45", after := #[], guard := none }) (v := ?vza1) rfl (by kernel_rfl) (by kernel_rfl) (by kernel_rfl) (fun _ _ _ h => h) (Or.inl ⟨by rfl, ?yza1⟩) (by assumption) ?rza1
    case yza1 => (intro w hSw; (try dsimp only at hSw); go_simp; (try with_reducible rfl))
    (try simp only [Act.put, List.setIfInBounds_toArray, List.set_cons_zero, List.set_cons_succ])
    refine wpAnyH_take (i := 1) (oi := { dst := some 47, op := Go.Op.load 23 (Go.Operand.tmp 4), type := 23, pos := "more.go:45", after := #[], guard := none }) (v := ?vza2) rfl (by kernel_rfl) (by kernel_rfl) (by kernel_rfl) (fun _ _ _ h => h) (Or.inl ⟨by rfl, ?yza2⟩) (by assumption) ?rza2
    case yza2 => (intro w hSw; (try dsimp only at hSw); go_simp; (try with_reducible rfl))
    (try simp only [Act.put, List.setIfInBounds_toArray, List.set_cons_zero, List.set_cons_succ])
    refine wpAnyH_take (i := 2) (oi := { dst := some 48, op := Go.Op.move (Go.Operand.tmp 2), type := 3, pos := "more.go:45", after := #[], guard := none }) (v := ?vza3) rfl (by kernel_rfl) (by kernel_rfl) (by kernel_rfl) (fun _ _ _ h => h) (Or.inl ⟨by rfl, ?yza3⟩) (by assumption) ?rza3
    case yza3 => (intro w hSw; (try dsimp only at hSw); go_simp; (try with_reducible rfl))
    (try simp only [Act.put, List.setIfInBounds_toArray, List.set_cons_zero, List.set_cons_succ])
    refine wpAnyH_take (i := 5) (oi := { dst := some 51, op := Go.Op.load 23 (Go.Operand.tmp 4), type := 23, pos := "more.go:45", after := #[], guard := none }) (v := ?vza4) rfl (by kernel_rfl) (by kernel_rfl) (by kernel_rfl) (fun _ _ _ h => h) (Or.inl ⟨by rfl, ?yza4⟩) (by assumption) ?rza4
    case yza4 => (intro w hSw; (try dsimp only at hSw); go_simp; (try with_reducible rfl))
    (try simp only [Act.put, List.setIfInBounds_toArray, List.set_cons_zero, List.set_cons_succ])
    refine wpAnyH_take (i := 6) (oi := { dst := some 52, op := Go.Op.move (Go.Operand.tmp 3), type := 3, pos := "more.go:45", after := #[], guard := none }) (v := ?vza5) rfl (by kernel_rfl) (by kernel_rfl) (by kernel_rfl) (fun _ _ _ h => h) (Or.inl ⟨by rfl, ?yza5⟩) (by assumption) ?rza5
    case yza5 => (intro w hSw; (try dsimp only at hSw); go_simp; (try with_reducible rfl))
    (try simp only [Act.put, List.setIfInBounds_toArray, List.set_cons_zero, List.set_cons_succ])
    refine wpAnyH_ready (rs := [3]) (by kernel_rfl) (by simp) ?_
    refine (AllReadyH.cons (o := { dst := some 49, op := Go.Op.call { callee := Go.Callee.value (Go.Operand.func 20), args := #[Go.Operand.tmp 47, Go.Operand.tmp 48], argTypes := #[23, 3] }, type := 3, pos := "more.go:45", after := #[{ on := 1, ground := Go.Ground.data }, { on := 2, ground := Go.Ground.data }], guard := none }) rfl (fun K hK => ?_) AllReadyH.nil)
    go_simp
    refine (park_any W D J S q _).mono ?_
    rintro e wz ⟨rfl, zb⟩
    go_wp2_with fail
    replace ZC := Lib.hid (keep_call (w2 := w5) zb ZC.out)
    clear zb
    refine hK.out _ _ (HK.out _ ZC.out) (fun hHeld2 => ?_)
    clear hK K hHeld
    have hHeld := hHeld2
    clear hHeld2
    (try simp only [Act.put, List.setIfInBounds_toArray, List.set_cons_zero, List.set_cons_succ])
    refine wpAnyH_ready (rs := [4]) (by kernel_rfl) (by simp) ?_
    refine (AllReadyH.cons (o := { dst := some 50, op := Go.Op.call { callee := Go.Callee.value (Go.Operand.func 19), args := #[Go.Operand.tmp 46, Go.Operand.tmp 49, Go.Operand.const (Go.Value.int Go.IntKind.u64 0)], argTypes := #[25, 3, 26] }, type := 25, pos := "more.go:45", after := #[{ on := 0, ground := Go.Ground.data }, { on := 3, ground := Go.Ground.data }, { on := 3, ground := Go.Ground.chain }], guard := none }) rfl (fun K hK => ?_) AllReadyH.nil)
    go_simp
    refine (store_new A0 n c0 m _ 0 _ (LO.out.rd.below ZC.out) HN.out HS.out).mono ?_
    rintro e wz ⟨k9, rfl, hk9, hb9, zb⟩
    go_wp2_with fail
    replace ZC := Lib.hid (keep_call (w2 := w5) zb ZC.out)
    have L9 := Lib.hid (show Rd wz (some ⟨k9, 0, none⟩) m9 by rw [HM9.out]; exact hb9.rd)
    clear hk9 hb9
    clear zb
    refine hK.out _ _ (HK.out _ ZC.out) (fun hHeld2 => ?_)
    clear hK K hHeld
    have hHeld := hHeld2
    clear hHeld2
    (try simp only [Act.put, List.setIfInBounds_toArray, List.set_cons_zero, List.set_cons_succ])
    refine wpAnyH_ready (rs := [7]) (by kernel_rfl) (by simp) ?_
    refine (AllReadyH.cons (o := { dst := some 53, op := Go.Op.call { callee := Go.Callee.value (Go.Operand.func 20), args := #[Go.Operand.tmp 51, Go.Operand.tmp 52], argTypes := #[23, 3] }, type := 3, pos := "more.go:45", after := #[{ on := 5, ground := Go.Ground.data }, { on := 6, ground := Go.Ground.data }, { on := 4, ground := Go.Ground.chain }], guard := none }) rfl (fun K hK => ?_) AllReadyH.nil)
    go_simp
    refine (park_any W D J S r _).mono ?_
    rintro e wz ⟨rfl, zb⟩
    go_wp2_with fail
    replace ZC := Lib.hid (keep_call (w2 := w5) zb ZC.out)
    replace L9 := Lib.hid (L9.out.below zb)
    clear zb
    refine hK.out _ _ (HK.out _ ZC.out) (fun hHeld2 => ?_)
    clear hK K hHeld
    have hHeld := hHeld2
    clear hHeld2
    (try simp only [Act.put, List.setIfInBounds_toArray, List.set_cons_zero, List.set_cons_succ])
    refine wpAnyH_ready (rs := [8]) (by kernel_rfl) (by simp) ?_
    refine (AllReadyH.cons (o := { dst := some 54, op := Go.Op.call { callee := Go.Callee.value (Go.Operand.func 19), args := #[Go.Operand.tmp 50, Go.Operand.tmp 53, Go.Operand.const (Go.Value.int Go.IntKind.u64 0)], argTypes := #[25, 3, 26] }, type := 25, pos := "more.go:45", after := #[{ on := 4, ground := Go.Ground.data }, { on := 7, ground := Go.Ground.data }, { on := 7, ground := Go.Ground.chain }], guard := none }) rfl (fun K hK => ?_) AllReadyH.nil)
    go_simp
    refine (store_new (some ⟨k9, 0, none⟩) n n m9 _ 0 _ L9.out HN9.out HS.out).mono ?_
    rintro e wz ⟨k8, rfl, hk8, hb8, zb⟩
    go_wp2_with fail
    replace ZC := Lib.hid (keep_call (w2 := w5) zb ZC.out)
    have HB8 := Lib.hid (show Bk wz k8 m0 by rw [HM0.out]; exact hb8)
    clear hk8 hb8
    clear zb
    refine hK.out _ _ (HK.out _ ZC.out) (fun hHeld2 => ?_)
    clear hK K hHeld
    have hHeld := hHeld2
    clear hHeld2
    (try simp only [Act.put, List.setIfInBounds_toArray, List.set_cons_zero, List.set_cons_succ])
    refine wpAnyH_take (i := 9) (oi := { dst := some 12, op := Go.Op.assign (Go.Operand.tmp 54), type := 25, pos := "more.go:45", after := #[{ on := 8, ground := Go.Ground.data }, { on := 8, ground := Go.Ground.chain }, { on := 0, ground := Go.Ground.phase }, { on := 1, ground := Go.Ground.phase }, { on := 2, ground := Go.Ground.phase }, { on := 3, ground := Go.Ground.phase }, { on := 4, ground := Go.Ground.phase }, { on := 5, ground := Go.Ground.phase }, { on := 6, ground := Go.Ground.phase }, { on := 7, ground := Go.Ground.phase }, { on := 8, ground := Go.Ground.phase }], guard := none }) (v := ?vza6) rfl (by kernel_rfl) (by kernel_rfl) (by kernel_rfl) (fun _ _ _ h => h) (Or.inl ⟨by rfl, ?yza6⟩) (by assumption) ?rza6
    case yza6 => (intro w hSw; (try dsimp only at hSw); go_simp; (try with_reducible rfl))
    (try simp only [Act.put, List.setIfInBounds_toArray, List.set_cons_zero, List.set_cons_succ])
    refine wpAnyH_done (by kernel_rfl) ?_ _
    go_wp2_with fail
    go_meet
    exact ⟨k8, rfl, HB8, ZC⟩
  case rest =>
    obtain ⟨k8, rfl, HB8, ZC⟩ := hcut
    replace BX := Lib.hid (BX.out.below ZC.out)
    replace BF := Lib.hid (BF.out.after ZC.out)
    replace LO := Lib.hid (LO.out.after ZC.out)
    replace BG := Lib.hid (BG.out.after ZC.out)
    replace Z := Lib.hid (Z.out.trans (ZC.out.mono Z.out.size))
    have LM := Lib.hid HB8.out.rd
    clear ZC HB8
    have HBB := Lib.hid BF.out.lt
    go_wp2
    go_loopw [13, 12] (fun i s wr => ∃ (j : Nat) (A : Option Addr) (c : Nat), i = .int .i64 j ∧ s = .slice A n c ∧ j ≤ 12 ∧ Hid (Rd wr A (duo (waitS W D J S) (waitS W D J S) j (m0, fbg 5 q 0, fbg 5 r 0)).1) ∧ Hid (Bf wr w2.heap.size (duo (waitS W D J S) (waitS W D J S) j (m0, fbg 5 q 0, fbg 5 r 0)).2.1) ∧ Hid (Bf wr w3.heap.size (duo (waitS W D J S) (waitS W D J S) j (m0, fbg 5 q 0, fbg 5 r 0)).2.2) ∧ Hid (K2 w2.heap.size w3.heap.size wc wr)) (fun i _ _ => 12 - (intOf i).toNat)
    case atStart =>
      skip
      exact ⟨0, (some ⟨k8, 0, none⟩), n, rfl, rfl, by omega, LM, BF, BG, Lib.hid (K2.refl _ _ _)⟩
    case round =>
      clear BF BG LM
      obtain ⟨j, A, c, rfl, rfl, hj, LA, BF, BG, KB⟩ := hrel
      by_cases hlt : j < 12
      · obtain ⟨⟨huM, hlM⟩, hfF, hfG⟩ := HU.out j
        have HLj := Lib.hid hlM
        have HUF := Lib.hid hfF
        have HUG := Lib.hid hfG
        obtain ⟨M', F', hP1⟩ : ∃ M' F', waitS W D J S (duo (waitS W D J S) (waitS W D J S) j (m0, fbg 5 q 0, fbg 5 r 0)).1 (duo (waitS W D J S) (waitS W D J S) j (m0, fbg 5 q 0, fbg 5 r 0)).2.1 = (M', F') := ⟨_, _, rfl⟩
        obtain ⟨M2, G', hP2⟩ : ∃ M2 G', waitS W D J S M' (duo (waitS W D J S) (waitS W D J S) j (m0, fbg 5 q 0, fbg 5 r 0)).2.2 = (M2, G') := ⟨_, _, rfl⟩
        have HE := Lib.hid (duo_one (k := j) (s := (m0, fbg 5 q 0, fbg 5 r 0)) (show duo (waitS W D J S) (waitS W D J S) j (m0, fbg 5 q 0, fbg 5 r 0) = ((duo (waitS W D J S) (waitS W D J S) j (m0, fbg 5 q 0, fbg 5 r 0)).1, (duo (waitS W D J S) (waitS W D J S) j (m0, fbg 5 q 0, fbg 5 r 0)).2.1, (duo (waitS W D J S) (waitS W D J S) j (m0, fbg 5 q 0, fbg 5 r 0)).2.2) from rfl) hP1 hP2)
        have HLj2 := Lib.hid (show M'.length = n by have h : (waitS W D J S (duo (waitS W D J S) (waitS W D J S) j (m0, fbg 5 q 0, fbg 5 r 0)).1 (duo (waitS W D J S) (waitS W D J S) j (m0, fbg 5 q 0, fbg 5 r 0)).2.1).1.length = (duo (waitS W D J S) (waitS W D J S) j (m0, fbg 5 q 0, fbg 5 r 0)).1.length := waitS_len _ _ _ _ _ _; rw [hP1] at h; exact h.trans hlM)
        have HP1 := Lib.hid hP1
        have HP2 := Lib.hid hP2
        clear hP1 hP2 huM hlM hfF hfG
        generalize (duo (waitS W D J S) (waitS W D J S) j (m0, fbg 5 q 0, fbg 5 r 0)).1 = M at *
        generalize (duo (waitS W D J S) (waitS W D J S) j (m0, fbg 5 q 0, fbg 5 r 0)).2.1 = F at *
        generalize (duo (waitS W D J S) (waitS W D J S) j (m0, fbg 5 q 0, fbg 5 r 0)).2.2 = G at *
        obtain ⟨lBX, b0, b1, b2, b3⟩ := BX.out.k2 KB.out HBX1.out HBX2.out
        obtain ⟨d0, d1, d2, d3, d4, d5, d6⟩ := BF.out.cells
        have lBF := BF.out.lt
        go_wp2_with fail
        refine (wait_n LA.out HLj.out hs HUF.out HP1.out).mono ?_
        rintro _ w7 ⟨A7, c7, rfl, hn7, z⟩
        have BF3 := BF.out.after z
        have BG3 := BG.out.after z
        clear b0 b1 b2 b3 d0 d1 d2 d3 d4 d5 d6 lBF lBX
        obtain ⟨d0, d1, d2, d3, d4, d5, d6⟩ := BF3.cells
        have fz := BF3.free
        have lBF := BF3.lt
        have hN := (hn7.pf BF.out.lt F').rd
        have hB3 := BF3.pf F'
        have hG3 := BG3.apart (Nat.ne_of_gt HGK.out) F'
        have hK3 := (KB.out.call HBB.out z).pfl F'
        clear hn7 z BG3
        go_upto_region 11 with fail
        change Code.wp _ _ _ _ (pf w7 w2.heap.size F')
        clear d0 d1 d2 d3 d4 d5 d6 fz lBF BF3 BF BG LA KB
        generalize pf w7 w2.heap.size F' = wp at hN hB3 hG3 hK3 ⊢
        have LA := Lib.hid hN
        have BF := Lib.hid hB3
        have BG := Lib.hid hG3
        have KB := Lib.hid hK3
        clear hN hB3 hG3 hK3
        obtain ⟨lBX, b0, b1, b2, b3⟩ := BX.out.k2 KB.out HBX1.out HBX2.out
        obtain ⟨d0, d1, d2, d3, d4, d5, d6⟩ := BG.out.cells
        have lBG := BG.out.lt
        go_wp2_with fail
        refine (wait_n LA.out HLj2.out hs HUG.out HP2.out).mono ?_
        rintro _ w8 ⟨A8, c8, rfl, hn8, z⟩
        have BF3 := BF.out.after z
        have BG3 := BG.out.after z
        clear b0 b1 b2 b3 d0 d1 d2 d3 d4 d5 d6 lBG lBX
        obtain ⟨d0, d1, d2, d3, d4, d5, d6⟩ := BG3.cells
        have fz := BG3.free
        have lBG := BG3.lt
        have HN := Lib.hid ((hn8.pf BG.out.lt G').rd)
        have HG3 := Lib.hid (BG3.pf G')
        have HF3 := Lib.hid (BF3.apart (Nat.ne_of_lt HGK.out) G')
        have HK3 := Lib.hid ((KB.out.call HBB.out z).pfr HGK.out G')
        clear hn8 z BF3 BG3
        go_wp2_with fail
        go_roundw
        case rel => exact ⟨j + 1, A8, c8, by go_num, rfl, by omega, by rw [HE.out]; exact HN, by rw [HE.out]; exact HF3, by rw [HE.out]; exact HG3, HK3⟩
        case measure => simp [intOf]; omega
      · obtain rfl : j = 12 := by omega
        replace BX := Lib.hid (BX.out.k2 KB.out HBX1.out HBX2.out)
        replace LO := Lib.hid (LO.out.k2 KB.out)
        replace Z := Lib.hid (Z.out.trans (KB.out.low.mono hzf.out))
        clear KB HBB hj hlt
        have HML := Lib.hid (show UM m' ∧ m'.length = n by have := (HU.out 12).1; rw [HI.out] at this; exact this)
        rw [HI.out] at LA BF BG
        simp only at LA BF BG
        obtain ⟨gx, x_0, x_1, x_2, x_3⟩ := BX.out
        obtain ⟨a0, a1, a2, a3, a4, a5, a6⟩ := BF.out.cells
        have la := BF.out.lt
        go_wp2_with fail
        refine (Tells.of (prk_any ⟨5, 3, q, 0, X, 0, 0⟩ _) (v' := .bool true) (by rfl)).mono ?_
        rintro _ w9 ⟨rfl, z⟩
        clear gx x_0 x_1 x_2 x_3 a0 a1 a2 a3 a4 a5 a6 la
        replace Z := Lib.hid (Z.out.trans (z.mono Z.out.size))
        replace BX := Lib.hid (BX.out.below z)
        replace LO := Lib.hid (LO.out.after z)
        replace BF := Lib.hid (BF.out.after z)
        replace BG := Lib.hid (BG.out.after z)
        replace LA := Lib.hid (LA.out.below z)
        clear z
        obtain ⟨b0, b1, b2, b3, b4, b5, b6⟩ := BG.out.cells
        have lb := BG.out.lt
        go_wp2_with fail
        refine (Tells.of (prk_any ⟨5, 3, r, 0, Y, 0, 0⟩ _) (v' := .bool true) (by rfl)).mono ?_
        rintro _ w10 ⟨rfl, z⟩
        clear b0 b1 b2 b3 b4 b5 b6 lb
        replace Z := Lib.hid (Z.out.trans (z.mono Z.out.size))
        replace BX := Lib.hid (BX.out.below z)
        replace LO := Lib.hid (LO.out.after z)
        replace BF := Lib.hid (BF.out.after z)
        replace BG := Lib.hid (BG.out.after z)
        replace LA := Lib.hid (LA.out.below z)
        clear z
        obtain ⟨gx, x_0, x_1, x_2, x_3⟩ := BX.out
        go_wp2_with fail
        refine (Tells.of (waits_any W D J S q A n c m' _ LA.out HML.out.2 HS.out HML.out.1) (v' := .bool true) (by rw [HW1.out])).mono ?_
        rintro _ w11 ⟨rfl, z⟩
        clear gx x_0 x_1 x_2 x_3
        replace Z := Lib.hid (Z.out.trans (z.mono Z.out.size))
        replace BX := Lib.hid (BX.out.below z)
        replace LO := Lib.hid (LO.out.after z)
        replace BF := Lib.hid (BF.out.after z)
        replace BG := Lib.hid (BG.out.after z)
        replace LA := Lib.hid (LA.out.below z)
        clear z
        obtain ⟨gx, x_0, x_1, x_2, x_3⟩ := BX.out
        go_wp2_with fail
        refine (Tells.of (waits_any W D J S r A n c m' _ LA.out HML.out.2 HS.out HML.out.1) (v' := .bool true) (by rw [HW2.out])).mono ?_
        rintro _ w12 ⟨rfl, z⟩
        clear gx x_0 x_1 x_2 x_3
        replace Z := Lib.hid (Z.out.trans (z.mono Z.out.size))
        replace BX := Lib.hid (BX.out.below z)
        replace LO := Lib.hid (LO.out.after z)
        replace BF := Lib.hid (BF.out.after z)
        replace BG := Lib.hid (BG.out.after z)
        replace LA := Lib.hid (LA.out.below z)
        clear z
        go_wp2_with fail
        refine (load_any A n c m' 2 _ LA.out HML.out.2 HS.out).mono ?_
        rintro _ w13 ⟨rfl, z⟩
        replace Z := Lib.hid (Z.out.trans (z.mono Z.out.size))
        replace BX := Lib.hid (BX.out.below z)
        replace LO := Lib.hid (LO.out.after z)
        replace BF := Lib.hid (BF.out.after z)
        replace BG := Lib.hid (BG.out.after z)
        replace LA := Lib.hid (LA.out.below z)
        clear z
        go_wp2_with fail
        refine (Tells.of (epoch_any (at0 m' 2) _).tells (v' := .int .u64 P) (by rw [HEP.out])).mono ?_
        rintro _ w14 ⟨rfl, z⟩
        replace Z := Lib.hid (Z.out.trans (z.mono Z.out.size))
        replace BX := Lib.hid (BX.out.below z)
        replace LO := Lib.hid (LO.out.after z)
        replace BF := Lib.hid (BF.out.after z)
        replace BG := Lib.hid (BG.out.after z)
        replace LA := Lib.hid (LA.out.below z)
        clear z
        go_wp2_with fail
        refine (load_any A0 n c0 m 2 _ LO.out.rd HN.out HS.out).mono ?_
        rintro _ w15 ⟨rfl, z⟩
        replace Z := Lib.hid (Z.out.trans (z.mono Z.out.size))
        replace BX := Lib.hid (BX.out.below z)
        replace LO := Lib.hid (LO.out.after z)
        replace BF := Lib.hid (BF.out.after z)
        replace BG := Lib.hid (BG.out.after z)
        replace LA := Lib.hid (LA.out.below z)
        clear z
        go_wp2_with fail
        refine (Tells.of (epoch_any (at0 m 2) _).tells (v' := .int .u64 P) (by rw [HP.out])).mono ?_
        rintro _ w16 ⟨rfl, z⟩
        replace Z := Lib.hid (Z.out.trans (z.mono Z.out.size))
        replace BX := Lib.hid (BX.out.below z)
        replace LO := Lib.hid (LO.out.after z)
        replace BF := Lib.hid (BF.out.after z)
        replace BG := Lib.hid (BG.out.after z)
        replace LA := Lib.hid (LA.out.below z)
        clear z
        go_wp2
        go_ret
        exact ⟨rfl, Z.out⟩
theorem two_walk (W D J S q r : Int) (A0 : Option Addr) (n c0 : Nat) (m : List Int) (w : World) (hm : Rd w A0 m) (hn : m.length = n) (hu : UM m) : Tells 7 #[cf W D J S, .slice A0 n c0, .int .i64 q, .int .i64 r] w (.bool true) := by
  by_cases hs : n ≤ 500
  · by_cases hne : r = q
    · subst hne
      exact two_one W D J S r A0 n c0 m w hm hn hs
    · cases ho : okw W D J S m q
      · exact two_noq W D J S q r A0 n c0 m w hm hn hs hne ho
      · cases hr : okw W D J S m r
        · exact two_nor W D J S q r A0 n c0 m w hm hn hs hne ho hr
        · exact two_main W D J S q r A0 n c0 m w hm hn hs hu hne ho hr
  · exact two_big W D J S q r A0 n c0 m w hm hn (by omega)
end Go.Proofs.Ytpnmgpmmaiinmaa
