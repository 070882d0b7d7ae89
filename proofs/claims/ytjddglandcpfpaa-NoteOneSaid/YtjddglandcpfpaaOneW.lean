/- The walk of NoteOne. -/
import Derived.Test.YtjddglandcpfpaaNtF
import Derived.Test.YtjddglandcpfpaaPuL
import Derived.Test.YtjddglandcpfpaaWtE
import Derived.IntWalk
import Derived.Deep.RegionHeld3
namespace Go.Proofs.Ytjddglandcpfpaa
open Go.RowKit Go.Deep
/-- Who waits, told by the word. -/
theorem wts_bit {W D J S : Int} {m : List Int} {k : Nat} (h : okw W D J S m k = true) : wts W D J S m k = decide (at0 m 2 / 2 ^ k % 2 = 1) := by
  have := okw_who h
  unfold wts
  rw [h, st_has _ k (by omega), bit_mask _ k (by omega)]; rfl
theorem nx_bit (o E : Int) (k : Nat) (hk : k < 16) (ho : o = 6 ∨ o = 7) : nxN o E / 2 ^ k % 2 = 1 ↔ (o = 6 ∧ E / 2 ^ k % 2 = 1 ∧ lw E ≠ k) := by
  rw [← bit_mask (nxN o E) k hk]
  rcases ho with rfl | rfl
  · rw [nxN_mask6, rs_bit E k hk]; simp
  · rw [nxN_mask7]; simp
theorem one_big6 (W D J S k : Int) (A : Option Addr) (n c : Nat) (m : List Int) (w : World) (hm : Rd w A m) (hn : m.length = n) (hs : 500 < n) : Tells 3 #[cf W D J S, .slice A n c, .bool false, .int .i64 k] w (.bool true) := by
  have LM0 := Lib.hid hm
  have HN := Lib.hid hn
  clear hm hn
  have hd : decide ((500 : Int) < (n : Int)) = true := decide_eq_true (by omega)
  go_enter Try.func3, Try.ntmps3
  go_wp2_with fail
  refine (awake_any _).mono ?_
  rintro _ w1 ⟨rfl, z⟩
  have BX := Lib.hid ((Bx.mk w W D J S 23).below z)
  replace z := (box_below w _).trans (z.mono (by simp))
  have Z := Lib.hid z
  have LM := Lib.hid (LM0.out.below z)
  clear z LM0
  obtain ⟨gx, x_0, x_1, x_2, x_3⟩ := BX.out
  go_wp2_with fail
  refine (begin_any 6 0 0 _).mono ?_
  rintro _ w2 ⟨rfl, z⟩
  clear gx x_0 x_1 x_2 x_3
  replace Z := Lib.hid (Z.out.trans (z.mono Z.out.size))
  replace BX := Lib.hid (BX.out.below z)
  replace LM := Lib.hid (LM.out.below z)
  clear z
  go_wp2
  go_ret
  exact ⟨rfl, Z.out.alloc Z.out.size _⟩
theorem one_no6 (W D J S k : Int) (A : Option Addr) (n c : Nat) (m : List Int) (w : World) (hm : Rd w A m) (hn : m.length = n) (hs : n ≤ 500) (ho : okm W D J S m = false) : Tells 3 #[cf W D J S, .slice A n c, .bool false, .int .i64 k] w (.bool true) := by
  have LM0 := Lib.hid hm
  have HN := Lib.hid hn
  clear hm hn
  have hd : decide ((500 : Int) < (n : Int)) = false := decide_eq_false (by omega)
  have HO := Lib.hid ho
  clear ho
  go_enter Try.func3, Try.ntmps3
  go_wp2_with fail
  refine (awake_any _).mono ?_
  rintro _ w1 ⟨rfl, z⟩
  have BX := Lib.hid ((Bx.mk w W D J S 23).below z)
  replace z := (box_below w _).trans (z.mono (by simp))
  have Z := Lib.hid z
  have LM := Lib.hid (LM0.out.below z)
  clear z LM0
  obtain ⟨gx, x_0, x_1, x_2, x_3⟩ := BX.out
  go_wp2_with fail
  refine (begin_any 6 0 0 _).mono ?_
  rintro _ w2 ⟨rfl, z⟩
  clear gx x_0 x_1 x_2 x_3
  replace Z := Lib.hid (Z.out.trans (z.mono Z.out.size))
  replace BX := Lib.hid (BX.out.below z)
  replace LM := Lib.hid (LM.out.below z)
  clear z
  obtain ⟨gx, x_0, x_1, x_2, x_3⟩ := BX.out
  go_wp2_with fail
  refine (Tells.of (ngoes_any W D J S A n c m (fbg 6 0 0) _ HN.out) (v' := .bool false) (by rw [goesN_begun (by simp), HO.out])).mono ?_
  rintro _ w3 ⟨rfl, z⟩
  clear gx x_0 x_1 x_2 x_3
  have BF := Lib.hid ((Bf.new w2 (fbg 6 0 0)).after z)
  replace z := keep_call z (bel_alloc w2 _)
  replace Z := Lib.hid (Z.out.trans (z.mono Z.out.size))
  replace BX := Lib.hid (BX.out.below z)
  replace LM := Lib.hid (LM.out.below z)
  clear z
  obtain ⟨gx, x_0, x_1, x_2, x_3⟩ := BX.out
  go_wp2
  go_ret
  exact ⟨rfl, Z.out⟩
theorem one_neg6 (W D J S k : Int) (A : Option Addr) (n c : Nat) (m : List Int) (w : World) (hm : Rd w A m) (hn : m.length = n) (hs : n ≤ 500) (ho : okm W D J S m = true) (hk : k < 0) : Tells 3 #[cf W D J S, .slice A n c, .bool false, .int .i64 k] w (.bool true) := by
  have LM0 := Lib.hid hm
  have HN := Lib.hid hn
  clear hm hn
  have hd : decide ((500 : Int) < (n : Int)) = false := decide_eq_false (by omega)
  have HO := Lib.hid ho
  clear ho
  have hd1 : decide (k < 0) = true := decide_eq_true hk
  clear hk
  go_enter Try.func3, Try.ntmps3
  go_wp2_with fail
  refine (awake_any _).mono ?_
  rintro _ w1 ⟨rfl, z⟩
  have BX := Lib.hid ((Bx.mk w W D J S 23).below z)
  replace z := (box_below w _).trans (z.mono (by simp))
  have Z := Lib.hid z
  have LM := Lib.hid (LM0.out.below z)
  clear z LM0
  obtain ⟨gx, x_0, x_1, x_2, x_3⟩ := BX.out
  go_wp2_with fail
  refine (begin_any 6 0 0 _).mono ?_
  rintro _ w2 ⟨rfl, z⟩
  clear gx x_0 x_1 x_2 x_3
  replace Z := Lib.hid (Z.out.trans (z.mono Z.out.size))
  replace BX := Lib.hid (BX.out.below z)
  replace LM := Lib.hid (LM.out.below z)
  clear z
  obtain ⟨gx, x_0, x_1, x_2, x_3⟩ := BX.out
  go_wp2_with fail
  refine (Tells.of (ngoes_any W D J S A n c m (fbg 6 0 0) _ HN.out) (v' := .bool true) (by rw [goesN_begun (by simp), HO.out])).mono ?_
  rintro _ w3 ⟨rfl, z⟩
  clear gx x_0 x_1 x_2 x_3
  have BF := Lib.hid ((Bf.new w2 (fbg 6 0 0)).after z)
  replace z := keep_call z (bel_alloc w2 _)
  replace Z := Lib.hid (Z.out.trans (z.mono Z.out.size))
  replace BX := Lib.hid (BX.out.below z)
  replace LM := Lib.hid (LM.out.below z)
  clear z
  obtain ⟨gx, x_0, x_1, x_2, x_3⟩ := BX.out
  go_wp2
  go_ret
  exact ⟨rfl, Z.out⟩
theorem one_far6 (W D J S k : Int) (A : Option Addr) (n c : Nat) (m : List Int) (w : World) (hm : Rd w A m) (hn : m.length = n) (hs : n ≤ 500) (ho : okm W D J S m = true) (h0 : 0 ≤ k) (hk : W ≤ k) : Tells 3 #[cf W D J S, .slice A n c, .bool false, .int .i64 k] w (.bool true) := by
  have LM0 := Lib.hid hm
  have HN := Lib.hid hn
  clear hm hn
  have hd : decide ((500 : Int) < (n : Int)) = false := decide_eq_false (by omega)
  have HO := Lib.hid ho
  clear ho
  have hd1 : decide (k < 0) = false := decide_eq_false (by omega)
  have hd2 : decide (W ≤ k) = true := decide_eq_true hk
  clear h0 hk
  go_enter Try.func3, Try.ntmps3
  go_wp2_with fail
  refine (awake_any _).mono ?_
  rintro _ w1 ⟨rfl, z⟩
  have BX := Lib.hid ((Bx.mk w W D J S 23).below z)
  replace z := (box_below w _).trans (z.mono (by simp))
  have Z := Lib.hid z
  have LM := Lib.hid (LM0.out.below z)
  clear z LM0
  obtain ⟨gx, x_0, x_1, x_2, x_3⟩ := BX.out
  go_wp2_with fail
  refine (begin_any 6 0 0 _).mono ?_
  rintro _ w2 ⟨rfl, z⟩
  clear gx x_0 x_1 x_2 x_3
  replace Z := Lib.hid (Z.out.trans (z.mono Z.out.size))
  replace BX := Lib.hid (BX.out.below z)
  replace LM := Lib.hid (LM.out.below z)
  clear z
  obtain ⟨gx, x_0, x_1, x_2, x_3⟩ := BX.out
  go_wp2_with fail
  refine (Tells.of (ngoes_any W D J S A n c m (fbg 6 0 0) _ HN.out) (v' := .bool true) (by rw [goesN_begun (by simp), HO.out])).mono ?_
  rintro _ w3 ⟨rfl, z⟩
  clear gx x_0 x_1 x_2 x_3
  have BF := Lib.hid ((Bf.new w2 (fbg 6 0 0)).after z)
  replace z := keep_call z (bel_alloc w2 _)
  replace Z := Lib.hid (Z.out.trans (z.mono Z.out.size))
  replace BX := Lib.hid (BX.out.below z)
  replace LM := Lib.hid (LM.out.below z)
  clear z
  obtain ⟨gx, x_0, x_1, x_2, x_3⟩ := BX.out
  go_wp2
  go_ret
  exact ⟨rfl, Z.out⟩
set_option maxHeartbeats 2000000 in
theorem one_6n (W D J S : Int) (k : Nat) (A : Option Addr) (n c : Nat) (m : List Int) (w : World) (hm : Rd w A m) (hn : m.length = n) (hs : n ≤ 500) (hu : UM m) (hk : okw W D J S m k = true) (hb : ¬ at0 m 2 / 2 ^ k % 2 = 1) : Tells 3 #[cf W D J S, .slice A n c, .bool false, .int .i64 (k : Int)] w (.bool true) := by
  have hpk := pkI_lim hk
  have hwho := okw_who hk
  have hpo := pkI_ow hk
  have hkW := okw_iff.1 hk
  have hk16 : k < 16 := by omega
  have ho := okm_of hk
  obtain ⟨m0, hm0⟩ : ∃ m0, m0 = put m (pkI D J k) 0 := ⟨_, rfl⟩
  have k0 : okw W D J S m0 k = true := by rw [hm0]; exact okw_put hk _ _
  have n0 : m0.length = n := by rw [hm0, len_put]; exact hn
  have z0 : at0 m0 (pkI D J k) = 0 := by rw [hm0]; exact at0_put _ (by omega) hpk.2
  have um0 : UM m0 := by rw [hm0]; exact put_U hu _ U0
  have e0 : at0 m0 2 = at0 m 2 := by rw [hm0]; exact at0_put_ne _ _ (by omega)
  obtain ⟨E, hE⟩ : ∃ E, at0 m0 2 = E := ⟨_, rfl⟩
  rw [← e0, hE] at hb
  have hue : U E := by rw [← hE]; exact at0_U um0 2
  obtain ⟨l', f', i20, hres, hev, hpark⟩ := alone_20 (o := 6) (okm_of k0) (by simp)
  rw [hE] at hres hev hpark
  have hpa := hpark k k0
  rw [z0] at hpa
  have hpa2 : at0 l' (pkI D J k) = 0 := by rw [hpa, if_neg (fun h => hb h.1)]
  have hl' := noteN_len W D J S 20 (m0, fbg 6 0 0)
  have hul := noteN_U (W := W) (D := D) (J := J) (S := S) (s := (m0, fbg 6 0 0)) um0 ⟨U0, U0, U0⟩ 20
  rw [i20] at hl' hul
  have hn2 : l'.length = n := hl'.trans n0
  have k2 : okw W D J S l' k = true := by rw [okw_len (m := m0) hl']; exact k0
  have hov : (f'.res != 0) = true := by rw [hres]; split <;> rfl
  obtain ⟨M, hM⟩ : ∃ M, E % 65536 = M := ⟨_, rfl⟩
  have hMl : 0 ≤ M ∧ M < 65536 := by omega
  obtain ⟨z, hz2⟩ : ∃ z, (M == 0) = z := ⟨_, rfl⟩
  have hz1 : (f'.res == 3) = z := by rw [hres, ← hz2, hM]; by_cases h : M = 0; rw [if_pos h]; simp [h]; rw [if_neg h]; simp [h]
  have hzz : (z == z) = true := by simp
  have hp := pow_lt hk16
  obtain ⟨PP, hPP⟩ : ∃ PP : Int, 2 ^ k = PP := ⟨_, rfl⟩
  rw [hPP] at hp
  have hw0 : IntKind.u64.wrap ((2 : Int) ^ min k 64) = PP := by rw [Nat.min_eq_left (by omega), hPP, IntKind.wrap_u64]; omega
  have hpn : ¬ PP = 0 := by omega
  obtain ⟨QQ, hQQ⟩ : ∃ QQ, M / PP = QQ := ⟨_, rfl⟩
  have hQl : 0 ≤ QQ ∧ QQ ≤ M := by rw [← hQQ]; exact ⟨Int.ediv_nonneg hMl.1 (by omega), Int.ediv_le_self _ hMl.1⟩
  have hdv : M.tdiv PP = QQ := by rw [Int.tdiv_eq_ediv_of_nonneg hMl.1]; exact hQQ
  have hdw : IntKind.u64.wrap QQ = QQ := by rw [IntKind.wrap_u64]; omega
  obtain ⟨R, hR⟩ : ∃ R, QQ % 2 = R := ⟨_, rfl⟩
  have hmd : QQ.tmod 2 = R := by rw [Int.tmod_eq_emod_of_nonneg hQl.1]; exact hR
  have hmw : IntKind.u64.wrap R = R := by rw [IntKind.wrap_u64]; omega
  have hbb : (R == 1) = false := by
    have h := bit_mask E k hk16
    rw [hM, hPP, hQQ, hR] at h
    rw [h]
    simpa [hPP] using hb
  obtain ⟨Q, hQ⟩ : ∃ Q, E / 65536 = Q := ⟨_, rfl⟩
  obtain ⟨P, hP⟩ : ∃ P, at0 l' 2 / 65536 = P := ⟨_, rfl⟩
  have hq0 : 0 ≤ Q ∧ Q < 281474976710656 := by unfold U at hue; omega
  have hPQ : P = (Q + 1) % 281474976710656 := by rw [← hP, hev, nxN_epoch, hQ]
  have hw1 : IntKind.u64.wrap (Q + 1) = Q + 1 := by rw [IntKind.wrap_u64]; omega
  have hw2 : (Q + 1).tmod 281474976710656 = P := by rw [Int.tmod_eq_emod_of_nonneg (by omega)]; exact hPQ.symm
  have hw4 : IntKind.u64.wrap P = P := by rw [IntKind.wrap_u64]; omega
  have hw3 : (P == P) = true := by simp
  have hd1 : decide ((k : Int) < 0) = false := decide_eq_false (by omega)
  have hd2 : decide (W ≤ (k : Int)) = false := decide_eq_false (by omega)
  have hd3 : decide ((7 : Int) < (k : Int)) = false := decide_eq_false (by omega)
  have hwn : wts W D J S l' k = false := by rw [wts_bit k2, hev, decide_eq_false_iff_not, nx_bit _ _ k hk16 (by simp)]; rintro ⟨_, h, _⟩; exact hb h
  have hwm : wts W D J S m0 k = false := by rw [wts_bit k0, hE, decide_eq_false_iff_not]; exact hb
  have LM0 := Lib.hid hm
  have HN := Lib.hid hn
  clear hm hn
  have hd : decide ((500 : Int) < (n : Int)) = false := decide_eq_false (by omega)
  have HO := Lib.hid ho
  have HS := Lib.hid hs
  have HM0 := Lib.hid hm0
  have HN0 := Lib.hid n0
  have HUM0 := Lib.hid um0
  have HE := Lib.hid hE
  have HUE := Lib.hid hue
  have HI := Lib.hid i20
  have HPA := Lib.hid hpa2
  have HN2 := Lib.hid hn2
  have HUL := Lib.hid hul
  have HOV := Lib.hid hov
  have HM := Lib.hid hM
  have HPO := Lib.hid hpo
  have HQ := Lib.hid hQ
  have HP := Lib.hid hP
  have HWN := Lib.hid hwn
  have HML := Lib.hid hMl
  have HWM := Lib.hid hwm
  clear hk hpk hwho hkW hk16 k0 z0 e0 hres hev hpark hpa hl' k2 hu hb hp hPP hQQ hQl hR hq0 hPQ ho hs hm0 n0 um0 hE hue i20 hpa2 hn2 hul hov hM hpo hQ hP hwn hMl hwm
  go_enter Try.func3, Try.ntmps3
  go_wp2_with fail
  refine (awake_any _).mono ?_
  rintro _ w1 ⟨rfl, z⟩
  have BX := Lib.hid ((Bx.mk w W D J S 23).below z)
  replace z := (box_below w _).trans (z.mono (by simp))
  have Z := Lib.hid z
  have LM := Lib.hid (LM0.out.below z)
  clear z LM0
  obtain ⟨gx, x_0, x_1, x_2, x_3⟩ := BX.out
  go_wp2_with fail
  refine (begin_any 6 0 0 _).mono ?_
  rintro _ w2 ⟨rfl, z⟩
  clear gx x_0 x_1 x_2 x_3
  replace Z := Lib.hid (Z.out.trans (z.mono Z.out.size))
  replace BX := Lib.hid (BX.out.below z)
  replace LM := Lib.hid (LM.out.below z)
  clear z
  obtain ⟨gx, x_0, x_1, x_2, x_3⟩ := BX.out
  go_wp2_with fail
  refine (Tells.of (ngoes_any W D J S A n c m (fbg 6 0 0) _ HN.out) (v' := .bool true) (by rw [goesN_begun (by simp), HO.out])).mono ?_
  rintro _ w3 ⟨rfl, z⟩
  clear gx x_0 x_1 x_2 x_3
  have BF := Lib.hid ((Bf.new w2 (fbg 6 0 0)).after z)
  replace z := keep_call z (bel_alloc w2 _)
  replace Z := Lib.hid (Z.out.trans (z.mono Z.out.size))
  replace BX := Lib.hid (BX.out.below z)
  replace LM := Lib.hid (LM.out.below z)
  clear z
  obtain ⟨gx, x_0, x_1, x_2, x_3⟩ := BX.out
  go_wp2_with fail
  refine (Tells.of (park_any W D J S k _) (v' := .int .i64 (pkI D J k)) (by rw [HPO.out])).mono ?_
  rintro _ w4 ⟨rfl, z⟩
  clear gx x_0 x_1 x_2 x_3
  replace Z := Lib.hid (Z.out.trans (z.mono Z.out.size))
  replace BX := Lib.hid (BX.out.below z)
  replace LM := Lib.hid (LM.out.below z)
  replace BF := Lib.hid (BF.out.after z)
  clear z
  go_wp2_with fail
  refine (store_new A n c m (pkI D J k) 0 _ LM.out HN.out HS.out).mono ?_
  rintro _ w5 ⟨g5, rfl, hg5, hb5, z⟩
  replace Z := Lib.hid (Z.out.trans (z.mono Z.out.size))
  replace BX := Lib.hid (BX.out.below z)
  replace LM := Lib.hid (LM.out.below z)
  replace BF := Lib.hid (BF.out.after z)
  have L0 := Lib.hid (show Rd w5 (some ⟨g5, 0, none⟩) m0 by rw [HM0.out]; exact hb5.rd)
  clear hg5 hb5 z LM
  go_wp2_with fail
  refine (ret_of (load_any (some ⟨g5, 0, none⟩) n n m0 2 _ L0.out HN0.out HS.out) (v' := .int .u64 E) (by rw [HE.out])).mono ?_
  rintro _ w6 ⟨rfl, z⟩
  replace Z := Lib.hid (Z.out.trans (z.mono Z.out.size))
  replace BX := Lib.hid (BX.out.below z)
  replace BF := Lib.hid (BF.out.after z)
  replace L0 := Lib.hid (L0.out.below z)
  clear z
  go_wp2_with fail
  refine (Tells.of (mask_any E _ HUE.out).tells (v' := .int .u64 M) (by rw [HM.out])).mono ?_
  rintro _ w7 ⟨rfl, z⟩
  replace Z := Lib.hid (Z.out.trans (z.mono Z.out.size))
  replace BX := Lib.hid (BX.out.below z)
  replace BF := Lib.hid (BF.out.after z)
  replace L0 := Lib.hid (L0.out.below z)
  clear z
  obtain ⟨gx, x_0, x_1, x_2, x_3⟩ := BX.out
  obtain ⟨a0, a1, a2, a3, a4, a5, a6⟩ := BF.out.cells
  have la := BF.out.lt
  simp only [fbg] at a0 a1 a2 a3 a4 a5 a6
  go_wp2_with fail
  refine (alone_n (f := fbg 6 0 0) L0.out HN0.out HS.out HUM0.out ⟨U0, U0, U0⟩ HI.out).mono ?_
  rintro _ w8 ⟨A8, c8, rfl, hn8, z⟩
  clear gx x_0 x_1 x_2 x_3 a0 a1 a2 a3 a4 a5 a6 la
  replace Z := Lib.hid (Z.out.trans (z.mono Z.out.size))
  replace BX := Lib.hid (BX.out.below z)
  replace BF := Lib.hid (BF.out.after z)
  replace L0 := Lib.hid (L0.out.below z)
  have LB := Lib.hid hn8.rd
  clear hn8 z BF
  obtain ⟨gx, x_0, x_1, x_2, x_3⟩ := BX.out
  go_wp2_with fail
  refine (Tells.of (park_any W D J S k _) (v' := .int .i64 (pkI D J k)) (by rw [HPO.out])).mono ?_
  rintro _ w9 ⟨rfl, z⟩
  clear gx x_0 x_1 x_2 x_3
  have BG := Lib.hid ((Bf.new w8 f').after z)
  replace z := keep_call z (bel_alloc w8 _)
  replace Z := Lib.hid (Z.out.trans (z.mono Z.out.size))
  replace BX := Lib.hid (BX.out.below z)
  replace L0 := Lib.hid (L0.out.below z)
  replace LB := Lib.hid (LB.out.below z)
  clear z
  go_wp2_with fail
  refine (ret_of (load_any A8 n c8 l' (pkI D J k) _ LB.out HN2.out HS.out) (v' := .int .u64 0) (by rw [HPA.out])).mono ?_
  rintro _ w10 ⟨rfl, z⟩
  replace Z := Lib.hid (Z.out.trans (z.mono Z.out.size))
  replace BX := Lib.hid (BX.out.below z)
  replace L0 := Lib.hid (L0.out.below z)
  replace LB := Lib.hid (LB.out.below z)
  replace BG := Lib.hid (BG.out.after z)
  clear z
  go_wp2_with fail
  refine (load_any A8 n c8 l' 2 _ LB.out HN2.out HS.out).mono ?_
  rintro _ w11 ⟨rfl, z⟩
  replace Z := Lib.hid (Z.out.trans (z.mono Z.out.size))
  replace BX := Lib.hid (BX.out.below z)
  replace L0 := Lib.hid (L0.out.below z)
  replace LB := Lib.hid (LB.out.below z)
  replace BG := Lib.hid (BG.out.after z)
  clear z
  go_wp2_with fail
  refine (Tells.of (epoch_any (at0 l' 2) _).tells (v' := .int .u64 P) (by rw [HP.out])).mono ?_
  rintro _ w12 ⟨rfl, z⟩
  replace Z := Lib.hid (Z.out.trans (z.mono Z.out.size))
  replace BX := Lib.hid (BX.out.below z)
  replace L0 := Lib.hid (L0.out.below z)
  replace LB := Lib.hid (LB.out.below z)
  replace BG := Lib.hid (BG.out.after z)
  clear z
  go_wp2_with fail
  refine (ret_of (load_any (some ⟨g5, 0, none⟩) n n m0 2 _ L0.out HN0.out HS.out) (v' := .int .u64 E) (by rw [HE.out])).mono ?_
  rintro _ w13 ⟨rfl, z⟩
  replace Z := Lib.hid (Z.out.trans (z.mono Z.out.size))
  replace BX := Lib.hid (BX.out.below z)
  replace L0 := Lib.hid (L0.out.below z)
  replace LB := Lib.hid (LB.out.below z)
  replace BG := Lib.hid (BG.out.after z)
  clear z
  go_wp2_with fail
  refine (Tells.of (epoch_any E _).tells (v' := .int .u64 Q) (by rw [HQ.out])).mono ?_
  rintro _ w14 ⟨rfl, z⟩
  replace Z := Lib.hid (Z.out.trans (z.mono Z.out.size))
  replace BX := Lib.hid (BX.out.below z)
  replace L0 := Lib.hid (L0.out.below z)
  replace LB := Lib.hid (LB.out.below z)
  replace BG := Lib.hid (BG.out.after z)
  clear z
  go_upto_region 14 with fail
  clear hd1 hd2 hd3 hw1 hw2 hw4 hd hw0 hpn hdv hdw hmd hmw hbb
  have HK := Lib.hid (show ∀ x', Below w14.heap.size w14 x' → (fun w' => w'.cell? ⟨w.heap.size, 0, none⟩ = some (.int .i64 W) ∧ w'.cell? ⟨w.heap.size, 1, none⟩ = some (.int .i64 D) ∧ w'.cell? ⟨w.heap.size, 2, none⟩ = some (.int .i64 J) ∧ w'.cell? ⟨w.heap.size, 3, none⟩ = some (.int .i64 S) ∧ w'.cell? ⟨w8.heap.size, 0, none⟩ = some (.int .i64 f'.op) ∧ w'.cell? ⟨w8.heap.size, 1, none⟩ = some (.int .i64 f'.pc) ∧ w'.cell? ⟨w8.heap.size, 2, none⟩ = some (.int .i64 f'.who) ∧ w'.cell? ⟨w8.heap.size, 3, none⟩ = some (.int .u64 f'.val) ∧ w'.cell? ⟨w8.heap.size, 4, none⟩ = some (.int .u64 f'.x) ∧ w'.cell? ⟨w8.heap.size, 5, none⟩ = some (.int .u64 f'.y) ∧ w'.cell? ⟨w8.heap.size, 6, none⟩ = some (.int .i64 f'.res) ∧ Below w14.heap.size w14 w') x' from fun x' hx => by
    obtain ⟨_, e0, e1, e2, e3⟩ := BX.out.below hx
    obtain ⟨d0, d1, d2, d3, d4, d5, d6⟩ := (BG.out.after hx).cells
    exact ⟨e0, e1, e2, e3, d0, d1, d2, d3, d4, d5, d6, hx⟩)
  have hHeld0 := HK.out _ (Below.refl _ _)
  have ZC := Lib.hid (Below.refl w14.heap.size w14).drew
  refine wp_region_held_drew (S := fun w' => w'.cell? ⟨w.heap.size, 0, none⟩ = some (.int .i64 W) ∧ w'.cell? ⟨w.heap.size, 1, none⟩ = some (.int .i64 D) ∧ w'.cell? ⟨w.heap.size, 2, none⟩ = some (.int .i64 J) ∧ w'.cell? ⟨w.heap.size, 3, none⟩ = some (.int .i64 S) ∧ w'.cell? ⟨w8.heap.size, 0, none⟩ = some (.int .i64 f'.op) ∧ w'.cell? ⟨w8.heap.size, 1, none⟩ = some (.int .i64 f'.pc) ∧ w'.cell? ⟨w8.heap.size, 2, none⟩ = some (.int .i64 f'.who) ∧ w'.cell? ⟨w8.heap.size, 3, none⟩ = some (.int .u64 f'.val) ∧ w'.cell? ⟨w8.heap.size, 4, none⟩ = some (.int .u64 f'.x) ∧ w'.cell? ⟨w8.heap.size, 5, none⟩ = some (.int .u64 f'.y) ∧ w'.cell? ⟨w8.heap.size, 6, none⟩ = some (.int .i64 f'.res) ∧ Below w14.heap.size w14 w') (by kernel_rfl) (hd_drew HK.out (fun _ h => h.2.2.2.2.2.2.2.2.2.2.2) hHeld0) (fun hHeld => ?_)
  refine wpAnyH_take (i := 0) (oi := { dst := some 96, op := Go.Op.move (Go.Operand.tmp 17), type := 4, pos := "law.go:73", after := #[], guard := none }) (v := ?vza1) rfl (by kernel_rfl) (by kernel_rfl) (by kernel_rfl) (fun _ _ _ h => h) (Or.inl ⟨by rfl, ?yza1⟩) (by assumption) ?rza1
  case yza1 => (intro w hSw; (try dsimp only at hSw); go_simp; (try with_reducible rfl))
  (try simp only [Act.put, List.setIfInBounds_toArray, List.set_cons_zero, List.set_cons_succ])
  refine wpAnyH_take (i := 1) (oi := { dst := some 97, op := Go.Op.move (Go.Operand.tmp 96), type := 4, pos := "law.go:73", after := #[{ on := 0, ground := Go.Ground.data }], guard := none }) (v := ?vza2) rfl (by kernel_rfl) (by kernel_rfl) (by kernel_rfl) (fun _ _ _ h => h) (Or.inl ⟨by rfl, ?yza2⟩) (by assumption) ?rza2
  case yza2 => (intro w hSw; (try dsimp only at hSw); go_simp; (try with_reducible rfl))
  (try simp only [Act.put, List.setIfInBounds_toArray, List.set_cons_zero, List.set_cons_succ])
  refine wpAnyH_take (i := 2) (oi := { dst := some 98, op := Go.Op.move (Go.Operand.tmp 15), type := 4, pos := "law.go:73", after := #[{ on := 1, ground := Go.Ground.guard }], guard := some (1, true) }) (v := ?vza3) rfl (by kernel_rfl) (by kernel_rfl) (by kernel_rfl) (fun _ _ _ h => h) (Or.inl ⟨by rfl, ?yza3⟩) (by assumption) ?rza3
  case yza3 => (intro w hSw; (try dsimp only at hSw); go_simp; (try with_reducible rfl))
  (try simp only [Act.put, List.setIfInBounds_toArray, List.set_cons_zero, List.set_cons_succ])
  refine wpAnyH_take (i := 3) (oi := { dst := some 99, op := Go.Op.move (Go.Operand.tmp 16), type := 4, pos := "law.go:73", after := #[{ on := 1, ground := Go.Ground.guard }], guard := some (1, true) }) (v := ?vza4) rfl (by kernel_rfl) (by kernel_rfl) (by kernel_rfl) (fun _ _ _ h => h) (Or.inl ⟨by rfl, ?yza4⟩) (by assumption) ?rza4
  case yza4 => (intro w hSw; (try dsimp only at hSw); go_simp; (try with_reducible rfl))
  (try simp only [Act.put, List.setIfInBounds_toArray, List.set_cons_zero, List.set_cons_succ])
  refine wpAnyH_take (i := 4) (oi := { dst := some 100, op := Go.Op.binOp Go.BinOp.eql 4 (Go.Operand.tmp 98) (Go.Operand.tmp 99) 4, type := 4, pos := "law.go:73", after := #[{ on := 2, ground := Go.Ground.data }, { on := 3, ground := Go.Ground.data }, { on := 1, ground := Go.Ground.guard }], guard := some (1, true) }) (v := ?vza5) rfl (by kernel_rfl) (by kernel_rfl) (by kernel_rfl) (fun _ _ _ h => h) (Or.inl ⟨by rfl, ?yza5⟩) (by assumption) ?rza5
  case yza5 => (intro w hSw; (try dsimp only at hSw); go_simp; (try with_reducible rfl))
  (try simp only [Act.put, List.setIfInBounds_toArray, List.set_cons_zero, List.set_cons_succ])
  refine wpAnyH_take (i := 5) (oi := { dst := some 101, op := Go.Op.pick (Go.Operand.tmp 97) (Go.Operand.tmp 100) (Go.Operand.const (Go.Value.bool false)), type := 4, pos := "law.go:73", after := #[{ on := 1, ground := Go.Ground.data }, { on := 4, ground := Go.Ground.data }], guard := none }) (v := ?vza6) rfl (by kernel_rfl) (by kernel_rfl) (by kernel_rfl) (fun _ _ _ h => h) (Or.inl ⟨by rfl, ?yza6⟩) (by assumption) ?rza6
  case yza6 => (intro w hSw; (try dsimp only at hSw); go_simp; (try with_reducible rfl))
  (try simp only [Act.put, List.setIfInBounds_toArray, List.set_cons_zero, List.set_cons_succ])
  refine wpAnyH_take (i := 6) (oi := { dst := some 102, op := Go.Op.move (Go.Operand.tmp 101), type := 4, pos := "law.go:73", after := #[{ on := 5, ground := Go.Ground.data }, { on := 1, ground := Go.Ground.chain }], guard := none }) (v := ?vza7) rfl (by kernel_rfl) (by kernel_rfl) (by kernel_rfl) (fun _ _ _ h => h) (Or.inl ⟨by rfl, ?yza7⟩) (by assumption) ?rza7
  case yza7 => (intro w hSw; (try dsimp only at hSw); go_simp; (try with_reducible rfl))
  (try simp only [Act.put, List.setIfInBounds_toArray, List.set_cons_zero, List.set_cons_succ])
  refine wpAnyH_take (i := 7) (oi := { dst := some 103, op := Go.Op.fieldAddr 29 (Go.Operand.tmp 14) 6, type := 0, pos := "law.go:73", after := #[{ on := 6, ground := Go.Ground.guard }], guard := some (6, true) }) (v := ?vza8) rfl (by kernel_rfl) (by kernel_rfl) (by kernel_rfl) (fun _ _ _ h => h) (Or.inl ⟨by rfl, ?yza8⟩) (by assumption) ?rza8
  case yza8 => (intro w hSw; (try dsimp only at hSw); go_simp; (try with_reducible rfl))
  (try simp only [Act.put, List.setIfInBounds_toArray, List.set_cons_zero, List.set_cons_succ])
  refine wpAnyH_take (i := 8) (oi := { dst := some 104, op := Go.Op.load 3 (Go.Operand.tmp 103), type := 3, pos := "law.go:73", after := #[{ on := 7, ground := Go.Ground.data }, { on := 6, ground := Go.Ground.guard }], guard := some (6, true) }) (v := ?vza9) rfl (by kernel_rfl) (by kernel_rfl) (by kernel_rfl) (fun _ _ _ h => h) (Or.inl ⟨by rfl, ?yza9⟩) (by assumption) ?rza9
  case yza9 => (intro w hSw; (try dsimp only at hSw); go_simp; (try with_reducible rfl))
  (try simp only [Act.put, List.setIfInBounds_toArray, List.set_cons_zero, List.set_cons_succ])
  refine wpAnyH_take (i := 9) (oi := { dst := some 105, op := Go.Op.binOp Go.BinOp.eql 3 (Go.Operand.tmp 104) (Go.Operand.const (Go.Value.int Go.IntKind.i64 3)) 3, type := 4, pos := "law.go:73", after := #[{ on := 8, ground := Go.Ground.data }, { on := 6, ground := Go.Ground.guard }], guard := some (6, true) }) (v := ?vza10) rfl (by kernel_rfl) (by kernel_rfl) (by kernel_rfl) (fun _ _ _ h => h) (Or.inl ⟨by rfl, ?yza10⟩) (by assumption) ?rza10
  case yza10 => (intro w hSw; (try dsimp only at hSw); go_simp; (try with_reducible rfl))
  (try simp only [Act.put, List.setIfInBounds_toArray, List.set_cons_zero, List.set_cons_succ])
  refine wpAnyH_take (i := 10) (oi := { dst := some 106, op := Go.Op.move (Go.Operand.tmp 12), type := 27, pos := "law.go:73", after := #[{ on := 6, ground := Go.Ground.guard }], guard := some (6, true) }) (v := ?vza11) rfl (by kernel_rfl) (by kernel_rfl) (by kernel_rfl) (fun _ _ _ h => h) (Or.inl ⟨by rfl, ?yza11⟩) (by assumption) ?rza11
  case yza11 => (intro w hSw; (try dsimp only at hSw); go_simp; (try with_reducible rfl))
  (try simp only [Act.put, List.setIfInBounds_toArray, List.set_cons_zero, List.set_cons_succ])
  refine wpAnyH_take (i := 11) (oi := { dst := some 107, op := Go.Op.binOp Go.BinOp.eql 27 (Go.Operand.tmp 106) (Go.Operand.const (Go.Value.int Go.IntKind.u64 0)) 27, type := 4, pos := "law.go:73", after := #[{ on := 10, ground := Go.Ground.data }, { on := 6, ground := Go.Ground.guard }], guard := some (6, true) }) (v := ?vza12) rfl (by kernel_rfl) (by kernel_rfl) (by kernel_rfl) (fun _ _ _ h => h) (Or.inl ⟨by rfl, ?yza12⟩) (by assumption) ?rza12
  case yza12 => (intro w hSw; (try dsimp only at hSw); go_simp; (try with_reducible rfl))
  (try simp only [Act.put, List.setIfInBounds_toArray, List.set_cons_zero, List.set_cons_succ])
  refine wpAnyH_take (i := 12) (oi := { dst := some 108, op := Go.Op.binOp Go.BinOp.eql 4 (Go.Operand.tmp 105) (Go.Operand.tmp 107) 4, type := 4, pos := "law.go:73", after := #[{ on := 9, ground := Go.Ground.data }, { on := 11, ground := Go.Ground.data }, { on := 6, ground := Go.Ground.guard }], guard := some (6, true) }) (v := ?vza13) rfl (by kernel_rfl) (by kernel_rfl) (by kernel_rfl) (fun _ _ _ h => h) (Or.inl ⟨by rfl, ?yza13⟩) (by assumption) ?rza13
  case yza13 => (intro w hSw; (try dsimp only at hSw); go_simp; (try with_reducible rfl))
  (try simp only [Act.put, List.setIfInBounds_toArray, List.set_cons_zero, List.set_cons_succ])
  refine wpAnyH_take (i := 13) (oi := { dst := some 109, op := Go.Op.pick (Go.Operand.tmp 102) (Go.Operand.tmp 108) (Go.Operand.const (Go.Value.bool false)), type := 4, pos := "law.go:73", after := #[{ on := 6, ground := Go.Ground.data }, { on := 12, ground := Go.Ground.data }], guard := none }) (v := ?vza14) rfl (by kernel_rfl) (by kernel_rfl) (by kernel_rfl) (fun _ _ _ h => h) (Or.inl ⟨by rfl, ?yza14⟩) (by assumption) ?rza14
  case yza14 => (intro w hSw; (try dsimp only at hSw); go_simp; (try with_reducible rfl))
  (try simp only [Act.put, List.setIfInBounds_toArray, List.set_cons_zero, List.set_cons_succ])
  refine wpAnyH_take (i := 14) (oi := { dst := some 110, op := Go.Op.move (Go.Operand.tmp 109), type := 4, pos := "law.go:73", after := #[{ on := 13, ground := Go.Ground.data }, { on := 6, ground := Go.Ground.chain }], guard := none }) (v := ?vza15) rfl (by kernel_rfl) (by kernel_rfl) (by kernel_rfl) (fun _ _ _ h => h) (Or.inl ⟨by rfl, ?yza15⟩) (by assumption) ?rza15
  case yza15 => (intro w hSw; (try dsimp only at hSw); go_simp; (try with_reducible rfl))
  (try simp only [Act.put, List.setIfInBounds_toArray, List.set_cons_zero, List.set_cons_succ])
  refine wpAnyH_take (i := 15) (oi := { dst := some 111, op := Go.Op.load 29 (Go.Operand.tmp 14), type := 29, pos := "law.go:73", after := #[{ on := 14, ground := Go.Ground.guard }], guard := some (14, true) }) (v := ?vza16) rfl (by kernel_rfl) (by kernel_rfl) (by kernel_rfl) (fun _ _ _ h => h) (Or.inl ⟨by rfl, ?yza16⟩) (by assumption) ?rza16
  case yza16 => (intro w hSw; (try dsimp only at hSw); go_simp; (try with_reducible rfl))
  (try simp only [Act.put, List.setIfInBounds_toArray, List.set_cons_zero, List.set_cons_succ])
  refine wpAnyH_ready (rs := [16]) (by kernel_rfl) (by simp) ?_
  refine (AllReadyH.cons (o := { dst := some 112, op := Go.Op.call { callee := Go.Callee.value (Go.Operand.func 18), args := #[Go.Operand.tmp 111], argTypes := #[29] }, type := 4, pos := "law.go:73", after := #[{ on := 15, ground := Go.Ground.data }, { on := 14, ground := Go.Ground.chain }, { on := 14, ground := Go.Ground.guard }], guard := some (14, true) }) rfl (fun K hK => ?_) AllReadyH.nil)
  go_simp
  refine (Tells.of (over_any f' _) (v' := .bool true) (by rw [HOV.out])).mono ?_
  rintro e wz ⟨rfl, zb⟩
  go_wp2_with fail
  replace ZC := Lib.hid (keep_call (w2 := w14) zb ZC.out)
  clear zb
  refine hK.out _ _ (HK.out _ ZC.out) (fun hHeld2 => ?_)
  clear hK K hHeld
  have hHeld := hHeld2
  clear hHeld2
  (try simp only [Act.put, List.setIfInBounds_toArray, List.set_cons_zero, List.set_cons_succ])
  refine wpAnyH_take (i := 17) (oi := { dst := some 113, op := Go.Op.pick (Go.Operand.tmp 110) (Go.Operand.tmp 112) (Go.Operand.const (Go.Value.bool false)), type := 4, pos := "law.go:73", after := #[{ on := 14, ground := Go.Ground.data }, { on := 16, ground := Go.Ground.data }], guard := none }) (v := ?vza17) rfl (by kernel_rfl) (by kernel_rfl) (by kernel_rfl) (fun _ _ _ h => h) (Or.inl ⟨by rfl, ?yza17⟩) (by assumption) ?rza17
  case yza17 => (intro w hSw; (try dsimp only at hSw); go_simp; (try with_reducible rfl))
  (try simp only [Act.put, List.setIfInBounds_toArray, List.set_cons_zero, List.set_cons_succ])
  refine wpAnyH_take (i := 18) (oi := { dst := some 114, op := Go.Op.move (Go.Operand.tmp 113), type := 4, pos := "law.go:73", after := #[{ on := 17, ground := Go.Ground.data }, { on := 16, ground := Go.Ground.chain }], guard := none }) (v := ?vza18) rfl (by kernel_rfl) (by kernel_rfl) (by kernel_rfl) (fun _ _ _ h => h) (Or.inl ⟨by rfl, ?yza18⟩) (by assumption) ?rza18
  case yza18 => (intro w hSw; (try dsimp only at hSw); go_simp; (try with_reducible rfl))
  (try simp only [Act.put, List.setIfInBounds_toArray, List.set_cons_zero, List.set_cons_succ])
  refine wpAnyH_take (i := 19) (oi := { dst := some 115, op := Go.Op.move (Go.Operand.tmp 16), type := 4, pos := "law.go:73", after := #[{ on := 18, ground := Go.Ground.guard }], guard := some (18, true) }) (v := ?vza19) rfl (by kernel_rfl) (by kernel_rfl) (by kernel_rfl) (fun _ _ _ h => h) (Or.inl ⟨by rfl, ?yza19⟩) (by assumption) ?rza19
  case yza19 => (intro w hSw; (try dsimp only at hSw); go_simp; (try with_reducible rfl))
  (try simp only [Act.put, List.setIfInBounds_toArray, List.set_cons_zero, List.set_cons_succ])
  refine wpAnyH_take (i := 20) (oi := { dst := some 116, op := Go.Op.unOp Go.UnOp.not 4 (Go.Operand.tmp 115), type := 4, pos := "law.go:73", after := #[{ on := 19, ground := Go.Ground.data }, { on := 18, ground := Go.Ground.guard }], guard := some (18, true) }) (v := ?vza20) rfl (by kernel_rfl) (by kernel_rfl) (by kernel_rfl) (fun _ _ _ h => h) (Or.inl ⟨by rfl, ?yza20⟩) (by assumption) ?rza20
  case yza20 => (intro w hSw; (try dsimp only at hSw); go_simp; (try with_reducible rfl))
  (try simp only [Act.put, List.setIfInBounds_toArray, List.set_cons_zero, List.set_cons_succ])
  refine wpAnyH_take (i := 21) (oi := { dst := some 117, op := Go.Op.move (Go.Operand.tmp 116), type := 4, pos := "law.go:73", after := #[{ on := 20, ground := Go.Ground.data }, { on := 18, ground := Go.Ground.chain }, { on := 18, ground := Go.Ground.guard }], guard := some (18, true) }) (v := ?vza21) rfl (by kernel_rfl) (by kernel_rfl) (by kernel_rfl) (fun _ _ _ h => h) (Or.inl ⟨by rfl, ?yza21⟩) (by assumption) ?rza21
  case yza21 => (intro w hSw; (try dsimp only at hSw); go_simp; (try with_reducible rfl))
  (try simp only [Act.put, List.setIfInBounds_toArray, List.set_cons_zero, List.set_cons_succ])
  refine wpAnyH_take (i := 22) (oi := { dst := some 118, op := Go.Op.load 23 (Go.Operand.tmp 4), type := 23, pos := "law.go:73", after := #[{ on := 21, ground := Go.Ground.guard }], guard := some (21, false) }) (v := undef) rfl (by kernel_rfl) (by kernel_rfl) (by kernel_rfl) (fun _ _ _ h => h) (Or.inr ⟨by rfl, rfl⟩) (by assumption) ?_
  (try simp only [Act.put, List.setIfInBounds_toArray, List.set_cons_zero, List.set_cons_succ])
  refine wpAnyH_take (i := 23) (oi := { dst := some 119, op := Go.Op.move (Go.Operand.tmp 13), type := 25, pos := "law.go:73", after := #[{ on := 21, ground := Go.Ground.guard }], guard := some (21, false) }) (v := undef) rfl (by kernel_rfl) (by kernel_rfl) (by kernel_rfl) (fun _ _ _ h => h) (Or.inr ⟨by rfl, rfl⟩) (by assumption) ?_
  (try simp only [Act.put, List.setIfInBounds_toArray, List.set_cons_zero, List.set_cons_succ])
  refine wpAnyH_take (i := 24) (oi := { dst := some 120, op := Go.Op.move (Go.Operand.tmp 3), type := 3, pos := "law.go:73", after := #[{ on := 21, ground := Go.Ground.guard }], guard := some (21, false) }) (v := undef) rfl (by kernel_rfl) (by kernel_rfl) (by kernel_rfl) (fun _ _ _ h => h) (Or.inr ⟨by rfl, rfl⟩) (by assumption) ?_
  (try simp only [Act.put, List.setIfInBounds_toArray, List.set_cons_zero, List.set_cons_succ])
  refine wpAnyH_take (i := 25) (oi := { dst := some 121, op := Go.Op.call { callee := Go.Callee.value (Go.Operand.func 19), args := #[Go.Operand.tmp 118, Go.Operand.tmp 119, Go.Operand.tmp 120], argTypes := #[23, 25, 3] }, type := 4, pos := "law.go:73", after := #[{ on := 22, ground := Go.Ground.data }, { on := 23, ground := Go.Ground.data }, { on := 24, ground := Go.Ground.data }, { on := 21, ground := Go.Ground.chain }, { on := 21, ground := Go.Ground.guard }], guard := some (21, false) }) (v := undef) rfl (by kernel_rfl) (by kernel_rfl) (by kernel_rfl) (fun _ _ _ h => h) (Or.inr ⟨by rfl, rfl⟩) (by assumption) ?_
  (try simp only [Act.put, List.setIfInBounds_toArray, List.set_cons_zero, List.set_cons_succ])
  refine wpAnyH_take (i := 26) (oi := { dst := some 122, op := Go.Op.unOp Go.UnOp.not 4 (Go.Operand.tmp 121), type := 4, pos := "law.go:73", after := #[{ on := 25, ground := Go.Ground.data }, { on := 21, ground := Go.Ground.guard }], guard := some (21, false) }) (v := undef) rfl (by kernel_rfl) (by kernel_rfl) (by kernel_rfl) (fun _ _ _ h => h) (Or.inr ⟨by rfl, rfl⟩) (by assumption) ?_
  (try simp only [Act.put, List.setIfInBounds_toArray, List.set_cons_zero, List.set_cons_succ])
  refine wpAnyH_take (i := 27) (oi := { dst := some 123, op := Go.Op.pick (Go.Operand.tmp 117) (Go.Operand.const (Go.Value.bool true)) (Go.Operand.tmp 122), type := 4, pos := "law.go:73", after := #[{ on := 21, ground := Go.Ground.data }, { on := 26, ground := Go.Ground.data }, { on := 18, ground := Go.Ground.guard }], guard := some (18, true) }) (v := ?vza22) rfl (by kernel_rfl) (by kernel_rfl) (by kernel_rfl) (fun _ _ _ h => h) (Or.inl ⟨by rfl, ?yza22⟩) (by assumption) ?rza22
  case yza22 => (intro w hSw; (try dsimp only at hSw); go_simp; (try with_reducible rfl))
  (try simp only [Act.put, List.setIfInBounds_toArray, List.set_cons_zero, List.set_cons_succ])
  refine wpAnyH_take (i := 28) (oi := { dst := some 124, op := Go.Op.pick (Go.Operand.tmp 114) (Go.Operand.tmp 123) (Go.Operand.const (Go.Value.bool false)), type := 4, pos := "law.go:73", after := #[{ on := 18, ground := Go.Ground.data }, { on := 27, ground := Go.Ground.data }], guard := none }) (v := ?vza23) rfl (by kernel_rfl) (by kernel_rfl) (by kernel_rfl) (fun _ _ _ h => h) (Or.inl ⟨by rfl, ?yza23⟩) (by assumption) ?rza23
  case yza23 => (intro w hSw; (try dsimp only at hSw); go_simp; (try with_reducible rfl))
  (try simp only [Act.put, List.setIfInBounds_toArray, List.set_cons_zero, List.set_cons_succ])
  refine wpAnyH_take (i := 29) (oi := { dst := some 125, op := Go.Op.move (Go.Operand.tmp 124), type := 4, pos := "law.go:73", after := #[{ on := 28, ground := Go.Ground.data }, { on := 25, ground := Go.Ground.chain }], guard := none }) (v := ?vza24) rfl (by kernel_rfl) (by kernel_rfl) (by kernel_rfl) (fun _ _ _ h => h) (Or.inl ⟨by rfl, ?yza24⟩) (by assumption) ?rza24
  case yza24 => (intro w hSw; (try dsimp only at hSw); go_simp; (try with_reducible rfl))
  (try simp only [Act.put, List.setIfInBounds_toArray, List.set_cons_zero, List.set_cons_succ])
  refine wpAnyH_take (i := 30) (oi := { dst := some 126, op := Go.Op.move (Go.Operand.tmp 2), type := 4, pos := "law.go:73", after := #[{ on := 29, ground := Go.Ground.guard }], guard := some (29, true) }) (v := ?vza25) rfl (by kernel_rfl) (by kernel_rfl) (by kernel_rfl) (fun _ _ _ h => h) (Or.inl ⟨by rfl, ?yza25⟩) (by assumption) ?rza25
  case yza25 => (intro w hSw; (try dsimp only at hSw); go_simp; (try with_reducible rfl))
  (try simp only [Act.put, List.setIfInBounds_toArray, List.set_cons_zero, List.set_cons_succ])
  refine wpAnyH_take (i := 31) (oi := { dst := some 127, op := Go.Op.move (Go.Operand.tmp 126), type := 4, pos := "law.go:73", after := #[{ on := 30, ground := Go.Ground.data }, { on := 29, ground := Go.Ground.chain }, { on := 29, ground := Go.Ground.guard }], guard := some (29, true) }) (v := ?vza26) rfl (by kernel_rfl) (by kernel_rfl) (by kernel_rfl) (fun _ _ _ h => h) (Or.inl ⟨by rfl, ?yza26⟩) (by assumption) ?rza26
  case yza26 => (intro w hSw; (try dsimp only at hSw); go_simp; (try with_reducible rfl))
  (try simp only [Act.put, List.setIfInBounds_toArray, List.set_cons_zero, List.set_cons_succ])
  refine wpAnyH_take (i := 32) (oi := { dst := some 128, op := Go.Op.move (Go.Operand.tmp 16), type := 4, pos := "law.go:73", after := #[{ on := 31, ground := Go.Ground.guard }], guard := some (31, false) }) (v := ?vza27) rfl (by kernel_rfl) (by kernel_rfl) (by kernel_rfl) (fun _ _ _ h => h) (Or.inl ⟨by rfl, ?yza27⟩) (by assumption) ?rza27
  case yza27 => (intro w hSw; (try dsimp only at hSw); go_simp; (try with_reducible rfl))
  (try simp only [Act.put, List.setIfInBounds_toArray, List.set_cons_zero, List.set_cons_succ])
  refine wpAnyH_take (i := 33) (oi := { dst := some 129, op := Go.Op.pick (Go.Operand.tmp 127) (Go.Operand.const (Go.Value.bool true)) (Go.Operand.tmp 128), type := 4, pos := "law.go:73", after := #[{ on := 31, ground := Go.Ground.data }, { on := 32, ground := Go.Ground.data }, { on := 29, ground := Go.Ground.guard }], guard := some (29, true) }) (v := ?vza28) rfl (by kernel_rfl) (by kernel_rfl) (by kernel_rfl) (fun _ _ _ h => h) (Or.inl ⟨by rfl, ?yza28⟩) (by assumption) ?rza28
  case yza28 => (intro w hSw; (try dsimp only at hSw); go_simp; (try with_reducible rfl))
  (try simp only [Act.put, List.setIfInBounds_toArray, List.set_cons_zero, List.set_cons_succ])
  refine wpAnyH_take (i := 34) (oi := { dst := some 130, op := Go.Op.move (Go.Operand.tmp 129), type := 4, pos := "law.go:73", after := #[{ on := 33, ground := Go.Ground.data }, { on := 31, ground := Go.Ground.chain }, { on := 29, ground := Go.Ground.guard }], guard := some (29, true) }) (v := ?vza29) rfl (by kernel_rfl) (by kernel_rfl) (by kernel_rfl) (fun _ _ _ h => h) (Or.inl ⟨by rfl, ?yza29⟩) (by assumption) ?rza29
  case yza29 => (intro w hSw; (try dsimp only at hSw); go_simp; (try with_reducible rfl))
  (try simp only [Act.put, List.setIfInBounds_toArray, List.set_cons_zero, List.set_cons_succ])
  refine wpAnyH_take (i := 35) (oi := { dst := some 131, op := Go.Op.load 23 (Go.Operand.tmp 4), type := 23, pos := "law.go:73", after := #[{ on := 34, ground := Go.Ground.guard }], guard := some (34, false) }) (v := ?vza30) rfl (by kernel_rfl) (by kernel_rfl) (by kernel_rfl) (fun _ _ _ h => h) (Or.inl ⟨by rfl, ?yza30⟩) (by assumption) ?rza30
  case yza30 => (intro w hSw; (try dsimp only at hSw); go_simp; (try with_reducible rfl))
  (try simp only [Act.put, List.setIfInBounds_toArray, List.set_cons_zero, List.set_cons_succ])
  refine wpAnyH_take (i := 36) (oi := { dst := some 132, op := Go.Op.move (Go.Operand.tmp 13), type := 25, pos := "law.go:73", after := #[{ on := 34, ground := Go.Ground.guard }], guard := some (34, false) }) (v := ?vza31) rfl (by kernel_rfl) (by kernel_rfl) (by kernel_rfl) (fun _ _ _ h => h) (Or.inl ⟨by rfl, ?yza31⟩) (by assumption) ?rza31
  case yza31 => (intro w hSw; (try dsimp only at hSw); go_simp; (try with_reducible rfl))
  (try simp only [Act.put, List.setIfInBounds_toArray, List.set_cons_zero, List.set_cons_succ])
  refine wpAnyH_take (i := 37) (oi := { dst := some 133, op := Go.Op.move (Go.Operand.tmp 3), type := 3, pos := "law.go:73", after := #[{ on := 34, ground := Go.Ground.guard }], guard := some (34, false) }) (v := ?vza32) rfl (by kernel_rfl) (by kernel_rfl) (by kernel_rfl) (fun _ _ _ h => h) (Or.inl ⟨by rfl, ?yza32⟩) (by assumption) ?rza32
  case yza32 => (intro w hSw; (try dsimp only at hSw); go_simp; (try with_reducible rfl))
  (try simp only [Act.put, List.setIfInBounds_toArray, List.set_cons_zero, List.set_cons_succ])
  refine wpAnyH_take (i := 39) (oi := { dst := some 135, op := Go.Op.load 23 (Go.Operand.tmp 4), type := 23, pos := "law.go:73", after := #[{ on := 34, ground := Go.Ground.guard }], guard := some (34, false) }) (v := ?vza33) rfl (by kernel_rfl) (by kernel_rfl) (by kernel_rfl) (fun _ _ _ h => h) (Or.inl ⟨by rfl, ?yza33⟩) (by assumption) ?rza33
  case yza33 => (intro w hSw; (try dsimp only at hSw); go_simp; (try with_reducible rfl))
  (try simp only [Act.put, List.setIfInBounds_toArray, List.set_cons_zero, List.set_cons_succ])
  refine wpAnyH_take (i := 40) (oi := { dst := some 136, op := Go.Op.move (Go.Operand.tmp 1), type := 25, pos := "law.go:73", after := #[{ on := 34, ground := Go.Ground.guard }], guard := some (34, false) }) (v := ?vza34) rfl (by kernel_rfl) (by kernel_rfl) (by kernel_rfl) (fun _ _ _ h => h) (Or.inl ⟨by rfl, ?yza34⟩) (by assumption) ?rza34
  case yza34 => (intro w hSw; (try dsimp only at hSw); go_simp; (try with_reducible rfl))
  (try simp only [Act.put, List.setIfInBounds_toArray, List.set_cons_zero, List.set_cons_succ])
  refine wpAnyH_take (i := 41) (oi := { dst := some 137, op := Go.Op.move (Go.Operand.tmp 3), type := 3, pos := "law.go:73", after := #[{ on := 34, ground := Go.Ground.guard }], guard := some (34, false) }) (v := ?vza35) rfl (by kernel_rfl) (by kernel_rfl) (by kernel_rfl) (fun _ _ _ h => h) (Or.inl ⟨by rfl, ?yza35⟩) (by assumption) ?rza35
  case yza35 => (intro w hSw; (try dsimp only at hSw); go_simp; (try with_reducible rfl))
  (try simp only [Act.put, List.setIfInBounds_toArray, List.set_cons_zero, List.set_cons_succ])
  refine wpAnyH_ready (rs := [38]) (by kernel_rfl) (by simp) ?_
  refine (AllReadyH.cons (o := { dst := some 134, op := Go.Op.call { callee := Go.Callee.value (Go.Operand.func 19), args := #[Go.Operand.tmp 131, Go.Operand.tmp 132, Go.Operand.tmp 133], argTypes := #[23, 25, 3] }, type := 4, pos := "law.go:73", after := #[{ on := 35, ground := Go.Ground.data }, { on := 36, ground := Go.Ground.data }, { on := 37, ground := Go.Ground.data }, { on := 34, ground := Go.Ground.chain }, { on := 34, ground := Go.Ground.guard }], guard := some (34, false) }) rfl (fun K hK => ?_) AllReadyH.nil)
  go_simp
  refine (Tells.of (waits_any W D J S k A8 n c8 l' _ (LB.out.below ZC.out) HN2.out HS.out HUL.out.1) (v' := .bool false) (by rw [HWN.out])).mono ?_
  rintro e wz ⟨rfl, zb⟩
  go_wp2_with fail
  replace ZC := Lib.hid (keep_call (w2 := w14) zb ZC.out)
  clear zb
  refine hK.out _ _ (HK.out _ ZC.out) (fun hHeld2 => ?_)
  clear hK K hHeld
  have hHeld := hHeld2
  clear hHeld2
  (try simp only [Act.put, List.setIfInBounds_toArray, List.set_cons_zero, List.set_cons_succ])
  refine wpAnyH_ready (rs := [42]) (by kernel_rfl) (by simp) ?_
  refine (AllReadyH.cons (o := { dst := some 138, op := Go.Op.call { callee := Go.Callee.value (Go.Operand.func 19), args := #[Go.Operand.tmp 135, Go.Operand.tmp 136, Go.Operand.tmp 137], argTypes := #[23, 25, 3] }, type := 4, pos := "law.go:73", after := #[{ on := 39, ground := Go.Ground.data }, { on := 40, ground := Go.Ground.data }, { on := 41, ground := Go.Ground.data }, { on := 38, ground := Go.Ground.chain }, { on := 34, ground := Go.Ground.guard }], guard := some (34, false) }) rfl (fun K hK => ?_) AllReadyH.nil)
  go_simp
  refine (Tells.of (waits_any W D J S k (some ⟨g5, 0, none⟩) n n m0 _ (L0.out.below ZC.out) HN0.out HS.out HUM0.out) (v' := .bool false) (by rw [HWM.out])).mono ?_
  rintro e wz ⟨rfl, zb⟩
  go_wp2_with fail
  replace ZC := Lib.hid (keep_call (w2 := w14) zb ZC.out)
  clear zb
  refine hK.out _ _ (HK.out _ ZC.out) (fun hHeld2 => ?_)
  clear hK K hHeld
  have hHeld := hHeld2
  clear hHeld2
  (try simp only [Act.put, List.setIfInBounds_toArray, List.set_cons_zero, List.set_cons_succ])
  refine wpAnyH_take (i := 43) (oi := { dst := some 139, op := Go.Op.binOp Go.BinOp.eql 4 (Go.Operand.tmp 134) (Go.Operand.tmp 138) 4, type := 4, pos := "law.go:73", after := #[{ on := 38, ground := Go.Ground.data }, { on := 42, ground := Go.Ground.data }, { on := 34, ground := Go.Ground.guard }], guard := some (34, false) }) (v := ?vza36) rfl (by kernel_rfl) (by kernel_rfl) (by kernel_rfl) (fun _ _ _ h => h) (Or.inl ⟨by rfl, ?yza36⟩) (by assumption) ?rza36
  case yza36 => (intro w hSw; (try dsimp only at hSw); go_simp; (try with_reducible rfl))
  (try simp only [Act.put, List.setIfInBounds_toArray, List.set_cons_zero, List.set_cons_succ])
  refine wpAnyH_take (i := 44) (oi := { dst := some 140, op := Go.Op.pick (Go.Operand.tmp 130) (Go.Operand.const (Go.Value.bool true)) (Go.Operand.tmp 139), type := 4, pos := "law.go:73", after := #[{ on := 34, ground := Go.Ground.data }, { on := 43, ground := Go.Ground.data }, { on := 29, ground := Go.Ground.guard }], guard := some (29, true) }) (v := ?vza37) rfl (by kernel_rfl) (by kernel_rfl) (by kernel_rfl) (fun _ _ _ h => h) (Or.inl ⟨by rfl, ?yza37⟩) (by assumption) ?rza37
  case yza37 => (intro w hSw; (try dsimp only at hSw); go_simp; (try with_reducible rfl))
  (try simp only [Act.put, List.setIfInBounds_toArray, List.set_cons_zero, List.set_cons_succ])
  refine wpAnyH_take (i := 45) (oi := { dst := some 141, op := Go.Op.pick (Go.Operand.tmp 125) (Go.Operand.tmp 140) (Go.Operand.const (Go.Value.bool false)), type := 4, pos := "law.go:73", after := #[{ on := 29, ground := Go.Ground.data }, { on := 44, ground := Go.Ground.data }], guard := none }) (v := ?vza38) rfl (by kernel_rfl) (by kernel_rfl) (by kernel_rfl) (fun _ _ _ h => h) (Or.inl ⟨by rfl, ?yza38⟩) (by assumption) ?rza38
  case yza38 => (intro w hSw; (try dsimp only at hSw); go_simp; (try with_reducible rfl))
  (try simp only [Act.put, List.setIfInBounds_toArray, List.set_cons_zero, List.set_cons_succ])
  refine wpAnyH_take (i := 46) (oi := { dst := some 8, op := Go.Op.assign (Go.Operand.tmp 141), type := 4, pos := "law.go:73", after := #[{ on := 45, ground := Go.Ground.data }, { on := 42, ground := Go.Ground.chain }, { on := 0, ground := Go.Ground.phase }, { on := 1, ground := Go.Ground.phase }, { on := 2, ground := Go.Ground.phase }, { on := 3, ground := Go.Ground.phase }, { on := 4, ground := Go.Ground.phase }, { on := 5, ground := Go.Ground.phase }, { on := 6, ground := Go.Ground.phase }, { on := 7, ground := Go.Ground.phase }, { on := 8, ground := Go.Ground.phase }, { on := 9, ground := Go.Ground.phase }, { on := 10, ground := Go.Ground.phase }, { on := 11, ground := Go.Ground.phase }, { on := 12, ground := Go.Ground.phase }, { on := 13, ground := Go.Ground.phase }, { on := 14, ground := Go.Ground.phase }, { on := 15, ground := Go.Ground.phase }, { on := 16, ground := Go.Ground.phase }, { on := 17, ground := Go.Ground.phase }, { on := 18, ground := Go.Ground.phase }, { on := 19, ground := Go.Ground.phase }, { on := 20, ground := Go.Ground.phase }, { on := 21, ground := Go.Ground.phase }, { on := 22, ground := Go.Ground.phase }, { on := 23, ground := Go.Ground.phase }, { on := 24, ground := Go.Ground.phase }, { on := 25, ground := Go.Ground.phase }, { on := 26, ground := Go.Ground.phase }, { on := 27, ground := Go.Ground.phase }, { on := 28, ground := Go.Ground.phase }, { on := 29, ground := Go.Ground.phase }, { on := 30, ground := Go.Ground.phase }, { on := 31, ground := Go.Ground.phase }, { on := 32, ground := Go.Ground.phase }, { on := 33, ground := Go.Ground.phase }, { on := 34, ground := Go.Ground.phase }, { on := 35, ground := Go.Ground.phase }, { on := 36, ground := Go.Ground.phase }, { on := 37, ground := Go.Ground.phase }, { on := 38, ground := Go.Ground.phase }, { on := 39, ground := Go.Ground.phase }, { on := 40, ground := Go.Ground.phase }, { on := 41, ground := Go.Ground.phase }, { on := 42, ground := Go.Ground.phase }, { on := 43, ground := Go.Ground.phase }, { on := 44, ground := Go.Ground.phase }, { on := 45, ground := Go.Ground.phase }], guard := none }) (v := ?vza39) rfl (by kernel_rfl) (by kernel_rfl) (by kernel_rfl) (fun _ _ _ h => h) (Or.inl ⟨by rfl, ?yza39⟩) (by assumption) ?rza39
  case yza39 => (intro w hSw; (try dsimp only at hSw); go_simp; (try with_reducible rfl))
  (try simp only [Act.put, List.setIfInBounds_toArray, List.set_cons_zero, List.set_cons_succ])
  refine wpAnyH_done (by kernel_rfl) ?_ _
  go_wp2
  go_ret
  exact ⟨rfl, Z.out.trans (ZC.out.mono Z.out.size)⟩
set_option maxHeartbeats 2000000 in
theorem one_6yy (W D J S : Int) (k : Nat) (A : Option Addr) (n c : Nat) (m : List Int) (w : World) (hm : Rd w A m) (hn : m.length = n) (hs : n ≤ 500) (hu : UM m) (hk : okw W D J S m k = true) (hb : at0 m 2 / 2 ^ k % 2 = 1) (hl : lw (at0 m 2) = k) : Tells 3 #[cf W D J S, .slice A n c, .bool false, .int .i64 (k : Int)] w (.bool true) := by
  have hpk := pkI_lim hk
  have hwho := okw_who hk
  have hpo := pkI_ow hk
  have hkW := okw_iff.1 hk
  have hk16 : k < 16 := by omega
  have ho := okm_of hk
  obtain ⟨m0, hm0⟩ : ∃ m0, m0 = put m (pkI D J k) 0 := ⟨_, rfl⟩
  have k0 : okw W D J S m0 k = true := by rw [hm0]; exact okw_put hk _ _
  have n0 : m0.length = n := by rw [hm0, len_put]; exact hn
  have z0 : at0 m0 (pkI D J k) = 0 := by rw [hm0]; exact at0_put _ (by omega) hpk.2
  have um0 : UM m0 := by rw [hm0]; exact put_U hu _ U0
  have e0 : at0 m0 2 = at0 m 2 := by rw [hm0]; exact at0_put_ne _ _ (by omega)
  obtain ⟨E, hE⟩ : ∃ E, at0 m0 2 = E := ⟨_, rfl⟩
  rw [← e0, hE] at hb hl
  have hue : U E := by rw [← hE]; exact at0_U um0 2
  obtain ⟨l', f', i20, hres, hev, hpark⟩ := alone_20 (o := 6) (okm_of k0) (by simp)
  rw [hE] at hres hev hpark
  have hpa := hpark k k0
  rw [z0] at hpa
  have hpa2 : at0 l' (pkI D J k) = 1 := by rw [hpa, if_pos ⟨hb, .inr hl⟩]
  have hl' := noteN_len W D J S 20 (m0, fbg 6 0 0)
  have hul := noteN_U (W := W) (D := D) (J := J) (S := S) (s := (m0, fbg 6 0 0)) um0 ⟨U0, U0, U0⟩ 20
  rw [i20] at hl' hul
  have hn2 : l'.length = n := hl'.trans n0
  have k2 : okw W D J S l' k = true := by rw [okw_len (m := m0) hl']; exact k0
  have hov : (f'.res != 0) = true := by rw [hres]; split <;> rfl
  obtain ⟨M, hM⟩ : ∃ M, E % 65536 = M := ⟨_, rfl⟩
  have hMl : 0 ≤ M ∧ M < 65536 := by omega
  obtain ⟨z, hz2⟩ : ∃ z, (M == 0) = z := ⟨_, rfl⟩
  have hz1 : (f'.res == 3) = z := by rw [hres, ← hz2, hM]; by_cases h : M = 0; rw [if_pos h]; simp [h]; rw [if_neg h]; simp [h]
  have hzz : (z == z) = true := by simp
  have hp := pow_lt hk16
  obtain ⟨PP, hPP⟩ : ∃ PP : Int, 2 ^ k = PP := ⟨_, rfl⟩
  rw [hPP] at hp
  have hw0 : IntKind.u64.wrap ((2 : Int) ^ min k 64) = PP := by rw [Nat.min_eq_left (by omega), hPP, IntKind.wrap_u64]; omega
  have hpn : ¬ PP = 0 := by omega
  obtain ⟨QQ, hQQ⟩ : ∃ QQ, M / PP = QQ := ⟨_, rfl⟩
  have hQl : 0 ≤ QQ ∧ QQ ≤ M := by rw [← hQQ]; exact ⟨Int.ediv_nonneg hMl.1 (by omega), Int.ediv_le_self _ hMl.1⟩
  have hdv : M.tdiv PP = QQ := by rw [Int.tdiv_eq_ediv_of_nonneg hMl.1]; exact hQQ
  have hdw : IntKind.u64.wrap QQ = QQ := by rw [IntKind.wrap_u64]; omega
  obtain ⟨R, hR⟩ : ∃ R, QQ % 2 = R := ⟨_, rfl⟩
  have hmd : QQ.tmod 2 = R := by rw [Int.tmod_eq_emod_of_nonneg hQl.1]; exact hR
  have hmw : IntKind.u64.wrap R = R := by rw [IntKind.wrap_u64]; omega
  have hbb : (R == 1) = true := by
    have h := bit_mask E k hk16
    rw [hM, hPP, hQQ, hR] at h
    rw [h]
    simpa [hPP] using hb
  obtain ⟨Q, hQ⟩ : ∃ Q, E / 65536 = Q := ⟨_, rfl⟩
  obtain ⟨P, hP⟩ : ∃ P, at0 l' 2 / 65536 = P := ⟨_, rfl⟩
  have hq0 : 0 ≤ Q ∧ Q < 281474976710656 := by unfold U at hue; omega
  have hPQ : P = (Q + 1) % 281474976710656 := by rw [← hP, hev, nxN_epoch, hQ]
  have hw1 : IntKind.u64.wrap (Q + 1) = Q + 1 := by rw [IntKind.wrap_u64]; omega
  have hw2 : (Q + 1).tmod 281474976710656 = P := by rw [Int.tmod_eq_emod_of_nonneg (by omega)]; exact hPQ.symm
  have hw4 : IntKind.u64.wrap P = P := by rw [IntKind.wrap_u64]; omega
  have hw3 : (P == P) = true := by simp
  have hd1 : decide ((k : Int) < 0) = false := decide_eq_false (by omega)
  have hd2 : decide (W ≤ (k : Int)) = false := decide_eq_false (by omega)
  have hd3 : decide ((7 : Int) < (k : Int)) = false := decide_eq_false (by omega)
  have hwn : wts W D J S l' k = false := by rw [wts_bit k2, hev, decide_eq_false_iff_not, nx_bit _ _ k hk16 (by simp)]; rintro ⟨_, _, h⟩; exact h hl
  have hlk : (lw M == (k : Int)) = true := by rw [← hM, lw_mask]; simp [hl]
  obtain ⟨LL, hLL⟩ : ∃ LL, lw M = LL := ⟨_, rfl⟩
  rw [hLL] at hlk
  have LM0 := Lib.hid hm
  have HN := Lib.hid hn
  clear hm hn
  have hd : decide ((500 : Int) < (n : Int)) = false := decide_eq_false (by omega)
  have HO := Lib.hid ho
  have HS := Lib.hid hs
  have HM0 := Lib.hid hm0
  have HN0 := Lib.hid n0
  have HUM0 := Lib.hid um0
  have HE := Lib.hid hE
  have HUE := Lib.hid hue
  have HI := Lib.hid i20
  have HPA := Lib.hid hpa2
  have HN2 := Lib.hid hn2
  have HUL := Lib.hid hul
  have HOV := Lib.hid hov
  have HM := Lib.hid hM
  have HPO := Lib.hid hpo
  have HQ := Lib.hid hQ
  have HP := Lib.hid hP
  have HWN := Lib.hid hwn
  have HML := Lib.hid hMl
  have HLL := Lib.hid hLL
  clear hk hpk hwho hkW hk16 k0 z0 e0 hres hev hpark hpa hl' k2 hu hb hp hPP hQQ hQl hR hq0 hPQ hl ho hs hm0 n0 um0 hE hue i20 hpa2 hn2 hul hov hM hpo hQ hP hwn hMl hLL
  go_enter Try.func3, Try.ntmps3
  go_wp2_with fail
  refine (awake_any _).mono ?_
  rintro _ w1 ⟨rfl, z⟩
  have BX := Lib.hid ((Bx.mk w W D J S 23).below z)
  replace z := (box_below w _).trans (z.mono (by simp))
  have Z := Lib.hid z
  have LM := Lib.hid (LM0.out.below z)
  clear z LM0
  obtain ⟨gx, x_0, x_1, x_2, x_3⟩ := BX.out
  go_wp2_with fail
  refine (begin_any 6 0 0 _).mono ?_
  rintro _ w2 ⟨rfl, z⟩
  clear gx x_0 x_1 x_2 x_3
  replace Z := Lib.hid (Z.out.trans (z.mono Z.out.size))
  replace BX := Lib.hid (BX.out.below z)
  replace LM := Lib.hid (LM.out.below z)
  clear z
  obtain ⟨gx, x_0, x_1, x_2, x_3⟩ := BX.out
  go_wp2_with fail
  refine (Tells.of (ngoes_any W D J S A n c m (fbg 6 0 0) _ HN.out) (v' := .bool true) (by rw [goesN_begun (by simp), HO.out])).mono ?_
  rintro _ w3 ⟨rfl, z⟩
  clear gx x_0 x_1 x_2 x_3
  have BF := Lib.hid ((Bf.new w2 (fbg 6 0 0)).after z)
  replace z := keep_call z (bel_alloc w2 _)
  replace Z := Lib.hid (Z.out.trans (z.mono Z.out.size))
  replace BX := Lib.hid (BX.out.below z)
  replace LM := Lib.hid (LM.out.below z)
  clear z
  obtain ⟨gx, x_0, x_1, x_2, x_3⟩ := BX.out
  go_wp2_with fail
  refine (Tells.of (park_any W D J S k _) (v' := .int .i64 (pkI D J k)) (by rw [HPO.out])).mono ?_
  rintro _ w4 ⟨rfl, z⟩
  clear gx x_0 x_1 x_2 x_3
  replace Z := Lib.hid (Z.out.trans (z.mono Z.out.size))
  replace BX := Lib.hid (BX.out.below z)
  replace LM := Lib.hid (LM.out.below z)
  replace BF := Lib.hid (BF.out.after z)
  clear z
  go_wp2_with fail
  refine (store_new A n c m (pkI D J k) 0 _ LM.out HN.out HS.out).mono ?_
  rintro _ w5 ⟨g5, rfl, hg5, hb5, z⟩
  replace Z := Lib.hid (Z.out.trans (z.mono Z.out.size))
  replace BX := Lib.hid (BX.out.below z)
  replace LM := Lib.hid (LM.out.below z)
  replace BF := Lib.hid (BF.out.after z)
  have L0 := Lib.hid (show Rd w5 (some ⟨g5, 0, none⟩) m0 by rw [HM0.out]; exact hb5.rd)
  clear hg5 hb5 z LM
  go_wp2_with fail
  refine (ret_of (load_any (some ⟨g5, 0, none⟩) n n m0 2 _ L0.out HN0.out HS.out) (v' := .int .u64 E) (by rw [HE.out])).mono ?_
  rintro _ w6 ⟨rfl, z⟩
  replace Z := Lib.hid (Z.out.trans (z.mono Z.out.size))
  replace BX := Lib.hid (BX.out.below z)
  replace BF := Lib.hid (BF.out.after z)
  replace L0 := Lib.hid (L0.out.below z)
  clear z
  go_wp2_with fail
  refine (Tells.of (mask_any E _ HUE.out).tells (v' := .int .u64 M) (by rw [HM.out])).mono ?_
  rintro _ w7 ⟨rfl, z⟩
  replace Z := Lib.hid (Z.out.trans (z.mono Z.out.size))
  replace BX := Lib.hid (BX.out.below z)
  replace BF := Lib.hid (BF.out.after z)
  replace L0 := Lib.hid (L0.out.below z)
  clear z
  obtain ⟨gx, x_0, x_1, x_2, x_3⟩ := BX.out
  obtain ⟨a0, a1, a2, a3, a4, a5, a6⟩ := BF.out.cells
  have la := BF.out.lt
  simp only [fbg] at a0 a1 a2 a3 a4 a5 a6
  go_wp2_with fail
  refine (alone_n (f := fbg 6 0 0) L0.out HN0.out HS.out HUM0.out ⟨U0, U0, U0⟩ HI.out).mono ?_
  rintro _ w8 ⟨A8, c8, rfl, hn8, z⟩
  clear gx x_0 x_1 x_2 x_3 a0 a1 a2 a3 a4 a5 a6 la
  replace Z := Lib.hid (Z.out.trans (z.mono Z.out.size))
  replace BX := Lib.hid (BX.out.below z)
  replace BF := Lib.hid (BF.out.after z)
  replace L0 := Lib.hid (L0.out.below z)
  have LB := Lib.hid hn8.rd
  clear hn8 z BF
  obtain ⟨gx, x_0, x_1, x_2, x_3⟩ := BX.out
  go_wp2_with fail
  refine (Tells.of (park_any W D J S k _) (v' := .int .i64 (pkI D J k)) (by rw [HPO.out])).mono ?_
  rintro _ w9 ⟨rfl, z⟩
  clear gx x_0 x_1 x_2 x_3
  have BG := Lib.hid ((Bf.new w8 f').after z)
  replace z := keep_call z (bel_alloc w8 _)
  replace Z := Lib.hid (Z.out.trans (z.mono Z.out.size))
  replace BX := Lib.hid (BX.out.below z)
  replace L0 := Lib.hid (L0.out.below z)
  replace LB := Lib.hid (LB.out.below z)
  clear z
  go_wp2_with fail
  refine (ret_of (load_any A8 n c8 l' (pkI D J k) _ LB.out HN2.out HS.out) (v' := .int .u64 1) (by rw [HPA.out])).mono ?_
  rintro _ w10 ⟨rfl, z⟩
  replace Z := Lib.hid (Z.out.trans (z.mono Z.out.size))
  replace BX := Lib.hid (BX.out.below z)
  replace L0 := Lib.hid (L0.out.below z)
  replace LB := Lib.hid (LB.out.below z)
  replace BG := Lib.hid (BG.out.after z)
  clear z
  go_wp2_with fail
  refine (Tells.of (lowest_any M _ (by have := HML.out; unfold U; omega)) (v' := .int .i64 LL) (by rw [HLL.out])).mono ?_
  rintro _ w11 ⟨rfl, z⟩
  replace Z := Lib.hid (Z.out.trans (z.mono Z.out.size))
  replace BX := Lib.hid (BX.out.below z)
  replace L0 := Lib.hid (L0.out.below z)
  replace LB := Lib.hid (LB.out.below z)
  replace BG := Lib.hid (BG.out.after z)
  clear z
  go_wp2_with fail
  refine (load_any A8 n c8 l' 2 _ LB.out HN2.out HS.out).mono ?_
  rintro _ w12 ⟨rfl, z⟩
  replace Z := Lib.hid (Z.out.trans (z.mono Z.out.size))
  replace BX := Lib.hid (BX.out.below z)
  replace L0 := Lib.hid (L0.out.below z)
  replace LB := Lib.hid (LB.out.below z)
  replace BG := Lib.hid (BG.out.after z)
  clear z
  go_wp2_with fail
  refine (Tells.of (epoch_any (at0 l' 2) _).tells (v' := .int .u64 P) (by rw [HP.out])).mono ?_
  rintro _ w13 ⟨rfl, z⟩
  replace Z := Lib.hid (Z.out.trans (z.mono Z.out.size))
  replace BX := Lib.hid (BX.out.below z)
  replace L0 := Lib.hid (L0.out.below z)
  replace LB := Lib.hid (LB.out.below z)
  replace BG := Lib.hid (BG.out.after z)
  clear z
  go_wp2_with fail
  refine (ret_of (load_any (some ⟨g5, 0, none⟩) n n m0 2 _ L0.out HN0.out HS.out) (v' := .int .u64 E) (by rw [HE.out])).mono ?_
  rintro _ w14 ⟨rfl, z⟩
  replace Z := Lib.hid (Z.out.trans (z.mono Z.out.size))
  replace BX := Lib.hid (BX.out.below z)
  replace L0 := Lib.hid (L0.out.below z)
  replace LB := Lib.hid (LB.out.below z)
  replace BG := Lib.hid (BG.out.after z)
  clear z
  go_wp2_with fail
  refine (Tells.of (epoch_any E _).tells (v' := .int .u64 Q) (by rw [HQ.out])).mono ?_
  rintro _ w15 ⟨rfl, z⟩
  replace Z := Lib.hid (Z.out.trans (z.mono Z.out.size))
  replace BX := Lib.hid (BX.out.below z)
  replace L0 := Lib.hid (L0.out.below z)
  replace LB := Lib.hid (LB.out.below z)
  replace BG := Lib.hid (BG.out.after z)
  clear z
  go_upto_region 14 with fail
  clear hd1 hd2 hd3 hw1 hw2 hw4 hd hw0 hpn hdv hdw hmd hmw hbb hlk
  have HK := Lib.hid (show ∀ x', Below w15.heap.size w15 x' → (fun w' => w'.cell? ⟨w.heap.size, 0, none⟩ = some (.int .i64 W) ∧ w'.cell? ⟨w.heap.size, 1, none⟩ = some (.int .i64 D) ∧ w'.cell? ⟨w.heap.size, 2, none⟩ = some (.int .i64 J) ∧ w'.cell? ⟨w.heap.size, 3, none⟩ = some (.int .i64 S) ∧ w'.cell? ⟨w8.heap.size, 0, none⟩ = some (.int .i64 f'.op) ∧ w'.cell? ⟨w8.heap.size, 1, none⟩ = some (.int .i64 f'.pc) ∧ w'.cell? ⟨w8.heap.size, 2, none⟩ = some (.int .i64 f'.who) ∧ w'.cell? ⟨w8.heap.size, 3, none⟩ = some (.int .u64 f'.val) ∧ w'.cell? ⟨w8.heap.size, 4, none⟩ = some (.int .u64 f'.x) ∧ w'.cell? ⟨w8.heap.size, 5, none⟩ = some (.int .u64 f'.y) ∧ w'.cell? ⟨w8.heap.size, 6, none⟩ = some (.int .i64 f'.res) ∧ Below w15.heap.size w15 w') x' from fun x' hx => by
    obtain ⟨_, e0, e1, e2, e3⟩ := BX.out.below hx
    obtain ⟨d0, d1, d2, d3, d4, d5, d6⟩ := (BG.out.after hx).cells
    exact ⟨e0, e1, e2, e3, d0, d1, d2, d3, d4, d5, d6, hx⟩)
  have hHeld0 := HK.out _ (Below.refl _ _)
  have ZC := Lib.hid (Below.refl w15.heap.size w15).drew
  refine wp_region_held_drew (S := fun w' => w'.cell? ⟨w.heap.size, 0, none⟩ = some (.int .i64 W) ∧ w'.cell? ⟨w.heap.size, 1, none⟩ = some (.int .i64 D) ∧ w'.cell? ⟨w.heap.size, 2, none⟩ = some (.int .i64 J) ∧ w'.cell? ⟨w.heap.size, 3, none⟩ = some (.int .i64 S) ∧ w'.cell? ⟨w8.heap.size, 0, none⟩ = some (.int .i64 f'.op) ∧ w'.cell? ⟨w8.heap.size, 1, none⟩ = some (.int .i64 f'.pc) ∧ w'.cell? ⟨w8.heap.size, 2, none⟩ = some (.int .i64 f'.who) ∧ w'.cell? ⟨w8.heap.size, 3, none⟩ = some (.int .u64 f'.val) ∧ w'.cell? ⟨w8.heap.size, 4, none⟩ = some (.int .u64 f'.x) ∧ w'.cell? ⟨w8.heap.size, 5, none⟩ = some (.int .u64 f'.y) ∧ w'.cell? ⟨w8.heap.size, 6, none⟩ = some (.int .i64 f'.res) ∧ Below w15.heap.size w15 w') (by kernel_rfl) (hd_drew HK.out (fun _ h => h.2.2.2.2.2.2.2.2.2.2.2) hHeld0) (fun hHeld => ?_)
  refine wpAnyH_take (i := 0) (oi := { dst := some 96, op := Go.Op.move (Go.Operand.tmp 17), type := 4, pos := "law.go:73", after := #[], guard := none }) (v := ?vzb1) rfl (by kernel_rfl) (by kernel_rfl) (by kernel_rfl) (fun _ _ _ h => h) (Or.inl ⟨by rfl, ?yzb1⟩) (by assumption) ?rzb1
  case yzb1 => (intro w hSw; (try dsimp only at hSw); go_simp; (try with_reducible rfl))
  (try simp only [Act.put, List.setIfInBounds_toArray, List.set_cons_zero, List.set_cons_succ])
  refine wpAnyH_take (i := 1) (oi := { dst := some 97, op := Go.Op.move (Go.Operand.tmp 96), type := 4, pos := "law.go:73", after := #[{ on := 0, ground := Go.Ground.data }], guard := none }) (v := ?vzb2) rfl (by kernel_rfl) (by kernel_rfl) (by kernel_rfl) (fun _ _ _ h => h) (Or.inl ⟨by rfl, ?yzb2⟩) (by assumption) ?rzb2
  case yzb2 => (intro w hSw; (try dsimp only at hSw); go_simp; (try with_reducible rfl))
  (try simp only [Act.put, List.setIfInBounds_toArray, List.set_cons_zero, List.set_cons_succ])
  refine wpAnyH_take (i := 2) (oi := { dst := some 98, op := Go.Op.move (Go.Operand.tmp 15), type := 4, pos := "law.go:73", after := #[{ on := 1, ground := Go.Ground.guard }], guard := some (1, true) }) (v := ?vzb3) rfl (by kernel_rfl) (by kernel_rfl) (by kernel_rfl) (fun _ _ _ h => h) (Or.inl ⟨by rfl, ?yzb3⟩) (by assumption) ?rzb3
  case yzb3 => (intro w hSw; (try dsimp only at hSw); go_simp; (try with_reducible rfl))
  (try simp only [Act.put, List.setIfInBounds_toArray, List.set_cons_zero, List.set_cons_succ])
  refine wpAnyH_take (i := 3) (oi := { dst := some 99, op := Go.Op.move (Go.Operand.tmp 16), type := 4, pos := "law.go:73", after := #[{ on := 1, ground := Go.Ground.guard }], guard := some (1, true) }) (v := ?vzb4) rfl (by kernel_rfl) (by kernel_rfl) (by kernel_rfl) (fun _ _ _ h => h) (Or.inl ⟨by rfl, ?yzb4⟩) (by assumption) ?rzb4
  case yzb4 => (intro w hSw; (try dsimp only at hSw); go_simp; (try with_reducible rfl))
  (try simp only [Act.put, List.setIfInBounds_toArray, List.set_cons_zero, List.set_cons_succ])
  refine wpAnyH_take (i := 4) (oi := { dst := some 100, op := Go.Op.binOp Go.BinOp.eql 4 (Go.Operand.tmp 98) (Go.Operand.tmp 99) 4, type := 4, pos := "law.go:73", after := #[{ on := 2, ground := Go.Ground.data }, { on := 3, ground := Go.Ground.data }, { on := 1, ground := Go.Ground.guard }], guard := some (1, true) }) (v := ?vzb5) rfl (by kernel_rfl) (by kernel_rfl) (by kernel_rfl) (fun _ _ _ h => h) (Or.inl ⟨by rfl, ?yzb5⟩) (by assumption) ?rzb5
  case yzb5 => (intro w hSw; (try dsimp only at hSw); go_simp; (try with_reducible rfl))
  (try simp only [Act.put, List.setIfInBounds_toArray, List.set_cons_zero, List.set_cons_succ])
  refine wpAnyH_take (i := 5) (oi := { dst := some 101, op := Go.Op.pick (Go.Operand.tmp 97) (Go.Operand.tmp 100) (Go.Operand.const (Go.Value.bool false)), type := 4, pos := "law.go:73", after := #[{ on := 1, ground := Go.Ground.data }, { on := 4, ground := Go.Ground.data }], guard := none }) (v := ?vzb6) rfl (by kernel_rfl) (by kernel_rfl) (by kernel_rfl) (fun _ _ _ h => h) (Or.inl ⟨by rfl, ?yzb6⟩) (by assumption) ?rzb6
  case yzb6 => (intro w hSw; (try dsimp only at hSw); go_simp; (try with_reducible rfl))
  (try simp only [Act.put, List.setIfInBounds_toArray, List.set_cons_zero, List.set_cons_succ])
  refine wpAnyH_take (i := 6) (oi := { dst := some 102, op := Go.Op.move (Go.Operand.tmp 101), type := 4, pos := "law.go:73", after := #[{ on := 5, ground := Go.Ground.data }, { on := 1, ground := Go.Ground.chain }], guard := none }) (v := ?vzb7) rfl (by kernel_rfl) (by kernel_rfl) (by kernel_rfl) (fun _ _ _ h => h) (Or.inl ⟨by rfl, ?yzb7⟩) (by assumption) ?rzb7
  case yzb7 => (intro w hSw; (try dsimp only at hSw); go_simp; (try with_reducible rfl))
  (try simp only [Act.put, List.setIfInBounds_toArray, List.set_cons_zero, List.set_cons_succ])
  refine wpAnyH_take (i := 7) (oi := { dst := some 103, op := Go.Op.fieldAddr 29 (Go.Operand.tmp 14) 6, type := 0, pos := "law.go:73", after := #[{ on := 6, ground := Go.Ground.guard }], guard := some (6, true) }) (v := ?vzb8) rfl (by kernel_rfl) (by kernel_rfl) (by kernel_rfl) (fun _ _ _ h => h) (Or.inl ⟨by rfl, ?yzb8⟩) (by assumption) ?rzb8
  case yzb8 => (intro w hSw; (try dsimp only at hSw); go_simp; (try with_reducible rfl))
  (try simp only [Act.put, List.setIfInBounds_toArray, List.set_cons_zero, List.set_cons_succ])
  refine wpAnyH_take (i := 8) (oi := { dst := some 104, op := Go.Op.load 3 (Go.Operand.tmp 103), type := 3, pos := "law.go:73", after := #[{ on := 7, ground := Go.Ground.data }, { on := 6, ground := Go.Ground.guard }], guard := some (6, true) }) (v := ?vzb9) rfl (by kernel_rfl) (by kernel_rfl) (by kernel_rfl) (fun _ _ _ h => h) (Or.inl ⟨by rfl, ?yzb9⟩) (by assumption) ?rzb9
  case yzb9 => (intro w hSw; (try dsimp only at hSw); go_simp; (try with_reducible rfl))
  (try simp only [Act.put, List.setIfInBounds_toArray, List.set_cons_zero, List.set_cons_succ])
  refine wpAnyH_take (i := 9) (oi := { dst := some 105, op := Go.Op.binOp Go.BinOp.eql 3 (Go.Operand.tmp 104) (Go.Operand.const (Go.Value.int Go.IntKind.i64 3)) 3, type := 4, pos := "law.go:73", after := #[{ on := 8, ground := Go.Ground.data }, { on := 6, ground := Go.Ground.guard }], guard := some (6, true) }) (v := ?vzb10) rfl (by kernel_rfl) (by kernel_rfl) (by kernel_rfl) (fun _ _ _ h => h) (Or.inl ⟨by rfl, ?yzb10⟩) (by assumption) ?rzb10
  case yzb10 => (intro w hSw; (try dsimp only at hSw); go_simp; (try with_reducible rfl))
  (try simp only [Act.put, List.setIfInBounds_toArray, List.set_cons_zero, List.set_cons_succ])
  refine wpAnyH_take (i := 10) (oi := { dst := some 106, op := Go.Op.move (Go.Operand.tmp 12), type := 27, pos := "law.go:73", after := #[{ on := 6, ground := Go.Ground.guard }], guard := some (6, true) }) (v := ?vzb11) rfl (by kernel_rfl) (by kernel_rfl) (by kernel_rfl) (fun _ _ _ h => h) (Or.inl ⟨by rfl, ?yzb11⟩) (by assumption) ?rzb11
  case yzb11 => (intro w hSw; (try dsimp only at hSw); go_simp; (try with_reducible rfl))
  (try simp only [Act.put, List.setIfInBounds_toArray, List.set_cons_zero, List.set_cons_succ])
  refine wpAnyH_take (i := 11) (oi := { dst := some 107, op := Go.Op.binOp Go.BinOp.eql 27 (Go.Operand.tmp 106) (Go.Operand.const (Go.Value.int Go.IntKind.u64 0)) 27, type := 4, pos := "law.go:73", after := #[{ on := 10, ground := Go.Ground.data }, { on := 6, ground := Go.Ground.guard }], guard := some (6, true) }) (v := ?vzb12) rfl (by kernel_rfl) (by kernel_rfl) (by kernel_rfl) (fun _ _ _ h => h) (Or.inl ⟨by rfl, ?yzb12⟩) (by assumption) ?rzb12
  case yzb12 => (intro w hSw; (try dsimp only at hSw); go_simp; (try with_reducible rfl))
  (try simp only [Act.put, List.setIfInBounds_toArray, List.set_cons_zero, List.set_cons_succ])
  refine wpAnyH_take (i := 12) (oi := { dst := some 108, op := Go.Op.binOp Go.BinOp.eql 4 (Go.Operand.tmp 105) (Go.Operand.tmp 107) 4, type := 4, pos := "law.go:73", after := #[{ on := 9, ground := Go.Ground.data }, { on := 11, ground := Go.Ground.data }, { on := 6, ground := Go.Ground.guard }], guard := some (6, true) }) (v := ?vzb13) rfl (by kernel_rfl) (by kernel_rfl) (by kernel_rfl) (fun _ _ _ h => h) (Or.inl ⟨by rfl, ?yzb13⟩) (by assumption) ?rzb13
  case yzb13 => (intro w hSw; (try dsimp only at hSw); go_simp; (try with_reducible rfl))
  (try simp only [Act.put, List.setIfInBounds_toArray, List.set_cons_zero, List.set_cons_succ])
  refine wpAnyH_take (i := 13) (oi := { dst := some 109, op := Go.Op.pick (Go.Operand.tmp 102) (Go.Operand.tmp 108) (Go.Operand.const (Go.Value.bool false)), type := 4, pos := "law.go:73", after := #[{ on := 6, ground := Go.Ground.data }, { on := 12, ground := Go.Ground.data }], guard := none }) (v := ?vzb14) rfl (by kernel_rfl) (by kernel_rfl) (by kernel_rfl) (fun _ _ _ h => h) (Or.inl ⟨by rfl, ?yzb14⟩) (by assumption) ?rzb14
  case yzb14 => (intro w hSw; (try dsimp only at hSw); go_simp; (try with_reducible rfl))
  (try simp only [Act.put, List.setIfInBounds_toArray, List.set_cons_zero, List.set_cons_succ])
  refine wpAnyH_take (i := 14) (oi := { dst := some 110, op := Go.Op.move (Go.Operand.tmp 109), type := 4, pos := "law.go:73", after := #[{ on := 13, ground := Go.Ground.data }, { on := 6, ground := Go.Ground.chain }], guard := none }) (v := ?vzb15) rfl (by kernel_rfl) (by kernel_rfl) (by kernel_rfl) (fun _ _ _ h => h) (Or.inl ⟨by rfl, ?yzb15⟩) (by assumption) ?rzb15
  case yzb15 => (intro w hSw; (try dsimp only at hSw); go_simp; (try with_reducible rfl))
  (try simp only [Act.put, List.setIfInBounds_toArray, List.set_cons_zero, List.set_cons_succ])
  refine wpAnyH_take (i := 15) (oi := { dst := some 111, op := Go.Op.load 29 (Go.Operand.tmp 14), type := 29, pos := "law.go:73", after := #[{ on := 14, ground := Go.Ground.guard }], guard := some (14, true) }) (v := ?vzb16) rfl (by kernel_rfl) (by kernel_rfl) (by kernel_rfl) (fun _ _ _ h => h) (Or.inl ⟨by rfl, ?yzb16⟩) (by assumption) ?rzb16
  case yzb16 => (intro w hSw; (try dsimp only at hSw); go_simp; (try with_reducible rfl))
  (try simp only [Act.put, List.setIfInBounds_toArray, List.set_cons_zero, List.set_cons_succ])
  refine wpAnyH_ready (rs := [16]) (by kernel_rfl) (by simp) ?_
  refine (AllReadyH.cons (o := { dst := some 112, op := Go.Op.call { callee := Go.Callee.value (Go.Operand.func 18), args := #[Go.Operand.tmp 111], argTypes := #[29] }, type := 4, pos := "law.go:73", after := #[{ on := 15, ground := Go.Ground.data }, { on := 14, ground := Go.Ground.chain }, { on := 14, ground := Go.Ground.guard }], guard := some (14, true) }) rfl (fun K hK => ?_) AllReadyH.nil)
  go_simp
  refine (Tells.of (over_any f' _) (v' := .bool true) (by rw [HOV.out])).mono ?_
  rintro e wz ⟨rfl, zb⟩
  go_wp2_with fail
  replace ZC := Lib.hid (keep_call (w2 := w15) zb ZC.out)
  clear zb
  refine hK.out _ _ (HK.out _ ZC.out) (fun hHeld2 => ?_)
  clear hK K hHeld
  have hHeld := hHeld2
  clear hHeld2
  (try simp only [Act.put, List.setIfInBounds_toArray, List.set_cons_zero, List.set_cons_succ])
  refine wpAnyH_take (i := 17) (oi := { dst := some 113, op := Go.Op.pick (Go.Operand.tmp 110) (Go.Operand.tmp 112) (Go.Operand.const (Go.Value.bool false)), type := 4, pos := "law.go:73", after := #[{ on := 14, ground := Go.Ground.data }, { on := 16, ground := Go.Ground.data }], guard := none }) (v := ?vzb17) rfl (by kernel_rfl) (by kernel_rfl) (by kernel_rfl) (fun _ _ _ h => h) (Or.inl ⟨by rfl, ?yzb17⟩) (by assumption) ?rzb17
  case yzb17 => (intro w hSw; (try dsimp only at hSw); go_simp; (try with_reducible rfl))
  (try simp only [Act.put, List.setIfInBounds_toArray, List.set_cons_zero, List.set_cons_succ])
  refine wpAnyH_take (i := 18) (oi := { dst := some 114, op := Go.Op.move (Go.Operand.tmp 113), type := 4, pos := "law.go:73", after := #[{ on := 17, ground := Go.Ground.data }, { on := 16, ground := Go.Ground.chain }], guard := none }) (v := ?vzb18) rfl (by kernel_rfl) (by kernel_rfl) (by kernel_rfl) (fun _ _ _ h => h) (Or.inl ⟨by rfl, ?yzb18⟩) (by assumption) ?rzb18
  case yzb18 => (intro w hSw; (try dsimp only at hSw); go_simp; (try with_reducible rfl))
  (try simp only [Act.put, List.setIfInBounds_toArray, List.set_cons_zero, List.set_cons_succ])
  refine wpAnyH_take (i := 19) (oi := { dst := some 115, op := Go.Op.move (Go.Operand.tmp 16), type := 4, pos := "law.go:73", after := #[{ on := 18, ground := Go.Ground.guard }], guard := some (18, true) }) (v := ?vzb19) rfl (by kernel_rfl) (by kernel_rfl) (by kernel_rfl) (fun _ _ _ h => h) (Or.inl ⟨by rfl, ?yzb19⟩) (by assumption) ?rzb19
  case yzb19 => (intro w hSw; (try dsimp only at hSw); go_simp; (try with_reducible rfl))
  (try simp only [Act.put, List.setIfInBounds_toArray, List.set_cons_zero, List.set_cons_succ])
  refine wpAnyH_take (i := 20) (oi := { dst := some 116, op := Go.Op.unOp Go.UnOp.not 4 (Go.Operand.tmp 115), type := 4, pos := "law.go:73", after := #[{ on := 19, ground := Go.Ground.data }, { on := 18, ground := Go.Ground.guard }], guard := some (18, true) }) (v := ?vzb20) rfl (by kernel_rfl) (by kernel_rfl) (by kernel_rfl) (fun _ _ _ h => h) (Or.inl ⟨by rfl, ?yzb20⟩) (by assumption) ?rzb20
  case yzb20 => (intro w hSw; (try dsimp only at hSw); go_simp; (try with_reducible rfl))
  (try simp only [Act.put, List.setIfInBounds_toArray, List.set_cons_zero, List.set_cons_succ])
  refine wpAnyH_take (i := 21) (oi := { dst := some 117, op := Go.Op.move (Go.Operand.tmp 116), type := 4, pos := "law.go:73", after := #[{ on := 20, ground := Go.Ground.data }, { on := 18, ground := Go.Ground.chain }, { on := 18, ground := Go.Ground.guard }], guard := some (18, true) }) (v := ?vzb21) rfl (by kernel_rfl) (by kernel_rfl) (by kernel_rfl) (fun _ _ _ h => h) (Or.inl ⟨by rfl, ?yzb21⟩) (by assumption) ?rzb21
  case yzb21 => (intro w hSw; (try dsimp only at hSw); go_simp; (try with_reducible rfl))
  (try simp only [Act.put, List.setIfInBounds_toArray, List.set_cons_zero, List.set_cons_succ])
  refine wpAnyH_take (i := 22) (oi := { dst := some 118, op := Go.Op.load 23 (Go.Operand.tmp 4), type := 23, pos := "law.go:73", after := #[{ on := 21, ground := Go.Ground.guard }], guard := some (21, false) }) (v := ?vzb22) rfl (by kernel_rfl) (by kernel_rfl) (by kernel_rfl) (fun _ _ _ h => h) (Or.inl ⟨by rfl, ?yzb22⟩) (by assumption) ?rzb22
  case yzb22 => (intro w hSw; (try dsimp only at hSw); go_simp; (try with_reducible rfl))
  (try simp only [Act.put, List.setIfInBounds_toArray, List.set_cons_zero, List.set_cons_succ])
  refine wpAnyH_take (i := 23) (oi := { dst := some 119, op := Go.Op.move (Go.Operand.tmp 13), type := 25, pos := "law.go:73", after := #[{ on := 21, ground := Go.Ground.guard }], guard := some (21, false) }) (v := ?vzb23) rfl (by kernel_rfl) (by kernel_rfl) (by kernel_rfl) (fun _ _ _ h => h) (Or.inl ⟨by rfl, ?yzb23⟩) (by assumption) ?rzb23
  case yzb23 => (intro w hSw; (try dsimp only at hSw); go_simp; (try with_reducible rfl))
  (try simp only [Act.put, List.setIfInBounds_toArray, List.set_cons_zero, List.set_cons_succ])
  refine wpAnyH_take (i := 24) (oi := { dst := some 120, op := Go.Op.move (Go.Operand.tmp 3), type := 3, pos := "law.go:73", after := #[{ on := 21, ground := Go.Ground.guard }], guard := some (21, false) }) (v := ?vzb24) rfl (by kernel_rfl) (by kernel_rfl) (by kernel_rfl) (fun _ _ _ h => h) (Or.inl ⟨by rfl, ?yzb24⟩) (by assumption) ?rzb24
  case yzb24 => (intro w hSw; (try dsimp only at hSw); go_simp; (try with_reducible rfl))
  (try simp only [Act.put, List.setIfInBounds_toArray, List.set_cons_zero, List.set_cons_succ])
  refine wpAnyH_ready (rs := [25]) (by kernel_rfl) (by simp) ?_
  refine (AllReadyH.cons (o := { dst := some 121, op := Go.Op.call { callee := Go.Callee.value (Go.Operand.func 19), args := #[Go.Operand.tmp 118, Go.Operand.tmp 119, Go.Operand.tmp 120], argTypes := #[23, 25, 3] }, type := 4, pos := "law.go:73", after := #[{ on := 22, ground := Go.Ground.data }, { on := 23, ground := Go.Ground.data }, { on := 24, ground := Go.Ground.data }, { on := 21, ground := Go.Ground.chain }, { on := 21, ground := Go.Ground.guard }], guard := some (21, false) }) rfl (fun K hK => ?_) AllReadyH.nil)
  go_simp
  refine (Tells.of (waits_any W D J S k A8 n c8 l' _ (LB.out.below ZC.out) HN2.out HS.out HUL.out.1) (v' := .bool false) (by rw [HWN.out])).mono ?_
  rintro e wz ⟨rfl, zb⟩
  go_wp2_with fail
  replace ZC := Lib.hid (keep_call (w2 := w15) zb ZC.out)
  clear zb
  refine hK.out _ _ (HK.out _ ZC.out) (fun hHeld2 => ?_)
  clear hK K hHeld
  have hHeld := hHeld2
  clear hHeld2
  (try simp only [Act.put, List.setIfInBounds_toArray, List.set_cons_zero, List.set_cons_succ])
  refine wpAnyH_take (i := 26) (oi := { dst := some 122, op := Go.Op.unOp Go.UnOp.not 4 (Go.Operand.tmp 121), type := 4, pos := "law.go:73", after := #[{ on := 25, ground := Go.Ground.data }, { on := 21, ground := Go.Ground.guard }], guard := some (21, false) }) (v := ?vzb25) rfl (by kernel_rfl) (by kernel_rfl) (by kernel_rfl) (fun _ _ _ h => h) (Or.inl ⟨by rfl, ?yzb25⟩) (by assumption) ?rzb25
  case yzb25 => (intro w hSw; (try dsimp only at hSw); go_simp; (try with_reducible rfl))
  (try simp only [Act.put, List.setIfInBounds_toArray, List.set_cons_zero, List.set_cons_succ])
  refine wpAnyH_take (i := 27) (oi := { dst := some 123, op := Go.Op.pick (Go.Operand.tmp 117) (Go.Operand.const (Go.Value.bool true)) (Go.Operand.tmp 122), type := 4, pos := "law.go:73", after := #[{ on := 21, ground := Go.Ground.data }, { on := 26, ground := Go.Ground.data }, { on := 18, ground := Go.Ground.guard }], guard := some (18, true) }) (v := ?vzb26) rfl (by kernel_rfl) (by kernel_rfl) (by kernel_rfl) (fun _ _ _ h => h) (Or.inl ⟨by rfl, ?yzb26⟩) (by assumption) ?rzb26
  case yzb26 => (intro w hSw; (try dsimp only at hSw); go_simp; (try with_reducible rfl))
  (try simp only [Act.put, List.setIfInBounds_toArray, List.set_cons_zero, List.set_cons_succ])
  refine wpAnyH_take (i := 28) (oi := { dst := some 124, op := Go.Op.pick (Go.Operand.tmp 114) (Go.Operand.tmp 123) (Go.Operand.const (Go.Value.bool false)), type := 4, pos := "law.go:73", after := #[{ on := 18, ground := Go.Ground.data }, { on := 27, ground := Go.Ground.data }], guard := none }) (v := ?vzb27) rfl (by kernel_rfl) (by kernel_rfl) (by kernel_rfl) (fun _ _ _ h => h) (Or.inl ⟨by rfl, ?yzb27⟩) (by assumption) ?rzb27
  case yzb27 => (intro w hSw; (try dsimp only at hSw); go_simp; (try with_reducible rfl))
  (try simp only [Act.put, List.setIfInBounds_toArray, List.set_cons_zero, List.set_cons_succ])
  refine wpAnyH_take (i := 29) (oi := { dst := some 125, op := Go.Op.move (Go.Operand.tmp 124), type := 4, pos := "law.go:73", after := #[{ on := 28, ground := Go.Ground.data }, { on := 25, ground := Go.Ground.chain }], guard := none }) (v := ?vzb28) rfl (by kernel_rfl) (by kernel_rfl) (by kernel_rfl) (fun _ _ _ h => h) (Or.inl ⟨by rfl, ?yzb28⟩) (by assumption) ?rzb28
  case yzb28 => (intro w hSw; (try dsimp only at hSw); go_simp; (try with_reducible rfl))
  (try simp only [Act.put, List.setIfInBounds_toArray, List.set_cons_zero, List.set_cons_succ])
  refine wpAnyH_take (i := 30) (oi := { dst := some 126, op := Go.Op.move (Go.Operand.tmp 2), type := 4, pos := "law.go:73", after := #[{ on := 29, ground := Go.Ground.guard }], guard := some (29, true) }) (v := ?vzb29) rfl (by kernel_rfl) (by kernel_rfl) (by kernel_rfl) (fun _ _ _ h => h) (Or.inl ⟨by rfl, ?yzb29⟩) (by assumption) ?rzb29
  case yzb29 => (intro w hSw; (try dsimp only at hSw); go_simp; (try with_reducible rfl))
  (try simp only [Act.put, List.setIfInBounds_toArray, List.set_cons_zero, List.set_cons_succ])
  refine wpAnyH_take (i := 31) (oi := { dst := some 127, op := Go.Op.move (Go.Operand.tmp 126), type := 4, pos := "law.go:73", after := #[{ on := 30, ground := Go.Ground.data }, { on := 29, ground := Go.Ground.chain }, { on := 29, ground := Go.Ground.guard }], guard := some (29, true) }) (v := ?vzb30) rfl (by kernel_rfl) (by kernel_rfl) (by kernel_rfl) (fun _ _ _ h => h) (Or.inl ⟨by rfl, ?yzb30⟩) (by assumption) ?rzb30
  case yzb30 => (intro w hSw; (try dsimp only at hSw); go_simp; (try with_reducible rfl))
  (try simp only [Act.put, List.setIfInBounds_toArray, List.set_cons_zero, List.set_cons_succ])
  refine wpAnyH_take (i := 32) (oi := { dst := some 128, op := Go.Op.move (Go.Operand.tmp 16), type := 4, pos := "law.go:73", after := #[{ on := 31, ground := Go.Ground.guard }], guard := some (31, false) }) (v := ?vzb31) rfl (by kernel_rfl) (by kernel_rfl) (by kernel_rfl) (fun _ _ _ h => h) (Or.inl ⟨by rfl, ?yzb31⟩) (by assumption) ?rzb31
  case yzb31 => (intro w hSw; (try dsimp only at hSw); go_simp; (try with_reducible rfl))
  (try simp only [Act.put, List.setIfInBounds_toArray, List.set_cons_zero, List.set_cons_succ])
  refine wpAnyH_take (i := 33) (oi := { dst := some 129, op := Go.Op.pick (Go.Operand.tmp 127) (Go.Operand.const (Go.Value.bool true)) (Go.Operand.tmp 128), type := 4, pos := "law.go:73", after := #[{ on := 31, ground := Go.Ground.data }, { on := 32, ground := Go.Ground.data }, { on := 29, ground := Go.Ground.guard }], guard := some (29, true) }) (v := ?vzb32) rfl (by kernel_rfl) (by kernel_rfl) (by kernel_rfl) (fun _ _ _ h => h) (Or.inl ⟨by rfl, ?yzb32⟩) (by assumption) ?rzb32
  case yzb32 => (intro w hSw; (try dsimp only at hSw); go_simp; (try with_reducible rfl))
  (try simp only [Act.put, List.setIfInBounds_toArray, List.set_cons_zero, List.set_cons_succ])
  refine wpAnyH_take (i := 34) (oi := { dst := some 130, op := Go.Op.move (Go.Operand.tmp 129), type := 4, pos := "law.go:73", after := #[{ on := 33, ground := Go.Ground.data }, { on := 31, ground := Go.Ground.chain }, { on := 29, ground := Go.Ground.guard }], guard := some (29, true) }) (v := ?vzb33) rfl (by kernel_rfl) (by kernel_rfl) (by kernel_rfl) (fun _ _ _ h => h) (Or.inl ⟨by rfl, ?yzb33⟩) (by assumption) ?rzb33
  case yzb33 => (intro w hSw; (try dsimp only at hSw); go_simp; (try with_reducible rfl))
  (try simp only [Act.put, List.setIfInBounds_toArray, List.set_cons_zero, List.set_cons_succ])
  refine wpAnyH_take (i := 35) (oi := { dst := some 131, op := Go.Op.load 23 (Go.Operand.tmp 4), type := 23, pos := "law.go:73", after := #[{ on := 34, ground := Go.Ground.guard }], guard := some (34, false) }) (v := undef) rfl (by kernel_rfl) (by kernel_rfl) (by kernel_rfl) (fun _ _ _ h => h) (Or.inr ⟨by rfl, rfl⟩) (by assumption) ?_
  (try simp only [Act.put, List.setIfInBounds_toArray, List.set_cons_zero, List.set_cons_succ])
  refine wpAnyH_take (i := 36) (oi := { dst := some 132, op := Go.Op.move (Go.Operand.tmp 13), type := 25, pos := "law.go:73", after := #[{ on := 34, ground := Go.Ground.guard }], guard := some (34, false) }) (v := undef) rfl (by kernel_rfl) (by kernel_rfl) (by kernel_rfl) (fun _ _ _ h => h) (Or.inr ⟨by rfl, rfl⟩) (by assumption) ?_
  (try simp only [Act.put, List.setIfInBounds_toArray, List.set_cons_zero, List.set_cons_succ])
  refine wpAnyH_take (i := 37) (oi := { dst := some 133, op := Go.Op.move (Go.Operand.tmp 3), type := 3, pos := "law.go:73", after := #[{ on := 34, ground := Go.Ground.guard }], guard := some (34, false) }) (v := undef) rfl (by kernel_rfl) (by kernel_rfl) (by kernel_rfl) (fun _ _ _ h => h) (Or.inr ⟨by rfl, rfl⟩) (by assumption) ?_
  (try simp only [Act.put, List.setIfInBounds_toArray, List.set_cons_zero, List.set_cons_succ])
  refine wpAnyH_take (i := 38) (oi := { dst := some 134, op := Go.Op.call { callee := Go.Callee.value (Go.Operand.func 19), args := #[Go.Operand.tmp 131, Go.Operand.tmp 132, Go.Operand.tmp 133], argTypes := #[23, 25, 3] }, type := 4, pos := "law.go:73", after := #[{ on := 35, ground := Go.Ground.data }, { on := 36, ground := Go.Ground.data }, { on := 37, ground := Go.Ground.data }, { on := 34, ground := Go.Ground.chain }, { on := 34, ground := Go.Ground.guard }], guard := some (34, false) }) (v := undef) rfl (by kernel_rfl) (by kernel_rfl) (by kernel_rfl) (fun _ _ _ h => h) (Or.inr ⟨by rfl, rfl⟩) (by assumption) ?_
  (try simp only [Act.put, List.setIfInBounds_toArray, List.set_cons_zero, List.set_cons_succ])
  refine wpAnyH_take (i := 39) (oi := { dst := some 135, op := Go.Op.load 23 (Go.Operand.tmp 4), type := 23, pos := "law.go:73", after := #[{ on := 34, ground := Go.Ground.guard }], guard := some (34, false) }) (v := undef) rfl (by kernel_rfl) (by kernel_rfl) (by kernel_rfl) (fun _ _ _ h => h) (Or.inr ⟨by rfl, rfl⟩) (by assumption) ?_
  (try simp only [Act.put, List.setIfInBounds_toArray, List.set_cons_zero, List.set_cons_succ])
  refine wpAnyH_take (i := 40) (oi := { dst := some 136, op := Go.Op.move (Go.Operand.tmp 1), type := 25, pos := "law.go:73", after := #[{ on := 34, ground := Go.Ground.guard }], guard := some (34, false) }) (v := undef) rfl (by kernel_rfl) (by kernel_rfl) (by kernel_rfl) (fun _ _ _ h => h) (Or.inr ⟨by rfl, rfl⟩) (by assumption) ?_
  (try simp only [Act.put, List.setIfInBounds_toArray, List.set_cons_zero, List.set_cons_succ])
  refine wpAnyH_take (i := 41) (oi := { dst := some 137, op := Go.Op.move (Go.Operand.tmp 3), type := 3, pos := "law.go:73", after := #[{ on := 34, ground := Go.Ground.guard }], guard := some (34, false) }) (v := undef) rfl (by kernel_rfl) (by kernel_rfl) (by kernel_rfl) (fun _ _ _ h => h) (Or.inr ⟨by rfl, rfl⟩) (by assumption) ?_
  (try simp only [Act.put, List.setIfInBounds_toArray, List.set_cons_zero, List.set_cons_succ])
  refine wpAnyH_take (i := 42) (oi := { dst := some 138, op := Go.Op.call { callee := Go.Callee.value (Go.Operand.func 19), args := #[Go.Operand.tmp 135, Go.Operand.tmp 136, Go.Operand.tmp 137], argTypes := #[23, 25, 3] }, type := 4, pos := "law.go:73", after := #[{ on := 39, ground := Go.Ground.data }, { on := 40, ground := Go.Ground.data }, { on := 41, ground := Go.Ground.data }, { on := 38, ground := Go.Ground.chain }, { on := 34, ground := Go.Ground.guard }], guard := some (34, false) }) (v := undef) rfl (by kernel_rfl) (by kernel_rfl) (by kernel_rfl) (fun _ _ _ h => h) (Or.inr ⟨by rfl, rfl⟩) (by assumption) ?_
  (try simp only [Act.put, List.setIfInBounds_toArray, List.set_cons_zero, List.set_cons_succ])
  refine wpAnyH_take (i := 43) (oi := { dst := some 139, op := Go.Op.binOp Go.BinOp.eql 4 (Go.Operand.tmp 134) (Go.Operand.tmp 138) 4, type := 4, pos := "law.go:73", after := #[{ on := 38, ground := Go.Ground.data }, { on := 42, ground := Go.Ground.data }, { on := 34, ground := Go.Ground.guard }], guard := some (34, false) }) (v := undef) rfl (by kernel_rfl) (by kernel_rfl) (by kernel_rfl) (fun _ _ _ h => h) (Or.inr ⟨by rfl, rfl⟩) (by assumption) ?_
  (try simp only [Act.put, List.setIfInBounds_toArray, List.set_cons_zero, List.set_cons_succ])
  refine wpAnyH_take (i := 44) (oi := { dst := some 140, op := Go.Op.pick (Go.Operand.tmp 130) (Go.Operand.const (Go.Value.bool true)) (Go.Operand.tmp 139), type := 4, pos := "law.go:73", after := #[{ on := 34, ground := Go.Ground.data }, { on := 43, ground := Go.Ground.data }, { on := 29, ground := Go.Ground.guard }], guard := some (29, true) }) (v := ?vzb34) rfl (by kernel_rfl) (by kernel_rfl) (by kernel_rfl) (fun _ _ _ h => h) (Or.inl ⟨by rfl, ?yzb34⟩) (by assumption) ?rzb34
  case yzb34 => (intro w hSw; (try dsimp only at hSw); go_simp; (try with_reducible rfl))
  (try simp only [Act.put, List.setIfInBounds_toArray, List.set_cons_zero, List.set_cons_succ])
  refine wpAnyH_take (i := 45) (oi := { dst := some 141, op := Go.Op.pick (Go.Operand.tmp 125) (Go.Operand.tmp 140) (Go.Operand.const (Go.Value.bool false)), type := 4, pos := "law.go:73", after := #[{ on := 29, ground := Go.Ground.data }, { on := 44, ground := Go.Ground.data }], guard := none }) (v := ?vzb35) rfl (by kernel_rfl) (by kernel_rfl) (by kernel_rfl) (fun _ _ _ h => h) (Or.inl ⟨by rfl, ?yzb35⟩) (by assumption) ?rzb35
  case yzb35 => (intro w hSw; (try dsimp only at hSw); go_simp; (try with_reducible rfl))
  (try simp only [Act.put, List.setIfInBounds_toArray, List.set_cons_zero, List.set_cons_succ])
  refine wpAnyH_take (i := 46) (oi := { dst := some 8, op := Go.Op.assign (Go.Operand.tmp 141), type := 4, pos := "law.go:73", after := #[{ on := 45, ground := Go.Ground.data }, { on := 42, ground := Go.Ground.chain }, { on := 0, ground := Go.Ground.phase }, { on := 1, ground := Go.Ground.phase }, { on := 2, ground := Go.Ground.phase }, { on := 3, ground := Go.Ground.phase }, { on := 4, ground := Go.Ground.phase }, { on := 5, ground := Go.Ground.phase }, { on := 6, ground := Go.Ground.phase }, { on := 7, ground := Go.Ground.phase }, { on := 8, ground := Go.Ground.phase }, { on := 9, ground := Go.Ground.phase }, { on := 10, ground := Go.Ground.phase }, { on := 11, ground := Go.Ground.phase }, { on := 12, ground := Go.Ground.phase }, { on := 13, ground := Go.Ground.phase }, { on := 14, ground := Go.Ground.phase }, { on := 15, ground := Go.Ground.phase }, { on := 16, ground := Go.Ground.phase }, { on := 17, ground := Go.Ground.phase }, { on := 18, ground := Go.Ground.phase }, { on := 19, ground := Go.Ground.phase }, { on := 20, ground := Go.Ground.phase }, { on := 21, ground := Go.Ground.phase }, { on := 22, ground := Go.Ground.phase }, { on := 23, ground := Go.Ground.phase }, { on := 24, ground := Go.Ground.phase }, { on := 25, ground := Go.Ground.phase }, { on := 26, ground := Go.Ground.phase }, { on := 27, ground := Go.Ground.phase }, { on := 28, ground := Go.Ground.phase }, { on := 29, ground := Go.Ground.phase }, { on := 30, ground := Go.Ground.phase }, { on := 31, ground := Go.Ground.phase }, { on := 32, ground := Go.Ground.phase }, { on := 33, ground := Go.Ground.phase }, { on := 34, ground := Go.Ground.phase }, { on := 35, ground := Go.Ground.phase }, { on := 36, ground := Go.Ground.phase }, { on := 37, ground := Go.Ground.phase }, { on := 38, ground := Go.Ground.phase }, { on := 39, ground := Go.Ground.phase }, { on := 40, ground := Go.Ground.phase }, { on := 41, ground := Go.Ground.phase }, { on := 42, ground := Go.Ground.phase }, { on := 43, ground := Go.Ground.phase }, { on := 44, ground := Go.Ground.phase }, { on := 45, ground := Go.Ground.phase }], guard := none }) (v := ?vzb36) rfl (by kernel_rfl) (by kernel_rfl) (by kernel_rfl) (fun _ _ _ h => h) (Or.inl ⟨by rfl, ?yzb36⟩) (by assumption) ?rzb36
  case yzb36 => (intro w hSw; (try dsimp only at hSw); go_simp; (try with_reducible rfl))
  (try simp only [Act.put, List.setIfInBounds_toArray, List.set_cons_zero, List.set_cons_succ])
  refine wpAnyH_done (by kernel_rfl) ?_ _
  go_wp2
  go_ret
  exact ⟨rfl, Z.out.trans (ZC.out.mono Z.out.size)⟩
set_option maxHeartbeats 2000000 in
theorem one_6yn (W D J S : Int) (k : Nat) (A : Option Addr) (n c : Nat) (m : List Int) (w : World) (hm : Rd w A m) (hn : m.length = n) (hs : n ≤ 500) (hu : UM m) (hk : okw W D J S m k = true) (hb : at0 m 2 / 2 ^ k % 2 = 1) (hl : ¬ lw (at0 m 2) = k) : Tells 3 #[cf W D J S, .slice A n c, .bool false, .int .i64 (k : Int)] w (.bool true) := by
  have hpk := pkI_lim hk
  have hwho := okw_who hk
  have hpo := pkI_ow hk
  have hkW := okw_iff.1 hk
  have hk16 : k < 16 := by omega
  have ho := okm_of hk
  obtain ⟨m0, hm0⟩ : ∃ m0, m0 = put m (pkI D J k) 0 := ⟨_, rfl⟩
  have k0 : okw W D J S m0 k = true := by rw [hm0]; exact okw_put hk _ _
  have n0 : m0.length = n := by rw [hm0, len_put]; exact hn
  have z0 : at0 m0 (pkI D J k) = 0 := by rw [hm0]; exact at0_put _ (by omega) hpk.2
  have um0 : UM m0 := by rw [hm0]; exact put_U hu _ U0
  have e0 : at0 m0 2 = at0 m 2 := by rw [hm0]; exact at0_put_ne _ _ (by omega)
  obtain ⟨E, hE⟩ : ∃ E, at0 m0 2 = E := ⟨_, rfl⟩
  rw [← e0, hE] at hb hl
  have hue : U E := by rw [← hE]; exact at0_U um0 2
  obtain ⟨l', f', i20, hres, hev, hpark⟩ := alone_20 (o := 6) (okm_of k0) (by simp)
  rw [hE] at hres hev hpark
  have hpa := hpark k k0
  rw [z0] at hpa
  have hpa2 : at0 l' (pkI D J k) = 0 := by rw [hpa, if_neg (fun h => by rcases h.2 with h2 | h2; exact absurd h2 (by simp); exact hl h2)]
  have hl' := noteN_len W D J S 20 (m0, fbg 6 0 0)
  have hul := noteN_U (W := W) (D := D) (J := J) (S := S) (s := (m0, fbg 6 0 0)) um0 ⟨U0, U0, U0⟩ 20
  rw [i20] at hl' hul
  have hn2 : l'.length = n := hl'.trans n0
  have k2 : okw W D J S l' k = true := by rw [okw_len (m := m0) hl']; exact k0
  have hov : (f'.res != 0) = true := by rw [hres]; split <;> rfl
  obtain ⟨M, hM⟩ : ∃ M, E % 65536 = M := ⟨_, rfl⟩
  have hMl : 0 ≤ M ∧ M < 65536 := by omega
  obtain ⟨z, hz2⟩ : ∃ z, (M == 0) = z := ⟨_, rfl⟩
  have hz1 : (f'.res == 3) = z := by rw [hres, ← hz2, hM]; by_cases h : M = 0; rw [if_pos h]; simp [h]; rw [if_neg h]; simp [h]
  have hzz : (z == z) = true := by simp
  have hp := pow_lt hk16
  obtain ⟨PP, hPP⟩ : ∃ PP : Int, 2 ^ k = PP := ⟨_, rfl⟩
  rw [hPP] at hp
  have hw0 : IntKind.u64.wrap ((2 : Int) ^ min k 64) = PP := by rw [Nat.min_eq_left (by omega), hPP, IntKind.wrap_u64]; omega
  have hpn : ¬ PP = 0 := by omega
  obtain ⟨QQ, hQQ⟩ : ∃ QQ, M / PP = QQ := ⟨_, rfl⟩
  have hQl : 0 ≤ QQ ∧ QQ ≤ M := by rw [← hQQ]; exact ⟨Int.ediv_nonneg hMl.1 (by omega), Int.ediv_le_self _ hMl.1⟩
  have hdv : M.tdiv PP = QQ := by rw [Int.tdiv_eq_ediv_of_nonneg hMl.1]; exact hQQ
  have hdw : IntKind.u64.wrap QQ = QQ := by rw [IntKind.wrap_u64]; omega
  obtain ⟨R, hR⟩ : ∃ R, QQ % 2 = R := ⟨_, rfl⟩
  have hmd : QQ.tmod 2 = R := by rw [Int.tmod_eq_emod_of_nonneg hQl.1]; exact hR
  have hmw : IntKind.u64.wrap R = R := by rw [IntKind.wrap_u64]; omega
  have hbb : (R == 1) = true := by
    have h := bit_mask E k hk16
    rw [hM, hPP, hQQ, hR] at h
    rw [h]
    simpa [hPP] using hb
  obtain ⟨Q, hQ⟩ : ∃ Q, E / 65536 = Q := ⟨_, rfl⟩
  obtain ⟨P, hP⟩ : ∃ P, at0 l' 2 / 65536 = P := ⟨_, rfl⟩
  have hq0 : 0 ≤ Q ∧ Q < 281474976710656 := by unfold U at hue; omega
  have hPQ : P = (Q + 1) % 281474976710656 := by rw [← hP, hev, nxN_epoch, hQ]
  have hw1 : IntKind.u64.wrap (Q + 1) = Q + 1 := by rw [IntKind.wrap_u64]; omega
  have hw2 : (Q + 1).tmod 281474976710656 = P := by rw [Int.tmod_eq_emod_of_nonneg (by omega)]; exact hPQ.symm
  have hw4 : IntKind.u64.wrap P = P := by rw [IntKind.wrap_u64]; omega
  have hw3 : (P == P) = true := by simp
  have hd1 : decide ((k : Int) < 0) = false := decide_eq_false (by omega)
  have hd2 : decide (W ≤ (k : Int)) = false := decide_eq_false (by omega)
  have hd3 : decide ((7 : Int) < (k : Int)) = false := decide_eq_false (by omega)
  have hwn : wts W D J S l' k = true := by rw [wts_bit k2, hev, decide_eq_true_iff, nx_bit _ _ k hk16 (by simp)]; exact ⟨rfl, hb, hl⟩
  have hwm : wts W D J S m0 k = true := by rw [wts_bit k0, hE, decide_eq_true_iff]; exact hb
  have hlk : (lw M == (k : Int)) = false := by rw [← hM, lw_mask]; simpa using hl
  obtain ⟨LL, hLL⟩ : ∃ LL, lw M = LL := ⟨_, rfl⟩
  rw [hLL] at hlk
  have LM0 := Lib.hid hm
  have HN := Lib.hid hn
  clear hm hn
  have hd : decide ((500 : Int) < (n : Int)) = false := decide_eq_false (by omega)
  have HO := Lib.hid ho
  have HS := Lib.hid hs
  have HM0 := Lib.hid hm0
  have HN0 := Lib.hid n0
  have HUM0 := Lib.hid um0
  have HE := Lib.hid hE
  have HUE := Lib.hid hue
  have HI := Lib.hid i20
  have HPA := Lib.hid hpa2
  have HN2 := Lib.hid hn2
  have HUL := Lib.hid hul
  have HOV := Lib.hid hov
  have HM := Lib.hid hM
  have HPO := Lib.hid hpo
  have HQ := Lib.hid hQ
  have HP := Lib.hid hP
  have HWN := Lib.hid hwn
  have HML := Lib.hid hMl
  have HWM := Lib.hid hwm
  have HLL := Lib.hid hLL
  clear hk hpk hwho hkW hk16 k0 z0 e0 hres hev hpark hpa hl' k2 hu hb hp hPP hQQ hQl hR hq0 hPQ hl ho hs hm0 n0 um0 hE hue i20 hpa2 hn2 hul hov hM hpo hQ hP hwn hMl hwm hLL
  go_enter Try.func3, Try.ntmps3
  go_wp2_with fail
  refine (awake_any _).mono ?_
  rintro _ w1 ⟨rfl, z⟩
  have BX := Lib.hid ((Bx.mk w W D J S 23).below z)
  replace z := (box_below w _).trans (z.mono (by simp))
  have Z := Lib.hid z
  have LM := Lib.hid (LM0.out.below z)
  clear z LM0
  obtain ⟨gx, x_0, x_1, x_2, x_3⟩ := BX.out
  go_wp2_with fail
  refine (begin_any 6 0 0 _).mono ?_
  rintro _ w2 ⟨rfl, z⟩
  clear gx x_0 x_1 x_2 x_3
  replace Z := Lib.hid (Z.out.trans (z.mono Z.out.size))
  replace BX := Lib.hid (BX.out.below z)
  replace LM := Lib.hid (LM.out.below z)
  clear z
  obtain ⟨gx, x_0, x_1, x_2, x_3⟩ := BX.out
  go_wp2_with fail
  refine (Tells.of (ngoes_any W D J S A n c m (fbg 6 0 0) _ HN.out) (v' := .bool true) (by rw [goesN_begun (by simp), HO.out])).mono ?_
  rintro _ w3 ⟨rfl, z⟩
  clear gx x_0 x_1 x_2 x_3
  have BF := Lib.hid ((Bf.new w2 (fbg 6 0 0)).after z)
  replace z := keep_call z (bel_alloc w2 _)
  replace Z := Lib.hid (Z.out.trans (z.mono Z.out.size))
  replace BX := Lib.hid (BX.out.below z)
  replace LM := Lib.hid (LM.out.below z)
  clear z
  obtain ⟨gx, x_0, x_1, x_2, x_3⟩ := BX.out
  go_wp2_with fail
  refine (Tells.of (park_any W D J S k _) (v' := .int .i64 (pkI D J k)) (by rw [HPO.out])).mono ?_
  rintro _ w4 ⟨rfl, z⟩
  clear gx x_0 x_1 x_2 x_3
  replace Z := Lib.hid (Z.out.trans (z.mono Z.out.size))
  replace BX := Lib.hid (BX.out.below z)
  replace LM := Lib.hid (LM.out.below z)
  replace BF := Lib.hid (BF.out.after z)
  clear z
  go_wp2_with fail
  refine (store_new A n c m (pkI D J k) 0 _ LM.out HN.out HS.out).mono ?_
  rintro _ w5 ⟨g5, rfl, hg5, hb5, z⟩
  replace Z := Lib.hid (Z.out.trans (z.mono Z.out.size))
  replace BX := Lib.hid (BX.out.below z)
  replace LM := Lib.hid (LM.out.below z)
  replace BF := Lib.hid (BF.out.after z)
  have L0 := Lib.hid (show Rd w5 (some ⟨g5, 0, none⟩) m0 by rw [HM0.out]; exact hb5.rd)
  clear hg5 hb5 z LM
  go_wp2_with fail
  refine (ret_of (load_any (some ⟨g5, 0, none⟩) n n m0 2 _ L0.out HN0.out HS.out) (v' := .int .u64 E) (by rw [HE.out])).mono ?_
  rintro _ w6 ⟨rfl, z⟩
  replace Z := Lib.hid (Z.out.trans (z.mono Z.out.size))
  replace BX := Lib.hid (BX.out.below z)
  replace BF := Lib.hid (BF.out.after z)
  replace L0 := Lib.hid (L0.out.below z)
  clear z
  go_wp2_with fail
  refine (Tells.of (mask_any E _ HUE.out).tells (v' := .int .u64 M) (by rw [HM.out])).mono ?_
  rintro _ w7 ⟨rfl, z⟩
  replace Z := Lib.hid (Z.out.trans (z.mono Z.out.size))
  replace BX := Lib.hid (BX.out.below z)
  replace BF := Lib.hid (BF.out.after z)
  replace L0 := Lib.hid (L0.out.below z)
  clear z
  obtain ⟨gx, x_0, x_1, x_2, x_3⟩ := BX.out
  obtain ⟨a0, a1, a2, a3, a4, a5, a6⟩ := BF.out.cells
  have la := BF.out.lt
  simp only [fbg] at a0 a1 a2 a3 a4 a5 a6
  go_wp2_with fail
  refine (alone_n (f := fbg 6 0 0) L0.out HN0.out HS.out HUM0.out ⟨U0, U0, U0⟩ HI.out).mono ?_
  rintro _ w8 ⟨A8, c8, rfl, hn8, z⟩
  clear gx x_0 x_1 x_2 x_3 a0 a1 a2 a3 a4 a5 a6 la
  replace Z := Lib.hid (Z.out.trans (z.mono Z.out.size))
  replace BX := Lib.hid (BX.out.below z)
  replace BF := Lib.hid (BF.out.after z)
  replace L0 := Lib.hid (L0.out.below z)
  have LB := Lib.hid hn8.rd
  clear hn8 z BF
  obtain ⟨gx, x_0, x_1, x_2, x_3⟩ := BX.out
  go_wp2_with fail
  refine (Tells.of (park_any W D J S k _) (v' := .int .i64 (pkI D J k)) (by rw [HPO.out])).mono ?_
  rintro _ w9 ⟨rfl, z⟩
  clear gx x_0 x_1 x_2 x_3
  have BG := Lib.hid ((Bf.new w8 f').after z)
  replace z := keep_call z (bel_alloc w8 _)
  replace Z := Lib.hid (Z.out.trans (z.mono Z.out.size))
  replace BX := Lib.hid (BX.out.below z)
  replace L0 := Lib.hid (L0.out.below z)
  replace LB := Lib.hid (LB.out.below z)
  clear z
  go_wp2_with fail
  refine (ret_of (load_any A8 n c8 l' (pkI D J k) _ LB.out HN2.out HS.out) (v' := .int .u64 0) (by rw [HPA.out])).mono ?_
  rintro _ w10 ⟨rfl, z⟩
  replace Z := Lib.hid (Z.out.trans (z.mono Z.out.size))
  replace BX := Lib.hid (BX.out.below z)
  replace L0 := Lib.hid (L0.out.below z)
  replace LB := Lib.hid (LB.out.below z)
  replace BG := Lib.hid (BG.out.after z)
  clear z
  go_wp2_with fail
  refine (Tells.of (lowest_any M _ (by have := HML.out; unfold U; omega)) (v' := .int .i64 LL) (by rw [HLL.out])).mono ?_
  rintro _ w11 ⟨rfl, z⟩
  replace Z := Lib.hid (Z.out.trans (z.mono Z.out.size))
  replace BX := Lib.hid (BX.out.below z)
  replace L0 := Lib.hid (L0.out.below z)
  replace LB := Lib.hid (LB.out.below z)
  replace BG := Lib.hid (BG.out.after z)
  clear z
  go_wp2_with fail
  refine (load_any A8 n c8 l' 2 _ LB.out HN2.out HS.out).mono ?_
  rintro _ w12 ⟨rfl, z⟩
  replace Z := Lib.hid (Z.out.trans (z.mono Z.out.size))
  replace BX := Lib.hid (BX.out.below z)
  replace L0 := Lib.hid (L0.out.below z)
  replace LB := Lib.hid (LB.out.below z)
  replace BG := Lib.hid (BG.out.after z)
  clear z
  go_wp2_with fail
  refine (Tells.of (epoch_any (at0 l' 2) _).tells (v' := .int .u64 P) (by rw [HP.out])).mono ?_
  rintro _ w13 ⟨rfl, z⟩
  replace Z := Lib.hid (Z.out.trans (z.mono Z.out.size))
  replace BX := Lib.hid (BX.out.below z)
  replace L0 := Lib.hid (L0.out.below z)
  replace LB := Lib.hid (LB.out.below z)
  replace BG := Lib.hid (BG.out.after z)
  clear z
  go_wp2_with fail
  refine (ret_of (load_any (some ⟨g5, 0, none⟩) n n m0 2 _ L0.out HN0.out HS.out) (v' := .int .u64 E) (by rw [HE.out])).mono ?_
  rintro _ w14 ⟨rfl, z⟩
  replace Z := Lib.hid (Z.out.trans (z.mono Z.out.size))
  replace BX := Lib.hid (BX.out.below z)
  replace L0 := Lib.hid (L0.out.below z)
  replace LB := Lib.hid (LB.out.below z)
  replace BG := Lib.hid (BG.out.after z)
  clear z
  go_wp2_with fail
  refine (Tells.of (epoch_any E _).tells (v' := .int .u64 Q) (by rw [HQ.out])).mono ?_
  rintro _ w15 ⟨rfl, z⟩
  replace Z := Lib.hid (Z.out.trans (z.mono Z.out.size))
  replace BX := Lib.hid (BX.out.below z)
  replace L0 := Lib.hid (L0.out.below z)
  replace LB := Lib.hid (LB.out.below z)
  replace BG := Lib.hid (BG.out.after z)
  clear z
  go_upto_region 14 with fail
  clear hd1 hd2 hd3 hw1 hw2 hw4 hd hw0 hpn hdv hdw hmd hmw hbb hlk
  have HK := Lib.hid (show ∀ x', Below w15.heap.size w15 x' → (fun w' => w'.cell? ⟨w.heap.size, 0, none⟩ = some (.int .i64 W) ∧ w'.cell? ⟨w.heap.size, 1, none⟩ = some (.int .i64 D) ∧ w'.cell? ⟨w.heap.size, 2, none⟩ = some (.int .i64 J) ∧ w'.cell? ⟨w.heap.size, 3, none⟩ = some (.int .i64 S) ∧ w'.cell? ⟨w8.heap.size, 0, none⟩ = some (.int .i64 f'.op) ∧ w'.cell? ⟨w8.heap.size, 1, none⟩ = some (.int .i64 f'.pc) ∧ w'.cell? ⟨w8.heap.size, 2, none⟩ = some (.int .i64 f'.who) ∧ w'.cell? ⟨w8.heap.size, 3, none⟩ = some (.int .u64 f'.val) ∧ w'.cell? ⟨w8.heap.size, 4, none⟩ = some (.int .u64 f'.x) ∧ w'.cell? ⟨w8.heap.size, 5, none⟩ = some (.int .u64 f'.y) ∧ w'.cell? ⟨w8.heap.size, 6, none⟩ = some (.int .i64 f'.res) ∧ Below w15.heap.size w15 w') x' from fun x' hx => by
    obtain ⟨_, e0, e1, e2, e3⟩ := BX.out.below hx
    obtain ⟨d0, d1, d2, d3, d4, d5, d6⟩ := (BG.out.after hx).cells
    exact ⟨e0, e1, e2, e3, d0, d1, d2, d3, d4, d5, d6, hx⟩)
  have hHeld0 := HK.out _ (Below.refl _ _)
  have ZC := Lib.hid (Below.refl w15.heap.size w15).drew
  refine wp_region_held_drew (S := fun w' => w'.cell? ⟨w.heap.size, 0, none⟩ = some (.int .i64 W) ∧ w'.cell? ⟨w.heap.size, 1, none⟩ = some (.int .i64 D) ∧ w'.cell? ⟨w.heap.size, 2, none⟩ = some (.int .i64 J) ∧ w'.cell? ⟨w.heap.size, 3, none⟩ = some (.int .i64 S) ∧ w'.cell? ⟨w8.heap.size, 0, none⟩ = some (.int .i64 f'.op) ∧ w'.cell? ⟨w8.heap.size, 1, none⟩ = some (.int .i64 f'.pc) ∧ w'.cell? ⟨w8.heap.size, 2, none⟩ = some (.int .i64 f'.who) ∧ w'.cell? ⟨w8.heap.size, 3, none⟩ = some (.int .u64 f'.val) ∧ w'.cell? ⟨w8.heap.size, 4, none⟩ = some (.int .u64 f'.x) ∧ w'.cell? ⟨w8.heap.size, 5, none⟩ = some (.int .u64 f'.y) ∧ w'.cell? ⟨w8.heap.size, 6, none⟩ = some (.int .i64 f'.res) ∧ Below w15.heap.size w15 w') (by kernel_rfl) (hd_drew HK.out (fun _ h => h.2.2.2.2.2.2.2.2.2.2.2) hHeld0) (fun hHeld => ?_)
  refine wpAnyH_take (i := 0) (oi := { dst := some 96, op := Go.Op.move (Go.Operand.tmp 17), type := 4, pos := "law.go:73", after := #[], guard := none }) (v := ?vzc1) rfl (by kernel_rfl) (by kernel_rfl) (by kernel_rfl) (fun _ _ _ h => h) (Or.inl ⟨by rfl, ?yzc1⟩) (by assumption) ?rzc1
  case yzc1 => (intro w hSw; (try dsimp only at hSw); go_simp; (try with_reducible rfl))
  (try simp only [Act.put, List.setIfInBounds_toArray, List.set_cons_zero, List.set_cons_succ])
  refine wpAnyH_take (i := 1) (oi := { dst := some 97, op := Go.Op.move (Go.Operand.tmp 96), type := 4, pos := "law.go:73", after := #[{ on := 0, ground := Go.Ground.data }], guard := none }) (v := ?vzc2) rfl (by kernel_rfl) (by kernel_rfl) (by kernel_rfl) (fun _ _ _ h => h) (Or.inl ⟨by rfl, ?yzc2⟩) (by assumption) ?rzc2
  case yzc2 => (intro w hSw; (try dsimp only at hSw); go_simp; (try with_reducible rfl))
  (try simp only [Act.put, List.setIfInBounds_toArray, List.set_cons_zero, List.set_cons_succ])
  refine wpAnyH_take (i := 2) (oi := { dst := some 98, op := Go.Op.move (Go.Operand.tmp 15), type := 4, pos := "law.go:73", after := #[{ on := 1, ground := Go.Ground.guard }], guard := some (1, true) }) (v := ?vzc3) rfl (by kernel_rfl) (by kernel_rfl) (by kernel_rfl) (fun _ _ _ h => h) (Or.inl ⟨by rfl, ?yzc3⟩) (by assumption) ?rzc3
  case yzc3 => (intro w hSw; (try dsimp only at hSw); go_simp; (try with_reducible rfl))
  (try simp only [Act.put, List.setIfInBounds_toArray, List.set_cons_zero, List.set_cons_succ])
  refine wpAnyH_take (i := 3) (oi := { dst := some 99, op := Go.Op.move (Go.Operand.tmp 16), type := 4, pos := "law.go:73", after := #[{ on := 1, ground := Go.Ground.guard }], guard := some (1, true) }) (v := ?vzc4) rfl (by kernel_rfl) (by kernel_rfl) (by kernel_rfl) (fun _ _ _ h => h) (Or.inl ⟨by rfl, ?yzc4⟩) (by assumption) ?rzc4
  case yzc4 => (intro w hSw; (try dsimp only at hSw); go_simp; (try with_reducible rfl))
  (try simp only [Act.put, List.setIfInBounds_toArray, List.set_cons_zero, List.set_cons_succ])
  refine wpAnyH_take (i := 4) (oi := { dst := some 100, op := Go.Op.binOp Go.BinOp.eql 4 (Go.Operand.tmp 98) (Go.Operand.tmp 99) 4, type := 4, pos := "law.go:73", after := #[{ on := 2, ground := Go.Ground.data }, { on := 3, ground := Go.Ground.data }, { on := 1, ground := Go.Ground.guard }], guard := some (1, true) }) (v := ?vzc5) rfl (by kernel_rfl) (by kernel_rfl) (by kernel_rfl) (fun _ _ _ h => h) (Or.inl ⟨by rfl, ?yzc5⟩) (by assumption) ?rzc5
  case yzc5 => (intro w hSw; (try dsimp only at hSw); go_simp; (try with_reducible rfl))
  (try simp only [Act.put, List.setIfInBounds_toArray, List.set_cons_zero, List.set_cons_succ])
  refine wpAnyH_take (i := 5) (oi := { dst := some 101, op := Go.Op.pick (Go.Operand.tmp 97) (Go.Operand.tmp 100) (Go.Operand.const (Go.Value.bool false)), type := 4, pos := "law.go:73", after := #[{ on := 1, ground := Go.Ground.data }, { on := 4, ground := Go.Ground.data }], guard := none }) (v := ?vzc6) rfl (by kernel_rfl) (by kernel_rfl) (by kernel_rfl) (fun _ _ _ h => h) (Or.inl ⟨by rfl, ?yzc6⟩) (by assumption) ?rzc6
  case yzc6 => (intro w hSw; (try dsimp only at hSw); go_simp; (try with_reducible rfl))
  (try simp only [Act.put, List.setIfInBounds_toArray, List.set_cons_zero, List.set_cons_succ])
  refine wpAnyH_take (i := 6) (oi := { dst := some 102, op := Go.Op.move (Go.Operand.tmp 101), type := 4, pos := "law.go:73", after := #[{ on := 5, ground := Go.Ground.data }, { on := 1, ground := Go.Ground.chain }], guard := none }) (v := ?vzc7) rfl (by kernel_rfl) (by kernel_rfl) (by kernel_rfl) (fun _ _ _ h => h) (Or.inl ⟨by rfl, ?yzc7⟩) (by assumption) ?rzc7
  case yzc7 => (intro w hSw; (try dsimp only at hSw); go_simp; (try with_reducible rfl))
  (try simp only [Act.put, List.setIfInBounds_toArray, List.set_cons_zero, List.set_cons_succ])
  refine wpAnyH_take (i := 7) (oi := { dst := some 103, op := Go.Op.fieldAddr 29 (Go.Operand.tmp 14) 6, type := 0, pos := "law.go:73", after := #[{ on := 6, ground := Go.Ground.guard }], guard := some (6, true) }) (v := ?vzc8) rfl (by kernel_rfl) (by kernel_rfl) (by kernel_rfl) (fun _ _ _ h => h) (Or.inl ⟨by rfl, ?yzc8⟩) (by assumption) ?rzc8
  case yzc8 => (intro w hSw; (try dsimp only at hSw); go_simp; (try with_reducible rfl))
  (try simp only [Act.put, List.setIfInBounds_toArray, List.set_cons_zero, List.set_cons_succ])
  refine wpAnyH_take (i := 8) (oi := { dst := some 104, op := Go.Op.load 3 (Go.Operand.tmp 103), type := 3, pos := "law.go:73", after := #[{ on := 7, ground := Go.Ground.data }, { on := 6, ground := Go.Ground.guard }], guard := some (6, true) }) (v := ?vzc9) rfl (by kernel_rfl) (by kernel_rfl) (by kernel_rfl) (fun _ _ _ h => h) (Or.inl ⟨by rfl, ?yzc9⟩) (by assumption) ?rzc9
  case yzc9 => (intro w hSw; (try dsimp only at hSw); go_simp; (try with_reducible rfl))
  (try simp only [Act.put, List.setIfInBounds_toArray, List.set_cons_zero, List.set_cons_succ])
  refine wpAnyH_take (i := 9) (oi := { dst := some 105, op := Go.Op.binOp Go.BinOp.eql 3 (Go.Operand.tmp 104) (Go.Operand.const (Go.Value.int Go.IntKind.i64 3)) 3, type := 4, pos := "law.go:73", after := #[{ on := 8, ground := Go.Ground.data }, { on := 6, ground := Go.Ground.guard }], guard := some (6, true) }) (v := ?vzc10) rfl (by kernel_rfl) (by kernel_rfl) (by kernel_rfl) (fun _ _ _ h => h) (Or.inl ⟨by rfl, ?yzc10⟩) (by assumption) ?rzc10
  case yzc10 => (intro w hSw; (try dsimp only at hSw); go_simp; (try with_reducible rfl))
  (try simp only [Act.put, List.setIfInBounds_toArray, List.set_cons_zero, List.set_cons_succ])
  refine wpAnyH_take (i := 10) (oi := { dst := some 106, op := Go.Op.move (Go.Operand.tmp 12), type := 27, pos := "law.go:73", after := #[{ on := 6, ground := Go.Ground.guard }], guard := some (6, true) }) (v := ?vzc11) rfl (by kernel_rfl) (by kernel_rfl) (by kernel_rfl) (fun _ _ _ h => h) (Or.inl ⟨by rfl, ?yzc11⟩) (by assumption) ?rzc11
  case yzc11 => (intro w hSw; (try dsimp only at hSw); go_simp; (try with_reducible rfl))
  (try simp only [Act.put, List.setIfInBounds_toArray, List.set_cons_zero, List.set_cons_succ])
  refine wpAnyH_take (i := 11) (oi := { dst := some 107, op := Go.Op.binOp Go.BinOp.eql 27 (Go.Operand.tmp 106) (Go.Operand.const (Go.Value.int Go.IntKind.u64 0)) 27, type := 4, pos := "law.go:73", after := #[{ on := 10, ground := Go.Ground.data }, { on := 6, ground := Go.Ground.guard }], guard := some (6, true) }) (v := ?vzc12) rfl (by kernel_rfl) (by kernel_rfl) (by kernel_rfl) (fun _ _ _ h => h) (Or.inl ⟨by rfl, ?yzc12⟩) (by assumption) ?rzc12
  case yzc12 => (intro w hSw; (try dsimp only at hSw); go_simp; (try with_reducible rfl))
  (try simp only [Act.put, List.setIfInBounds_toArray, List.set_cons_zero, List.set_cons_succ])
  refine wpAnyH_take (i := 12) (oi := { dst := some 108, op := Go.Op.binOp Go.BinOp.eql 4 (Go.Operand.tmp 105) (Go.Operand.tmp 107) 4, type := 4, pos := "law.go:73", after := #[{ on := 9, ground := Go.Ground.data }, { on := 11, ground := Go.Ground.data }, { on := 6, ground := Go.Ground.guard }], guard := some (6, true) }) (v := ?vzc13) rfl (by kernel_rfl) (by kernel_rfl) (by kernel_rfl) (fun _ _ _ h => h) (Or.inl ⟨by rfl, ?yzc13⟩) (by assumption) ?rzc13
  case yzc13 => (intro w hSw; (try dsimp only at hSw); go_simp; (try with_reducible rfl))
  (try simp only [Act.put, List.setIfInBounds_toArray, List.set_cons_zero, List.set_cons_succ])
  refine wpAnyH_take (i := 13) (oi := { dst := some 109, op := Go.Op.pick (Go.Operand.tmp 102) (Go.Operand.tmp 108) (Go.Operand.const (Go.Value.bool false)), type := 4, pos := "law.go:73", after := #[{ on := 6, ground := Go.Ground.data }, { on := 12, ground := Go.Ground.data }], guard := none }) (v := ?vzc14) rfl (by kernel_rfl) (by kernel_rfl) (by kernel_rfl) (fun _ _ _ h => h) (Or.inl ⟨by rfl, ?yzc14⟩) (by assumption) ?rzc14
  case yzc14 => (intro w hSw; (try dsimp only at hSw); go_simp; (try with_reducible rfl))
  (try simp only [Act.put, List.setIfInBounds_toArray, List.set_cons_zero, List.set_cons_succ])
  refine wpAnyH_take (i := 14) (oi := { dst := some 110, op := Go.Op.move (Go.Operand.tmp 109), type := 4, pos := "law.go:73", after := #[{ on := 13, ground := Go.Ground.data }, { on := 6, ground := Go.Ground.chain }], guard := none }) (v := ?vzc15) rfl (by kernel_rfl) (by kernel_rfl) (by kernel_rfl) (fun _ _ _ h => h) (Or.inl ⟨by rfl, ?yzc15⟩) (by assumption) ?rzc15
  case yzc15 => (intro w hSw; (try dsimp only at hSw); go_simp; (try with_reducible rfl))
  (try simp only [Act.put, List.setIfInBounds_toArray, List.set_cons_zero, List.set_cons_succ])
  refine wpAnyH_take (i := 15) (oi := { dst := some 111, op := Go.Op.load 29 (Go.Operand.tmp 14), type := 29, pos := "law.go:73", after := #[{ on := 14, ground := Go.Ground.guard }], guard := some (14, true) }) (v := ?vzc16) rfl (by kernel_rfl) (by kernel_rfl) (by kernel_rfl) (fun _ _ _ h => h) (Or.inl ⟨by rfl, ?yzc16⟩) (by assumption) ?rzc16
  case yzc16 => (intro w hSw; (try dsimp only at hSw); go_simp; (try with_reducible rfl))
  (try simp only [Act.put, List.setIfInBounds_toArray, List.set_cons_zero, List.set_cons_succ])
  refine wpAnyH_ready (rs := [16]) (by kernel_rfl) (by simp) ?_
  refine (AllReadyH.cons (o := { dst := some 112, op := Go.Op.call { callee := Go.Callee.value (Go.Operand.func 18), args := #[Go.Operand.tmp 111], argTypes := #[29] }, type := 4, pos := "law.go:73", after := #[{ on := 15, ground := Go.Ground.data }, { on := 14, ground := Go.Ground.chain }, { on := 14, ground := Go.Ground.guard }], guard := some (14, true) }) rfl (fun K hK => ?_) AllReadyH.nil)
  go_simp
  refine (Tells.of (over_any f' _) (v' := .bool true) (by rw [HOV.out])).mono ?_
  rintro e wz ⟨rfl, zb⟩
  go_wp2_with fail
  replace ZC := Lib.hid (keep_call (w2 := w15) zb ZC.out)
  clear zb
  refine hK.out _ _ (HK.out _ ZC.out) (fun hHeld2 => ?_)
  clear hK K hHeld
  have hHeld := hHeld2
  clear hHeld2
  (try simp only [Act.put, List.setIfInBounds_toArray, List.set_cons_zero, List.set_cons_succ])
  refine wpAnyH_take (i := 17) (oi := { dst := some 113, op := Go.Op.pick (Go.Operand.tmp 110) (Go.Operand.tmp 112) (Go.Operand.const (Go.Value.bool false)), type := 4, pos := "law.go:73", after := #[{ on := 14, ground := Go.Ground.data }, { on := 16, ground := Go.Ground.data }], guard := none }) (v := ?vzc17) rfl (by kernel_rfl) (by kernel_rfl) (by kernel_rfl) (fun _ _ _ h => h) (Or.inl ⟨by rfl, ?yzc17⟩) (by assumption) ?rzc17
  case yzc17 => (intro w hSw; (try dsimp only at hSw); go_simp; (try with_reducible rfl))
  (try simp only [Act.put, List.setIfInBounds_toArray, List.set_cons_zero, List.set_cons_succ])
  refine wpAnyH_take (i := 18) (oi := { dst := some 114, op := Go.Op.move (Go.Operand.tmp 113), type := 4, pos := "law.go:73", after := #[{ on := 17, ground := Go.Ground.data }, { on := 16, ground := Go.Ground.chain }], guard := none }) (v := ?vzc18) rfl (by kernel_rfl) (by kernel_rfl) (by kernel_rfl) (fun _ _ _ h => h) (Or.inl ⟨by rfl, ?yzc18⟩) (by assumption) ?rzc18
  case yzc18 => (intro w hSw; (try dsimp only at hSw); go_simp; (try with_reducible rfl))
  (try simp only [Act.put, List.setIfInBounds_toArray, List.set_cons_zero, List.set_cons_succ])
  refine wpAnyH_take (i := 19) (oi := { dst := some 115, op := Go.Op.move (Go.Operand.tmp 16), type := 4, pos := "law.go:73", after := #[{ on := 18, ground := Go.Ground.guard }], guard := some (18, true) }) (v := ?vzc19) rfl (by kernel_rfl) (by kernel_rfl) (by kernel_rfl) (fun _ _ _ h => h) (Or.inl ⟨by rfl, ?yzc19⟩) (by assumption) ?rzc19
  case yzc19 => (intro w hSw; (try dsimp only at hSw); go_simp; (try with_reducible rfl))
  (try simp only [Act.put, List.setIfInBounds_toArray, List.set_cons_zero, List.set_cons_succ])
  refine wpAnyH_take (i := 20) (oi := { dst := some 116, op := Go.Op.unOp Go.UnOp.not 4 (Go.Operand.tmp 115), type := 4, pos := "law.go:73", after := #[{ on := 19, ground := Go.Ground.data }, { on := 18, ground := Go.Ground.guard }], guard := some (18, true) }) (v := ?vzc20) rfl (by kernel_rfl) (by kernel_rfl) (by kernel_rfl) (fun _ _ _ h => h) (Or.inl ⟨by rfl, ?yzc20⟩) (by assumption) ?rzc20
  case yzc20 => (intro w hSw; (try dsimp only at hSw); go_simp; (try with_reducible rfl))
  (try simp only [Act.put, List.setIfInBounds_toArray, List.set_cons_zero, List.set_cons_succ])
  refine wpAnyH_take (i := 21) (oi := { dst := some 117, op := Go.Op.move (Go.Operand.tmp 116), type := 4, pos := "law.go:73", after := #[{ on := 20, ground := Go.Ground.data }, { on := 18, ground := Go.Ground.chain }, { on := 18, ground := Go.Ground.guard }], guard := some (18, true) }) (v := ?vzc21) rfl (by kernel_rfl) (by kernel_rfl) (by kernel_rfl) (fun _ _ _ h => h) (Or.inl ⟨by rfl, ?yzc21⟩) (by assumption) ?rzc21
  case yzc21 => (intro w hSw; (try dsimp only at hSw); go_simp; (try with_reducible rfl))
  (try simp only [Act.put, List.setIfInBounds_toArray, List.set_cons_zero, List.set_cons_succ])
  refine wpAnyH_take (i := 22) (oi := { dst := some 118, op := Go.Op.load 23 (Go.Operand.tmp 4), type := 23, pos := "law.go:73", after := #[{ on := 21, ground := Go.Ground.guard }], guard := some (21, false) }) (v := undef) rfl (by kernel_rfl) (by kernel_rfl) (by kernel_rfl) (fun _ _ _ h => h) (Or.inr ⟨by rfl, rfl⟩) (by assumption) ?_
  (try simp only [Act.put, List.setIfInBounds_toArray, List.set_cons_zero, List.set_cons_succ])
  refine wpAnyH_take (i := 23) (oi := { dst := some 119, op := Go.Op.move (Go.Operand.tmp 13), type := 25, pos := "law.go:73", after := #[{ on := 21, ground := Go.Ground.guard }], guard := some (21, false) }) (v := undef) rfl (by kernel_rfl) (by kernel_rfl) (by kernel_rfl) (fun _ _ _ h => h) (Or.inr ⟨by rfl, rfl⟩) (by assumption) ?_
  (try simp only [Act.put, List.setIfInBounds_toArray, List.set_cons_zero, List.set_cons_succ])
  refine wpAnyH_take (i := 24) (oi := { dst := some 120, op := Go.Op.move (Go.Operand.tmp 3), type := 3, pos := "law.go:73", after := #[{ on := 21, ground := Go.Ground.guard }], guard := some (21, false) }) (v := undef) rfl (by kernel_rfl) (by kernel_rfl) (by kernel_rfl) (fun _ _ _ h => h) (Or.inr ⟨by rfl, rfl⟩) (by assumption) ?_
  (try simp only [Act.put, List.setIfInBounds_toArray, List.set_cons_zero, List.set_cons_succ])
  refine wpAnyH_take (i := 25) (oi := { dst := some 121, op := Go.Op.call { callee := Go.Callee.value (Go.Operand.func 19), args := #[Go.Operand.tmp 118, Go.Operand.tmp 119, Go.Operand.tmp 120], argTypes := #[23, 25, 3] }, type := 4, pos := "law.go:73", after := #[{ on := 22, ground := Go.Ground.data }, { on := 23, ground := Go.Ground.data }, { on := 24, ground := Go.Ground.data }, { on := 21, ground := Go.Ground.chain }, { on := 21, ground := Go.Ground.guard }], guard := some (21, false) }) (v := undef) rfl (by kernel_rfl) (by kernel_rfl) (by kernel_rfl) (fun _ _ _ h => h) (Or.inr ⟨by rfl, rfl⟩) (by assumption) ?_
  (try simp only [Act.put, List.setIfInBounds_toArray, List.set_cons_zero, List.set_cons_succ])
  refine wpAnyH_take (i := 26) (oi := { dst := some 122, op := Go.Op.unOp Go.UnOp.not 4 (Go.Operand.tmp 121), type := 4, pos := "law.go:73", after := #[{ on := 25, ground := Go.Ground.data }, { on := 21, ground := Go.Ground.guard }], guard := some (21, false) }) (v := undef) rfl (by kernel_rfl) (by kernel_rfl) (by kernel_rfl) (fun _ _ _ h => h) (Or.inr ⟨by rfl, rfl⟩) (by assumption) ?_
  (try simp only [Act.put, List.setIfInBounds_toArray, List.set_cons_zero, List.set_cons_succ])
  refine wpAnyH_take (i := 27) (oi := { dst := some 123, op := Go.Op.pick (Go.Operand.tmp 117) (Go.Operand.const (Go.Value.bool true)) (Go.Operand.tmp 122), type := 4, pos := "law.go:73", after := #[{ on := 21, ground := Go.Ground.data }, { on := 26, ground := Go.Ground.data }, { on := 18, ground := Go.Ground.guard }], guard := some (18, true) }) (v := ?vzc22) rfl (by kernel_rfl) (by kernel_rfl) (by kernel_rfl) (fun _ _ _ h => h) (Or.inl ⟨by rfl, ?yzc22⟩) (by assumption) ?rzc22
  case yzc22 => (intro w hSw; (try dsimp only at hSw); go_simp; (try with_reducible rfl))
  (try simp only [Act.put, List.setIfInBounds_toArray, List.set_cons_zero, List.set_cons_succ])
  refine wpAnyH_take (i := 28) (oi := { dst := some 124, op := Go.Op.pick (Go.Operand.tmp 114) (Go.Operand.tmp 123) (Go.Operand.const (Go.Value.bool false)), type := 4, pos := "law.go:73", after := #[{ on := 18, ground := Go.Ground.data }, { on := 27, ground := Go.Ground.data }], guard := none }) (v := ?vzc23) rfl (by kernel_rfl) (by kernel_rfl) (by kernel_rfl) (fun _ _ _ h => h) (Or.inl ⟨by rfl, ?yzc23⟩) (by assumption) ?rzc23
  case yzc23 => (intro w hSw; (try dsimp only at hSw); go_simp; (try with_reducible rfl))
  (try simp only [Act.put, List.setIfInBounds_toArray, List.set_cons_zero, List.set_cons_succ])
  refine wpAnyH_take (i := 29) (oi := { dst := some 125, op := Go.Op.move (Go.Operand.tmp 124), type := 4, pos := "law.go:73", after := #[{ on := 28, ground := Go.Ground.data }, { on := 25, ground := Go.Ground.chain }], guard := none }) (v := ?vzc24) rfl (by kernel_rfl) (by kernel_rfl) (by kernel_rfl) (fun _ _ _ h => h) (Or.inl ⟨by rfl, ?yzc24⟩) (by assumption) ?rzc24
  case yzc24 => (intro w hSw; (try dsimp only at hSw); go_simp; (try with_reducible rfl))
  (try simp only [Act.put, List.setIfInBounds_toArray, List.set_cons_zero, List.set_cons_succ])
  refine wpAnyH_take (i := 30) (oi := { dst := some 126, op := Go.Op.move (Go.Operand.tmp 2), type := 4, pos := "law.go:73", after := #[{ on := 29, ground := Go.Ground.guard }], guard := some (29, true) }) (v := ?vzc25) rfl (by kernel_rfl) (by kernel_rfl) (by kernel_rfl) (fun _ _ _ h => h) (Or.inl ⟨by rfl, ?yzc25⟩) (by assumption) ?rzc25
  case yzc25 => (intro w hSw; (try dsimp only at hSw); go_simp; (try with_reducible rfl))
  (try simp only [Act.put, List.setIfInBounds_toArray, List.set_cons_zero, List.set_cons_succ])
  refine wpAnyH_take (i := 31) (oi := { dst := some 127, op := Go.Op.move (Go.Operand.tmp 126), type := 4, pos := "law.go:73", after := #[{ on := 30, ground := Go.Ground.data }, { on := 29, ground := Go.Ground.chain }, { on := 29, ground := Go.Ground.guard }], guard := some (29, true) }) (v := ?vzc26) rfl (by kernel_rfl) (by kernel_rfl) (by kernel_rfl) (fun _ _ _ h => h) (Or.inl ⟨by rfl, ?yzc26⟩) (by assumption) ?rzc26
  case yzc26 => (intro w hSw; (try dsimp only at hSw); go_simp; (try with_reducible rfl))
  (try simp only [Act.put, List.setIfInBounds_toArray, List.set_cons_zero, List.set_cons_succ])
  refine wpAnyH_take (i := 32) (oi := { dst := some 128, op := Go.Op.move (Go.Operand.tmp 16), type := 4, pos := "law.go:73", after := #[{ on := 31, ground := Go.Ground.guard }], guard := some (31, false) }) (v := ?vzc27) rfl (by kernel_rfl) (by kernel_rfl) (by kernel_rfl) (fun _ _ _ h => h) (Or.inl ⟨by rfl, ?yzc27⟩) (by assumption) ?rzc27
  case yzc27 => (intro w hSw; (try dsimp only at hSw); go_simp; (try with_reducible rfl))
  (try simp only [Act.put, List.setIfInBounds_toArray, List.set_cons_zero, List.set_cons_succ])
  refine wpAnyH_take (i := 33) (oi := { dst := some 129, op := Go.Op.pick (Go.Operand.tmp 127) (Go.Operand.const (Go.Value.bool true)) (Go.Operand.tmp 128), type := 4, pos := "law.go:73", after := #[{ on := 31, ground := Go.Ground.data }, { on := 32, ground := Go.Ground.data }, { on := 29, ground := Go.Ground.guard }], guard := some (29, true) }) (v := ?vzc28) rfl (by kernel_rfl) (by kernel_rfl) (by kernel_rfl) (fun _ _ _ h => h) (Or.inl ⟨by rfl, ?yzc28⟩) (by assumption) ?rzc28
  case yzc28 => (intro w hSw; (try dsimp only at hSw); go_simp; (try with_reducible rfl))
  (try simp only [Act.put, List.setIfInBounds_toArray, List.set_cons_zero, List.set_cons_succ])
  refine wpAnyH_take (i := 34) (oi := { dst := some 130, op := Go.Op.move (Go.Operand.tmp 129), type := 4, pos := "law.go:73", after := #[{ on := 33, ground := Go.Ground.data }, { on := 31, ground := Go.Ground.chain }, { on := 29, ground := Go.Ground.guard }], guard := some (29, true) }) (v := ?vzc29) rfl (by kernel_rfl) (by kernel_rfl) (by kernel_rfl) (fun _ _ _ h => h) (Or.inl ⟨by rfl, ?yzc29⟩) (by assumption) ?rzc29
  case yzc29 => (intro w hSw; (try dsimp only at hSw); go_simp; (try with_reducible rfl))
  (try simp only [Act.put, List.setIfInBounds_toArray, List.set_cons_zero, List.set_cons_succ])
  refine wpAnyH_take (i := 35) (oi := { dst := some 131, op := Go.Op.load 23 (Go.Operand.tmp 4), type := 23, pos := "law.go:73", after := #[{ on := 34, ground := Go.Ground.guard }], guard := some (34, false) }) (v := ?vzc30) rfl (by kernel_rfl) (by kernel_rfl) (by kernel_rfl) (fun _ _ _ h => h) (Or.inl ⟨by rfl, ?yzc30⟩) (by assumption) ?rzc30
  case yzc30 => (intro w hSw; (try dsimp only at hSw); go_simp; (try with_reducible rfl))
  (try simp only [Act.put, List.setIfInBounds_toArray, List.set_cons_zero, List.set_cons_succ])
  refine wpAnyH_take (i := 36) (oi := { dst := some 132, op := Go.Op.move (Go.Operand.tmp 13), type := 25, pos := "law.go:73", after := #[{ on := 34, ground := Go.Ground.guard }], guard := some (34, false) }) (v := ?vzc31) rfl (by kernel_rfl) (by kernel_rfl) (by kernel_rfl) (fun _ _ _ h => h) (Or.inl ⟨by rfl, ?yzc31⟩) (by assumption) ?rzc31
  case yzc31 => (intro w hSw; (try dsimp only at hSw); go_simp; (try with_reducible rfl))
  (try simp only [Act.put, List.setIfInBounds_toArray, List.set_cons_zero, List.set_cons_succ])
  refine wpAnyH_take (i := 37) (oi := { dst := some 133, op := Go.Op.move (Go.Operand.tmp 3), type := 3, pos := "law.go:73", after := #[{ on := 34, ground := Go.Ground.guard }], guard := some (34, false) }) (v := ?vzc32) rfl (by kernel_rfl) (by kernel_rfl) (by kernel_rfl) (fun _ _ _ h => h) (Or.inl ⟨by rfl, ?yzc32⟩) (by assumption) ?rzc32
  case yzc32 => (intro w hSw; (try dsimp only at hSw); go_simp; (try with_reducible rfl))
  (try simp only [Act.put, List.setIfInBounds_toArray, List.set_cons_zero, List.set_cons_succ])
  refine wpAnyH_take (i := 39) (oi := { dst := some 135, op := Go.Op.load 23 (Go.Operand.tmp 4), type := 23, pos := "law.go:73", after := #[{ on := 34, ground := Go.Ground.guard }], guard := some (34, false) }) (v := ?vzc33) rfl (by kernel_rfl) (by kernel_rfl) (by kernel_rfl) (fun _ _ _ h => h) (Or.inl ⟨by rfl, ?yzc33⟩) (by assumption) ?rzc33
  case yzc33 => (intro w hSw; (try dsimp only at hSw); go_simp; (try with_reducible rfl))
  (try simp only [Act.put, List.setIfInBounds_toArray, List.set_cons_zero, List.set_cons_succ])
  refine wpAnyH_take (i := 40) (oi := { dst := some 136, op := Go.Op.move (Go.Operand.tmp 1), type := 25, pos := "law.go:73", after := #[{ on := 34, ground := Go.Ground.guard }], guard := some (34, false) }) (v := ?vzc34) rfl (by kernel_rfl) (by kernel_rfl) (by kernel_rfl) (fun _ _ _ h => h) (Or.inl ⟨by rfl, ?yzc34⟩) (by assumption) ?rzc34
  case yzc34 => (intro w hSw; (try dsimp only at hSw); go_simp; (try with_reducible rfl))
  (try simp only [Act.put, List.setIfInBounds_toArray, List.set_cons_zero, List.set_cons_succ])
  refine wpAnyH_take (i := 41) (oi := { dst := some 137, op := Go.Op.move (Go.Operand.tmp 3), type := 3, pos := "law.go:73", after := #[{ on := 34, ground := Go.Ground.guard }], guard := some (34, false) }) (v := ?vzc35) rfl (by kernel_rfl) (by kernel_rfl) (by kernel_rfl) (fun _ _ _ h => h) (Or.inl ⟨by rfl, ?yzc35⟩) (by assumption) ?rzc35
  case yzc35 => (intro w hSw; (try dsimp only at hSw); go_simp; (try with_reducible rfl))
  (try simp only [Act.put, List.setIfInBounds_toArray, List.set_cons_zero, List.set_cons_succ])
  refine wpAnyH_ready (rs := [38]) (by kernel_rfl) (by simp) ?_
  refine (AllReadyH.cons (o := { dst := some 134, op := Go.Op.call { callee := Go.Callee.value (Go.Operand.func 19), args := #[Go.Operand.tmp 131, Go.Operand.tmp 132, Go.Operand.tmp 133], argTypes := #[23, 25, 3] }, type := 4, pos := "law.go:73", after := #[{ on := 35, ground := Go.Ground.data }, { on := 36, ground := Go.Ground.data }, { on := 37, ground := Go.Ground.data }, { on := 34, ground := Go.Ground.chain }, { on := 34, ground := Go.Ground.guard }], guard := some (34, false) }) rfl (fun K hK => ?_) AllReadyH.nil)
  go_simp
  refine (Tells.of (waits_any W D J S k A8 n c8 l' _ (LB.out.below ZC.out) HN2.out HS.out HUL.out.1) (v' := .bool true) (by rw [HWN.out])).mono ?_
  rintro e wz ⟨rfl, zb⟩
  go_wp2_with fail
  replace ZC := Lib.hid (keep_call (w2 := w15) zb ZC.out)
  clear zb
  refine hK.out _ _ (HK.out _ ZC.out) (fun hHeld2 => ?_)
  clear hK K hHeld
  have hHeld := hHeld2
  clear hHeld2
  (try simp only [Act.put, List.setIfInBounds_toArray, List.set_cons_zero, List.set_cons_succ])
  refine wpAnyH_ready (rs := [42]) (by kernel_rfl) (by simp) ?_
  refine (AllReadyH.cons (o := { dst := some 138, op := Go.Op.call { callee := Go.Callee.value (Go.Operand.func 19), args := #[Go.Operand.tmp 135, Go.Operand.tmp 136, Go.Operand.tmp 137], argTypes := #[23, 25, 3] }, type := 4, pos := "law.go:73", after := #[{ on := 39, ground := Go.Ground.data }, { on := 40, ground := Go.Ground.data }, { on := 41, ground := Go.Ground.data }, { on := 38, ground := Go.Ground.chain }, { on := 34, ground := Go.Ground.guard }], guard := some (34, false) }) rfl (fun K hK => ?_) AllReadyH.nil)
  go_simp
  refine (Tells.of (waits_any W D J S k (some ⟨g5, 0, none⟩) n n m0 _ (L0.out.below ZC.out) HN0.out HS.out HUM0.out) (v' := .bool true) (by rw [HWM.out])).mono ?_
  rintro e wz ⟨rfl, zb⟩
  go_wp2_with fail
  replace ZC := Lib.hid (keep_call (w2 := w15) zb ZC.out)
  clear zb
  refine hK.out _ _ (HK.out _ ZC.out) (fun hHeld2 => ?_)
  clear hK K hHeld
  have hHeld := hHeld2
  clear hHeld2
  (try simp only [Act.put, List.setIfInBounds_toArray, List.set_cons_zero, List.set_cons_succ])
  refine wpAnyH_take (i := 43) (oi := { dst := some 139, op := Go.Op.binOp Go.BinOp.eql 4 (Go.Operand.tmp 134) (Go.Operand.tmp 138) 4, type := 4, pos := "law.go:73", after := #[{ on := 38, ground := Go.Ground.data }, { on := 42, ground := Go.Ground.data }, { on := 34, ground := Go.Ground.guard }], guard := some (34, false) }) (v := ?vzc36) rfl (by kernel_rfl) (by kernel_rfl) (by kernel_rfl) (fun _ _ _ h => h) (Or.inl ⟨by rfl, ?yzc36⟩) (by assumption) ?rzc36
  case yzc36 => (intro w hSw; (try dsimp only at hSw); go_simp; (try with_reducible rfl))
  (try simp only [Act.put, List.setIfInBounds_toArray, List.set_cons_zero, List.set_cons_succ])
  refine wpAnyH_take (i := 44) (oi := { dst := some 140, op := Go.Op.pick (Go.Operand.tmp 130) (Go.Operand.const (Go.Value.bool true)) (Go.Operand.tmp 139), type := 4, pos := "law.go:73", after := #[{ on := 34, ground := Go.Ground.data }, { on := 43, ground := Go.Ground.data }, { on := 29, ground := Go.Ground.guard }], guard := some (29, true) }) (v := ?vzc37) rfl (by kernel_rfl) (by kernel_rfl) (by kernel_rfl) (fun _ _ _ h => h) (Or.inl ⟨by rfl, ?yzc37⟩) (by assumption) ?rzc37
  case yzc37 => (intro w hSw; (try dsimp only at hSw); go_simp; (try with_reducible rfl))
  (try simp only [Act.put, List.setIfInBounds_toArray, List.set_cons_zero, List.set_cons_succ])
  refine wpAnyH_take (i := 45) (oi := { dst := some 141, op := Go.Op.pick (Go.Operand.tmp 125) (Go.Operand.tmp 140) (Go.Operand.const (Go.Value.bool false)), type := 4, pos := "law.go:73", after := #[{ on := 29, ground := Go.Ground.data }, { on := 44, ground := Go.Ground.data }], guard := none }) (v := ?vzc38) rfl (by kernel_rfl) (by kernel_rfl) (by kernel_rfl) (fun _ _ _ h => h) (Or.inl ⟨by rfl, ?yzc38⟩) (by assumption) ?rzc38
  case yzc38 => (intro w hSw; (try dsimp only at hSw); go_simp; (try with_reducible rfl))
  (try simp only [Act.put, List.setIfInBounds_toArray, List.set_cons_zero, List.set_cons_succ])
  refine wpAnyH_take (i := 46) (oi := { dst := some 8, op := Go.Op.assign (Go.Operand.tmp 141), type := 4, pos := "law.go:73", after := #[{ on := 45, ground := Go.Ground.data }, { on := 42, ground := Go.Ground.chain }, { on := 0, ground := Go.Ground.phase }, { on := 1, ground := Go.Ground.phase }, { on := 2, ground := Go.Ground.phase }, { on := 3, ground := Go.Ground.phase }, { on := 4, ground := Go.Ground.phase }, { on := 5, ground := Go.Ground.phase }, { on := 6, ground := Go.Ground.phase }, { on := 7, ground := Go.Ground.phase }, { on := 8, ground := Go.Ground.phase }, { on := 9, ground := Go.Ground.phase }, { on := 10, ground := Go.Ground.phase }, { on := 11, ground := Go.Ground.phase }, { on := 12, ground := Go.Ground.phase }, { on := 13, ground := Go.Ground.phase }, { on := 14, ground := Go.Ground.phase }, { on := 15, ground := Go.Ground.phase }, { on := 16, ground := Go.Ground.phase }, { on := 17, ground := Go.Ground.phase }, { on := 18, ground := Go.Ground.phase }, { on := 19, ground := Go.Ground.phase }, { on := 20, ground := Go.Ground.phase }, { on := 21, ground := Go.Ground.phase }, { on := 22, ground := Go.Ground.phase }, { on := 23, ground := Go.Ground.phase }, { on := 24, ground := Go.Ground.phase }, { on := 25, ground := Go.Ground.phase }, { on := 26, ground := Go.Ground.phase }, { on := 27, ground := Go.Ground.phase }, { on := 28, ground := Go.Ground.phase }, { on := 29, ground := Go.Ground.phase }, { on := 30, ground := Go.Ground.phase }, { on := 31, ground := Go.Ground.phase }, { on := 32, ground := Go.Ground.phase }, { on := 33, ground := Go.Ground.phase }, { on := 34, ground := Go.Ground.phase }, { on := 35, ground := Go.Ground.phase }, { on := 36, ground := Go.Ground.phase }, { on := 37, ground := Go.Ground.phase }, { on := 38, ground := Go.Ground.phase }, { on := 39, ground := Go.Ground.phase }, { on := 40, ground := Go.Ground.phase }, { on := 41, ground := Go.Ground.phase }, { on := 42, ground := Go.Ground.phase }, { on := 43, ground := Go.Ground.phase }, { on := 44, ground := Go.Ground.phase }, { on := 45, ground := Go.Ground.phase }], guard := none }) (v := ?vzc39) rfl (by kernel_rfl) (by kernel_rfl) (by kernel_rfl) (fun _ _ _ h => h) (Or.inl ⟨by rfl, ?yzc39⟩) (by assumption) ?rzc39
  case yzc39 => (intro w hSw; (try dsimp only at hSw); go_simp; (try with_reducible rfl))
  (try simp only [Act.put, List.setIfInBounds_toArray, List.set_cons_zero, List.set_cons_succ])
  refine wpAnyH_done (by kernel_rfl) ?_ _
  go_wp2
  go_ret
  exact ⟨rfl, Z.out.trans (ZC.out.mono Z.out.size)⟩
theorem one_main6 (W D J S k : Int) (A : Option Addr) (n c : Nat) (m : List Int) (w : World) (hm : Rd w A m) (hn : m.length = n) (hs : n ≤ 500) (hu : UM m) (hk : okw W D J S m k = true) : Tells 3 #[cf W D J S, .slice A n c, .bool false, .int .i64 k] w (.bool true) := by
  obtain ⟨k, rfl⟩ := Int.eq_ofNat_of_zero_le (okw_who hk).1
  by_cases hb : at0 m 2 / 2 ^ k % 2 = 1
  · by_cases hl : lw (at0 m 2) = k
    · exact one_6yy W D J S k A n c m w hm hn hs hu hk hb hl
    · exact one_6yn W D J S k A n c m w hm hn hs hu hk hb hl
  · exact one_6n W D J S k A n c m w hm hn hs hu hk hb
theorem one_big7 (W D J S k : Int) (A : Option Addr) (n c : Nat) (m : List Int) (w : World) (hm : Rd w A m) (hn : m.length = n) (hs : 500 < n) : Tells 3 #[cf W D J S, .slice A n c, .bool true, .int .i64 k] w (.bool true) := by
  have LM0 := Lib.hid hm
  have HN := Lib.hid hn
  clear hm hn
  have hd : decide ((500 : Int) < (n : Int)) = true := decide_eq_true (by omega)
  go_enter Try.func3, Try.ntmps3
  go_wp2_with fail
  refine (awake_any _).mono ?_
  rintro _ w1 ⟨rfl, z⟩
  have BX := Lib.hid ((Bx.mk w W D J S 23).below z)
  replace z := (box_below w _).trans (z.mono (by simp))
  have Z := Lib.hid z
  have LM := Lib.hid (LM0.out.below z)
  clear z LM0
  obtain ⟨gx, x_0, x_1, x_2, x_3⟩ := BX.out
  go_wp2_with fail
  refine (begin_any 7 0 0 _).mono ?_
  rintro _ w2 ⟨rfl, z⟩
  clear gx x_0 x_1 x_2 x_3
  replace Z := Lib.hid (Z.out.trans (z.mono Z.out.size))
  replace BX := Lib.hid (BX.out.below z)
  replace LM := Lib.hid (LM.out.below z)
  clear z
  go_wp2
  go_ret
  exact ⟨rfl, Z.out.alloc Z.out.size _⟩
theorem one_no7 (W D J S k : Int) (A : Option Addr) (n c : Nat) (m : List Int) (w : World) (hm : Rd w A m) (hn : m.length = n) (hs : n ≤ 500) (ho : okm W D J S m = false) : Tells 3 #[cf W D J S, .slice A n c, .bool true, .int .i64 k] w (.bool true) := by
  have LM0 := Lib.hid hm
  have HN := Lib.hid hn
  clear hm hn
  have hd : decide ((500 : Int) < (n : Int)) = false := decide_eq_false (by omega)
  have HO := Lib.hid ho
  clear ho
  go_enter Try.func3, Try.ntmps3
  go_wp2_with fail
  refine (awake_any _).mono ?_
  rintro _ w1 ⟨rfl, z⟩
  have BX := Lib.hid ((Bx.mk w W D J S 23).below z)
  replace z := (box_below w _).trans (z.mono (by simp))
  have Z := Lib.hid z
  have LM := Lib.hid (LM0.out.below z)
  clear z LM0
  obtain ⟨gx, x_0, x_1, x_2, x_3⟩ := BX.out
  go_wp2_with fail
  refine (begin_any 7 0 0 _).mono ?_
  rintro _ w2 ⟨rfl, z⟩
  clear gx x_0 x_1 x_2 x_3
  replace Z := Lib.hid (Z.out.trans (z.mono Z.out.size))
  replace BX := Lib.hid (BX.out.below z)
  replace LM := Lib.hid (LM.out.below z)
  clear z
  obtain ⟨gx, x_0, x_1, x_2, x_3⟩ := BX.out
  go_wp2_with fail
  refine (Tells.of (ngoes_any W D J S A n c m (fbg 7 0 0) _ HN.out) (v' := .bool false) (by rw [goesN_begun (by simp), HO.out])).mono ?_
  rintro _ w3 ⟨rfl, z⟩
  clear gx x_0 x_1 x_2 x_3
  have BF := Lib.hid ((Bf.new w2 (fbg 7 0 0)).after z)
  replace z := keep_call z (bel_alloc w2 _)
  replace Z := Lib.hid (Z.out.trans (z.mono Z.out.size))
  replace BX := Lib.hid (BX.out.below z)
  replace LM := Lib.hid (LM.out.below z)
  clear z
  obtain ⟨gx, x_0, x_1, x_2, x_3⟩ := BX.out
  go_wp2
  go_ret
  exact ⟨rfl, Z.out⟩
theorem one_neg7 (W D J S k : Int) (A : Option Addr) (n c : Nat) (m : List Int) (w : World) (hm : Rd w A m) (hn : m.length = n) (hs : n ≤ 500) (ho : okm W D J S m = true) (hk : k < 0) : Tells 3 #[cf W D J S, .slice A n c, .bool true, .int .i64 k] w (.bool true) := by
  have LM0 := Lib.hid hm
  have HN := Lib.hid hn
  clear hm hn
  have hd : decide ((500 : Int) < (n : Int)) = false := decide_eq_false (by omega)
  have HO := Lib.hid ho
  clear ho
  have hd1 : decide (k < 0) = true := decide_eq_true hk
  clear hk
  go_enter Try.func3, Try.ntmps3
  go_wp2_with fail
  refine (awake_any _).mono ?_
  rintro _ w1 ⟨rfl, z⟩
  have BX := Lib.hid ((Bx.mk w W D J S 23).below z)
  replace z := (box_below w _).trans (z.mono (by simp))
  have Z := Lib.hid z
  have LM := Lib.hid (LM0.out.below z)
  clear z LM0
  obtain ⟨gx, x_0, x_1, x_2, x_3⟩ := BX.out
  go_wp2_with fail
  refine (begin_any 7 0 0 _).mono ?_
  rintro _ w2 ⟨rfl, z⟩
  clear gx x_0 x_1 x_2 x_3
  replace Z := Lib.hid (Z.out.trans (z.mono Z.out.size))
  replace BX := Lib.hid (BX.out.below z)
  replace LM := Lib.hid (LM.out.below z)
  clear z
  obtain ⟨gx, x_0, x_1, x_2, x_3⟩ := BX.out
  go_wp2_with fail
  refine (Tells.of (ngoes_any W D J S A n c m (fbg 7 0 0) _ HN.out) (v' := .bool true) (by rw [goesN_begun (by simp), HO.out])).mono ?_
  rintro _ w3 ⟨rfl, z⟩
  clear gx x_0 x_1 x_2 x_3
  have BF := Lib.hid ((Bf.new w2 (fbg 7 0 0)).after z)
  replace z := keep_call z (bel_alloc w2 _)
  replace Z := Lib.hid (Z.out.trans (z.mono Z.out.size))
  replace BX := Lib.hid (BX.out.below z)
  replace LM := Lib.hid (LM.out.below z)
  clear z
  obtain ⟨gx, x_0, x_1, x_2, x_3⟩ := BX.out
  go_wp2
  go_ret
  exact ⟨rfl, Z.out⟩
theorem one_far7 (W D J S k : Int) (A : Option Addr) (n c : Nat) (m : List Int) (w : World) (hm : Rd w A m) (hn : m.length = n) (hs : n ≤ 500) (ho : okm W D J S m = true) (h0 : 0 ≤ k) (hk : W ≤ k) : Tells 3 #[cf W D J S, .slice A n c, .bool true, .int .i64 k] w (.bool true) := by
  have LM0 := Lib.hid hm
  have HN := Lib.hid hn
  clear hm hn
  have hd : decide ((500 : Int) < (n : Int)) = false := decide_eq_false (by omega)
  have HO := Lib.hid ho
  clear ho
  have hd1 : decide (k < 0) = false := decide_eq_false (by omega)
  have hd2 : decide (W ≤ k) = true := decide_eq_true hk
  clear h0 hk
  go_enter Try.func3, Try.ntmps3
  go_wp2_with fail
  refine (awake_any _).mono ?_
  rintro _ w1 ⟨rfl, z⟩
  have BX := Lib.hid ((Bx.mk w W D J S 23).below z)
  replace z := (box_below w _).trans (z.mono (by simp))
  have Z := Lib.hid z
  have LM := Lib.hid (LM0.out.below z)
  clear z LM0
  obtain ⟨gx, x_0, x_1, x_2, x_3⟩ := BX.out
  go_wp2_with fail
  refine (begin_any 7 0 0 _).mono ?_
  rintro _ w2 ⟨rfl, z⟩
  clear gx x_0 x_1 x_2 x_3
  replace Z := Lib.hid (Z.out.trans (z.mono Z.out.size))
  replace BX := Lib.hid (BX.out.below z)
  replace LM := Lib.hid (LM.out.below z)
  clear z
  obtain ⟨gx, x_0, x_1, x_2, x_3⟩ := BX.out
  go_wp2_with fail
  refine (Tells.of (ngoes_any W D J S A n c m (fbg 7 0 0) _ HN.out) (v' := .bool true) (by rw [goesN_begun (by simp), HO.out])).mono ?_
  rintro _ w3 ⟨rfl, z⟩
  clear gx x_0 x_1 x_2 x_3
  have BF := Lib.hid ((Bf.new w2 (fbg 7 0 0)).after z)
  replace z := keep_call z (bel_alloc w2 _)
  replace Z := Lib.hid (Z.out.trans (z.mono Z.out.size))
  replace BX := Lib.hid (BX.out.below z)
  replace LM := Lib.hid (LM.out.below z)
  clear z
  obtain ⟨gx, x_0, x_1, x_2, x_3⟩ := BX.out
  go_wp2
  go_ret
  exact ⟨rfl, Z.out⟩
set_option maxHeartbeats 2000000 in
theorem one_7y (W D J S : Int) (k : Nat) (A : Option Addr) (n c : Nat) (m : List Int) (w : World) (hm : Rd w A m) (hn : m.length = n) (hs : n ≤ 500) (hu : UM m) (hk : okw W D J S m k = true) (hb : at0 m 2 / 2 ^ k % 2 = 1) : Tells 3 #[cf W D J S, .slice A n c, .bool true, .int .i64 (k : Int)] w (.bool true) := by
  have hpk := pkI_lim hk
  have hwho := okw_who hk
  have hpo := pkI_ow hk
  have hkW := okw_iff.1 hk
  have hk16 : k < 16 := by omega
  have ho := okm_of hk
  obtain ⟨m0, hm0⟩ : ∃ m0, m0 = put m (pkI D J k) 0 := ⟨_, rfl⟩
  have k0 : okw W D J S m0 k = true := by rw [hm0]; exact okw_put hk _ _
  have n0 : m0.length = n := by rw [hm0, len_put]; exact hn
  have z0 : at0 m0 (pkI D J k) = 0 := by rw [hm0]; exact at0_put _ (by omega) hpk.2
  have um0 : UM m0 := by rw [hm0]; exact put_U hu _ U0
  have e0 : at0 m0 2 = at0 m 2 := by rw [hm0]; exact at0_put_ne _ _ (by omega)
  obtain ⟨E, hE⟩ : ∃ E, at0 m0 2 = E := ⟨_, rfl⟩
  rw [← e0, hE] at hb
  have hue : U E := by rw [← hE]; exact at0_U um0 2
  obtain ⟨l', f', i20, hres, hev, hpark⟩ := alone_20 (o := 7) (okm_of k0) (by simp)
  rw [hE] at hres hev hpark
  have hpa := hpark k k0
  rw [z0] at hpa
  have hpa2 : at0 l' (pkI D J k) = 1 := by rw [hpa, if_pos ⟨hb, .inl rfl⟩]
  have hl' := noteN_len W D J S 20 (m0, fbg 7 0 0)
  have hul := noteN_U (W := W) (D := D) (J := J) (S := S) (s := (m0, fbg 7 0 0)) um0 ⟨U0, U0, U0⟩ 20
  rw [i20] at hl' hul
  have hn2 : l'.length = n := hl'.trans n0
  have k2 : okw W D J S l' k = true := by rw [okw_len (m := m0) hl']; exact k0
  have hov : (f'.res != 0) = true := by rw [hres]; split <;> rfl
  obtain ⟨M, hM⟩ : ∃ M, E % 65536 = M := ⟨_, rfl⟩
  have hMl : 0 ≤ M ∧ M < 65536 := by omega
  obtain ⟨z, hz2⟩ : ∃ z, (M == 0) = z := ⟨_, rfl⟩
  have hz1 : (f'.res == 3) = z := by rw [hres, ← hz2, hM]; by_cases h : M = 0; rw [if_pos h]; simp [h]; rw [if_neg h]; simp [h]
  have hzz : (z == z) = true := by simp
  have hp := pow_lt hk16
  obtain ⟨PP, hPP⟩ : ∃ PP : Int, 2 ^ k = PP := ⟨_, rfl⟩
  rw [hPP] at hp
  have hw0 : IntKind.u64.wrap ((2 : Int) ^ min k 64) = PP := by rw [Nat.min_eq_left (by omega), hPP, IntKind.wrap_u64]; omega
  have hpn : ¬ PP = 0 := by omega
  obtain ⟨QQ, hQQ⟩ : ∃ QQ, M / PP = QQ := ⟨_, rfl⟩
  have hQl : 0 ≤ QQ ∧ QQ ≤ M := by rw [← hQQ]; exact ⟨Int.ediv_nonneg hMl.1 (by omega), Int.ediv_le_self _ hMl.1⟩
  have hdv : M.tdiv PP = QQ := by rw [Int.tdiv_eq_ediv_of_nonneg hMl.1]; exact hQQ
  have hdw : IntKind.u64.wrap QQ = QQ := by rw [IntKind.wrap_u64]; omega
  obtain ⟨R, hR⟩ : ∃ R, QQ % 2 = R := ⟨_, rfl⟩
  have hmd : QQ.tmod 2 = R := by rw [Int.tmod_eq_emod_of_nonneg hQl.1]; exact hR
  have hmw : IntKind.u64.wrap R = R := by rw [IntKind.wrap_u64]; omega
  have hbb : (R == 1) = true := by
    have h := bit_mask E k hk16
    rw [hM, hPP, hQQ, hR] at h
    rw [h]
    simpa [hPP] using hb
  obtain ⟨Q, hQ⟩ : ∃ Q, E / 65536 = Q := ⟨_, rfl⟩
  obtain ⟨P, hP⟩ : ∃ P, at0 l' 2 / 65536 = P := ⟨_, rfl⟩
  have hq0 : 0 ≤ Q ∧ Q < 281474976710656 := by unfold U at hue; omega
  have hPQ : P = (Q + 1) % 281474976710656 := by rw [← hP, hev, nxN_epoch, hQ]
  have hw1 : IntKind.u64.wrap (Q + 1) = Q + 1 := by rw [IntKind.wrap_u64]; omega
  have hw2 : (Q + 1).tmod 281474976710656 = P := by rw [Int.tmod_eq_emod_of_nonneg (by omega)]; exact hPQ.symm
  have hw4 : IntKind.u64.wrap P = P := by rw [IntKind.wrap_u64]; omega
  have hw3 : (P == P) = true := by simp
  have hd1 : decide ((k : Int) < 0) = false := decide_eq_false (by omega)
  have hd2 : decide (W ≤ (k : Int)) = false := decide_eq_false (by omega)
  have hd3 : decide ((7 : Int) < (k : Int)) = false := decide_eq_false (by omega)
  have hwn : wts W D J S l' k = false := by rw [wts_bit k2, hev, decide_eq_false_iff_not, nx_bit _ _ k hk16 (by simp)]; rintro ⟨h, _⟩; exact absurd h (by simp)
  have LM0 := Lib.hid hm
  have HN := Lib.hid hn
  clear hm hn
  have hd : decide ((500 : Int) < (n : Int)) = false := decide_eq_false (by omega)
  have HO := Lib.hid ho
  have HS := Lib.hid hs
  have HM0 := Lib.hid hm0
  have HN0 := Lib.hid n0
  have HUM0 := Lib.hid um0
  have HE := Lib.hid hE
  have HUE := Lib.hid hue
  have HI := Lib.hid i20
  have HPA := Lib.hid hpa2
  have HN2 := Lib.hid hn2
  have HUL := Lib.hid hul
  have HOV := Lib.hid hov
  have HM := Lib.hid hM
  have HPO := Lib.hid hpo
  have HQ := Lib.hid hQ
  have HP := Lib.hid hP
  have HWN := Lib.hid hwn
  have HML := Lib.hid hMl
  clear hk hpk hwho hkW hk16 k0 z0 e0 hres hev hpark hpa hl' k2 hu hb hp hPP hQQ hQl hR hq0 hPQ ho hs hm0 n0 um0 hE hue i20 hpa2 hn2 hul hov hM hpo hQ hP hwn hMl
  go_enter Try.func3, Try.ntmps3
  go_wp2_with fail
  refine (awake_any _).mono ?_
  rintro _ w1 ⟨rfl, z⟩
  have BX := Lib.hid ((Bx.mk w W D J S 23).below z)
  replace z := (box_below w _).trans (z.mono (by simp))
  have Z := Lib.hid z
  have LM := Lib.hid (LM0.out.below z)
  clear z LM0
  obtain ⟨gx, x_0, x_1, x_2, x_3⟩ := BX.out
  go_wp2_with fail
  refine (begin_any 7 0 0 _).mono ?_
  rintro _ w2 ⟨rfl, z⟩
  clear gx x_0 x_1 x_2 x_3
  replace Z := Lib.hid (Z.out.trans (z.mono Z.out.size))
  replace BX := Lib.hid (BX.out.below z)
  replace LM := Lib.hid (LM.out.below z)
  clear z
  obtain ⟨gx, x_0, x_1, x_2, x_3⟩ := BX.out
  go_wp2_with fail
  refine (Tells.of (ngoes_any W D J S A n c m (fbg 7 0 0) _ HN.out) (v' := .bool true) (by rw [goesN_begun (by simp), HO.out])).mono ?_
  rintro _ w3 ⟨rfl, z⟩
  clear gx x_0 x_1 x_2 x_3
  have BF := Lib.hid ((Bf.new w2 (fbg 7 0 0)).after z)
  replace z := keep_call z (bel_alloc w2 _)
  replace Z := Lib.hid (Z.out.trans (z.mono Z.out.size))
  replace BX := Lib.hid (BX.out.below z)
  replace LM := Lib.hid (LM.out.below z)
  clear z
  obtain ⟨gx, x_0, x_1, x_2, x_3⟩ := BX.out
  go_wp2_with fail
  refine (Tells.of (park_any W D J S k _) (v' := .int .i64 (pkI D J k)) (by rw [HPO.out])).mono ?_
  rintro _ w4 ⟨rfl, z⟩
  clear gx x_0 x_1 x_2 x_3
  replace Z := Lib.hid (Z.out.trans (z.mono Z.out.size))
  replace BX := Lib.hid (BX.out.below z)
  replace LM := Lib.hid (LM.out.below z)
  replace BF := Lib.hid (BF.out.after z)
  clear z
  go_wp2_with fail
  refine (store_new A n c m (pkI D J k) 0 _ LM.out HN.out HS.out).mono ?_
  rintro _ w5 ⟨g5, rfl, hg5, hb5, z⟩
  replace Z := Lib.hid (Z.out.trans (z.mono Z.out.size))
  replace BX := Lib.hid (BX.out.below z)
  replace LM := Lib.hid (LM.out.below z)
  replace BF := Lib.hid (BF.out.after z)
  have L0 := Lib.hid (show Rd w5 (some ⟨g5, 0, none⟩) m0 by rw [HM0.out]; exact hb5.rd)
  clear hg5 hb5 z LM
  go_wp2_with fail
  refine (ret_of (load_any (some ⟨g5, 0, none⟩) n n m0 2 _ L0.out HN0.out HS.out) (v' := .int .u64 E) (by rw [HE.out])).mono ?_
  rintro _ w6 ⟨rfl, z⟩
  replace Z := Lib.hid (Z.out.trans (z.mono Z.out.size))
  replace BX := Lib.hid (BX.out.below z)
  replace BF := Lib.hid (BF.out.after z)
  replace L0 := Lib.hid (L0.out.below z)
  clear z
  go_wp2_with fail
  refine (Tells.of (mask_any E _ HUE.out).tells (v' := .int .u64 M) (by rw [HM.out])).mono ?_
  rintro _ w7 ⟨rfl, z⟩
  replace Z := Lib.hid (Z.out.trans (z.mono Z.out.size))
  replace BX := Lib.hid (BX.out.below z)
  replace BF := Lib.hid (BF.out.after z)
  replace L0 := Lib.hid (L0.out.below z)
  clear z
  obtain ⟨gx, x_0, x_1, x_2, x_3⟩ := BX.out
  obtain ⟨a0, a1, a2, a3, a4, a5, a6⟩ := BF.out.cells
  have la := BF.out.lt
  simp only [fbg] at a0 a1 a2 a3 a4 a5 a6
  go_wp2_with fail
  refine (alone_n (f := fbg 7 0 0) L0.out HN0.out HS.out HUM0.out ⟨U0, U0, U0⟩ HI.out).mono ?_
  rintro _ w8 ⟨A8, c8, rfl, hn8, z⟩
  clear gx x_0 x_1 x_2 x_3 a0 a1 a2 a3 a4 a5 a6 la
  replace Z := Lib.hid (Z.out.trans (z.mono Z.out.size))
  replace BX := Lib.hid (BX.out.below z)
  replace BF := Lib.hid (BF.out.after z)
  replace L0 := Lib.hid (L0.out.below z)
  have LB := Lib.hid hn8.rd
  clear hn8 z BF
  obtain ⟨gx, x_0, x_1, x_2, x_3⟩ := BX.out
  go_wp2_with fail
  refine (Tells.of (park_any W D J S k _) (v' := .int .i64 (pkI D J k)) (by rw [HPO.out])).mono ?_
  rintro _ w9 ⟨rfl, z⟩
  clear gx x_0 x_1 x_2 x_3
  have BG := Lib.hid ((Bf.new w8 f').after z)
  replace z := keep_call z (bel_alloc w8 _)
  replace Z := Lib.hid (Z.out.trans (z.mono Z.out.size))
  replace BX := Lib.hid (BX.out.below z)
  replace L0 := Lib.hid (L0.out.below z)
  replace LB := Lib.hid (LB.out.below z)
  clear z
  go_wp2_with fail
  refine (ret_of (load_any A8 n c8 l' (pkI D J k) _ LB.out HN2.out HS.out) (v' := .int .u64 1) (by rw [HPA.out])).mono ?_
  rintro _ w10 ⟨rfl, z⟩
  replace Z := Lib.hid (Z.out.trans (z.mono Z.out.size))
  replace BX := Lib.hid (BX.out.below z)
  replace L0 := Lib.hid (L0.out.below z)
  replace LB := Lib.hid (LB.out.below z)
  replace BG := Lib.hid (BG.out.after z)
  clear z
  go_wp2_with fail
  refine (load_any A8 n c8 l' 2 _ LB.out HN2.out HS.out).mono ?_
  rintro _ w11 ⟨rfl, z⟩
  replace Z := Lib.hid (Z.out.trans (z.mono Z.out.size))
  replace BX := Lib.hid (BX.out.below z)
  replace L0 := Lib.hid (L0.out.below z)
  replace LB := Lib.hid (LB.out.below z)
  replace BG := Lib.hid (BG.out.after z)
  clear z
  go_wp2_with fail
  refine (Tells.of (epoch_any (at0 l' 2) _).tells (v' := .int .u64 P) (by rw [HP.out])).mono ?_
  rintro _ w12 ⟨rfl, z⟩
  replace Z := Lib.hid (Z.out.trans (z.mono Z.out.size))
  replace BX := Lib.hid (BX.out.below z)
  replace L0 := Lib.hid (L0.out.below z)
  replace LB := Lib.hid (LB.out.below z)
  replace BG := Lib.hid (BG.out.after z)
  clear z
  go_wp2_with fail
  refine (ret_of (load_any (some ⟨g5, 0, none⟩) n n m0 2 _ L0.out HN0.out HS.out) (v' := .int .u64 E) (by rw [HE.out])).mono ?_
  rintro _ w13 ⟨rfl, z⟩
  replace Z := Lib.hid (Z.out.trans (z.mono Z.out.size))
  replace BX := Lib.hid (BX.out.below z)
  replace L0 := Lib.hid (L0.out.below z)
  replace LB := Lib.hid (LB.out.below z)
  replace BG := Lib.hid (BG.out.after z)
  clear z
  go_wp2_with fail
  refine (Tells.of (epoch_any E _).tells (v' := .int .u64 Q) (by rw [HQ.out])).mono ?_
  rintro _ w14 ⟨rfl, z⟩
  replace Z := Lib.hid (Z.out.trans (z.mono Z.out.size))
  replace BX := Lib.hid (BX.out.below z)
  replace L0 := Lib.hid (L0.out.below z)
  replace LB := Lib.hid (LB.out.below z)
  replace BG := Lib.hid (BG.out.after z)
  clear z
  go_upto_region 14 with fail
  clear hd1 hd2 hd3 hw1 hw2 hw4 hd hw0 hpn hdv hdw hmd hmw hbb
  have HK := Lib.hid (show ∀ x', Below w14.heap.size w14 x' → (fun w' => w'.cell? ⟨w.heap.size, 0, none⟩ = some (.int .i64 W) ∧ w'.cell? ⟨w.heap.size, 1, none⟩ = some (.int .i64 D) ∧ w'.cell? ⟨w.heap.size, 2, none⟩ = some (.int .i64 J) ∧ w'.cell? ⟨w.heap.size, 3, none⟩ = some (.int .i64 S) ∧ w'.cell? ⟨w8.heap.size, 0, none⟩ = some (.int .i64 f'.op) ∧ w'.cell? ⟨w8.heap.size, 1, none⟩ = some (.int .i64 f'.pc) ∧ w'.cell? ⟨w8.heap.size, 2, none⟩ = some (.int .i64 f'.who) ∧ w'.cell? ⟨w8.heap.size, 3, none⟩ = some (.int .u64 f'.val) ∧ w'.cell? ⟨w8.heap.size, 4, none⟩ = some (.int .u64 f'.x) ∧ w'.cell? ⟨w8.heap.size, 5, none⟩ = some (.int .u64 f'.y) ∧ w'.cell? ⟨w8.heap.size, 6, none⟩ = some (.int .i64 f'.res) ∧ Below w14.heap.size w14 w') x' from fun x' hx => by
    obtain ⟨_, e0, e1, e2, e3⟩ := BX.out.below hx
    obtain ⟨d0, d1, d2, d3, d4, d5, d6⟩ := (BG.out.after hx).cells
    exact ⟨e0, e1, e2, e3, d0, d1, d2, d3, d4, d5, d6, hx⟩)
  have hHeld0 := HK.out _ (Below.refl _ _)
  have ZC := Lib.hid (Below.refl w14.heap.size w14).drew
  refine wp_region_held_drew (S := fun w' => w'.cell? ⟨w.heap.size, 0, none⟩ = some (.int .i64 W) ∧ w'.cell? ⟨w.heap.size, 1, none⟩ = some (.int .i64 D) ∧ w'.cell? ⟨w.heap.size, 2, none⟩ = some (.int .i64 J) ∧ w'.cell? ⟨w.heap.size, 3, none⟩ = some (.int .i64 S) ∧ w'.cell? ⟨w8.heap.size, 0, none⟩ = some (.int .i64 f'.op) ∧ w'.cell? ⟨w8.heap.size, 1, none⟩ = some (.int .i64 f'.pc) ∧ w'.cell? ⟨w8.heap.size, 2, none⟩ = some (.int .i64 f'.who) ∧ w'.cell? ⟨w8.heap.size, 3, none⟩ = some (.int .u64 f'.val) ∧ w'.cell? ⟨w8.heap.size, 4, none⟩ = some (.int .u64 f'.x) ∧ w'.cell? ⟨w8.heap.size, 5, none⟩ = some (.int .u64 f'.y) ∧ w'.cell? ⟨w8.heap.size, 6, none⟩ = some (.int .i64 f'.res) ∧ Below w14.heap.size w14 w') (by kernel_rfl) (hd_drew HK.out (fun _ h => h.2.2.2.2.2.2.2.2.2.2.2) hHeld0) (fun hHeld => ?_)
  refine wpAnyH_take (i := 0) (oi := { dst := some 96, op := Go.Op.move (Go.Operand.tmp 17), type := 4, pos := "law.go:73", after := #[], guard := none }) (v := ?vzd1) rfl (by kernel_rfl) (by kernel_rfl) (by kernel_rfl) (fun _ _ _ h => h) (Or.inl ⟨by rfl, ?yzd1⟩) (by assumption) ?rzd1
  case yzd1 => (intro w hSw; (try dsimp only at hSw); go_simp; (try with_reducible rfl))
  (try simp only [Act.put, List.setIfInBounds_toArray, List.set_cons_zero, List.set_cons_succ])
  refine wpAnyH_take (i := 1) (oi := { dst := some 97, op := Go.Op.move (Go.Operand.tmp 96), type := 4, pos := "law.go:73", after := #[{ on := 0, ground := Go.Ground.data }], guard := none }) (v := ?vzd2) rfl (by kernel_rfl) (by kernel_rfl) (by kernel_rfl) (fun _ _ _ h => h) (Or.inl ⟨by rfl, ?yzd2⟩) (by assumption) ?rzd2
  case yzd2 => (intro w hSw; (try dsimp only at hSw); go_simp; (try with_reducible rfl))
  (try simp only [Act.put, List.setIfInBounds_toArray, List.set_cons_zero, List.set_cons_succ])
  refine wpAnyH_take (i := 2) (oi := { dst := some 98, op := Go.Op.move (Go.Operand.tmp 15), type := 4, pos := "law.go:73", after := #[{ on := 1, ground := Go.Ground.guard }], guard := some (1, true) }) (v := ?vzd3) rfl (by kernel_rfl) (by kernel_rfl) (by kernel_rfl) (fun _ _ _ h => h) (Or.inl ⟨by rfl, ?yzd3⟩) (by assumption) ?rzd3
  case yzd3 => (intro w hSw; (try dsimp only at hSw); go_simp; (try with_reducible rfl))
  (try simp only [Act.put, List.setIfInBounds_toArray, List.set_cons_zero, List.set_cons_succ])
  refine wpAnyH_take (i := 3) (oi := { dst := some 99, op := Go.Op.move (Go.Operand.tmp 16), type := 4, pos := "law.go:73", after := #[{ on := 1, ground := Go.Ground.guard }], guard := some (1, true) }) (v := ?vzd4) rfl (by kernel_rfl) (by kernel_rfl) (by kernel_rfl) (fun _ _ _ h => h) (Or.inl ⟨by rfl, ?yzd4⟩) (by assumption) ?rzd4
  case yzd4 => (intro w hSw; (try dsimp only at hSw); go_simp; (try with_reducible rfl))
  (try simp only [Act.put, List.setIfInBounds_toArray, List.set_cons_zero, List.set_cons_succ])
  refine wpAnyH_take (i := 4) (oi := { dst := some 100, op := Go.Op.binOp Go.BinOp.eql 4 (Go.Operand.tmp 98) (Go.Operand.tmp 99) 4, type := 4, pos := "law.go:73", after := #[{ on := 2, ground := Go.Ground.data }, { on := 3, ground := Go.Ground.data }, { on := 1, ground := Go.Ground.guard }], guard := some (1, true) }) (v := ?vzd5) rfl (by kernel_rfl) (by kernel_rfl) (by kernel_rfl) (fun _ _ _ h => h) (Or.inl ⟨by rfl, ?yzd5⟩) (by assumption) ?rzd5
  case yzd5 => (intro w hSw; (try dsimp only at hSw); go_simp; (try with_reducible rfl))
  (try simp only [Act.put, List.setIfInBounds_toArray, List.set_cons_zero, List.set_cons_succ])
  refine wpAnyH_take (i := 5) (oi := { dst := some 101, op := Go.Op.pick (Go.Operand.tmp 97) (Go.Operand.tmp 100) (Go.Operand.const (Go.Value.bool false)), type := 4, pos := "law.go:73", after := #[{ on := 1, ground := Go.Ground.data }, { on := 4, ground := Go.Ground.data }], guard := none }) (v := ?vzd6) rfl (by kernel_rfl) (by kernel_rfl) (by kernel_rfl) (fun _ _ _ h => h) (Or.inl ⟨by rfl, ?yzd6⟩) (by assumption) ?rzd6
  case yzd6 => (intro w hSw; (try dsimp only at hSw); go_simp; (try with_reducible rfl))
  (try simp only [Act.put, List.setIfInBounds_toArray, List.set_cons_zero, List.set_cons_succ])
  refine wpAnyH_take (i := 6) (oi := { dst := some 102, op := Go.Op.move (Go.Operand.tmp 101), type := 4, pos := "law.go:73", after := #[{ on := 5, ground := Go.Ground.data }, { on := 1, ground := Go.Ground.chain }], guard := none }) (v := ?vzd7) rfl (by kernel_rfl) (by kernel_rfl) (by kernel_rfl) (fun _ _ _ h => h) (Or.inl ⟨by rfl, ?yzd7⟩) (by assumption) ?rzd7
  case yzd7 => (intro w hSw; (try dsimp only at hSw); go_simp; (try with_reducible rfl))
  (try simp only [Act.put, List.setIfInBounds_toArray, List.set_cons_zero, List.set_cons_succ])
  refine wpAnyH_take (i := 7) (oi := { dst := some 103, op := Go.Op.fieldAddr 29 (Go.Operand.tmp 14) 6, type := 0, pos := "law.go:73", after := #[{ on := 6, ground := Go.Ground.guard }], guard := some (6, true) }) (v := ?vzd8) rfl (by kernel_rfl) (by kernel_rfl) (by kernel_rfl) (fun _ _ _ h => h) (Or.inl ⟨by rfl, ?yzd8⟩) (by assumption) ?rzd8
  case yzd8 => (intro w hSw; (try dsimp only at hSw); go_simp; (try with_reducible rfl))
  (try simp only [Act.put, List.setIfInBounds_toArray, List.set_cons_zero, List.set_cons_succ])
  refine wpAnyH_take (i := 8) (oi := { dst := some 104, op := Go.Op.load 3 (Go.Operand.tmp 103), type := 3, pos := "law.go:73", after := #[{ on := 7, ground := Go.Ground.data }, { on := 6, ground := Go.Ground.guard }], guard := some (6, true) }) (v := ?vzd9) rfl (by kernel_rfl) (by kernel_rfl) (by kernel_rfl) (fun _ _ _ h => h) (Or.inl ⟨by rfl, ?yzd9⟩) (by assumption) ?rzd9
  case yzd9 => (intro w hSw; (try dsimp only at hSw); go_simp; (try with_reducible rfl))
  (try simp only [Act.put, List.setIfInBounds_toArray, List.set_cons_zero, List.set_cons_succ])
  refine wpAnyH_take (i := 9) (oi := { dst := some 105, op := Go.Op.binOp Go.BinOp.eql 3 (Go.Operand.tmp 104) (Go.Operand.const (Go.Value.int Go.IntKind.i64 3)) 3, type := 4, pos := "law.go:73", after := #[{ on := 8, ground := Go.Ground.data }, { on := 6, ground := Go.Ground.guard }], guard := some (6, true) }) (v := ?vzd10) rfl (by kernel_rfl) (by kernel_rfl) (by kernel_rfl) (fun _ _ _ h => h) (Or.inl ⟨by rfl, ?yzd10⟩) (by assumption) ?rzd10
  case yzd10 => (intro w hSw; (try dsimp only at hSw); go_simp; (try with_reducible rfl))
  (try simp only [Act.put, List.setIfInBounds_toArray, List.set_cons_zero, List.set_cons_succ])
  refine wpAnyH_take (i := 10) (oi := { dst := some 106, op := Go.Op.move (Go.Operand.tmp 12), type := 27, pos := "law.go:73", after := #[{ on := 6, ground := Go.Ground.guard }], guard := some (6, true) }) (v := ?vzd11) rfl (by kernel_rfl) (by kernel_rfl) (by kernel_rfl) (fun _ _ _ h => h) (Or.inl ⟨by rfl, ?yzd11⟩) (by assumption) ?rzd11
  case yzd11 => (intro w hSw; (try dsimp only at hSw); go_simp; (try with_reducible rfl))
  (try simp only [Act.put, List.setIfInBounds_toArray, List.set_cons_zero, List.set_cons_succ])
  refine wpAnyH_take (i := 11) (oi := { dst := some 107, op := Go.Op.binOp Go.BinOp.eql 27 (Go.Operand.tmp 106) (Go.Operand.const (Go.Value.int Go.IntKind.u64 0)) 27, type := 4, pos := "law.go:73", after := #[{ on := 10, ground := Go.Ground.data }, { on := 6, ground := Go.Ground.guard }], guard := some (6, true) }) (v := ?vzd12) rfl (by kernel_rfl) (by kernel_rfl) (by kernel_rfl) (fun _ _ _ h => h) (Or.inl ⟨by rfl, ?yzd12⟩) (by assumption) ?rzd12
  case yzd12 => (intro w hSw; (try dsimp only at hSw); go_simp; (try with_reducible rfl))
  (try simp only [Act.put, List.setIfInBounds_toArray, List.set_cons_zero, List.set_cons_succ])
  refine wpAnyH_take (i := 12) (oi := { dst := some 108, op := Go.Op.binOp Go.BinOp.eql 4 (Go.Operand.tmp 105) (Go.Operand.tmp 107) 4, type := 4, pos := "law.go:73", after := #[{ on := 9, ground := Go.Ground.data }, { on := 11, ground := Go.Ground.data }, { on := 6, ground := Go.Ground.guard }], guard := some (6, true) }) (v := ?vzd13) rfl (by kernel_rfl) (by kernel_rfl) (by kernel_rfl) (fun _ _ _ h => h) (Or.inl ⟨by rfl, ?yzd13⟩) (by assumption) ?rzd13
  case yzd13 => (intro w hSw; (try dsimp only at hSw); go_simp; (try with_reducible rfl))
  (try simp only [Act.put, List.setIfInBounds_toArray, List.set_cons_zero, List.set_cons_succ])
  refine wpAnyH_take (i := 13) (oi := { dst := some 109, op := Go.Op.pick (Go.Operand.tmp 102) (Go.Operand.tmp 108) (Go.Operand.const (Go.Value.bool false)), type := 4, pos := "law.go:73", after := #[{ on := 6, ground := Go.Ground.data }, { on := 12, ground := Go.Ground.data }], guard := none }) (v := ?vzd14) rfl (by kernel_rfl) (by kernel_rfl) (by kernel_rfl) (fun _ _ _ h => h) (Or.inl ⟨by rfl, ?yzd14⟩) (by assumption) ?rzd14
  case yzd14 => (intro w hSw; (try dsimp only at hSw); go_simp; (try with_reducible rfl))
  (try simp only [Act.put, List.setIfInBounds_toArray, List.set_cons_zero, List.set_cons_succ])
  refine wpAnyH_take (i := 14) (oi := { dst := some 110, op := Go.Op.move (Go.Operand.tmp 109), type := 4, pos := "law.go:73", after := #[{ on := 13, ground := Go.Ground.data }, { on := 6, ground := Go.Ground.chain }], guard := none }) (v := ?vzd15) rfl (by kernel_rfl) (by kernel_rfl) (by kernel_rfl) (fun _ _ _ h => h) (Or.inl ⟨by rfl, ?yzd15⟩) (by assumption) ?rzd15
  case yzd15 => (intro w hSw; (try dsimp only at hSw); go_simp; (try with_reducible rfl))
  (try simp only [Act.put, List.setIfInBounds_toArray, List.set_cons_zero, List.set_cons_succ])
  refine wpAnyH_take (i := 15) (oi := { dst := some 111, op := Go.Op.load 29 (Go.Operand.tmp 14), type := 29, pos := "law.go:73", after := #[{ on := 14, ground := Go.Ground.guard }], guard := some (14, true) }) (v := ?vzd16) rfl (by kernel_rfl) (by kernel_rfl) (by kernel_rfl) (fun _ _ _ h => h) (Or.inl ⟨by rfl, ?yzd16⟩) (by assumption) ?rzd16
  case yzd16 => (intro w hSw; (try dsimp only at hSw); go_simp; (try with_reducible rfl))
  (try simp only [Act.put, List.setIfInBounds_toArray, List.set_cons_zero, List.set_cons_succ])
  refine wpAnyH_ready (rs := [16]) (by kernel_rfl) (by simp) ?_
  refine (AllReadyH.cons (o := { dst := some 112, op := Go.Op.call { callee := Go.Callee.value (Go.Operand.func 18), args := #[Go.Operand.tmp 111], argTypes := #[29] }, type := 4, pos := "law.go:73", after := #[{ on := 15, ground := Go.Ground.data }, { on := 14, ground := Go.Ground.chain }, { on := 14, ground := Go.Ground.guard }], guard := some (14, true) }) rfl (fun K hK => ?_) AllReadyH.nil)
  go_simp
  refine (Tells.of (over_any f' _) (v' := .bool true) (by rw [HOV.out])).mono ?_
  rintro e wz ⟨rfl, zb⟩
  go_wp2_with fail
  replace ZC := Lib.hid (keep_call (w2 := w14) zb ZC.out)
  clear zb
  refine hK.out _ _ (HK.out _ ZC.out) (fun hHeld2 => ?_)
  clear hK K hHeld
  have hHeld := hHeld2
  clear hHeld2
  (try simp only [Act.put, List.setIfInBounds_toArray, List.set_cons_zero, List.set_cons_succ])
  refine wpAnyH_take (i := 17) (oi := { dst := some 113, op := Go.Op.pick (Go.Operand.tmp 110) (Go.Operand.tmp 112) (Go.Operand.const (Go.Value.bool false)), type := 4, pos := "law.go:73", after := #[{ on := 14, ground := Go.Ground.data }, { on := 16, ground := Go.Ground.data }], guard := none }) (v := ?vzd17) rfl (by kernel_rfl) (by kernel_rfl) (by kernel_rfl) (fun _ _ _ h => h) (Or.inl ⟨by rfl, ?yzd17⟩) (by assumption) ?rzd17
  case yzd17 => (intro w hSw; (try dsimp only at hSw); go_simp; (try with_reducible rfl))
  (try simp only [Act.put, List.setIfInBounds_toArray, List.set_cons_zero, List.set_cons_succ])
  refine wpAnyH_take (i := 18) (oi := { dst := some 114, op := Go.Op.move (Go.Operand.tmp 113), type := 4, pos := "law.go:73", after := #[{ on := 17, ground := Go.Ground.data }, { on := 16, ground := Go.Ground.chain }], guard := none }) (v := ?vzd18) rfl (by kernel_rfl) (by kernel_rfl) (by kernel_rfl) (fun _ _ _ h => h) (Or.inl ⟨by rfl, ?yzd18⟩) (by assumption) ?rzd18
  case yzd18 => (intro w hSw; (try dsimp only at hSw); go_simp; (try with_reducible rfl))
  (try simp only [Act.put, List.setIfInBounds_toArray, List.set_cons_zero, List.set_cons_succ])
  refine wpAnyH_take (i := 19) (oi := { dst := some 115, op := Go.Op.move (Go.Operand.tmp 16), type := 4, pos := "law.go:73", after := #[{ on := 18, ground := Go.Ground.guard }], guard := some (18, true) }) (v := ?vzd19) rfl (by kernel_rfl) (by kernel_rfl) (by kernel_rfl) (fun _ _ _ h => h) (Or.inl ⟨by rfl, ?yzd19⟩) (by assumption) ?rzd19
  case yzd19 => (intro w hSw; (try dsimp only at hSw); go_simp; (try with_reducible rfl))
  (try simp only [Act.put, List.setIfInBounds_toArray, List.set_cons_zero, List.set_cons_succ])
  refine wpAnyH_take (i := 20) (oi := { dst := some 116, op := Go.Op.unOp Go.UnOp.not 4 (Go.Operand.tmp 115), type := 4, pos := "law.go:73", after := #[{ on := 19, ground := Go.Ground.data }, { on := 18, ground := Go.Ground.guard }], guard := some (18, true) }) (v := ?vzd20) rfl (by kernel_rfl) (by kernel_rfl) (by kernel_rfl) (fun _ _ _ h => h) (Or.inl ⟨by rfl, ?yzd20⟩) (by assumption) ?rzd20
  case yzd20 => (intro w hSw; (try dsimp only at hSw); go_simp; (try with_reducible rfl))
  (try simp only [Act.put, List.setIfInBounds_toArray, List.set_cons_zero, List.set_cons_succ])
  refine wpAnyH_take (i := 21) (oi := { dst := some 117, op := Go.Op.move (Go.Operand.tmp 116), type := 4, pos := "law.go:73", after := #[{ on := 20, ground := Go.Ground.data }, { on := 18, ground := Go.Ground.chain }, { on := 18, ground := Go.Ground.guard }], guard := some (18, true) }) (v := ?vzd21) rfl (by kernel_rfl) (by kernel_rfl) (by kernel_rfl) (fun _ _ _ h => h) (Or.inl ⟨by rfl, ?yzd21⟩) (by assumption) ?rzd21
  case yzd21 => (intro w hSw; (try dsimp only at hSw); go_simp; (try with_reducible rfl))
  (try simp only [Act.put, List.setIfInBounds_toArray, List.set_cons_zero, List.set_cons_succ])
  refine wpAnyH_take (i := 22) (oi := { dst := some 118, op := Go.Op.load 23 (Go.Operand.tmp 4), type := 23, pos := "law.go:73", after := #[{ on := 21, ground := Go.Ground.guard }], guard := some (21, false) }) (v := ?vzd22) rfl (by kernel_rfl) (by kernel_rfl) (by kernel_rfl) (fun _ _ _ h => h) (Or.inl ⟨by rfl, ?yzd22⟩) (by assumption) ?rzd22
  case yzd22 => (intro w hSw; (try dsimp only at hSw); go_simp; (try with_reducible rfl))
  (try simp only [Act.put, List.setIfInBounds_toArray, List.set_cons_zero, List.set_cons_succ])
  refine wpAnyH_take (i := 23) (oi := { dst := some 119, op := Go.Op.move (Go.Operand.tmp 13), type := 25, pos := "law.go:73", after := #[{ on := 21, ground := Go.Ground.guard }], guard := some (21, false) }) (v := ?vzd23) rfl (by kernel_rfl) (by kernel_rfl) (by kernel_rfl) (fun _ _ _ h => h) (Or.inl ⟨by rfl, ?yzd23⟩) (by assumption) ?rzd23
  case yzd23 => (intro w hSw; (try dsimp only at hSw); go_simp; (try with_reducible rfl))
  (try simp only [Act.put, List.setIfInBounds_toArray, List.set_cons_zero, List.set_cons_succ])
  refine wpAnyH_take (i := 24) (oi := { dst := some 120, op := Go.Op.move (Go.Operand.tmp 3), type := 3, pos := "law.go:73", after := #[{ on := 21, ground := Go.Ground.guard }], guard := some (21, false) }) (v := ?vzd24) rfl (by kernel_rfl) (by kernel_rfl) (by kernel_rfl) (fun _ _ _ h => h) (Or.inl ⟨by rfl, ?yzd24⟩) (by assumption) ?rzd24
  case yzd24 => (intro w hSw; (try dsimp only at hSw); go_simp; (try with_reducible rfl))
  (try simp only [Act.put, List.setIfInBounds_toArray, List.set_cons_zero, List.set_cons_succ])
  refine wpAnyH_ready (rs := [25]) (by kernel_rfl) (by simp) ?_
  refine (AllReadyH.cons (o := { dst := some 121, op := Go.Op.call { callee := Go.Callee.value (Go.Operand.func 19), args := #[Go.Operand.tmp 118, Go.Operand.tmp 119, Go.Operand.tmp 120], argTypes := #[23, 25, 3] }, type := 4, pos := "law.go:73", after := #[{ on := 22, ground := Go.Ground.data }, { on := 23, ground := Go.Ground.data }, { on := 24, ground := Go.Ground.data }, { on := 21, ground := Go.Ground.chain }, { on := 21, ground := Go.Ground.guard }], guard := some (21, false) }) rfl (fun K hK => ?_) AllReadyH.nil)
  go_simp
  refine (Tells.of (waits_any W D J S k A8 n c8 l' _ (LB.out.below ZC.out) HN2.out HS.out HUL.out.1) (v' := .bool false) (by rw [HWN.out])).mono ?_
  rintro e wz ⟨rfl, zb⟩
  go_wp2_with fail
  replace ZC := Lib.hid (keep_call (w2 := w14) zb ZC.out)
  clear zb
  refine hK.out _ _ (HK.out _ ZC.out) (fun hHeld2 => ?_)
  clear hK K hHeld
  have hHeld := hHeld2
  clear hHeld2
  (try simp only [Act.put, List.setIfInBounds_toArray, List.set_cons_zero, List.set_cons_succ])
  refine wpAnyH_take (i := 26) (oi := { dst := some 122, op := Go.Op.unOp Go.UnOp.not 4 (Go.Operand.tmp 121), type := 4, pos := "law.go:73", after := #[{ on := 25, ground := Go.Ground.data }, { on := 21, ground := Go.Ground.guard }], guard := some (21, false) }) (v := ?vzd25) rfl (by kernel_rfl) (by kernel_rfl) (by kernel_rfl) (fun _ _ _ h => h) (Or.inl ⟨by rfl, ?yzd25⟩) (by assumption) ?rzd25
  case yzd25 => (intro w hSw; (try dsimp only at hSw); go_simp; (try with_reducible rfl))
  (try simp only [Act.put, List.setIfInBounds_toArray, List.set_cons_zero, List.set_cons_succ])
  refine wpAnyH_take (i := 27) (oi := { dst := some 123, op := Go.Op.pick (Go.Operand.tmp 117) (Go.Operand.const (Go.Value.bool true)) (Go.Operand.tmp 122), type := 4, pos := "law.go:73", after := #[{ on := 21, ground := Go.Ground.data }, { on := 26, ground := Go.Ground.data }, { on := 18, ground := Go.Ground.guard }], guard := some (18, true) }) (v := ?vzd26) rfl (by kernel_rfl) (by kernel_rfl) (by kernel_rfl) (fun _ _ _ h => h) (Or.inl ⟨by rfl, ?yzd26⟩) (by assumption) ?rzd26
  case yzd26 => (intro w hSw; (try dsimp only at hSw); go_simp; (try with_reducible rfl))
  (try simp only [Act.put, List.setIfInBounds_toArray, List.set_cons_zero, List.set_cons_succ])
  refine wpAnyH_take (i := 28) (oi := { dst := some 124, op := Go.Op.pick (Go.Operand.tmp 114) (Go.Operand.tmp 123) (Go.Operand.const (Go.Value.bool false)), type := 4, pos := "law.go:73", after := #[{ on := 18, ground := Go.Ground.data }, { on := 27, ground := Go.Ground.data }], guard := none }) (v := ?vzd27) rfl (by kernel_rfl) (by kernel_rfl) (by kernel_rfl) (fun _ _ _ h => h) (Or.inl ⟨by rfl, ?yzd27⟩) (by assumption) ?rzd27
  case yzd27 => (intro w hSw; (try dsimp only at hSw); go_simp; (try with_reducible rfl))
  (try simp only [Act.put, List.setIfInBounds_toArray, List.set_cons_zero, List.set_cons_succ])
  refine wpAnyH_take (i := 29) (oi := { dst := some 125, op := Go.Op.move (Go.Operand.tmp 124), type := 4, pos := "law.go:73", after := #[{ on := 28, ground := Go.Ground.data }, { on := 25, ground := Go.Ground.chain }], guard := none }) (v := ?vzd28) rfl (by kernel_rfl) (by kernel_rfl) (by kernel_rfl) (fun _ _ _ h => h) (Or.inl ⟨by rfl, ?yzd28⟩) (by assumption) ?rzd28
  case yzd28 => (intro w hSw; (try dsimp only at hSw); go_simp; (try with_reducible rfl))
  (try simp only [Act.put, List.setIfInBounds_toArray, List.set_cons_zero, List.set_cons_succ])
  refine wpAnyH_take (i := 30) (oi := { dst := some 126, op := Go.Op.move (Go.Operand.tmp 2), type := 4, pos := "law.go:73", after := #[{ on := 29, ground := Go.Ground.guard }], guard := some (29, true) }) (v := ?vzd29) rfl (by kernel_rfl) (by kernel_rfl) (by kernel_rfl) (fun _ _ _ h => h) (Or.inl ⟨by rfl, ?yzd29⟩) (by assumption) ?rzd29
  case yzd29 => (intro w hSw; (try dsimp only at hSw); go_simp; (try with_reducible rfl))
  (try simp only [Act.put, List.setIfInBounds_toArray, List.set_cons_zero, List.set_cons_succ])
  refine wpAnyH_take (i := 31) (oi := { dst := some 127, op := Go.Op.move (Go.Operand.tmp 126), type := 4, pos := "law.go:73", after := #[{ on := 30, ground := Go.Ground.data }, { on := 29, ground := Go.Ground.chain }, { on := 29, ground := Go.Ground.guard }], guard := some (29, true) }) (v := ?vzd30) rfl (by kernel_rfl) (by kernel_rfl) (by kernel_rfl) (fun _ _ _ h => h) (Or.inl ⟨by rfl, ?yzd30⟩) (by assumption) ?rzd30
  case yzd30 => (intro w hSw; (try dsimp only at hSw); go_simp; (try with_reducible rfl))
  (try simp only [Act.put, List.setIfInBounds_toArray, List.set_cons_zero, List.set_cons_succ])
  refine wpAnyH_take (i := 32) (oi := { dst := some 128, op := Go.Op.move (Go.Operand.tmp 16), type := 4, pos := "law.go:73", after := #[{ on := 31, ground := Go.Ground.guard }], guard := some (31, false) }) (v := undef) rfl (by kernel_rfl) (by kernel_rfl) (by kernel_rfl) (fun _ _ _ h => h) (Or.inr ⟨by rfl, rfl⟩) (by assumption) ?_
  (try simp only [Act.put, List.setIfInBounds_toArray, List.set_cons_zero, List.set_cons_succ])
  refine wpAnyH_take (i := 33) (oi := { dst := some 129, op := Go.Op.pick (Go.Operand.tmp 127) (Go.Operand.const (Go.Value.bool true)) (Go.Operand.tmp 128), type := 4, pos := "law.go:73", after := #[{ on := 31, ground := Go.Ground.data }, { on := 32, ground := Go.Ground.data }, { on := 29, ground := Go.Ground.guard }], guard := some (29, true) }) (v := ?vzd31) rfl (by kernel_rfl) (by kernel_rfl) (by kernel_rfl) (fun _ _ _ h => h) (Or.inl ⟨by rfl, ?yzd31⟩) (by assumption) ?rzd31
  case yzd31 => (intro w hSw; (try dsimp only at hSw); go_simp; (try with_reducible rfl))
  (try simp only [Act.put, List.setIfInBounds_toArray, List.set_cons_zero, List.set_cons_succ])
  refine wpAnyH_take (i := 34) (oi := { dst := some 130, op := Go.Op.move (Go.Operand.tmp 129), type := 4, pos := "law.go:73", after := #[{ on := 33, ground := Go.Ground.data }, { on := 31, ground := Go.Ground.chain }, { on := 29, ground := Go.Ground.guard }], guard := some (29, true) }) (v := ?vzd32) rfl (by kernel_rfl) (by kernel_rfl) (by kernel_rfl) (fun _ _ _ h => h) (Or.inl ⟨by rfl, ?yzd32⟩) (by assumption) ?rzd32
  case yzd32 => (intro w hSw; (try dsimp only at hSw); go_simp; (try with_reducible rfl))
  (try simp only [Act.put, List.setIfInBounds_toArray, List.set_cons_zero, List.set_cons_succ])
  refine wpAnyH_take (i := 35) (oi := { dst := some 131, op := Go.Op.load 23 (Go.Operand.tmp 4), type := 23, pos := "law.go:73", after := #[{ on := 34, ground := Go.Ground.guard }], guard := some (34, false) }) (v := undef) rfl (by kernel_rfl) (by kernel_rfl) (by kernel_rfl) (fun _ _ _ h => h) (Or.inr ⟨by rfl, rfl⟩) (by assumption) ?_
  (try simp only [Act.put, List.setIfInBounds_toArray, List.set_cons_zero, List.set_cons_succ])
  refine wpAnyH_take (i := 36) (oi := { dst := some 132, op := Go.Op.move (Go.Operand.tmp 13), type := 25, pos := "law.go:73", after := #[{ on := 34, ground := Go.Ground.guard }], guard := some (34, false) }) (v := undef) rfl (by kernel_rfl) (by kernel_rfl) (by kernel_rfl) (fun _ _ _ h => h) (Or.inr ⟨by rfl, rfl⟩) (by assumption) ?_
  (try simp only [Act.put, List.setIfInBounds_toArray, List.set_cons_zero, List.set_cons_succ])
  refine wpAnyH_take (i := 37) (oi := { dst := some 133, op := Go.Op.move (Go.Operand.tmp 3), type := 3, pos := "law.go:73", after := #[{ on := 34, ground := Go.Ground.guard }], guard := some (34, false) }) (v := undef) rfl (by kernel_rfl) (by kernel_rfl) (by kernel_rfl) (fun _ _ _ h => h) (Or.inr ⟨by rfl, rfl⟩) (by assumption) ?_
  (try simp only [Act.put, List.setIfInBounds_toArray, List.set_cons_zero, List.set_cons_succ])
  refine wpAnyH_take (i := 38) (oi := { dst := some 134, op := Go.Op.call { callee := Go.Callee.value (Go.Operand.func 19), args := #[Go.Operand.tmp 131, Go.Operand.tmp 132, Go.Operand.tmp 133], argTypes := #[23, 25, 3] }, type := 4, pos := "law.go:73", after := #[{ on := 35, ground := Go.Ground.data }, { on := 36, ground := Go.Ground.data }, { on := 37, ground := Go.Ground.data }, { on := 34, ground := Go.Ground.chain }, { on := 34, ground := Go.Ground.guard }], guard := some (34, false) }) (v := undef) rfl (by kernel_rfl) (by kernel_rfl) (by kernel_rfl) (fun _ _ _ h => h) (Or.inr ⟨by rfl, rfl⟩) (by assumption) ?_
  (try simp only [Act.put, List.setIfInBounds_toArray, List.set_cons_zero, List.set_cons_succ])
  refine wpAnyH_take (i := 39) (oi := { dst := some 135, op := Go.Op.load 23 (Go.Operand.tmp 4), type := 23, pos := "law.go:73", after := #[{ on := 34, ground := Go.Ground.guard }], guard := some (34, false) }) (v := undef) rfl (by kernel_rfl) (by kernel_rfl) (by kernel_rfl) (fun _ _ _ h => h) (Or.inr ⟨by rfl, rfl⟩) (by assumption) ?_
  (try simp only [Act.put, List.setIfInBounds_toArray, List.set_cons_zero, List.set_cons_succ])
  refine wpAnyH_take (i := 40) (oi := { dst := some 136, op := Go.Op.move (Go.Operand.tmp 1), type := 25, pos := "law.go:73", after := #[{ on := 34, ground := Go.Ground.guard }], guard := some (34, false) }) (v := undef) rfl (by kernel_rfl) (by kernel_rfl) (by kernel_rfl) (fun _ _ _ h => h) (Or.inr ⟨by rfl, rfl⟩) (by assumption) ?_
  (try simp only [Act.put, List.setIfInBounds_toArray, List.set_cons_zero, List.set_cons_succ])
  refine wpAnyH_take (i := 41) (oi := { dst := some 137, op := Go.Op.move (Go.Operand.tmp 3), type := 3, pos := "law.go:73", after := #[{ on := 34, ground := Go.Ground.guard }], guard := some (34, false) }) (v := undef) rfl (by kernel_rfl) (by kernel_rfl) (by kernel_rfl) (fun _ _ _ h => h) (Or.inr ⟨by rfl, rfl⟩) (by assumption) ?_
  (try simp only [Act.put, List.setIfInBounds_toArray, List.set_cons_zero, List.set_cons_succ])
  refine wpAnyH_take (i := 42) (oi := { dst := some 138, op := Go.Op.call { callee := Go.Callee.value (Go.Operand.func 19), args := #[Go.Operand.tmp 135, Go.Operand.tmp 136, Go.Operand.tmp 137], argTypes := #[23, 25, 3] }, type := 4, pos := "law.go:73", after := #[{ on := 39, ground := Go.Ground.data }, { on := 40, ground := Go.Ground.data }, { on := 41, ground := Go.Ground.data }, { on := 38, ground := Go.Ground.chain }, { on := 34, ground := Go.Ground.guard }], guard := some (34, false) }) (v := undef) rfl (by kernel_rfl) (by kernel_rfl) (by kernel_rfl) (fun _ _ _ h => h) (Or.inr ⟨by rfl, rfl⟩) (by assumption) ?_
  (try simp only [Act.put, List.setIfInBounds_toArray, List.set_cons_zero, List.set_cons_succ])
  refine wpAnyH_take (i := 43) (oi := { dst := some 139, op := Go.Op.binOp Go.BinOp.eql 4 (Go.Operand.tmp 134) (Go.Operand.tmp 138) 4, type := 4, pos := "law.go:73", after := #[{ on := 38, ground := Go.Ground.data }, { on := 42, ground := Go.Ground.data }, { on := 34, ground := Go.Ground.guard }], guard := some (34, false) }) (v := undef) rfl (by kernel_rfl) (by kernel_rfl) (by kernel_rfl) (fun _ _ _ h => h) (Or.inr ⟨by rfl, rfl⟩) (by assumption) ?_
  (try simp only [Act.put, List.setIfInBounds_toArray, List.set_cons_zero, List.set_cons_succ])
  refine wpAnyH_take (i := 44) (oi := { dst := some 140, op := Go.Op.pick (Go.Operand.tmp 130) (Go.Operand.const (Go.Value.bool true)) (Go.Operand.tmp 139), type := 4, pos := "law.go:73", after := #[{ on := 34, ground := Go.Ground.data }, { on := 43, ground := Go.Ground.data }, { on := 29, ground := Go.Ground.guard }], guard := some (29, true) }) (v := ?vzd33) rfl (by kernel_rfl) (by kernel_rfl) (by kernel_rfl) (fun _ _ _ h => h) (Or.inl ⟨by rfl, ?yzd33⟩) (by assumption) ?rzd33
  case yzd33 => (intro w hSw; (try dsimp only at hSw); go_simp; (try with_reducible rfl))
  (try simp only [Act.put, List.setIfInBounds_toArray, List.set_cons_zero, List.set_cons_succ])
  refine wpAnyH_take (i := 45) (oi := { dst := some 141, op := Go.Op.pick (Go.Operand.tmp 125) (Go.Operand.tmp 140) (Go.Operand.const (Go.Value.bool false)), type := 4, pos := "law.go:73", after := #[{ on := 29, ground := Go.Ground.data }, { on := 44, ground := Go.Ground.data }], guard := none }) (v := ?vzd34) rfl (by kernel_rfl) (by kernel_rfl) (by kernel_rfl) (fun _ _ _ h => h) (Or.inl ⟨by rfl, ?yzd34⟩) (by assumption) ?rzd34
  case yzd34 => (intro w hSw; (try dsimp only at hSw); go_simp; (try with_reducible rfl))
  (try simp only [Act.put, List.setIfInBounds_toArray, List.set_cons_zero, List.set_cons_succ])
  refine wpAnyH_take (i := 46) (oi := { dst := some 8, op := Go.Op.assign (Go.Operand.tmp 141), type := 4, pos := "law.go:73", after := #[{ on := 45, ground := Go.Ground.data }, { on := 42, ground := Go.Ground.chain }, { on := 0, ground := Go.Ground.phase }, { on := 1, ground := Go.Ground.phase }, { on := 2, ground := Go.Ground.phase }, { on := 3, ground := Go.Ground.phase }, { on := 4, ground := Go.Ground.phase }, { on := 5, ground := Go.Ground.phase }, { on := 6, ground := Go.Ground.phase }, { on := 7, ground := Go.Ground.phase }, { on := 8, ground := Go.Ground.phase }, { on := 9, ground := Go.Ground.phase }, { on := 10, ground := Go.Ground.phase }, { on := 11, ground := Go.Ground.phase }, { on := 12, ground := Go.Ground.phase }, { on := 13, ground := Go.Ground.phase }, { on := 14, ground := Go.Ground.phase }, { on := 15, ground := Go.Ground.phase }, { on := 16, ground := Go.Ground.phase }, { on := 17, ground := Go.Ground.phase }, { on := 18, ground := Go.Ground.phase }, { on := 19, ground := Go.Ground.phase }, { on := 20, ground := Go.Ground.phase }, { on := 21, ground := Go.Ground.phase }, { on := 22, ground := Go.Ground.phase }, { on := 23, ground := Go.Ground.phase }, { on := 24, ground := Go.Ground.phase }, { on := 25, ground := Go.Ground.phase }, { on := 26, ground := Go.Ground.phase }, { on := 27, ground := Go.Ground.phase }, { on := 28, ground := Go.Ground.phase }, { on := 29, ground := Go.Ground.phase }, { on := 30, ground := Go.Ground.phase }, { on := 31, ground := Go.Ground.phase }, { on := 32, ground := Go.Ground.phase }, { on := 33, ground := Go.Ground.phase }, { on := 34, ground := Go.Ground.phase }, { on := 35, ground := Go.Ground.phase }, { on := 36, ground := Go.Ground.phase }, { on := 37, ground := Go.Ground.phase }, { on := 38, ground := Go.Ground.phase }, { on := 39, ground := Go.Ground.phase }, { on := 40, ground := Go.Ground.phase }, { on := 41, ground := Go.Ground.phase }, { on := 42, ground := Go.Ground.phase }, { on := 43, ground := Go.Ground.phase }, { on := 44, ground := Go.Ground.phase }, { on := 45, ground := Go.Ground.phase }], guard := none }) (v := ?vzd35) rfl (by kernel_rfl) (by kernel_rfl) (by kernel_rfl) (fun _ _ _ h => h) (Or.inl ⟨by rfl, ?yzd35⟩) (by assumption) ?rzd35
  case yzd35 => (intro w hSw; (try dsimp only at hSw); go_simp; (try with_reducible rfl))
  (try simp only [Act.put, List.setIfInBounds_toArray, List.set_cons_zero, List.set_cons_succ])
  refine wpAnyH_done (by kernel_rfl) ?_ _
  go_wp2
  go_ret
  exact ⟨rfl, Z.out.trans (ZC.out.mono Z.out.size)⟩
set_option maxHeartbeats 2000000 in
theorem one_7n (W D J S : Int) (k : Nat) (A : Option Addr) (n c : Nat) (m : List Int) (w : World) (hm : Rd w A m) (hn : m.length = n) (hs : n ≤ 500) (hu : UM m) (hk : okw W D J S m k = true) (hb : ¬ at0 m 2 / 2 ^ k % 2 = 1) : Tells 3 #[cf W D J S, .slice A n c, .bool true, .int .i64 (k : Int)] w (.bool true) := by
  have hpk := pkI_lim hk
  have hwho := okw_who hk
  have hpo := pkI_ow hk
  have hkW := okw_iff.1 hk
  have hk16 : k < 16 := by omega
  have ho := okm_of hk
  obtain ⟨m0, hm0⟩ : ∃ m0, m0 = put m (pkI D J k) 0 := ⟨_, rfl⟩
  have k0 : okw W D J S m0 k = true := by rw [hm0]; exact okw_put hk _ _
  have n0 : m0.length = n := by rw [hm0, len_put]; exact hn
  have z0 : at0 m0 (pkI D J k) = 0 := by rw [hm0]; exact at0_put _ (by omega) hpk.2
  have um0 : UM m0 := by rw [hm0]; exact put_U hu _ U0
  have e0 : at0 m0 2 = at0 m 2 := by rw [hm0]; exact at0_put_ne _ _ (by omega)
  obtain ⟨E, hE⟩ : ∃ E, at0 m0 2 = E := ⟨_, rfl⟩
  rw [← e0, hE] at hb
  have hue : U E := by rw [← hE]; exact at0_U um0 2
  obtain ⟨l', f', i20, hres, hev, hpark⟩ := alone_20 (o := 7) (okm_of k0) (by simp)
  rw [hE] at hres hev hpark
  have hpa := hpark k k0
  rw [z0] at hpa
  have hpa2 : at0 l' (pkI D J k) = 0 := by rw [hpa, if_neg (fun h => hb h.1)]
  have hl' := noteN_len W D J S 20 (m0, fbg 7 0 0)
  have hul := noteN_U (W := W) (D := D) (J := J) (S := S) (s := (m0, fbg 7 0 0)) um0 ⟨U0, U0, U0⟩ 20
  rw [i20] at hl' hul
  have hn2 : l'.length = n := hl'.trans n0
  have k2 : okw W D J S l' k = true := by rw [okw_len (m := m0) hl']; exact k0
  have hov : (f'.res != 0) = true := by rw [hres]; split <;> rfl
  obtain ⟨M, hM⟩ : ∃ M, E % 65536 = M := ⟨_, rfl⟩
  have hMl : 0 ≤ M ∧ M < 65536 := by omega
  obtain ⟨z, hz2⟩ : ∃ z, (M == 0) = z := ⟨_, rfl⟩
  have hz1 : (f'.res == 3) = z := by rw [hres, ← hz2, hM]; by_cases h : M = 0; rw [if_pos h]; simp [h]; rw [if_neg h]; simp [h]
  have hzz : (z == z) = true := by simp
  have hp := pow_lt hk16
  obtain ⟨PP, hPP⟩ : ∃ PP : Int, 2 ^ k = PP := ⟨_, rfl⟩
  rw [hPP] at hp
  have hw0 : IntKind.u64.wrap ((2 : Int) ^ min k 64) = PP := by rw [Nat.min_eq_left (by omega), hPP, IntKind.wrap_u64]; omega
  have hpn : ¬ PP = 0 := by omega
  obtain ⟨QQ, hQQ⟩ : ∃ QQ, M / PP = QQ := ⟨_, rfl⟩
  have hQl : 0 ≤ QQ ∧ QQ ≤ M := by rw [← hQQ]; exact ⟨Int.ediv_nonneg hMl.1 (by omega), Int.ediv_le_self _ hMl.1⟩
  have hdv : M.tdiv PP = QQ := by rw [Int.tdiv_eq_ediv_of_nonneg hMl.1]; exact hQQ
  have hdw : IntKind.u64.wrap QQ = QQ := by rw [IntKind.wrap_u64]; omega
  obtain ⟨R, hR⟩ : ∃ R, QQ % 2 = R := ⟨_, rfl⟩
  have hmd : QQ.tmod 2 = R := by rw [Int.tmod_eq_emod_of_nonneg hQl.1]; exact hR
  have hmw : IntKind.u64.wrap R = R := by rw [IntKind.wrap_u64]; omega
  have hbb : (R == 1) = false := by
    have h := bit_mask E k hk16
    rw [hM, hPP, hQQ, hR] at h
    rw [h]
    simpa [hPP] using hb
  obtain ⟨Q, hQ⟩ : ∃ Q, E / 65536 = Q := ⟨_, rfl⟩
  obtain ⟨P, hP⟩ : ∃ P, at0 l' 2 / 65536 = P := ⟨_, rfl⟩
  have hq0 : 0 ≤ Q ∧ Q < 281474976710656 := by unfold U at hue; omega
  have hPQ : P = (Q + 1) % 281474976710656 := by rw [← hP, hev, nxN_epoch, hQ]
  have hw1 : IntKind.u64.wrap (Q + 1) = Q + 1 := by rw [IntKind.wrap_u64]; omega
  have hw2 : (Q + 1).tmod 281474976710656 = P := by rw [Int.tmod_eq_emod_of_nonneg (by omega)]; exact hPQ.symm
  have hw4 : IntKind.u64.wrap P = P := by rw [IntKind.wrap_u64]; omega
  have hw3 : (P == P) = true := by simp
  have hd1 : decide ((k : Int) < 0) = false := decide_eq_false (by omega)
  have hd2 : decide (W ≤ (k : Int)) = false := decide_eq_false (by omega)
  have hd3 : decide ((7 : Int) < (k : Int)) = false := decide_eq_false (by omega)
  have hwn : wts W D J S l' k = false := by rw [wts_bit k2, hev, decide_eq_false_iff_not, nx_bit _ _ k hk16 (by simp)]; rintro ⟨h, _⟩; exact absurd h (by simp)
  have LM0 := Lib.hid hm
  have HN := Lib.hid hn
  clear hm hn
  have hd : decide ((500 : Int) < (n : Int)) = false := decide_eq_false (by omega)
  have HO := Lib.hid ho
  have HS := Lib.hid hs
  have HM0 := Lib.hid hm0
  have HN0 := Lib.hid n0
  have HUM0 := Lib.hid um0
  have HE := Lib.hid hE
  have HUE := Lib.hid hue
  have HI := Lib.hid i20
  have HPA := Lib.hid hpa2
  have HN2 := Lib.hid hn2
  have HUL := Lib.hid hul
  have HOV := Lib.hid hov
  have HM := Lib.hid hM
  have HPO := Lib.hid hpo
  have HQ := Lib.hid hQ
  have HP := Lib.hid hP
  have HWN := Lib.hid hwn
  have HML := Lib.hid hMl
  clear hk hpk hwho hkW hk16 k0 z0 e0 hres hev hpark hpa hl' k2 hu hb hp hPP hQQ hQl hR hq0 hPQ ho hs hm0 n0 um0 hE hue i20 hpa2 hn2 hul hov hM hpo hQ hP hwn hMl
  go_enter Try.func3, Try.ntmps3
  go_wp2_with fail
  refine (awake_any _).mono ?_
  rintro _ w1 ⟨rfl, z⟩
  have BX := Lib.hid ((Bx.mk w W D J S 23).below z)
  replace z := (box_below w _).trans (z.mono (by simp))
  have Z := Lib.hid z
  have LM := Lib.hid (LM0.out.below z)
  clear z LM0
  obtain ⟨gx, x_0, x_1, x_2, x_3⟩ := BX.out
  go_wp2_with fail
  refine (begin_any 7 0 0 _).mono ?_
  rintro _ w2 ⟨rfl, z⟩
  clear gx x_0 x_1 x_2 x_3
  replace Z := Lib.hid (Z.out.trans (z.mono Z.out.size))
  replace BX := Lib.hid (BX.out.below z)
  replace LM := Lib.hid (LM.out.below z)
  clear z
  obtain ⟨gx, x_0, x_1, x_2, x_3⟩ := BX.out
  go_wp2_with fail
  refine (Tells.of (ngoes_any W D J S A n c m (fbg 7 0 0) _ HN.out) (v' := .bool true) (by rw [goesN_begun (by simp), HO.out])).mono ?_
  rintro _ w3 ⟨rfl, z⟩
  clear gx x_0 x_1 x_2 x_3
  have BF := Lib.hid ((Bf.new w2 (fbg 7 0 0)).after z)
  replace z := keep_call z (bel_alloc w2 _)
  replace Z := Lib.hid (Z.out.trans (z.mono Z.out.size))
  replace BX := Lib.hid (BX.out.below z)
  replace LM := Lib.hid (LM.out.below z)
  clear z
  obtain ⟨gx, x_0, x_1, x_2, x_3⟩ := BX.out
  go_wp2_with fail
  refine (Tells.of (park_any W D J S k _) (v' := .int .i64 (pkI D J k)) (by rw [HPO.out])).mono ?_
  rintro _ w4 ⟨rfl, z⟩
  clear gx x_0 x_1 x_2 x_3
  replace Z := Lib.hid (Z.out.trans (z.mono Z.out.size))
  replace BX := Lib.hid (BX.out.below z)
  replace LM := Lib.hid (LM.out.below z)
  replace BF := Lib.hid (BF.out.after z)
  clear z
  go_wp2_with fail
  refine (store_new A n c m (pkI D J k) 0 _ LM.out HN.out HS.out).mono ?_
  rintro _ w5 ⟨g5, rfl, hg5, hb5, z⟩
  replace Z := Lib.hid (Z.out.trans (z.mono Z.out.size))
  replace BX := Lib.hid (BX.out.below z)
  replace LM := Lib.hid (LM.out.below z)
  replace BF := Lib.hid (BF.out.after z)
  have L0 := Lib.hid (show Rd w5 (some ⟨g5, 0, none⟩) m0 by rw [HM0.out]; exact hb5.rd)
  clear hg5 hb5 z LM
  go_wp2_with fail
  refine (ret_of (load_any (some ⟨g5, 0, none⟩) n n m0 2 _ L0.out HN0.out HS.out) (v' := .int .u64 E) (by rw [HE.out])).mono ?_
  rintro _ w6 ⟨rfl, z⟩
  replace Z := Lib.hid (Z.out.trans (z.mono Z.out.size))
  replace BX := Lib.hid (BX.out.below z)
  replace BF := Lib.hid (BF.out.after z)
  replace L0 := Lib.hid (L0.out.below z)
  clear z
  go_wp2_with fail
  refine (Tells.of (mask_any E _ HUE.out).tells (v' := .int .u64 M) (by rw [HM.out])).mono ?_
  rintro _ w7 ⟨rfl, z⟩
  replace Z := Lib.hid (Z.out.trans (z.mono Z.out.size))
  replace BX := Lib.hid (BX.out.below z)
  replace BF := Lib.hid (BF.out.after z)
  replace L0 := Lib.hid (L0.out.below z)
  clear z
  obtain ⟨gx, x_0, x_1, x_2, x_3⟩ := BX.out
  obtain ⟨a0, a1, a2, a3, a4, a5, a6⟩ := BF.out.cells
  have la := BF.out.lt
  simp only [fbg] at a0 a1 a2 a3 a4 a5 a6
  go_wp2_with fail
  refine (alone_n (f := fbg 7 0 0) L0.out HN0.out HS.out HUM0.out ⟨U0, U0, U0⟩ HI.out).mono ?_
  rintro _ w8 ⟨A8, c8, rfl, hn8, z⟩
  clear gx x_0 x_1 x_2 x_3 a0 a1 a2 a3 a4 a5 a6 la
  replace Z := Lib.hid (Z.out.trans (z.mono Z.out.size))
  replace BX := Lib.hid (BX.out.below z)
  replace BF := Lib.hid (BF.out.after z)
  replace L0 := Lib.hid (L0.out.below z)
  have LB := Lib.hid hn8.rd
  clear hn8 z BF
  obtain ⟨gx, x_0, x_1, x_2, x_3⟩ := BX.out
  go_wp2_with fail
  refine (Tells.of (park_any W D J S k _) (v' := .int .i64 (pkI D J k)) (by rw [HPO.out])).mono ?_
  rintro _ w9 ⟨rfl, z⟩
  clear gx x_0 x_1 x_2 x_3
  have BG := Lib.hid ((Bf.new w8 f').after z)
  replace z := keep_call z (bel_alloc w8 _)
  replace Z := Lib.hid (Z.out.trans (z.mono Z.out.size))
  replace BX := Lib.hid (BX.out.below z)
  replace L0 := Lib.hid (L0.out.below z)
  replace LB := Lib.hid (LB.out.below z)
  clear z
  go_wp2_with fail
  refine (ret_of (load_any A8 n c8 l' (pkI D J k) _ LB.out HN2.out HS.out) (v' := .int .u64 0) (by rw [HPA.out])).mono ?_
  rintro _ w10 ⟨rfl, z⟩
  replace Z := Lib.hid (Z.out.trans (z.mono Z.out.size))
  replace BX := Lib.hid (BX.out.below z)
  replace L0 := Lib.hid (L0.out.below z)
  replace LB := Lib.hid (LB.out.below z)
  replace BG := Lib.hid (BG.out.after z)
  clear z
  go_wp2_with fail
  refine (load_any A8 n c8 l' 2 _ LB.out HN2.out HS.out).mono ?_
  rintro _ w11 ⟨rfl, z⟩
  replace Z := Lib.hid (Z.out.trans (z.mono Z.out.size))
  replace BX := Lib.hid (BX.out.below z)
  replace L0 := Lib.hid (L0.out.below z)
  replace LB := Lib.hid (LB.out.below z)
  replace BG := Lib.hid (BG.out.after z)
  clear z
  go_wp2_with fail
  refine (Tells.of (epoch_any (at0 l' 2) _).tells (v' := .int .u64 P) (by rw [HP.out])).mono ?_
  rintro _ w12 ⟨rfl, z⟩
  replace Z := Lib.hid (Z.out.trans (z.mono Z.out.size))
  replace BX := Lib.hid (BX.out.below z)
  replace L0 := Lib.hid (L0.out.below z)
  replace LB := Lib.hid (LB.out.below z)
  replace BG := Lib.hid (BG.out.after z)
  clear z
  go_wp2_with fail
  refine (ret_of (load_any (some ⟨g5, 0, none⟩) n n m0 2 _ L0.out HN0.out HS.out) (v' := .int .u64 E) (by rw [HE.out])).mono ?_
  rintro _ w13 ⟨rfl, z⟩
  replace Z := Lib.hid (Z.out.trans (z.mono Z.out.size))
  replace BX := Lib.hid (BX.out.below z)
  replace L0 := Lib.hid (L0.out.below z)
  replace LB := Lib.hid (LB.out.below z)
  replace BG := Lib.hid (BG.out.after z)
  clear z
  go_wp2_with fail
  refine (Tells.of (epoch_any E _).tells (v' := .int .u64 Q) (by rw [HQ.out])).mono ?_
  rintro _ w14 ⟨rfl, z⟩
  replace Z := Lib.hid (Z.out.trans (z.mono Z.out.size))
  replace BX := Lib.hid (BX.out.below z)
  replace L0 := Lib.hid (L0.out.below z)
  replace LB := Lib.hid (LB.out.below z)
  replace BG := Lib.hid (BG.out.after z)
  clear z
  go_upto_region 14 with fail
  clear hd1 hd2 hd3 hw1 hw2 hw4 hd hw0 hpn hdv hdw hmd hmw hbb
  have HK := Lib.hid (show ∀ x', Below w14.heap.size w14 x' → (fun w' => w'.cell? ⟨w.heap.size, 0, none⟩ = some (.int .i64 W) ∧ w'.cell? ⟨w.heap.size, 1, none⟩ = some (.int .i64 D) ∧ w'.cell? ⟨w.heap.size, 2, none⟩ = some (.int .i64 J) ∧ w'.cell? ⟨w.heap.size, 3, none⟩ = some (.int .i64 S) ∧ w'.cell? ⟨w8.heap.size, 0, none⟩ = some (.int .i64 f'.op) ∧ w'.cell? ⟨w8.heap.size, 1, none⟩ = some (.int .i64 f'.pc) ∧ w'.cell? ⟨w8.heap.size, 2, none⟩ = some (.int .i64 f'.who) ∧ w'.cell? ⟨w8.heap.size, 3, none⟩ = some (.int .u64 f'.val) ∧ w'.cell? ⟨w8.heap.size, 4, none⟩ = some (.int .u64 f'.x) ∧ w'.cell? ⟨w8.heap.size, 5, none⟩ = some (.int .u64 f'.y) ∧ w'.cell? ⟨w8.heap.size, 6, none⟩ = some (.int .i64 f'.res) ∧ Below w14.heap.size w14 w') x' from fun x' hx => by
    obtain ⟨_, e0, e1, e2, e3⟩ := BX.out.below hx
    obtain ⟨d0, d1, d2, d3, d4, d5, d6⟩ := (BG.out.after hx).cells
    exact ⟨e0, e1, e2, e3, d0, d1, d2, d3, d4, d5, d6, hx⟩)
  have hHeld0 := HK.out _ (Below.refl _ _)
  have ZC := Lib.hid (Below.refl w14.heap.size w14).drew
  refine wp_region_held_drew (S := fun w' => w'.cell? ⟨w.heap.size, 0, none⟩ = some (.int .i64 W) ∧ w'.cell? ⟨w.heap.size, 1, none⟩ = some (.int .i64 D) ∧ w'.cell? ⟨w.heap.size, 2, none⟩ = some (.int .i64 J) ∧ w'.cell? ⟨w.heap.size, 3, none⟩ = some (.int .i64 S) ∧ w'.cell? ⟨w8.heap.size, 0, none⟩ = some (.int .i64 f'.op) ∧ w'.cell? ⟨w8.heap.size, 1, none⟩ = some (.int .i64 f'.pc) ∧ w'.cell? ⟨w8.heap.size, 2, none⟩ = some (.int .i64 f'.who) ∧ w'.cell? ⟨w8.heap.size, 3, none⟩ = some (.int .u64 f'.val) ∧ w'.cell? ⟨w8.heap.size, 4, none⟩ = some (.int .u64 f'.x) ∧ w'.cell? ⟨w8.heap.size, 5, none⟩ = some (.int .u64 f'.y) ∧ w'.cell? ⟨w8.heap.size, 6, none⟩ = some (.int .i64 f'.res) ∧ Below w14.heap.size w14 w') (by kernel_rfl) (hd_drew HK.out (fun _ h => h.2.2.2.2.2.2.2.2.2.2.2) hHeld0) (fun hHeld => ?_)
  refine wpAnyH_take (i := 0) (oi := { dst := some 96, op := Go.Op.move (Go.Operand.tmp 17), type := 4, pos := "law.go:73", after := #[], guard := none }) (v := ?vze1) rfl (by kernel_rfl) (by kernel_rfl) (by kernel_rfl) (fun _ _ _ h => h) (Or.inl ⟨by rfl, ?yze1⟩) (by assumption) ?rze1
  case yze1 => (intro w hSw; (try dsimp only at hSw); go_simp; (try with_reducible rfl))
  (try simp only [Act.put, List.setIfInBounds_toArray, List.set_cons_zero, List.set_cons_succ])
  refine wpAnyH_take (i := 1) (oi := { dst := some 97, op := Go.Op.move (Go.Operand.tmp 96), type := 4, pos := "law.go:73", after := #[{ on := 0, ground := Go.Ground.data }], guard := none }) (v := ?vze2) rfl (by kernel_rfl) (by kernel_rfl) (by kernel_rfl) (fun _ _ _ h => h) (Or.inl ⟨by rfl, ?yze2⟩) (by assumption) ?rze2
  case yze2 => (intro w hSw; (try dsimp only at hSw); go_simp; (try with_reducible rfl))
  (try simp only [Act.put, List.setIfInBounds_toArray, List.set_cons_zero, List.set_cons_succ])
  refine wpAnyH_take (i := 2) (oi := { dst := some 98, op := Go.Op.move (Go.Operand.tmp 15), type := 4, pos := "law.go:73", after := #[{ on := 1, ground := Go.Ground.guard }], guard := some (1, true) }) (v := ?vze3) rfl (by kernel_rfl) (by kernel_rfl) (by kernel_rfl) (fun _ _ _ h => h) (Or.inl ⟨by rfl, ?yze3⟩) (by assumption) ?rze3
  case yze3 => (intro w hSw; (try dsimp only at hSw); go_simp; (try with_reducible rfl))
  (try simp only [Act.put, List.setIfInBounds_toArray, List.set_cons_zero, List.set_cons_succ])
  refine wpAnyH_take (i := 3) (oi := { dst := some 99, op := Go.Op.move (Go.Operand.tmp 16), type := 4, pos := "law.go:73", after := #[{ on := 1, ground := Go.Ground.guard }], guard := some (1, true) }) (v := ?vze4) rfl (by kernel_rfl) (by kernel_rfl) (by kernel_rfl) (fun _ _ _ h => h) (Or.inl ⟨by rfl, ?yze4⟩) (by assumption) ?rze4
  case yze4 => (intro w hSw; (try dsimp only at hSw); go_simp; (try with_reducible rfl))
  (try simp only [Act.put, List.setIfInBounds_toArray, List.set_cons_zero, List.set_cons_succ])
  refine wpAnyH_take (i := 4) (oi := { dst := some 100, op := Go.Op.binOp Go.BinOp.eql 4 (Go.Operand.tmp 98) (Go.Operand.tmp 99) 4, type := 4, pos := "law.go:73", after := #[{ on := 2, ground := Go.Ground.data }, { on := 3, ground := Go.Ground.data }, { on := 1, ground := Go.Ground.guard }], guard := some (1, true) }) (v := ?vze5) rfl (by kernel_rfl) (by kernel_rfl) (by kernel_rfl) (fun _ _ _ h => h) (Or.inl ⟨by rfl, ?yze5⟩) (by assumption) ?rze5
  case yze5 => (intro w hSw; (try dsimp only at hSw); go_simp; (try with_reducible rfl))
  (try simp only [Act.put, List.setIfInBounds_toArray, List.set_cons_zero, List.set_cons_succ])
  refine wpAnyH_take (i := 5) (oi := { dst := some 101, op := Go.Op.pick (Go.Operand.tmp 97) (Go.Operand.tmp 100) (Go.Operand.const (Go.Value.bool false)), type := 4, pos := "law.go:73", after := #[{ on := 1, ground := Go.Ground.data }, { on := 4, ground := Go.Ground.data }], guard := none }) (v := ?vze6) rfl (by kernel_rfl) (by kernel_rfl) (by kernel_rfl) (fun _ _ _ h => h) (Or.inl ⟨by rfl, ?yze6⟩) (by assumption) ?rze6
  case yze6 => (intro w hSw; (try dsimp only at hSw); go_simp; (try with_reducible rfl))
  (try simp only [Act.put, List.setIfInBounds_toArray, List.set_cons_zero, List.set_cons_succ])
  refine wpAnyH_take (i := 6) (oi := { dst := some 102, op := Go.Op.move (Go.Operand.tmp 101), type := 4, pos := "law.go:73", after := #[{ on := 5, ground := Go.Ground.data }, { on := 1, ground := Go.Ground.chain }], guard := none }) (v := ?vze7) rfl (by kernel_rfl) (by kernel_rfl) (by kernel_rfl) (fun _ _ _ h => h) (Or.inl ⟨by rfl, ?yze7⟩) (by assumption) ?rze7
  case yze7 => (intro w hSw; (try dsimp only at hSw); go_simp; (try with_reducible rfl))
  (try simp only [Act.put, List.setIfInBounds_toArray, List.set_cons_zero, List.set_cons_succ])
  refine wpAnyH_take (i := 7) (oi := { dst := some 103, op := Go.Op.fieldAddr 29 (Go.Operand.tmp 14) 6, type := 0, pos := "law.go:73", after := #[{ on := 6, ground := Go.Ground.guard }], guard := some (6, true) }) (v := ?vze8) rfl (by kernel_rfl) (by kernel_rfl) (by kernel_rfl) (fun _ _ _ h => h) (Or.inl ⟨by rfl, ?yze8⟩) (by assumption) ?rze8
  case yze8 => (intro w hSw; (try dsimp only at hSw); go_simp; (try with_reducible rfl))
  (try simp only [Act.put, List.setIfInBounds_toArray, List.set_cons_zero, List.set_cons_succ])
  refine wpAnyH_take (i := 8) (oi := { dst := some 104, op := Go.Op.load 3 (Go.Operand.tmp 103), type := 3, pos := "law.go:73", after := #[{ on := 7, ground := Go.Ground.data }, { on := 6, ground := Go.Ground.guard }], guard := some (6, true) }) (v := ?vze9) rfl (by kernel_rfl) (by kernel_rfl) (by kernel_rfl) (fun _ _ _ h => h) (Or.inl ⟨by rfl, ?yze9⟩) (by assumption) ?rze9
  case yze9 => (intro w hSw; (try dsimp only at hSw); go_simp; (try with_reducible rfl))
  (try simp only [Act.put, List.setIfInBounds_toArray, List.set_cons_zero, List.set_cons_succ])
  refine wpAnyH_take (i := 9) (oi := { dst := some 105, op := Go.Op.binOp Go.BinOp.eql 3 (Go.Operand.tmp 104) (Go.Operand.const (Go.Value.int Go.IntKind.i64 3)) 3, type := 4, pos := "law.go:73", after := #[{ on := 8, ground := Go.Ground.data }, { on := 6, ground := Go.Ground.guard }], guard := some (6, true) }) (v := ?vze10) rfl (by kernel_rfl) (by kernel_rfl) (by kernel_rfl) (fun _ _ _ h => h) (Or.inl ⟨by rfl, ?yze10⟩) (by assumption) ?rze10
  case yze10 => (intro w hSw; (try dsimp only at hSw); go_simp; (try with_reducible rfl))
  (try simp only [Act.put, List.setIfInBounds_toArray, List.set_cons_zero, List.set_cons_succ])
  refine wpAnyH_take (i := 10) (oi := { dst := some 106, op := Go.Op.move (Go.Operand.tmp 12), type := 27, pos := "law.go:73", after := #[{ on := 6, ground := Go.Ground.guard }], guard := some (6, true) }) (v := ?vze11) rfl (by kernel_rfl) (by kernel_rfl) (by kernel_rfl) (fun _ _ _ h => h) (Or.inl ⟨by rfl, ?yze11⟩) (by assumption) ?rze11
  case yze11 => (intro w hSw; (try dsimp only at hSw); go_simp; (try with_reducible rfl))
  (try simp only [Act.put, List.setIfInBounds_toArray, List.set_cons_zero, List.set_cons_succ])
  refine wpAnyH_take (i := 11) (oi := { dst := some 107, op := Go.Op.binOp Go.BinOp.eql 27 (Go.Operand.tmp 106) (Go.Operand.const (Go.Value.int Go.IntKind.u64 0)) 27, type := 4, pos := "law.go:73", after := #[{ on := 10, ground := Go.Ground.data }, { on := 6, ground := Go.Ground.guard }], guard := some (6, true) }) (v := ?vze12) rfl (by kernel_rfl) (by kernel_rfl) (by kernel_rfl) (fun _ _ _ h => h) (Or.inl ⟨by rfl, ?yze12⟩) (by assumption) ?rze12
  case yze12 => (intro w hSw; (try dsimp only at hSw); go_simp; (try with_reducible rfl))
  (try simp only [Act.put, List.setIfInBounds_toArray, List.set_cons_zero, List.set_cons_succ])
  refine wpAnyH_take (i := 12) (oi := { dst := some 108, op := Go.Op.binOp Go.BinOp.eql 4 (Go.Operand.tmp 105) (Go.Operand.tmp 107) 4, type := 4, pos := "law.go:73", after := #[{ on := 9, ground := Go.Ground.data }, { on := 11, ground := Go.Ground.data }, { on := 6, ground := Go.Ground.guard }], guard := some (6, true) }) (v := ?vze13) rfl (by kernel_rfl) (by kernel_rfl) (by kernel_rfl) (fun _ _ _ h => h) (Or.inl ⟨by rfl, ?yze13⟩) (by assumption) ?rze13
  case yze13 => (intro w hSw; (try dsimp only at hSw); go_simp; (try with_reducible rfl))
  (try simp only [Act.put, List.setIfInBounds_toArray, List.set_cons_zero, List.set_cons_succ])
  refine wpAnyH_take (i := 13) (oi := { dst := some 109, op := Go.Op.pick (Go.Operand.tmp 102) (Go.Operand.tmp 108) (Go.Operand.const (Go.Value.bool false)), type := 4, pos := "law.go:73", after := #[{ on := 6, ground := Go.Ground.data }, { on := 12, ground := Go.Ground.data }], guard := none }) (v := ?vze14) rfl (by kernel_rfl) (by kernel_rfl) (by kernel_rfl) (fun _ _ _ h => h) (Or.inl ⟨by rfl, ?yze14⟩) (by assumption) ?rze14
  case yze14 => (intro w hSw; (try dsimp only at hSw); go_simp; (try with_reducible rfl))
  (try simp only [Act.put, List.setIfInBounds_toArray, List.set_cons_zero, List.set_cons_succ])
  refine wpAnyH_take (i := 14) (oi := { dst := some 110, op := Go.Op.move (Go.Operand.tmp 109), type := 4, pos := "law.go:73", after := #[{ on := 13, ground := Go.Ground.data }, { on := 6, ground := Go.Ground.chain }], guard := none }) (v := ?vze15) rfl (by kernel_rfl) (by kernel_rfl) (by kernel_rfl) (fun _ _ _ h => h) (Or.inl ⟨by rfl, ?yze15⟩) (by assumption) ?rze15
  case yze15 => (intro w hSw; (try dsimp only at hSw); go_simp; (try with_reducible rfl))
  (try simp only [Act.put, List.setIfInBounds_toArray, List.set_cons_zero, List.set_cons_succ])
  refine wpAnyH_take (i := 15) (oi := { dst := some 111, op := Go.Op.load 29 (Go.Operand.tmp 14), type := 29, pos := "law.go:73", after := #[{ on := 14, ground := Go.Ground.guard }], guard := some (14, true) }) (v := ?vze16) rfl (by kernel_rfl) (by kernel_rfl) (by kernel_rfl) (fun _ _ _ h => h) (Or.inl ⟨by rfl, ?yze16⟩) (by assumption) ?rze16
  case yze16 => (intro w hSw; (try dsimp only at hSw); go_simp; (try with_reducible rfl))
  (try simp only [Act.put, List.setIfInBounds_toArray, List.set_cons_zero, List.set_cons_succ])
  refine wpAnyH_ready (rs := [16]) (by kernel_rfl) (by simp) ?_
  refine (AllReadyH.cons (o := { dst := some 112, op := Go.Op.call { callee := Go.Callee.value (Go.Operand.func 18), args := #[Go.Operand.tmp 111], argTypes := #[29] }, type := 4, pos := "law.go:73", after := #[{ on := 15, ground := Go.Ground.data }, { on := 14, ground := Go.Ground.chain }, { on := 14, ground := Go.Ground.guard }], guard := some (14, true) }) rfl (fun K hK => ?_) AllReadyH.nil)
  go_simp
  refine (Tells.of (over_any f' _) (v' := .bool true) (by rw [HOV.out])).mono ?_
  rintro e wz ⟨rfl, zb⟩
  go_wp2_with fail
  replace ZC := Lib.hid (keep_call (w2 := w14) zb ZC.out)
  clear zb
  refine hK.out _ _ (HK.out _ ZC.out) (fun hHeld2 => ?_)
  clear hK K hHeld
  have hHeld := hHeld2
  clear hHeld2
  (try simp only [Act.put, List.setIfInBounds_toArray, List.set_cons_zero, List.set_cons_succ])
  refine wpAnyH_take (i := 17) (oi := { dst := some 113, op := Go.Op.pick (Go.Operand.tmp 110) (Go.Operand.tmp 112) (Go.Operand.const (Go.Value.bool false)), type := 4, pos := "law.go:73", after := #[{ on := 14, ground := Go.Ground.data }, { on := 16, ground := Go.Ground.data }], guard := none }) (v := ?vze17) rfl (by kernel_rfl) (by kernel_rfl) (by kernel_rfl) (fun _ _ _ h => h) (Or.inl ⟨by rfl, ?yze17⟩) (by assumption) ?rze17
  case yze17 => (intro w hSw; (try dsimp only at hSw); go_simp; (try with_reducible rfl))
  (try simp only [Act.put, List.setIfInBounds_toArray, List.set_cons_zero, List.set_cons_succ])
  refine wpAnyH_take (i := 18) (oi := { dst := some 114, op := Go.Op.move (Go.Operand.tmp 113), type := 4, pos := "law.go:73", after := #[{ on := 17, ground := Go.Ground.data }, { on := 16, ground := Go.Ground.chain }], guard := none }) (v := ?vze18) rfl (by kernel_rfl) (by kernel_rfl) (by kernel_rfl) (fun _ _ _ h => h) (Or.inl ⟨by rfl, ?yze18⟩) (by assumption) ?rze18
  case yze18 => (intro w hSw; (try dsimp only at hSw); go_simp; (try with_reducible rfl))
  (try simp only [Act.put, List.setIfInBounds_toArray, List.set_cons_zero, List.set_cons_succ])
  refine wpAnyH_take (i := 19) (oi := { dst := some 115, op := Go.Op.move (Go.Operand.tmp 16), type := 4, pos := "law.go:73", after := #[{ on := 18, ground := Go.Ground.guard }], guard := some (18, true) }) (v := ?vze19) rfl (by kernel_rfl) (by kernel_rfl) (by kernel_rfl) (fun _ _ _ h => h) (Or.inl ⟨by rfl, ?yze19⟩) (by assumption) ?rze19
  case yze19 => (intro w hSw; (try dsimp only at hSw); go_simp; (try with_reducible rfl))
  (try simp only [Act.put, List.setIfInBounds_toArray, List.set_cons_zero, List.set_cons_succ])
  refine wpAnyH_take (i := 20) (oi := { dst := some 116, op := Go.Op.unOp Go.UnOp.not 4 (Go.Operand.tmp 115), type := 4, pos := "law.go:73", after := #[{ on := 19, ground := Go.Ground.data }, { on := 18, ground := Go.Ground.guard }], guard := some (18, true) }) (v := ?vze20) rfl (by kernel_rfl) (by kernel_rfl) (by kernel_rfl) (fun _ _ _ h => h) (Or.inl ⟨by rfl, ?yze20⟩) (by assumption) ?rze20
  case yze20 => (intro w hSw; (try dsimp only at hSw); go_simp; (try with_reducible rfl))
  (try simp only [Act.put, List.setIfInBounds_toArray, List.set_cons_zero, List.set_cons_succ])
  refine wpAnyH_take (i := 21) (oi := { dst := some 117, op := Go.Op.move (Go.Operand.tmp 116), type := 4, pos := "law.go:73", after := #[{ on := 20, ground := Go.Ground.data }, { on := 18, ground := Go.Ground.chain }, { on := 18, ground := Go.Ground.guard }], guard := some (18, true) }) (v := ?vze21) rfl (by kernel_rfl) (by kernel_rfl) (by kernel_rfl) (fun _ _ _ h => h) (Or.inl ⟨by rfl, ?yze21⟩) (by assumption) ?rze21
  case yze21 => (intro w hSw; (try dsimp only at hSw); go_simp; (try with_reducible rfl))
  (try simp only [Act.put, List.setIfInBounds_toArray, List.set_cons_zero, List.set_cons_succ])
  refine wpAnyH_take (i := 22) (oi := { dst := some 118, op := Go.Op.load 23 (Go.Operand.tmp 4), type := 23, pos := "law.go:73", after := #[{ on := 21, ground := Go.Ground.guard }], guard := some (21, false) }) (v := undef) rfl (by kernel_rfl) (by kernel_rfl) (by kernel_rfl) (fun _ _ _ h => h) (Or.inr ⟨by rfl, rfl⟩) (by assumption) ?_
  (try simp only [Act.put, List.setIfInBounds_toArray, List.set_cons_zero, List.set_cons_succ])
  refine wpAnyH_take (i := 23) (oi := { dst := some 119, op := Go.Op.move (Go.Operand.tmp 13), type := 25, pos := "law.go:73", after := #[{ on := 21, ground := Go.Ground.guard }], guard := some (21, false) }) (v := undef) rfl (by kernel_rfl) (by kernel_rfl) (by kernel_rfl) (fun _ _ _ h => h) (Or.inr ⟨by rfl, rfl⟩) (by assumption) ?_
  (try simp only [Act.put, List.setIfInBounds_toArray, List.set_cons_zero, List.set_cons_succ])
  refine wpAnyH_take (i := 24) (oi := { dst := some 120, op := Go.Op.move (Go.Operand.tmp 3), type := 3, pos := "law.go:73", after := #[{ on := 21, ground := Go.Ground.guard }], guard := some (21, false) }) (v := undef) rfl (by kernel_rfl) (by kernel_rfl) (by kernel_rfl) (fun _ _ _ h => h) (Or.inr ⟨by rfl, rfl⟩) (by assumption) ?_
  (try simp only [Act.put, List.setIfInBounds_toArray, List.set_cons_zero, List.set_cons_succ])
  refine wpAnyH_take (i := 25) (oi := { dst := some 121, op := Go.Op.call { callee := Go.Callee.value (Go.Operand.func 19), args := #[Go.Operand.tmp 118, Go.Operand.tmp 119, Go.Operand.tmp 120], argTypes := #[23, 25, 3] }, type := 4, pos := "law.go:73", after := #[{ on := 22, ground := Go.Ground.data }, { on := 23, ground := Go.Ground.data }, { on := 24, ground := Go.Ground.data }, { on := 21, ground := Go.Ground.chain }, { on := 21, ground := Go.Ground.guard }], guard := some (21, false) }) (v := undef) rfl (by kernel_rfl) (by kernel_rfl) (by kernel_rfl) (fun _ _ _ h => h) (Or.inr ⟨by rfl, rfl⟩) (by assumption) ?_
  (try simp only [Act.put, List.setIfInBounds_toArray, List.set_cons_zero, List.set_cons_succ])
  refine wpAnyH_take (i := 26) (oi := { dst := some 122, op := Go.Op.unOp Go.UnOp.not 4 (Go.Operand.tmp 121), type := 4, pos := "law.go:73", after := #[{ on := 25, ground := Go.Ground.data }, { on := 21, ground := Go.Ground.guard }], guard := some (21, false) }) (v := undef) rfl (by kernel_rfl) (by kernel_rfl) (by kernel_rfl) (fun _ _ _ h => h) (Or.inr ⟨by rfl, rfl⟩) (by assumption) ?_
  (try simp only [Act.put, List.setIfInBounds_toArray, List.set_cons_zero, List.set_cons_succ])
  refine wpAnyH_take (i := 27) (oi := { dst := some 123, op := Go.Op.pick (Go.Operand.tmp 117) (Go.Operand.const (Go.Value.bool true)) (Go.Operand.tmp 122), type := 4, pos := "law.go:73", after := #[{ on := 21, ground := Go.Ground.data }, { on := 26, ground := Go.Ground.data }, { on := 18, ground := Go.Ground.guard }], guard := some (18, true) }) (v := ?vze22) rfl (by kernel_rfl) (by kernel_rfl) (by kernel_rfl) (fun _ _ _ h => h) (Or.inl ⟨by rfl, ?yze22⟩) (by assumption) ?rze22
  case yze22 => (intro w hSw; (try dsimp only at hSw); go_simp; (try with_reducible rfl))
  (try simp only [Act.put, List.setIfInBounds_toArray, List.set_cons_zero, List.set_cons_succ])
  refine wpAnyH_take (i := 28) (oi := { dst := some 124, op := Go.Op.pick (Go.Operand.tmp 114) (Go.Operand.tmp 123) (Go.Operand.const (Go.Value.bool false)), type := 4, pos := "law.go:73", after := #[{ on := 18, ground := Go.Ground.data }, { on := 27, ground := Go.Ground.data }], guard := none }) (v := ?vze23) rfl (by kernel_rfl) (by kernel_rfl) (by kernel_rfl) (fun _ _ _ h => h) (Or.inl ⟨by rfl, ?yze23⟩) (by assumption) ?rze23
  case yze23 => (intro w hSw; (try dsimp only at hSw); go_simp; (try with_reducible rfl))
  (try simp only [Act.put, List.setIfInBounds_toArray, List.set_cons_zero, List.set_cons_succ])
  refine wpAnyH_take (i := 29) (oi := { dst := some 125, op := Go.Op.move (Go.Operand.tmp 124), type := 4, pos := "law.go:73", after := #[{ on := 28, ground := Go.Ground.data }, { on := 25, ground := Go.Ground.chain }], guard := none }) (v := ?vze24) rfl (by kernel_rfl) (by kernel_rfl) (by kernel_rfl) (fun _ _ _ h => h) (Or.inl ⟨by rfl, ?yze24⟩) (by assumption) ?rze24
  case yze24 => (intro w hSw; (try dsimp only at hSw); go_simp; (try with_reducible rfl))
  (try simp only [Act.put, List.setIfInBounds_toArray, List.set_cons_zero, List.set_cons_succ])
  refine wpAnyH_take (i := 30) (oi := { dst := some 126, op := Go.Op.move (Go.Operand.tmp 2), type := 4, pos := "law.go:73", after := #[{ on := 29, ground := Go.Ground.guard }], guard := some (29, true) }) (v := ?vze25) rfl (by kernel_rfl) (by kernel_rfl) (by kernel_rfl) (fun _ _ _ h => h) (Or.inl ⟨by rfl, ?yze25⟩) (by assumption) ?rze25
  case yze25 => (intro w hSw; (try dsimp only at hSw); go_simp; (try with_reducible rfl))
  (try simp only [Act.put, List.setIfInBounds_toArray, List.set_cons_zero, List.set_cons_succ])
  refine wpAnyH_take (i := 31) (oi := { dst := some 127, op := Go.Op.move (Go.Operand.tmp 126), type := 4, pos := "law.go:73", after := #[{ on := 30, ground := Go.Ground.data }, { on := 29, ground := Go.Ground.chain }, { on := 29, ground := Go.Ground.guard }], guard := some (29, true) }) (v := ?vze26) rfl (by kernel_rfl) (by kernel_rfl) (by kernel_rfl) (fun _ _ _ h => h) (Or.inl ⟨by rfl, ?yze26⟩) (by assumption) ?rze26
  case yze26 => (intro w hSw; (try dsimp only at hSw); go_simp; (try with_reducible rfl))
  (try simp only [Act.put, List.setIfInBounds_toArray, List.set_cons_zero, List.set_cons_succ])
  refine wpAnyH_take (i := 32) (oi := { dst := some 128, op := Go.Op.move (Go.Operand.tmp 16), type := 4, pos := "law.go:73", after := #[{ on := 31, ground := Go.Ground.guard }], guard := some (31, false) }) (v := undef) rfl (by kernel_rfl) (by kernel_rfl) (by kernel_rfl) (fun _ _ _ h => h) (Or.inr ⟨by rfl, rfl⟩) (by assumption) ?_
  (try simp only [Act.put, List.setIfInBounds_toArray, List.set_cons_zero, List.set_cons_succ])
  refine wpAnyH_take (i := 33) (oi := { dst := some 129, op := Go.Op.pick (Go.Operand.tmp 127) (Go.Operand.const (Go.Value.bool true)) (Go.Operand.tmp 128), type := 4, pos := "law.go:73", after := #[{ on := 31, ground := Go.Ground.data }, { on := 32, ground := Go.Ground.data }, { on := 29, ground := Go.Ground.guard }], guard := some (29, true) }) (v := ?vze27) rfl (by kernel_rfl) (by kernel_rfl) (by kernel_rfl) (fun _ _ _ h => h) (Or.inl ⟨by rfl, ?yze27⟩) (by assumption) ?rze27
  case yze27 => (intro w hSw; (try dsimp only at hSw); go_simp; (try with_reducible rfl))
  (try simp only [Act.put, List.setIfInBounds_toArray, List.set_cons_zero, List.set_cons_succ])
  refine wpAnyH_take (i := 34) (oi := { dst := some 130, op := Go.Op.move (Go.Operand.tmp 129), type := 4, pos := "law.go:73", after := #[{ on := 33, ground := Go.Ground.data }, { on := 31, ground := Go.Ground.chain }, { on := 29, ground := Go.Ground.guard }], guard := some (29, true) }) (v := ?vze28) rfl (by kernel_rfl) (by kernel_rfl) (by kernel_rfl) (fun _ _ _ h => h) (Or.inl ⟨by rfl, ?yze28⟩) (by assumption) ?rze28
  case yze28 => (intro w hSw; (try dsimp only at hSw); go_simp; (try with_reducible rfl))
  (try simp only [Act.put, List.setIfInBounds_toArray, List.set_cons_zero, List.set_cons_succ])
  refine wpAnyH_take (i := 35) (oi := { dst := some 131, op := Go.Op.load 23 (Go.Operand.tmp 4), type := 23, pos := "law.go:73", after := #[{ on := 34, ground := Go.Ground.guard }], guard := some (34, false) }) (v := undef) rfl (by kernel_rfl) (by kernel_rfl) (by kernel_rfl) (fun _ _ _ h => h) (Or.inr ⟨by rfl, rfl⟩) (by assumption) ?_
  (try simp only [Act.put, List.setIfInBounds_toArray, List.set_cons_zero, List.set_cons_succ])
  refine wpAnyH_take (i := 36) (oi := { dst := some 132, op := Go.Op.move (Go.Operand.tmp 13), type := 25, pos := "law.go:73", after := #[{ on := 34, ground := Go.Ground.guard }], guard := some (34, false) }) (v := undef) rfl (by kernel_rfl) (by kernel_rfl) (by kernel_rfl) (fun _ _ _ h => h) (Or.inr ⟨by rfl, rfl⟩) (by assumption) ?_
  (try simp only [Act.put, List.setIfInBounds_toArray, List.set_cons_zero, List.set_cons_succ])
  refine wpAnyH_take (i := 37) (oi := { dst := some 133, op := Go.Op.move (Go.Operand.tmp 3), type := 3, pos := "law.go:73", after := #[{ on := 34, ground := Go.Ground.guard }], guard := some (34, false) }) (v := undef) rfl (by kernel_rfl) (by kernel_rfl) (by kernel_rfl) (fun _ _ _ h => h) (Or.inr ⟨by rfl, rfl⟩) (by assumption) ?_
  (try simp only [Act.put, List.setIfInBounds_toArray, List.set_cons_zero, List.set_cons_succ])
  refine wpAnyH_take (i := 38) (oi := { dst := some 134, op := Go.Op.call { callee := Go.Callee.value (Go.Operand.func 19), args := #[Go.Operand.tmp 131, Go.Operand.tmp 132, Go.Operand.tmp 133], argTypes := #[23, 25, 3] }, type := 4, pos := "law.go:73", after := #[{ on := 35, ground := Go.Ground.data }, { on := 36, ground := Go.Ground.data }, { on := 37, ground := Go.Ground.data }, { on := 34, ground := Go.Ground.chain }, { on := 34, ground := Go.Ground.guard }], guard := some (34, false) }) (v := undef) rfl (by kernel_rfl) (by kernel_rfl) (by kernel_rfl) (fun _ _ _ h => h) (Or.inr ⟨by rfl, rfl⟩) (by assumption) ?_
  (try simp only [Act.put, List.setIfInBounds_toArray, List.set_cons_zero, List.set_cons_succ])
  refine wpAnyH_take (i := 39) (oi := { dst := some 135, op := Go.Op.load 23 (Go.Operand.tmp 4), type := 23, pos := "law.go:73", after := #[{ on := 34, ground := Go.Ground.guard }], guard := some (34, false) }) (v := undef) rfl (by kernel_rfl) (by kernel_rfl) (by kernel_rfl) (fun _ _ _ h => h) (Or.inr ⟨by rfl, rfl⟩) (by assumption) ?_
  (try simp only [Act.put, List.setIfInBounds_toArray, List.set_cons_zero, List.set_cons_succ])
  refine wpAnyH_take (i := 40) (oi := { dst := some 136, op := Go.Op.move (Go.Operand.tmp 1), type := 25, pos := "law.go:73", after := #[{ on := 34, ground := Go.Ground.guard }], guard := some (34, false) }) (v := undef) rfl (by kernel_rfl) (by kernel_rfl) (by kernel_rfl) (fun _ _ _ h => h) (Or.inr ⟨by rfl, rfl⟩) (by assumption) ?_
  (try simp only [Act.put, List.setIfInBounds_toArray, List.set_cons_zero, List.set_cons_succ])
  refine wpAnyH_take (i := 41) (oi := { dst := some 137, op := Go.Op.move (Go.Operand.tmp 3), type := 3, pos := "law.go:73", after := #[{ on := 34, ground := Go.Ground.guard }], guard := some (34, false) }) (v := undef) rfl (by kernel_rfl) (by kernel_rfl) (by kernel_rfl) (fun _ _ _ h => h) (Or.inr ⟨by rfl, rfl⟩) (by assumption) ?_
  (try simp only [Act.put, List.setIfInBounds_toArray, List.set_cons_zero, List.set_cons_succ])
  refine wpAnyH_take (i := 42) (oi := { dst := some 138, op := Go.Op.call { callee := Go.Callee.value (Go.Operand.func 19), args := #[Go.Operand.tmp 135, Go.Operand.tmp 136, Go.Operand.tmp 137], argTypes := #[23, 25, 3] }, type := 4, pos := "law.go:73", after := #[{ on := 39, ground := Go.Ground.data }, { on := 40, ground := Go.Ground.data }, { on := 41, ground := Go.Ground.data }, { on := 38, ground := Go.Ground.chain }, { on := 34, ground := Go.Ground.guard }], guard := some (34, false) }) (v := undef) rfl (by kernel_rfl) (by kernel_rfl) (by kernel_rfl) (fun _ _ _ h => h) (Or.inr ⟨by rfl, rfl⟩) (by assumption) ?_
  (try simp only [Act.put, List.setIfInBounds_toArray, List.set_cons_zero, List.set_cons_succ])
  refine wpAnyH_take (i := 43) (oi := { dst := some 139, op := Go.Op.binOp Go.BinOp.eql 4 (Go.Operand.tmp 134) (Go.Operand.tmp 138) 4, type := 4, pos := "law.go:73", after := #[{ on := 38, ground := Go.Ground.data }, { on := 42, ground := Go.Ground.data }, { on := 34, ground := Go.Ground.guard }], guard := some (34, false) }) (v := undef) rfl (by kernel_rfl) (by kernel_rfl) (by kernel_rfl) (fun _ _ _ h => h) (Or.inr ⟨by rfl, rfl⟩) (by assumption) ?_
  (try simp only [Act.put, List.setIfInBounds_toArray, List.set_cons_zero, List.set_cons_succ])
  refine wpAnyH_take (i := 44) (oi := { dst := some 140, op := Go.Op.pick (Go.Operand.tmp 130) (Go.Operand.const (Go.Value.bool true)) (Go.Operand.tmp 139), type := 4, pos := "law.go:73", after := #[{ on := 34, ground := Go.Ground.data }, { on := 43, ground := Go.Ground.data }, { on := 29, ground := Go.Ground.guard }], guard := some (29, true) }) (v := ?vze29) rfl (by kernel_rfl) (by kernel_rfl) (by kernel_rfl) (fun _ _ _ h => h) (Or.inl ⟨by rfl, ?yze29⟩) (by assumption) ?rze29
  case yze29 => (intro w hSw; (try dsimp only at hSw); go_simp; (try with_reducible rfl))
  (try simp only [Act.put, List.setIfInBounds_toArray, List.set_cons_zero, List.set_cons_succ])
  refine wpAnyH_take (i := 45) (oi := { dst := some 141, op := Go.Op.pick (Go.Operand.tmp 125) (Go.Operand.tmp 140) (Go.Operand.const (Go.Value.bool false)), type := 4, pos := "law.go:73", after := #[{ on := 29, ground := Go.Ground.data }, { on := 44, ground := Go.Ground.data }], guard := none }) (v := ?vze30) rfl (by kernel_rfl) (by kernel_rfl) (by kernel_rfl) (fun _ _ _ h => h) (Or.inl ⟨by rfl, ?yze30⟩) (by assumption) ?rze30
  case yze30 => (intro w hSw; (try dsimp only at hSw); go_simp; (try with_reducible rfl))
  (try simp only [Act.put, List.setIfInBounds_toArray, List.set_cons_zero, List.set_cons_succ])
  refine wpAnyH_take (i := 46) (oi := { dst := some 8, op := Go.Op.assign (Go.Operand.tmp 141), type := 4, pos := "law.go:73", after := #[{ on := 45, ground := Go.Ground.data }, { on := 42, ground := Go.Ground.chain }, { on := 0, ground := Go.Ground.phase }, { on := 1, ground := Go.Ground.phase }, { on := 2, ground := Go.Ground.phase }, { on := 3, ground := Go.Ground.phase }, { on := 4, ground := Go.Ground.phase }, { on := 5, ground := Go.Ground.phase }, { on := 6, ground := Go.Ground.phase }, { on := 7, ground := Go.Ground.phase }, { on := 8, ground := Go.Ground.phase }, { on := 9, ground := Go.Ground.phase }, { on := 10, ground := Go.Ground.phase }, { on := 11, ground := Go.Ground.phase }, { on := 12, ground := Go.Ground.phase }, { on := 13, ground := Go.Ground.phase }, { on := 14, ground := Go.Ground.phase }, { on := 15, ground := Go.Ground.phase }, { on := 16, ground := Go.Ground.phase }, { on := 17, ground := Go.Ground.phase }, { on := 18, ground := Go.Ground.phase }, { on := 19, ground := Go.Ground.phase }, { on := 20, ground := Go.Ground.phase }, { on := 21, ground := Go.Ground.phase }, { on := 22, ground := Go.Ground.phase }, { on := 23, ground := Go.Ground.phase }, { on := 24, ground := Go.Ground.phase }, { on := 25, ground := Go.Ground.phase }, { on := 26, ground := Go.Ground.phase }, { on := 27, ground := Go.Ground.phase }, { on := 28, ground := Go.Ground.phase }, { on := 29, ground := Go.Ground.phase }, { on := 30, ground := Go.Ground.phase }, { on := 31, ground := Go.Ground.phase }, { on := 32, ground := Go.Ground.phase }, { on := 33, ground := Go.Ground.phase }, { on := 34, ground := Go.Ground.phase }, { on := 35, ground := Go.Ground.phase }, { on := 36, ground := Go.Ground.phase }, { on := 37, ground := Go.Ground.phase }, { on := 38, ground := Go.Ground.phase }, { on := 39, ground := Go.Ground.phase }, { on := 40, ground := Go.Ground.phase }, { on := 41, ground := Go.Ground.phase }, { on := 42, ground := Go.Ground.phase }, { on := 43, ground := Go.Ground.phase }, { on := 44, ground := Go.Ground.phase }, { on := 45, ground := Go.Ground.phase }], guard := none }) (v := ?vze31) rfl (by kernel_rfl) (by kernel_rfl) (by kernel_rfl) (fun _ _ _ h => h) (Or.inl ⟨by rfl, ?yze31⟩) (by assumption) ?rze31
  case yze31 => (intro w hSw; (try dsimp only at hSw); go_simp; (try with_reducible rfl))
  (try simp only [Act.put, List.setIfInBounds_toArray, List.set_cons_zero, List.set_cons_succ])
  refine wpAnyH_done (by kernel_rfl) ?_ _
  go_wp2
  go_ret
  exact ⟨rfl, Z.out.trans (ZC.out.mono Z.out.size)⟩
theorem one_main7 (W D J S k : Int) (A : Option Addr) (n c : Nat) (m : List Int) (w : World) (hm : Rd w A m) (hn : m.length = n) (hs : n ≤ 500) (hu : UM m) (hk : okw W D J S m k = true) : Tells 3 #[cf W D J S, .slice A n c, .bool true, .int .i64 k] w (.bool true) := by
  obtain ⟨k, rfl⟩ := Int.eq_ofNat_of_zero_le (okw_who hk).1
  by_cases hb : at0 m 2 / 2 ^ k % 2 = 1
  · exact one_7y W D J S k A n c m w hm hn hs hu hk hb
  · exact one_7n W D J S k A n c m w hm hn hs hu hk hb
theorem one_walk (W D J S k : Int) (a : Bool) (A : Option Addr) (n c : Nat) (m : List Int) (w : World) (hm : Rd w A m) (hn : m.length = n) (hu : UM m) : Tells 3 #[cf W D J S, .slice A n c, .bool a, .int .i64 k] w (.bool true) := by
  cases a
  · by_cases hs : n ≤ 500
    · cases ho : okm W D J S m
      · exact one_no6 W D J S k A n c m w hm hn hs ho
      · by_cases h0 : k < 0
        · exact one_neg6 W D J S k A n c m w hm hn hs ho h0
        · by_cases h1 : W ≤ k
          · exact one_far6 W D J S k A n c m w hm hn hs ho (by omega) h1
          · exact one_main6 W D J S k A n c m w hm hn hs hu (okw_of ho (by omega) (by omega))
    · exact one_big6 W D J S k A n c m w hm hn (by omega)
  · by_cases hs : n ≤ 500
    · cases ho : okm W D J S m
      · exact one_no7 W D J S k A n c m w hm hn hs ho
      · by_cases h0 : k < 0
        · exact one_neg7 W D J S k A n c m w hm hn hs ho h0
        · by_cases h1 : W ≤ k
          · exact one_far7 W D J S k A n c m w hm hn hs ho (by omega) h1
          · exact one_main7 W D J S k A n c m w hm hn hs hu (okw_of ho (by omega) (by omega))
    · exact one_big7 W D J S k A n c m w hm hn (by omega)
end Go.Proofs.Ytjddglandcpfpaa
