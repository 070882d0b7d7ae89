/- The walk of NoteOwed. -/
import Derived.Test.YtjddglandcpfpaaNtF
import Derived.Test.YtjddglandcpfpaaPuL
import Derived.Test.YtjddglandcpfpaaFrH2
import Derived.IntWalk
import Derived.Deep.RegionHeld3
namespace Go.Proofs.Ytjddglandcpfpaa
open Go.RowKit Go.Deep
/-- Who is owed has it, and is owed no more. -/
theorem owed_law {W D J S : Int} {m : List Int} {f : Fr} {k : Int} (hf : UF f) (hg : goesN W D J S m f = true) (hp : f.pc = 2) (hk : okw W D J S m k = true) (hz : at0 m (pkI D J k) = 0) :
    (at0 (noteS W D J S m f).1 (pkI D J k) == 1) = (owesN f k && !owesN (noteS W D J S m f).2 k) ∧ (owesN f k || !owesN (noteS W D J S m f).2 k) = true := by
  obtain ⟨hm, hr, ho, h0, h4⟩ := goesN_iff.1 hg
  have hw8 := okw_who hk
  have hlim : (decide (0 ≤ k) && decide (k < 16)) = true := by simp; omega
  obtain ⟨j, rfl⟩ := Int.eq_ofNat_of_zero_le hw8.1
  have hj : j < 16 := by omega
  unfold noteS
  rw [if_pos hg, if_neg (by omega), if_neg (by omega)]
  by_cases h6 : f.op = 6
  · rw [if_pos h6]
    have hU := hf.2.2
    have e1 : owesN f j = (f.y == (j : Int)) := by unfold owesN; rw [hr, hp, hlim, if_pos h6]; simp
    have e2 : owesN (ed f 1 f.y) j = false := by unfold owesN ed; simp
    rw [e1]
    dsimp only
    rw [e2, at0_woken hk]
    have e3 : (wrap64 f.y = (j : Int)) ↔ f.y = (j : Int) := by
      unfold U at hU; unfold wrap64; omega
    by_cases c : f.y = (j : Int)
    · rw [if_pos (e3.2 c)]; simp [c]
    · rw [if_neg (fun h => c (e3.1 h)), hz]; simp [c]
  · have h7 : f.op = 7 := by rcases ho with h | h; exact absurd h h6; exact h
    rw [if_neg h6]
    have e1 : owesN f j = decide (f.y % 65536 / 2 ^ j % 2 = 1) := by unfold owesN; rw [hr, hp, hlim, if_neg h6, if_pos h7, st_has f.y j hj]; simp
    rw [e1]
    dsimp only
    rw [at0_woken hk, bit_mask f.y j hj]
    by_cases hz0 : rs f.y = 0
    · rw [if_pos hz0]
      have e2 : owesN (ed f 1 (f.x % 65536)) j = false := by unfold owesN ed; simp
      rw [e2]
      by_cases hy : f.y % 65536 = 0
      · have hl : lw f.y = -1 := by
          rcases lw_cases f.y with ⟨a, _⟩ | ⟨i, hi, _, b, _⟩
          · exact a
          · rw [← bit_mask f.y i hi, hy] at b; simp at b
        have hb : ¬ f.y / 2 ^ j % 2 = 1 := by rw [← bit_mask f.y j hj, hy]; simp
        rw [hl, if_neg (by omega), hz]; simp [hb]
      · have hb := rs_zero hz0 hy j hj
        by_cases c : lw f.y = j
        · rw [if_pos c]; simp [hb.2 c]
        · have hnb : ¬ f.y / 2 ^ j % 2 = 1 := fun h => c (hb.1 h)
          rw [if_neg c, hz]; simp [hnb]
    · rw [if_neg hz0]
      have e2 : owesN { f with y := rs f.y } j = decide (rs f.y / 2 ^ j % 2 = 1) := by
        unfold owesN
        dsimp only
        rw [hr, hp, hlim, if_neg h6, if_pos h7, st_has (rs f.y) j hj, bit_mask (rs f.y) j hj]; simp
      rw [e2]
      have hb := rs_bit f.y j hj
      by_cases c1 : f.y / 2 ^ j % 2 = 1
      · by_cases c : lw f.y = j
        · have : ¬ rs f.y / 2 ^ j % 2 = 1 := fun h => (hb.1 h).2 c
          rw [if_pos c]; simp [c1, this]
        · rw [if_neg c, hz]; simp [c1, hb.2 ⟨c1, c⟩]
      · have : ¬ rs f.y / 2 ^ j % 2 = 1 := fun h => c1 (hb.1 h).1
        have hl : ¬ lw f.y = j := by
          intro hl
          rcases lw_cases f.y with ⟨a, _⟩ | ⟨i, hi, a, b, _⟩
          · omega
          · have : i = j := by omega
            subst this
            exact c1 b
        rw [if_neg hl, hz]; simp [c1, this]
theorem owed_big (W D J S : Int) (A : Option Addr) (n c : Nat) (f : Fr) (k : Int) (w : World) (hn : 500 < n) : Tells 6 #[cf W D J S, .slice A n c, fv f, .int .i64 k] w (.bool true) := by
  obtain ⟨o, p, q, v, x, y, s⟩ := f
  have hd : decide ((500 : Int) < (n : Int)) = true := decide_eq_true (by omega)
  obtain ⟨BX0, BF0, Z0, hz⟩ := boxes2 w W D J S ⟨o, p, q, v, x, y, s⟩
  go_enter Try.func6, Try.ntmps6
  go_wp2_with fail
  change Calls _ _ _ (bxc w W D J S ⟨o, p, q, v, x, y, s⟩) _
  generalize bxc w W D J S ⟨o, p, q, v, x, y, s⟩ = w0 at BX0 BF0 Z0 hz ⊢
  refine (awake_any _).mono ?_
  rintro _ w1 ⟨rfl, z⟩
  have Z := Lib.hid (Z0.trans (z.mono (by omega)))
  have BX := Lib.hid (BX0.below z)
  have BF := Lib.hid (BF0.after z)
  have HZ0 := Lib.hid (show w.heap.size ≤ w0.heap.size by omega)
  clear z Z0 BX0 BF0 hz HZ0
  obtain ⟨gx, x_0, x_1, x_2, x_3⟩ := BX.out
  obtain ⟨a0, a1, a2, a3, a4, a5, a6⟩ := BF.out.cells
  have la := BF.out.lt
  simp only at a0 a1 a2 a3 a4 a5 a6
  go_wp2
  go_ret
  exact ⟨rfl, Z.out⟩
theorem owed_pc (W D J S : Int) (A : Option Addr) (n c : Nat) (f : Fr) (k : Int) (w : World) (hn : n ≤ 500) (hp : f.pc ≠ 2) : Tells 6 #[cf W D J S, .slice A n c, fv f, .int .i64 k] w (.bool true) := by
  obtain ⟨o, p, q, v, x, y, s⟩ := f
  have hd : decide ((500 : Int) < (n : Int)) = false := decide_eq_false (by omega)
  simp only at hp
  have hp2 : (p != 2) = true := by simpa using hp
  clear hp
  obtain ⟨BX0, BF0, Z0, hz⟩ := boxes2 w W D J S ⟨o, p, q, v, x, y, s⟩
  go_enter Try.func6, Try.ntmps6
  go_wp2_with fail
  change Calls _ _ _ (bxc w W D J S ⟨o, p, q, v, x, y, s⟩) _
  generalize bxc w W D J S ⟨o, p, q, v, x, y, s⟩ = w0 at BX0 BF0 Z0 hz ⊢
  refine (awake_any _).mono ?_
  rintro _ w1 ⟨rfl, z⟩
  have Z := Lib.hid (Z0.trans (z.mono (by omega)))
  have BX := Lib.hid (BX0.below z)
  have BF := Lib.hid (BF0.after z)
  have HZ0 := Lib.hid (show w.heap.size ≤ w0.heap.size by omega)
  clear z Z0 BX0 BF0 hz HZ0
  obtain ⟨gx, x_0, x_1, x_2, x_3⟩ := BX.out
  obtain ⟨a0, a1, a2, a3, a4, a5, a6⟩ := BF.out.cells
  have la := BF.out.lt
  simp only at a0 a1 a2 a3 a4 a5 a6
  go_wp2
  go_ret
  exact ⟨rfl, Z.out⟩
theorem owed_no (W D J S : Int) (A : Option Addr) (n c : Nat) (m : List Int) (f : Fr) (k : Int) (w : World) (hn : m.length = n) (hs : n ≤ 500) (hp : f.pc = 2) (hg : goesN W D J S m f = false) : Tells 6 #[cf W D J S, .slice A n c, fv f, .int .i64 k] w (.bool true) := by
  obtain ⟨o, p, q, v, x, y, s⟩ := f
  have hd : decide ((500 : Int) < (n : Int)) = false := decide_eq_false (by omega)
  simp only at hp
  subst hp
  have HN := Lib.hid hn
  have HG := Lib.hid hg
  clear hn hg
  obtain ⟨BX0, BF0, Z0, hz⟩ := boxes2 w W D J S ⟨o, 2, q, v, x, y, s⟩
  go_enter Try.func6, Try.ntmps6
  go_wp2_with fail
  change Calls _ _ _ (bxc w W D J S ⟨o, 2, q, v, x, y, s⟩) _
  generalize bxc w W D J S ⟨o, 2, q, v, x, y, s⟩ = w0 at BX0 BF0 Z0 hz ⊢
  refine (awake_any _).mono ?_
  rintro _ w1 ⟨rfl, z⟩
  have Z := Lib.hid (Z0.trans (z.mono (by omega)))
  have BX := Lib.hid (BX0.below z)
  have BF := Lib.hid (BF0.after z)
  have HZ0 := Lib.hid (show w.heap.size ≤ w0.heap.size by omega)
  clear z Z0 BX0 BF0 hz HZ0
  obtain ⟨gx, x_0, x_1, x_2, x_3⟩ := BX.out
  obtain ⟨a0, a1, a2, a3, a4, a5, a6⟩ := BF.out.cells
  have la := BF.out.lt
  simp only at a0 a1 a2 a3 a4 a5 a6
  go_wp2_with fail
  refine (Tells.of (ngoes_any W D J S A n c m ⟨o, 2, q, v, x, y, s⟩ _ HN.out) (v' := .bool false) (by rw [HG.out])).mono ?_
  rintro _ w2 ⟨rfl, z⟩
  clear gx x_0 x_1 x_2 x_3 a0 a1 a2 a3 a4 a5 a6 la
  replace Z := Lib.hid (Z.out.trans (z.mono Z.out.size))
  replace BX := Lib.hid (BX.out.below z)
  replace BF := Lib.hid (BF.out.after z)
  clear z
  go_wp2
  go_ret
  exact ⟨rfl, Z.out⟩
theorem owed_neg (W D J S : Int) (A : Option Addr) (n c : Nat) (m : List Int) (f : Fr) (k : Int) (w : World) (hn : m.length = n) (hs : n ≤ 500) (hp : f.pc = 2) (hg : goesN W D J S m f = true) (hk : k < 0) : Tells 6 #[cf W D J S, .slice A n c, fv f, .int .i64 k] w (.bool true) := by
  obtain ⟨o, p, q, v, x, y, s⟩ := f
  have hd : decide ((500 : Int) < (n : Int)) = false := decide_eq_false (by omega)
  simp only at hp
  subst hp
  have HN := Lib.hid hn
  have HG := Lib.hid hg
  clear hn hg
  have hd1 : decide (k < 0) = true := decide_eq_true hk
  clear hk
  obtain ⟨BX0, BF0, Z0, hz⟩ := boxes2 w W D J S ⟨o, 2, q, v, x, y, s⟩
  go_enter Try.func6, Try.ntmps6
  go_wp2_with fail
  change Calls _ _ _ (bxc w W D J S ⟨o, 2, q, v, x, y, s⟩) _
  generalize bxc w W D J S ⟨o, 2, q, v, x, y, s⟩ = w0 at BX0 BF0 Z0 hz ⊢
  refine (awake_any _).mono ?_
  rintro _ w1 ⟨rfl, z⟩
  have Z := Lib.hid (Z0.trans (z.mono (by omega)))
  have BX := Lib.hid (BX0.below z)
  have BF := Lib.hid (BF0.after z)
  have HZ0 := Lib.hid (show w.heap.size ≤ w0.heap.size by omega)
  clear z Z0 BX0 BF0 hz HZ0
  obtain ⟨gx, x_0, x_1, x_2, x_3⟩ := BX.out
  obtain ⟨a0, a1, a2, a3, a4, a5, a6⟩ := BF.out.cells
  have la := BF.out.lt
  simp only at a0 a1 a2 a3 a4 a5 a6
  go_wp2_with fail
  refine (Tells.of (ngoes_any W D J S A n c m ⟨o, 2, q, v, x, y, s⟩ _ HN.out) (v' := .bool true) (by rw [HG.out])).mono ?_
  rintro _ w2 ⟨rfl, z⟩
  clear gx x_0 x_1 x_2 x_3 a0 a1 a2 a3 a4 a5 a6 la
  replace Z := Lib.hid (Z.out.trans (z.mono Z.out.size))
  replace BX := Lib.hid (BX.out.below z)
  replace BF := Lib.hid (BF.out.after z)
  clear z
  obtain ⟨gx, x_0, x_1, x_2, x_3⟩ := BX.out
  obtain ⟨a0, a1, a2, a3, a4, a5, a6⟩ := BF.out.cells
  have la := BF.out.lt
  simp only at a0 a1 a2 a3 a4 a5 a6
  go_wp2
  go_ret
  exact ⟨rfl, Z.out⟩
theorem owed_far (W D J S : Int) (A : Option Addr) (n c : Nat) (m : List Int) (f : Fr) (k : Int) (w : World) (hn : m.length = n) (hs : n ≤ 500) (hp : f.pc = 2) (hg : goesN W D J S m f = true) (h0 : 0 ≤ k) (hk : W ≤ k) : Tells 6 #[cf W D J S, .slice A n c, fv f, .int .i64 k] w (.bool true) := by
  obtain ⟨o, p, q, v, x, y, s⟩ := f
  have hd : decide ((500 : Int) < (n : Int)) = false := decide_eq_false (by omega)
  simp only at hp
  subst hp
  have HN := Lib.hid hn
  have HG := Lib.hid hg
  clear hn hg
  have hd1 : decide (k < 0) = false := decide_eq_false (by omega)
  have hd2 : decide (W ≤ k) = true := decide_eq_true hk
  clear h0 hk
  obtain ⟨BX0, BF0, Z0, hz⟩ := boxes2 w W D J S ⟨o, 2, q, v, x, y, s⟩
  go_enter Try.func6, Try.ntmps6
  go_wp2_with fail
  change Calls _ _ _ (bxc w W D J S ⟨o, 2, q, v, x, y, s⟩) _
  generalize bxc w W D J S ⟨o, 2, q, v, x, y, s⟩ = w0 at BX0 BF0 Z0 hz ⊢
  refine (awake_any _).mono ?_
  rintro _ w1 ⟨rfl, z⟩
  have Z := Lib.hid (Z0.trans (z.mono (by omega)))
  have BX := Lib.hid (BX0.below z)
  have BF := Lib.hid (BF0.after z)
  have HZ0 := Lib.hid (show w.heap.size ≤ w0.heap.size by omega)
  clear z Z0 BX0 BF0 hz HZ0
  obtain ⟨gx, x_0, x_1, x_2, x_3⟩ := BX.out
  obtain ⟨a0, a1, a2, a3, a4, a5, a6⟩ := BF.out.cells
  have la := BF.out.lt
  simp only at a0 a1 a2 a3 a4 a5 a6
  go_wp2_with fail
  refine (Tells.of (ngoes_any W D J S A n c m ⟨o, 2, q, v, x, y, s⟩ _ HN.out) (v' := .bool true) (by rw [HG.out])).mono ?_
  rintro _ w2 ⟨rfl, z⟩
  clear gx x_0 x_1 x_2 x_3 a0 a1 a2 a3 a4 a5 a6 la
  replace Z := Lib.hid (Z.out.trans (z.mono Z.out.size))
  replace BX := Lib.hid (BX.out.below z)
  replace BF := Lib.hid (BF.out.after z)
  clear z
  obtain ⟨gx, x_0, x_1, x_2, x_3⟩ := BX.out
  obtain ⟨a0, a1, a2, a3, a4, a5, a6⟩ := BF.out.cells
  have la := BF.out.lt
  simp only at a0 a1 a2 a3 a4 a5 a6
  go_wp2
  go_ret
  exact ⟨rfl, Z.out⟩
set_option maxHeartbeats 1000000 in
theorem owed_main (W D J S : Int) (A : Option Addr) (n c : Nat) (m : List Int) (f : Fr) (k : Int) (w : World) (hm : Rd w A m) (hn : m.length = n) (hs : n ≤ 500) (hu : UM m) (hf : UF f) (hp : f.pc = 2) (hg : goesN W D J S m f = true) (hk : okw W D J S m k = true) : Tells 6 #[cf W D J S, .slice A n c, fv f, .int .i64 k] w (.bool true) := by
  have hkm := (goesN_iff.1 hg).1
  have hpk := pkI_lim hk
  have hwho := okw_who hk
  have hpo := pkI_ow hk
  have hkW := (okw_iff.1 hk).2.2.2
  obtain ⟨m1, hm1⟩ : ∃ m1, m1 = put m (pkI D J k) 0 := ⟨_, rfl⟩
  have k1 : okw W D J S m1 k = true := by rw [hm1]; exact okw_put hk _ _
  have z1 : at0 m1 (pkI D J k) = 0 := by rw [hm1]; exact at0_put _ (by omega) hpk.2
  have hg1 : goesN W D J S m1 f = true := by obtain ⟨_, a, b, c, d⟩ := goesN_iff.1 hg; exact goesN_iff.2 ⟨okm_of k1, a, b, c, d⟩
  have hn1 : m1.length = n := by rw [hm1, len_put]; exact hn
  obtain ⟨hl1, hl2⟩ := owed_law hf hg1 hp k1 z1
  have hl3 := (noteS_len W D J S m1 f).trans hn1
  have huf := (noteS_U (W := W) (D := D) (J := J) (S := S) (m := m1) (f := f) (by rw [hm1]; exact put_U hu _ U0) hf).2
  obtain ⟨l', f', hP⟩ : ∃ l' f', noteS W D J S m1 f = (l', f') := ⟨_, _, rfl⟩
  rw [hP] at hl1 hl2 hl3 huf
  simp only at hl1 hl2 hl3 huf
  obtain ⟨b2, hb2⟩ : ∃ b, owesN f k = b := ⟨_, rfl⟩
  obtain ⟨b3, hb3⟩ : ∃ b, owesN f' k = b := ⟨_, rfl⟩
  obtain ⟨u, hu'⟩ : ∃ u, at0 l' (pkI D J k) = u := ⟨_, rfl⟩
  rw [hb2, hb3, hu'] at hl1
  rw [hb2, hb3] at hl2
  obtain ⟨o, p, q, v, x, y, s⟩ := f
  simp only at hp
  subst hp
  have hd : decide ((500 : Int) < (n : Int)) = false := decide_eq_false (by omega)
  have hd1 : decide (k < 0) = false := decide_eq_false (by omega)
  have hd2 : decide (W ≤ k) = false := decide_eq_false (by omega)
  have hd3 : decide (7 < k) = false := decide_eq_false (by omega)
  have HM1 := Lib.hid hm1
  have HN1 := Lib.hid hn1
  have HN := Lib.hid hn
  have HS := Lib.hid hs
  have HG := Lib.hid hg
  have LM0 := Lib.hid hm
  have HP := Lib.hid hP
  have HU := Lib.hid hf
  have HUF := Lib.hid huf
  have HB2 := Lib.hid hb2
  have HB3 := Lib.hid hb3
  have HUU := Lib.hid hu'
  have HL3 := Lib.hid hl3
  have HPO := Lib.hid hpo
  clear hkm hpk hwho hkW k1 z1 hg1 hk hu hm1 hn1 hn hs hg hm hP hf huf hb2 hb3 hu' hl3 hpo
  obtain ⟨BX0, BF0, Z0, hz⟩ := boxes2 w W D J S ⟨o, 2, q, v, x, y, s⟩
  go_enter Try.func6, Try.ntmps6
  go_wp2_with fail
  change Calls _ _ _ (bxc w W D J S ⟨o, 2, q, v, x, y, s⟩) _
  generalize bxc w W D J S ⟨o, 2, q, v, x, y, s⟩ = w0 at BX0 BF0 Z0 hz ⊢
  refine (awake_any _).mono ?_
  rintro _ w1 ⟨rfl, z⟩
  have Z := Lib.hid (Z0.trans (z.mono (by omega)))
  have BX := Lib.hid (BX0.below z)
  have BF := Lib.hid (BF0.after z)
  have HZ0 := Lib.hid (show w.heap.size ≤ w0.heap.size by omega)
  have LM := Lib.hid (LM0.out.below Z.out)
  clear LM0
  clear z Z0 BX0 BF0 hz HZ0
  obtain ⟨gx, x_0, x_1, x_2, x_3⟩ := BX.out
  obtain ⟨a0, a1, a2, a3, a4, a5, a6⟩ := BF.out.cells
  have la := BF.out.lt
  simp only at a0 a1 a2 a3 a4 a5 a6
  go_wp2_with fail
  refine (Tells.of (ngoes_any W D J S A n c m ⟨o, 2, q, v, x, y, s⟩ _ HN.out) (v' := .bool true) (by rw [HG.out])).mono ?_
  rintro _ w2 ⟨rfl, z⟩
  clear gx x_0 x_1 x_2 x_3 a0 a1 a2 a3 a4 a5 a6 la
  replace Z := Lib.hid (Z.out.trans (z.mono Z.out.size))
  replace BX := Lib.hid (BX.out.below z)
  replace BF := Lib.hid (BF.out.after z)
  replace LM := Lib.hid (LM.out.below z)
  clear z
  obtain ⟨gx, x_0, x_1, x_2, x_3⟩ := BX.out
  obtain ⟨a0, a1, a2, a3, a4, a5, a6⟩ := BF.out.cells
  have la := BF.out.lt
  simp only at a0 a1 a2 a3 a4 a5 a6
  go_wp2_with fail
  refine (Tells.of (park_any W D J S k _) (v' := .int .i64 (pkI D J k)) (by rw [HPO.out])).mono ?_
  rintro _ w3 ⟨rfl, z⟩
  clear gx x_0 x_1 x_2 x_3 a0 a1 a2 a3 a4 a5 a6 la
  replace Z := Lib.hid (Z.out.trans (z.mono Z.out.size))
  replace BX := Lib.hid (BX.out.below z)
  replace BF := Lib.hid (BF.out.after z)
  replace LM := Lib.hid (LM.out.below z)
  clear z
  go_wp2_with fail
  refine (store_new A n c m (pkI D J k) 0 _ LM.out HN.out HS.out).mono ?_
  rintro _ w4 ⟨g4, rfl, hg4, hb4, z⟩
  replace Z := Lib.hid (Z.out.trans (z.mono Z.out.size))
  replace BX := Lib.hid (BX.out.below z)
  replace BF := Lib.hid (BF.out.after z)
  replace LM := Lib.hid (LM.out.below z)
  have L1 := Lib.hid (show Rd w4 (some ⟨g4, 0, none⟩) m1 by rw [HM1.out]; exact hb4.rd)
  clear hg4 hb4 z
  obtain ⟨gx, x_0, x_1, x_2, x_3⟩ := BX.out
  obtain ⟨a0, a1, a2, a3, a4, a5, a6⟩ := BF.out.cells
  have la := BF.out.lt
  simp only at a0 a1 a2 a3 a4 a5 a6
  go_wp2_with fail
  refine (note_n L1.out HN1.out HS.out HU.out HP.out).mono ?_
  rintro _ w5 ⟨A5, c5, rfl, hn5, z⟩
  clear gx x_0 x_1 x_2 x_3 a0 a1 a2 a3 a4 a5 a6 la
  replace Z := Lib.hid (Z.out.trans (z.mono Z.out.size))
  replace BX := Lib.hid (BX.out.below z)
  replace BF := Lib.hid (BF.out.after z)
  replace LM := Lib.hid (LM.out.below z)
  replace L1 := Lib.hid (L1.out.below z)
  have LA := Lib.hid hn5.rd
  clear hn5 z
  obtain ⟨gx, x_0, x_1, x_2, x_3⟩ := BX.out
  go_wp2_with fail
  refine (Tells.of (park_any W D J S k _) (v' := .int .i64 (pkI D J k)) (by rw [HPO.out])).mono ?_
  rintro _ w6 ⟨rfl, z⟩
  clear gx x_0 x_1 x_2 x_3
  have BG := Lib.hid ((Bf.new w5 f').after z)
  replace z := keep_call z (bel_alloc w5 _)
  replace Z := Lib.hid (Z.out.trans (z.mono Z.out.size))
  replace BX := Lib.hid (BX.out.below z)
  replace BF := Lib.hid (BF.out.after z)
  replace LM := Lib.hid (LM.out.below z)
  replace L1 := Lib.hid (L1.out.below z)
  replace LA := Lib.hid (LA.out.below z)
  clear z
  go_wp2_with fail
  refine (ret_of (load_any A5 n c5 l' (pkI D J k) _ LA.out HL3.out HS.out) (v' := .int .u64 u) (by rw [HUU.out])).mono ?_
  rintro _ w7 ⟨rfl, z⟩
  replace Z := Lib.hid (Z.out.trans (z.mono Z.out.size))
  replace BX := Lib.hid (BX.out.below z)
  replace BF := Lib.hid (BF.out.after z)
  replace LM := Lib.hid (LM.out.below z)
  replace L1 := Lib.hid (L1.out.below z)
  replace LA := Lib.hid (LA.out.below z)
  replace BG := Lib.hid (BG.out.after z)
  clear z
  obtain ⟨a0, a1, a2, a3, a4, a5, a6⟩ := BF.out.cells
  have la := BF.out.lt
  simp only at a0 a1 a2 a3 a4 a5 a6
  go_wp2_with fail
  refine (Tells.of (owes_any ⟨o, 2, q, v, x, y, s⟩ k _ HU.out) (v' := .bool b2) (by rw [HB2.out])).mono ?_
  rintro _ w8 ⟨rfl, z⟩
  clear a0 a1 a2 a3 a4 a5 a6 la
  replace Z := Lib.hid (Z.out.trans (z.mono Z.out.size))
  replace BX := Lib.hid (BX.out.below z)
  replace BF := Lib.hid (BF.out.after z)
  replace LM := Lib.hid (LM.out.below z)
  replace L1 := Lib.hid (L1.out.below z)
  replace LA := Lib.hid (LA.out.below z)
  replace BG := Lib.hid (BG.out.after z)
  clear z
  obtain ⟨d0, d1, d2, d3, d4, d5, d6⟩ := BG.out.cells
  have ld := BG.out.lt
  go_wp2_with fail
  refine (Tells.of (owes_any f' k _ HUF.out) (v' := .bool b3) (by rw [HB3.out])).mono ?_
  rintro _ w9 ⟨rfl, z⟩
  clear d0 d1 d2 d3 d4 d5 d6 ld
  replace Z := Lib.hid (Z.out.trans (z.mono Z.out.size))
  replace BX := Lib.hid (BX.out.below z)
  replace BF := Lib.hid (BF.out.after z)
  replace LM := Lib.hid (LM.out.below z)
  replace L1 := Lib.hid (L1.out.below z)
  replace LA := Lib.hid (LA.out.below z)
  replace BG := Lib.hid (BG.out.after z)
  clear z
  cases b2
  · cases b3
    · change (u == 1) = false at hl1
      clear hl2
      go_wp2
      go_ret
      exact ⟨rfl, Z.out⟩
    · exact absurd hl2 (by simp)
  · cases b3
    · change (u == 1) = true at hl1
      clear hl2
      go_wp2
      go_ret
      exact ⟨rfl, Z.out⟩
    · change (u == 1) = false at hl1
      clear hl2
      go_wp2
      go_ret
      exact ⟨rfl, Z.out⟩
theorem owed_walk (W D J S : Int) (A : Option Addr) (n c : Nat) (m : List Int) (f : Fr) (k : Int) (w : World) (hm : Rd w A m) (hn : m.length = n) (hu : UM m) (hf : UF f) : Tells 6 #[cf W D J S, .slice A n c, fv f, .int .i64 k] w (.bool true) := by
  by_cases hs : n ≤ 500
  · by_cases hp : f.pc = 2
    · cases hg : goesN W D J S m f
      · exact owed_no W D J S A n c m f k w hn hs hp hg
      · by_cases h0 : k < 0
        · exact owed_neg W D J S A n c m f k w hn hs hp hg h0
        · by_cases h1 : W ≤ k
          · exact owed_far W D J S A n c m f k w hn hs hp hg (by omega) h1
          · exact owed_main W D J S A n c m f k w hm hn hs hu hf hp hg (okw_of (goesN_iff.1 hg).1 (by omega) (by omega))
    · exact owed_pc W D J S A n c f k w hs hp
  · exact owed_big W D J S A n c f k w (by omega)
end Go.Proofs.Ytjddglandcpfpaa
