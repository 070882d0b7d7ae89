/- The walk of LayAll: each cell behind the first six is somebody's. -/
import Derived.Test.YtmmojjpmnmjbkaaLayE
import Derived.Deep.CutRange
import Derived.Deep.DeepCutAuto
import Derived.Deep.CutBlock
namespace Go.Proofs.Ytmmojjpmnmjbkaa
open Go.RowKit Go.Deep
/-- Worker y has not cell i, for number x. -/
def mis (D J i : Int) (x : Nat) (y : Int) : Prop := ¬ bg D J y = i ∧ ¬ bg D J y + 1 = i ∧ ¬ bg D J y + 2 = i ∧ ¬ bg D J y + 3 + (x : Int) % D = i
/-- The injector has not. -/
def mis0 (J i : Int) (x : Nat) : Prop := ¬ 6 + (x : Int) % J = i ∧ ¬ 6 + J + (x : Int) % J = i
/-- Nobody has, for all numbers below X. -/
def Miss (W D J i : Int) (X : Nat) : Prop := ∀ x : Nat, x < X → mis0 J i x ∧ ∀ y : Int, 0 ≤ y → y < W → mis D J i x y
def MissY (D J i : Int) (X Y : Nat) : Prop := ∀ y : Int, 0 ≤ y → y < Y → mis D J i X y
theorem all_hit {W D J i : Int} (hD : 1 ≤ D ∧ D ≤ 16) (hJ : 1 ≤ J ∧ J ≤ 16) (hi : 6 ≤ i) (hn : i < bg D J W) : ¬ Miss W D J i 16 := by
  intro h
  by_cases h1 : i < 6 + J
  · have := (h (i - 6).toNat (by omega)).1.1
    rw [show ((i - 6).toNat : Int) = i - 6 by omega, Int.emod_eq_of_lt (by omega) (by omega)] at this
    omega
  · by_cases h2 : i < 6 + 2 * J
    · have := (h (i - 6 - J).toNat (by omega)).1.2
      rw [show ((i - 6 - J).toNat : Int) = i - 6 - J by omega, Int.emod_eq_of_lt (by omega) (by omega)] at this
      omega
    · have e := Int.mul_ediv_add_emod (i - 6 - 2 * J) (3 + D)
      have y0 : 0 ≤ (i - 6 - 2 * J) / (3 + D) := Int.ediv_nonneg (by omega) (by omega)
      have y1 : (i - 6 - 2 * J) / (3 + D) < W := Int.ediv_lt_of_lt_mul (by omega) (by unfold bg at hn; omega)
      have m0 := Int.emod_nonneg (i - 6 - 2 * J) (show 3 + D ≠ 0 by omega)
      have m1 := Int.emod_lt_of_pos (i - 6 - 2 * J) (show 0 < 3 + D by omega)
      generalize (i - 6 - 2 * J) / (3 + D) = y at *
      generalize (i - 6 - 2 * J) % (3 + D) = m at *
      have eb : bg D J y + m = i := by unfold bg; rw [Int.mul_comm y]; omega
      by_cases hm : m < 3
      · obtain ⟨a, b, c, _⟩ := (h 0 (by omega)).2 y y0 y1
        omega
      · obtain ⟨_, _, _, d⟩ := (h (m - 3).toNat (by omega)).2 y y0 y1
        rw [show ((m - 3).toNat : Int) = m - 3 by omega, Int.emod_eq_of_lt (by omega) (by omega)] at d
        omega
theorem Miss.next {W D J i : Int} {X : Nat} (h : Miss W D J i X) (h0 : mis0 J i X) (hy : ∀ y : Int, 0 ≤ y → y < W → mis D J i X y) : Miss W D J i (X + 1) := fun x hx => by
  by_cases e : x = X
  · subst e; exact ⟨h0, hy⟩
  · exact h x (by omega)
theorem MissY.next {D J i : Int} {X Y : Nat} (h : MissY D J i X Y) (h0 : mis D J i X Y) : MissY D J i X (Y + 1) := fun y y0 y1 => by
  by_cases e : y = Y
  · subst e; exact h0
  · exact h y y0 (by omega)
set_option maxHeartbeats 1000000 in
theorem layAll_a (W D J S i : Int) (w : World) (hm : may W D J S = false) : Tells 5 #[cf W D J S, .int .i64 i] w (.bool true) := by
  have HM := Lib.hid hm
  clear hm
  go_enter Try.func5, Try.ntmps5
  go_wp2_with fail
  have Bc := Lib.hid (Bx.mk w W D J S 23)
  obtain ⟨g_c, c0_c, c1_c, c2_c, c3_c⟩ := Bc.out
  refine (awake_any _).mono ?_
  rintro _ w1 ⟨rfl, z1⟩
  have HZ := Lib.hid ((box_below w _).trans (z1.mono (by simp)))
  clear g_c c0_c c1_c c2_c c3_c
  replace Bc := Lib.hid (Bc.out.below z1)
  obtain ⟨g_c, c0_c, c1_c, c2_c, c3_c⟩ := Bc.out
  clear z1
  go_wp2_with fail
  refine (Tells.of (size_any W D J S _) (v' := .int .i64 0) (by unfold sz; rw [HM.out]; rfl)).mono ?_
  rintro _ w2 ⟨rfl, z2⟩
  replace HZ := Lib.hid (HZ.out.trans (z2.mono HZ.out.size))
  clear g_c c0_c c1_c c2_c c3_c
  replace Bc := Lib.hid (Bc.out.below z2)
  obtain ⟨g_c, c0_c, c1_c, c2_c, c3_c⟩ := Bc.out
  clear z2
  go_wp2_with fail
  refine (Tells.of (may_any W D J S _) (v' := .bool false) (by rw [HM.out])).mono ?_
  rintro _ w3 ⟨rfl, z3⟩
  replace HZ := Lib.hid (HZ.out.trans (z3.mono HZ.out.size))
  clear g_c c0_c c1_c c2_c c3_c
  replace Bc := Lib.hid (Bc.out.below z3)
  obtain ⟨g_c, c0_c, c1_c, c2_c, c3_c⟩ := Bc.out
  clear z3
  go_wp2_with fail
  refine ((new_at W D J S 0 _ (by unfold sz; rw [HM.out]; rfl) (by omega))).mono ?_
  rintro _ w4 ⟨A4, k4, rfl, r4, z4⟩
  replace HZ := Lib.hid (HZ.out.trans (z4.mono HZ.out.size))
  clear g_c c0_c c1_c c2_c c3_c
  replace Bc := Lib.hid (Bc.out.below z4)
  obtain ⟨g_c, c0_c, c1_c, c2_c, c3_c⟩ := Bc.out
  have HR := Lib.hid r4
  clear r4
  clear z4
  go_wp2_with fail
  refine (Tells.of (seq_any W D J S 0 _ (by unfold U; omega)) (v' := .int .i64 (-1)) (by unfold sq; rw [HM.out]; rfl)).mono ?_
  rintro _ w5 ⟨rfl, z5⟩
  replace HZ := Lib.hid (HZ.out.trans (z5.mono HZ.out.size))
  clear g_c c0_c c1_c c2_c c3_c
  replace Bc := Lib.hid (Bc.out.below z5)
  obtain ⟨g_c, c0_c, c1_c, c2_c, c3_c⟩ := Bc.out
  clear z5
  go_wp2_with fail
  refine (Tells.of (top_any W D J S 0 _) (v' := .int .i64 (-1)) (by unfold ow; rw [HM.out]; rfl)).mono ?_
  rintro _ w6 ⟨rfl, z6⟩
  replace HZ := Lib.hid (HZ.out.trans (z6.mono HZ.out.size))
  clear g_c c0_c c1_c c2_c c3_c
  replace Bc := Lib.hid (Bc.out.below z6)
  obtain ⟨g_c, c0_c, c1_c, c2_c, c3_c⟩ := Bc.out
  clear z6
  go_wp2_with fail
  refine (Tells.of (slot_any W D J S 0 0 _ (by unfold U; omega)) (v' := .int .i64 (-1)) (by unfold sl; rw [HM.out]; rfl)).mono ?_
  rintro _ w7 ⟨rfl, z7⟩
  replace HZ := Lib.hid (HZ.out.trans (z7.mono HZ.out.size))
  clear g_c c0_c c1_c c2_c c3_c
  replace Bc := Lib.hid (Bc.out.below z7)
  obtain ⟨g_c, c0_c, c1_c, c2_c, c3_c⟩ := Bc.out
  clear z7
  go_wp2
  go_ret
  exact ⟨rfl, HZ.out⟩
set_option maxHeartbeats 1000000 in
theorem layAll_b (W D J S i : Int) (w : World) (hm : may W D J S = true) (hi : i < 6 ∨ (¬ i < 6 ∧ bg D J W ≤ i)) : Tells 5 #[cf W D J S, .int .i64 i] w (.bool true) := by
  have HM := Lib.hid hm
  obtain ⟨⟨w1', w2'⟩, ⟨d1, d2⟩, ⟨j1, j2⟩, ⟨s1, s2⟩⟩ := may_lim hm
  clear hm
  obtain ⟨b1, b2⟩ := bg_lim (D := D) (J := J) ⟨d1, d2⟩ ⟨j1, j2⟩ (x := W) ⟨by omega, by omega⟩
  have b3 : bg D J W ≤ 400 := by omega
  rcases hi with hi | ⟨hi0, hi⟩
  all_goals
    go_enter Try.func5, Try.ntmps5
    go_wp2_with fail
    have Bc := Lib.hid (Bx.mk w W D J S 23)
    obtain ⟨g_c, c0_c, c1_c, c2_c, c3_c⟩ := Bc.out
    refine (awake_any _).mono ?_
    rintro _ w1 ⟨rfl, z1⟩
    have HZ := Lib.hid ((box_below w _).trans (z1.mono (by simp)))
    clear g_c c0_c c1_c c2_c c3_c
    replace Bc := Lib.hid (Bc.out.below z1)
    obtain ⟨g_c, c0_c, c1_c, c2_c, c3_c⟩ := Bc.out
    clear z1
    go_wp2_with fail
    refine (Tells.of (size_any W D J S _) (v' := .int .i64 (bg D J W)) (by unfold sz; rw [HM.out]; rfl)).mono ?_
    rintro _ w2 ⟨rfl, z2⟩
    replace HZ := Lib.hid (HZ.out.trans (z2.mono HZ.out.size))
    clear g_c c0_c c1_c c2_c c3_c
    replace Bc := Lib.hid (Bc.out.below z2)
    obtain ⟨g_c, c0_c, c1_c, c2_c, c3_c⟩ := Bc.out
    clear z2
    go_wp2_with fail
    refine (Tells.of (may_any W D J S _) (v' := .bool true) (by rw [HM.out])).mono ?_
    rintro _ w3 ⟨rfl, z3⟩
    replace HZ := Lib.hid (HZ.out.trans (z3.mono HZ.out.size))
    clear g_c c0_c c1_c c2_c c3_c
    replace Bc := Lib.hid (Bc.out.below z3)
    obtain ⟨g_c, c0_c, c1_c, c2_c, c3_c⟩ := Bc.out
    clear z3
    go_wp2
    go_ret
    exact ⟨rfl, HZ.out⟩
set_option maxRecDepth 100000 in
set_option maxHeartbeats 1000000 in
theorem layAll_c (W D J S i : Int) (w : World) (hm : may W D J S = true) (hi : 6 ≤ i) (hn : i < bg D J W) : Tells 5 #[cf W D J S, .int .i64 i] w (.bool true) := by
  have HM := Lib.hid hm
  obtain ⟨⟨w1', w2'⟩, ⟨d1, d2⟩, ⟨j1, j2⟩, ⟨s1, s2⟩⟩ := may_lim hm
  have HA := Lib.hid (all_hit (W := W) (D := D) (J := J) (i := i) ⟨d1, d2⟩ ⟨j1, j2⟩ hi hn)
  obtain ⟨b1, b2⟩ := bg_lim (D := D) (J := J) ⟨d1, d2⟩ ⟨j1, j2⟩ (x := W) ⟨by omega, by omega⟩
  have i1 : ¬ i < 6 := by omega
  have i2 : ¬ bg D J W ≤ i := by omega
  clear hm
  go_enter Try.func5, Try.ntmps5
  go_wp2_with fail
  have Bc := Lib.hid (Bx.mk w W D J S 23)
  obtain ⟨g_c, c0_c, c1_c, c2_c, c3_c⟩ := Bc.out
  refine (awake_any _).mono ?_
  rintro _ w1 ⟨rfl, z1⟩
  have HZ := Lib.hid ((box_below w _).trans (z1.mono (by simp)))
  clear g_c c0_c c1_c c2_c c3_c
  replace Bc := Lib.hid (Bc.out.below z1)
  obtain ⟨g_c, c0_c, c1_c, c2_c, c3_c⟩ := Bc.out
  clear z1
  go_wp2_with fail
  refine (Tells.of (size_any W D J S _) (v' := .int .i64 (bg D J W)) (by unfold sz; rw [HM.out]; rfl)).mono ?_
  rintro _ w2 ⟨rfl, z2⟩
  replace HZ := Lib.hid (HZ.out.trans (z2.mono HZ.out.size))
  clear g_c c0_c c1_c c2_c c3_c
  replace Bc := Lib.hid (Bc.out.below z2)
  obtain ⟨g_c, c0_c, c1_c, c2_c, c3_c⟩ := Bc.out
  clear z2
  go_wp2_with fail
  refine (Tells.of (may_any W D J S _) (v' := .bool true) (by rw [HM.out])).mono ?_
  rintro _ w3 ⟨rfl, z3⟩
  replace HZ := Lib.hid (HZ.out.trans (z3.mono HZ.out.size))
  clear g_c c0_c c1_c c2_c c3_c
  replace Bc := Lib.hid (Bc.out.below z3)
  obtain ⟨g_c, c0_c, c1_c, c2_c, c3_c⟩ := Bc.out
  clear z3
  go_wp2_with fail
  go_loopw [7, 8] (fun s x wr => ∃ (b : Bool) (X : Nat), s = .bool b ∧ x = .int .u64 X ∧ X ≤ 16 ∧ Hid (b = true ∨ Miss W D J i X) ∧ Hid (Below w.heap.size w wr) ∧ Hid (Bx wr w.heap.size W D J S)) (fun _ x _ => 16 - (intOf x).toNat)
  case atStart => exact ⟨false, 0, rfl, rfl, by omega, Lib.hid (.inr (fun x hx => absurd hx (by omega))), HZ, Bc⟩
  case round =>
    clear g_c c0_c c1_c c2_c c3_c HZ Bc
    obtain ⟨b, X, rfl, rfl, hX, HB, HZ, Bc⟩ := hrel
    obtain ⟨g_c, c0_c, c1_c, c2_c, c3_c⟩ := Bc.out
    by_cases hlt : X < 16
    · go_upto_region 11 with fail
      go_cut [7] from 55 to 113 (fun s wr => ∃ b : Bool, s = .bool b ∧ Hid (b = true ∨ (Miss W D J i X ∧ mis0 J i X)) ∧ Hid (Below w.heap.size w wr) ∧ Hid (Bx wr w.heap.size W D J S))
      case first =>
        cases b
        · have HB2 := Lib.hid (show Miss W D J i X by rcases HB.out with h | h; cases h; exact h)
          clear HB
          by_cases h1 : 6 + (X : Int) % J = i
          · have e1 : (6 + (X : Int) % J == i) = true := by simp [h1]
            clear h1
            go_wp2_with fail
            refine (Tells.of (seq_any W D J S X _ (by unfold U; omega)) (v' := .int .i64 (6 + (X : Int) % J)) (by unfold sq; rw [HM.out]; rfl)).mono ?_
            rintro _ wn ⟨rfl, z⟩
            replace HZ := Lib.hid (HZ.out.trans (z.mono HZ.out.size))
            clear g_c c0_c c1_c c2_c c3_c
            replace Bc := Lib.hid (Bc.out.below z)
            obtain ⟨g_c, c0_c, c1_c, c2_c, c3_c⟩ := Bc.out
            clear z
            go_wp2_with fail
            go_meet
            exact ⟨true, rfl, Lib.hid (.inl rfl), HZ, Bc⟩
          · have e1 : (6 + (X : Int) % J == i) = false := by simp [h1]
            have H1 := Lib.hid h1
            clear h1
            by_cases h2 : 6 + J + (X : Int) % J = i
            · have e2 : (6 + J + (X : Int) % J == i) = true := by simp [h2]
              clear h2
              go_wp2_with fail
              refine (Tells.of (seq_any W D J S X _ (by unfold U; omega)) (v' := .int .i64 (6 + (X : Int) % J)) (by unfold sq; rw [HM.out]; rfl)).mono ?_
              rintro _ wn ⟨rfl, z⟩
              replace HZ := Lib.hid (HZ.out.trans (z.mono HZ.out.size))
              clear g_c c0_c c1_c c2_c c3_c
              replace Bc := Lib.hid (Bc.out.below z)
              obtain ⟨g_c, c0_c, c1_c, c2_c, c3_c⟩ := Bc.out
              clear z
              go_wp2_with fail
              refine (Tells.of (val_any W D J S X _ (by unfold U; omega)) (v' := .int .i64 (6 + J + (X : Int) % J)) (by unfold vl; rw [HM.out]; rfl)).mono ?_
              rintro _ wn ⟨rfl, z⟩
              replace HZ := Lib.hid (HZ.out.trans (z.mono HZ.out.size))
              clear g_c c0_c c1_c c2_c c3_c
              replace Bc := Lib.hid (Bc.out.below z)
              obtain ⟨g_c, c0_c, c1_c, c2_c, c3_c⟩ := Bc.out
              clear z
              go_wp2_with fail
              go_meet
              exact ⟨true, rfl, Lib.hid (.inl rfl), HZ, Bc⟩
            · have e2 : (6 + J + (X : Int) % J == i) = false := by simp [h2]
              have H2 := Lib.hid h2
              clear h2
              go_wp2_with fail
              refine (Tells.of (seq_any W D J S X _ (by unfold U; omega)) (v' := .int .i64 (6 + (X : Int) % J)) (by unfold sq; rw [HM.out]; rfl)).mono ?_
              rintro _ wn ⟨rfl, z⟩
              replace HZ := Lib.hid (HZ.out.trans (z.mono HZ.out.size))
              clear g_c c0_c c1_c c2_c c3_c
              replace Bc := Lib.hid (Bc.out.below z)
              obtain ⟨g_c, c0_c, c1_c, c2_c, c3_c⟩ := Bc.out
              clear z
              go_wp2_with fail
              refine (Tells.of (val_any W D J S X _ (by unfold U; omega)) (v' := .int .i64 (6 + J + (X : Int) % J)) (by unfold vl; rw [HM.out]; rfl)).mono ?_
              rintro _ wn ⟨rfl, z⟩
              replace HZ := Lib.hid (HZ.out.trans (z.mono HZ.out.size))
              clear g_c c0_c c1_c c2_c c3_c
              replace Bc := Lib.hid (Bc.out.below z)
              obtain ⟨g_c, c0_c, c1_c, c2_c, c3_c⟩ := Bc.out
              clear z
              go_wp2_with fail
              go_meet
              exact ⟨false, rfl, Lib.hid (.inr ⟨HB2.out, H1.out, H2.out⟩), HZ, Bc⟩
        · go_wp2_with fail
          go_meet
          exact ⟨true, rfl, Lib.hid (.inl rfl), HZ, Bc⟩
      case rest =>
        clear g_c c0_c c1_c c2_c c3_c HZ Bc HB
        obtain ⟨b, rfl, HB, HZ, Bc⟩ := hcut
        obtain ⟨g_c, c0_c, c1_c, c2_c, c3_c⟩ := Bc.out
        go_wp2_with fail
        go_loopw [7, 9] (fun s y wr => ∃ (b : Bool) (Y : Nat), s = .bool b ∧ y = .int .i64 Y ∧ (Y : Int) ≤ W ∧ Hid (b = true ∨ (Miss W D J i X ∧ mis0 J i X ∧ MissY D J i X Y)) ∧ Hid (Below w.heap.size w wr) ∧ Hid (Bx wr w.heap.size W D J S)) (fun _ y _ => 8 - (intOf y).toNat)
        case atStart => exact ⟨b, 0, rfl, rfl, by omega, Lib.hid (HB.out.imp id fun h => ⟨h.1, h.2, fun y y0 y1 => absurd y1 (by omega)⟩), HZ, Bc⟩
        case round =>
          clear g_c c0_c c1_c c2_c c3_c HZ Bc HB
          obtain ⟨b, Y, rfl, rfl, hY, HB, HZ, Bc⟩ := hrel
          obtain ⟨g_c, c0_c, c1_c, c2_c, c3_c⟩ := Bc.out
          by_cases hyW : (Y : Int) < W
          · have hy8 : (Y : Int) < 8 := by omega
            have WY := Lib.hid (show wi Y 0 (W - 1) = true from wi_true.2 ⟨by omega, by omega⟩)
            go_upto_block 3 with fail
            go_cut [7] from 74 to 113 (fun s wr => ∃ b : Bool, s = .bool b ∧ Hid (b = true ∨ (Miss W D J i X ∧ mis0 J i X ∧ MissY D J i X (Y + 1))) ∧ Hid (Below w.heap.size w wr) ∧ Hid (Bx wr w.heap.size W D J S))
            case first =>
              cases b
              · have HB2 := Lib.hid (show Miss W D J i X ∧ mis0 J i X ∧ MissY D J i X Y by rcases HB.out with h | h; cases h; exact h)
                clear HB
                by_cases h0 : bg D J Y = i
                · have e0 : (bg D J Y == i) = true := by simp [h0]
                  clear h0
                  go_wp2_with fail
                  refine (Tells.of (top_any W D J S Y _) (v' := .int .i64 (bg D J Y)) (by unfold ow; rw [HM.out, WY.out, Bool.and_self, if_pos rfl, Int.add_zero])).mono ?_
                  rintro _ wn ⟨rfl, z⟩
                  replace HZ := Lib.hid (HZ.out.trans (z.mono HZ.out.size))
                  clear g_c c0_c c1_c c2_c c3_c
                  replace Bc := Lib.hid (Bc.out.below z)
                  obtain ⟨g_c, c0_c, c1_c, c2_c, c3_c⟩ := Bc.out
                  clear z
                  go_wp2_with fail
                  go_meet
                  exact ⟨true, rfl, Lib.hid (.inl rfl), HZ, Bc⟩
                · have e0 : (bg D J Y == i) = false := by simp [h0]
                  have H0 := Lib.hid h0
                  clear h0
                  by_cases h1 : bg D J Y + 1 = i
                  · have e1 : (bg D J Y + 1 == i) = true := by simp [h1]
                    clear h1
                    go_wp2_with fail
                    refine (Tells.of (top_any W D J S Y _) (v' := .int .i64 (bg D J Y)) (by unfold ow; rw [HM.out, WY.out, Bool.and_self, if_pos rfl, Int.add_zero])).mono ?_
                    rintro _ wn ⟨rfl, z⟩
                    replace HZ := Lib.hid (HZ.out.trans (z.mono HZ.out.size))
                    clear g_c c0_c c1_c c2_c c3_c
                    replace Bc := Lib.hid (Bc.out.below z)
                    obtain ⟨g_c, c0_c, c1_c, c2_c, c3_c⟩ := Bc.out
                    clear z
                    go_wp2_with fail
                    refine (Tells.of (bottom_any W D J S Y _) (v' := .int .i64 (bg D J Y + 1)) (by unfold ow; rw [HM.out, WY.out]; rfl)).mono ?_
                    rintro _ wn ⟨rfl, z⟩
                    replace HZ := Lib.hid (HZ.out.trans (z.mono HZ.out.size))
                    clear g_c c0_c c1_c c2_c c3_c
                    replace Bc := Lib.hid (Bc.out.below z)
                    obtain ⟨g_c, c0_c, c1_c, c2_c, c3_c⟩ := Bc.out
                    clear z
                    go_wp2_with fail
                    go_meet
                    exact ⟨true, rfl, Lib.hid (.inl rfl), HZ, Bc⟩
                  · have e1 : (bg D J Y + 1 == i) = false := by simp [h1]
                    have H1 := Lib.hid h1
                    clear h1
                    by_cases h2 : bg D J Y + 2 = i
                    · have e2 : (bg D J Y + 2 == i) = true := by simp [h2]
                      clear h2
                      go_wp2_with fail
                      refine (Tells.of (top_any W D J S Y _) (v' := .int .i64 (bg D J Y)) (by unfold ow; rw [HM.out, WY.out, Bool.and_self, if_pos rfl, Int.add_zero])).mono ?_
                      rintro _ wn ⟨rfl, z⟩
                      replace HZ := Lib.hid (HZ.out.trans (z.mono HZ.out.size))
                      clear g_c c0_c c1_c c2_c c3_c
                      replace Bc := Lib.hid (Bc.out.below z)
                      obtain ⟨g_c, c0_c, c1_c, c2_c, c3_c⟩ := Bc.out
                      clear z
                      go_wp2_with fail
                      refine (Tells.of (bottom_any W D J S Y _) (v' := .int .i64 (bg D J Y + 1)) (by unfold ow; rw [HM.out, WY.out]; rfl)).mono ?_
                      rintro _ wn ⟨rfl, z⟩
                      replace HZ := Lib.hid (HZ.out.trans (z.mono HZ.out.size))
                      clear g_c c0_c c1_c c2_c c3_c
                      replace Bc := Lib.hid (Bc.out.below z)
                      obtain ⟨g_c, c0_c, c1_c, c2_c, c3_c⟩ := Bc.out
                      clear z
                      go_wp2_with fail
                      refine (Tells.of (park_any W D J S Y _) (v' := .int .i64 (bg D J Y + 2)) (by unfold ow; rw [HM.out, WY.out]; rfl)).mono ?_
                      rintro _ wn ⟨rfl, z⟩
                      replace HZ := Lib.hid (HZ.out.trans (z.mono HZ.out.size))
                      clear g_c c0_c c1_c c2_c c3_c
                      replace Bc := Lib.hid (Bc.out.below z)
                      obtain ⟨g_c, c0_c, c1_c, c2_c, c3_c⟩ := Bc.out
                      clear z
                      go_wp2_with fail
                      go_meet
                      exact ⟨true, rfl, Lib.hid (.inl rfl), HZ, Bc⟩
                    · have e2 : (bg D J Y + 2 == i) = false := by simp [h2]
                      have H2 := Lib.hid h2
                      clear h2
                      by_cases h3 : bg D J Y + 3 + (X : Int) % D = i
                      · have e3 : (bg D J Y + 3 + (X : Int) % D == i) = true := by simp [h3]
                        clear h3
                        go_wp2_with fail
                        refine (Tells.of (top_any W D J S Y _) (v' := .int .i64 (bg D J Y)) (by unfold ow; rw [HM.out, WY.out, Bool.and_self, if_pos rfl, Int.add_zero])).mono ?_
                        rintro _ wn ⟨rfl, z⟩
                        replace HZ := Lib.hid (HZ.out.trans (z.mono HZ.out.size))
                        clear g_c c0_c c1_c c2_c c3_c
                        replace Bc := Lib.hid (Bc.out.below z)
                        obtain ⟨g_c, c0_c, c1_c, c2_c, c3_c⟩ := Bc.out
                        clear z
                        go_wp2_with fail
                        refine (Tells.of (bottom_any W D J S Y _) (v' := .int .i64 (bg D J Y + 1)) (by unfold ow; rw [HM.out, WY.out]; rfl)).mono ?_
                        rintro _ wn ⟨rfl, z⟩
                        replace HZ := Lib.hid (HZ.out.trans (z.mono HZ.out.size))
                        clear g_c c0_c c1_c c2_c c3_c
                        replace Bc := Lib.hid (Bc.out.below z)
                        obtain ⟨g_c, c0_c, c1_c, c2_c, c3_c⟩ := Bc.out
                        clear z
                        go_wp2_with fail
                        refine (Tells.of (park_any W D J S Y _) (v' := .int .i64 (bg D J Y + 2)) (by unfold ow; rw [HM.out, WY.out]; rfl)).mono ?_
                        rintro _ wn ⟨rfl, z⟩
                        replace HZ := Lib.hid (HZ.out.trans (z.mono HZ.out.size))
                        clear g_c c0_c c1_c c2_c c3_c
                        replace Bc := Lib.hid (Bc.out.below z)
                        obtain ⟨g_c, c0_c, c1_c, c2_c, c3_c⟩ := Bc.out
                        clear z
                        go_wp2_with fail
                        refine (Tells.of (slot_any W D J S Y X _ (by unfold U; omega)) (v' := .int .i64 (bg D J Y + 3 + (X : Int) % D)) (by unfold sl; rw [HM.out, WY.out]; rfl)).mono ?_
                        rintro _ wn ⟨rfl, z⟩
                        replace HZ := Lib.hid (HZ.out.trans (z.mono HZ.out.size))
                        clear g_c c0_c c1_c c2_c c3_c
                        replace Bc := Lib.hid (Bc.out.below z)
                        obtain ⟨g_c, c0_c, c1_c, c2_c, c3_c⟩ := Bc.out
                        clear z
                        go_wp2_with fail
                        go_meet
                        exact ⟨true, rfl, Lib.hid (.inl rfl), HZ, Bc⟩
                      · have e3 : (bg D J Y + 3 + (X : Int) % D == i) = false := by simp [h3]
                        have H3 := Lib.hid h3
                        clear h3
                        go_wp2_with fail
                        refine (Tells.of (top_any W D J S Y _) (v' := .int .i64 (bg D J Y)) (by unfold ow; rw [HM.out, WY.out, Bool.and_self, if_pos rfl, Int.add_zero])).mono ?_
                        rintro _ wn ⟨rfl, z⟩
                        replace HZ := Lib.hid (HZ.out.trans (z.mono HZ.out.size))
                        clear g_c c0_c c1_c c2_c c3_c
                        replace Bc := Lib.hid (Bc.out.below z)
                        obtain ⟨g_c, c0_c, c1_c, c2_c, c3_c⟩ := Bc.out
                        clear z
                        go_wp2_with fail
                        refine (Tells.of (bottom_any W D J S Y _) (v' := .int .i64 (bg D J Y + 1)) (by unfold ow; rw [HM.out, WY.out]; rfl)).mono ?_
                        rintro _ wn ⟨rfl, z⟩
                        replace HZ := Lib.hid (HZ.out.trans (z.mono HZ.out.size))
                        clear g_c c0_c c1_c c2_c c3_c
                        replace Bc := Lib.hid (Bc.out.below z)
                        obtain ⟨g_c, c0_c, c1_c, c2_c, c3_c⟩ := Bc.out
                        clear z
                        go_wp2_with fail
                        refine (Tells.of (park_any W D J S Y _) (v' := .int .i64 (bg D J Y + 2)) (by unfold ow; rw [HM.out, WY.out]; rfl)).mono ?_
                        rintro _ wn ⟨rfl, z⟩
                        replace HZ := Lib.hid (HZ.out.trans (z.mono HZ.out.size))
                        clear g_c c0_c c1_c c2_c c3_c
                        replace Bc := Lib.hid (Bc.out.below z)
                        obtain ⟨g_c, c0_c, c1_c, c2_c, c3_c⟩ := Bc.out
                        clear z
                        go_wp2_with fail
                        refine (Tells.of (slot_any W D J S Y X _ (by unfold U; omega)) (v' := .int .i64 (bg D J Y + 3 + (X : Int) % D)) (by unfold sl; rw [HM.out, WY.out]; rfl)).mono ?_
                        rintro _ wn ⟨rfl, z⟩
                        replace HZ := Lib.hid (HZ.out.trans (z.mono HZ.out.size))
                        clear g_c c0_c c1_c c2_c c3_c
                        replace Bc := Lib.hid (Bc.out.below z)
                        obtain ⟨g_c, c0_c, c1_c, c2_c, c3_c⟩ := Bc.out
                        clear z
                        go_wp2_with fail
                        go_meet
                        exact ⟨false, rfl, Lib.hid (.inr ⟨HB2.out.1, HB2.out.2.1, HB2.out.2.2.next ⟨H0.out, H1.out, H2.out, H3.out⟩⟩), HZ, Bc⟩
              · go_wp2_with fail
                go_meet
                exact ⟨true, rfl, Lib.hid (.inl rfl), HZ, Bc⟩
            case rest =>
              clear g_c c0_c c1_c c2_c c3_c HZ Bc HB
              obtain ⟨b, rfl, HB, HZ, Bc⟩ := hcut
              obtain ⟨g_c, c0_c, c1_c, c2_c, c3_c⟩ := Bc.out
              go_wp2
              go_roundw
              case rel => exact ⟨b, Y + 1, rfl, by go_num, by omega, HB, HZ, Bc⟩
              case measure => simp [intOf]; omega
          · have hYe : (Y : Int) = W := by omega
            have HYE := Lib.hid hYe
            clear hYe
            go_wp2
            go_roundw
            case rel => exact ⟨b, X + 1, rfl, by go_num, by omega, Lib.hid (HB.out.imp id fun h => h.1.next h.2.1 (fun y y0 y1 => h.2.2 y y0 (by rw [HYE.out]; exact y1))), HZ, Bc⟩
            case measure => simp [intOf]; omega
    · obtain rfl : X = 16 := by omega
      obtain rfl : b = true := by
        rcases HB.out with h | h
        · exact h
        · exact absurd h HA.out
      go_wp2
      go_ret
      exact ⟨rfl, HZ.out⟩
theorem layAll_walk (W D J S i : Int) (w : World) : Tells 5 #[cf W D J S, .int .i64 i] w (.bool true) := by
  cases hm : may W D J S
  · exact layAll_a W D J S i w hm
  · by_cases hi : 6 ≤ i ∧ i < bg D J W
    · exact layAll_c W D J S i w hm hi.1 hi.2
    · exact layAll_b W D J S i w hm (by omega)
end Go.Proofs.Ytmmojjpmnmjbkaa
