/- The walk of LayRing: a slot is that of each number that is a multiple of the room more. -/
import Derived.Test.YtmmojjpmnmjbkaaLayE
namespace Go.Proofs.Ytmmojjpmnmjbkaa
open Go.RowKit Go.Deep
theorem mod_more (x k : Int) {n : Int} : (x + k * n) % n = x % n := Int.add_mul_emod_self_right x k n
theorem mod_next (x : Int) {n : Int} (hn : 2 ≤ n) : ¬ (x + 1) % n = x % n := by
  intro h
  have := Int.emod_eq_emod_iff_emod_sub_eq_zero.1 h
  rw [show x + 1 - x = 1 by omega, Int.emod_eq_of_lt (by omega) (by omega)] at this
  omega
set_option maxHeartbeats 1000000 in
theorem layRing_a (W D J S y x k : Int) (w : World) (hm : may W D J S = false) : Tells 6 #[cf W D J S, .int .i64 y, .int .u64 x, .int .i64 k] w (.bool true) := by
  have HM := Lib.hid hm
  clear hm
  go_enter Try.func6, Try.ntmps6
  go_wp2_with fail
  have Bc := Lib.hid (Bx.mk w W D J S 23)
  obtain ⟨g_c, c0_c, c1_c, c2_c, c3_c⟩ := Bc.out
  refine (awake_any _).mono ?_
  rintro _ w1 ⟨rfl, z1⟩
  have HZ := Lib.hid ((box_below w _).trans (z1.mono (by simp)))
  clear g_c c0_c c1_c c2_c c3_c
  replace Bc := Lib.hid (Bc.out.below z1)
  obtain ⟨g_c, c0_c, c1_c, c2_c, c3_c⟩ := Bc.out
  clear z1
  go_wp2_with fail
  refine (Tells.of (may_any W D J S _) (v' := .bool false) (by rw [HM.out])).mono ?_
  rintro _ w2 ⟨rfl, z2⟩
  replace HZ := Lib.hid (HZ.out.trans (z2.mono HZ.out.size))
  clear g_c c0_c c1_c c2_c c3_c
  replace Bc := Lib.hid (Bc.out.below z2)
  obtain ⟨g_c, c0_c, c1_c, c2_c, c3_c⟩ := Bc.out
  clear z2
  go_wp2
  go_ret
  exact ⟨rfl, HZ.out⟩
set_option maxHeartbeats 1000000 in
theorem layRing_b (W D J S y x k : Int) (w : World) (hm : may W D J S = true) (hy : y < 0 ∨ (¬ y < 0 ∧ W ≤ y) ∨ (¬ y < 0 ∧ ¬ W ≤ y ∧ k < 0) ∨ (¬ y < 0 ∧ ¬ W ≤ y ∧ ¬ k < 0 ∧ 1000 < k) ∨ (¬ y < 0 ∧ ¬ W ≤ y ∧ ¬ k < 0 ∧ ¬ 1000 < k ∧ 4611686018427387904 < x)) : Tells 6 #[cf W D J S, .int .i64 y, .int .u64 x, .int .i64 k] w (.bool true) := by
  have HM := Lib.hid hm
  obtain ⟨⟨w1', w2'⟩, ⟨d1, d2⟩, ⟨j1, j2⟩, ⟨s1, s2⟩⟩ := may_lim hm
  clear hm
  rcases hy with hy | ⟨hy0, hy⟩ | ⟨hy0, hy1, hy⟩ | ⟨hy0, hy1, hy2, hy⟩ | ⟨hy0, hy1, hy2, hy3, hy⟩
  all_goals
    go_enter Try.func6, Try.ntmps6
    go_wp2_with fail
    have Bc := Lib.hid (Bx.mk w W D J S 23)
    obtain ⟨g_c, c0_c, c1_c, c2_c, c3_c⟩ := Bc.out
    refine (awake_any _).mono ?_
    rintro _ w1 ⟨rfl, z1⟩
    have HZ := Lib.hid ((box_below w _).trans (z1.mono (by simp)))
    clear g_c c0_c c1_c c2_c c3_c
    replace Bc := Lib.hid (Bc.out.below z1)
    obtain ⟨g_c, c0_c, c1_c, c2_c, c3_c⟩ := Bc.out
    clear z1
    go_wp2_with fail
    refine (Tells.of (may_any W D J S _) (v' := .bool true) (by rw [HM.out])).mono ?_
    rintro _ w2 ⟨rfl, z2⟩
    replace HZ := Lib.hid (HZ.out.trans (z2.mono HZ.out.size))
    clear g_c c0_c c1_c c2_c c3_c
    replace Bc := Lib.hid (Bc.out.below z2)
    obtain ⟨g_c, c0_c, c1_c, c2_c, c3_c⟩ := Bc.out
    clear z2
    go_wp2
    go_ret
    exact ⟨rfl, HZ.out⟩
set_option maxHeartbeats 2000000 in
theorem layRing_c11 (W D J S y x k : Int) (w : World) (hx : U x) (hm : may W D J S = true) (hy : 0 ≤ y ∧ y < W) (hk : 0 ≤ k ∧ k ≤ 1000) (hx2 : x ≤ 4611686018427387904) (hd : D = 1) (hj : J = 1) : Tells 6 #[cf W D J S, .int .i64 y, .int .u64 x, .int .i64 k] w (.bool true) := by
  have HM := Lib.hid hm
  obtain ⟨⟨w1', w2'⟩, ⟨d1, d2⟩, ⟨j1, j2⟩, ⟨s1, s2⟩⟩ := may_lim hm
  clear hm
  have hy0 : ¬ y < 0 := by omega
  have hy1 : ¬ W ≤ y := by omega
  have hk0 : ¬ k < 0 := by omega
  have hk1 : ¬ 1000 < k := by omega
  have hx1 : ¬ 4611686018427387904 < x := by omega
  have kd0 : 0 ≤ k * D := Int.mul_nonneg (by omega) (by omega)
  have kd1 : k * D ≤ 1000 * 16 := Int.mul_le_mul (by omega) (by omega) (by omega) (by omega)
  have kj0 : 0 ≤ k * J := Int.mul_nonneg (by omega) (by omega)
  have kj1 : k * J ≤ 1000 * 16 := Int.mul_le_mul (by omega) (by omega) (by omega) (by omega)
  have wy : wi y 0 (W - 1) = true := wi_true.2 ⟨by omega, by omega⟩
  have CS : ∀ z w, U z → Tells 27 #[cf W D J S, .int .i64 y, .int .u64 z] w (.int .i64 (bg D J y + 3 + z % D)) := fun z w hz => Tells.of (slot_any _ _ _ _ _ _ w hz) (by unfold sl; rw [HM.out, wy]; rfl)
  have CQ : ∀ z w, U z → Tells 17 #[cf W D J S, .int .u64 z] w (.int .i64 (6 + z % J)) := fun z w hz => Tells.of (seq_any _ _ _ _ _ w hz) (by unfold sq; rw [HM.out]; rfl)
  have CV : ∀ z w, U z → Tells 19 #[cf W D J S, .int .u64 z] w (.int .i64 (6 + J + z % J)) := fun z w hz => Tells.of (val_any _ _ _ _ _ w hz) (by unfold vl; rw [HM.out]; rfl)
  have HCS := Lib.hid CS
  have HCQ := Lib.hid CQ
  have HCV := Lib.hid CV
  have ux : 0 ≤ x := hx.1
  have HX := Lib.hid hx
  have HXD := Lib.hid (show U (x + k * D) by unfold U; omega)
  have HXJ := Lib.hid (show U (x + k * J) by unfold U; omega)
  have HX1 := Lib.hid (show U (x + 1) by unfold U; omega)
  have HE1 := Lib.hid (mod_more x k (n := D))
  have HE2 := Lib.hid (mod_more x k (n := J))
  clear CS CQ CV hx wy
  have HDB := Lib.hid (show (D == 1) = true by simp [hd])
  have HJB := Lib.hid (show (J == 1) = true by simp [hj])
  clear hd hj
  go_enter Try.func6, Try.ntmps6
  go_wp2_with fail
  have Bc := Lib.hid (Bx.mk w W D J S 23)
  obtain ⟨g_c, c0_c, c1_c, c2_c, c3_c⟩ := Bc.out
  refine (awake_any _).mono ?_
  rintro _ w1 ⟨rfl, z1⟩
  have HZ := Lib.hid ((box_below w _).trans (z1.mono (by simp)))
  clear g_c c0_c c1_c c2_c c3_c
  replace Bc := Lib.hid (Bc.out.below z1)
  obtain ⟨g_c, c0_c, c1_c, c2_c, c3_c⟩ := Bc.out
  clear z1
  go_wp2_with fail
  refine (Tells.of (may_any W D J S _) (v' := .bool true) (by rw [HM.out])).mono ?_
  rintro _ w2 ⟨rfl, z2⟩
  replace HZ := Lib.hid (HZ.out.trans (z2.mono HZ.out.size))
  clear g_c c0_c c1_c c2_c c3_c
  replace Bc := Lib.hid (Bc.out.below z2)
  obtain ⟨g_c, c0_c, c1_c, c2_c, c3_c⟩ := Bc.out
  clear z2
  go_wp2_with fail
  have q1 : IntKind.i64.wrap (k * D) = k * D := IntWalk.i64_in _ ⟨by omega, by omega⟩
  have q2 : IntKind.u64.wrap (k * D) = k * D := IntWalk.u64_in _ ⟨by omega, by omega⟩
  have q3 : IntKind.u64.wrap (x + k * D) = x + k * D := IntWalk.u64_in _ ⟨by omega, by omega⟩
  have q4 : IntKind.i64.wrap (k * J) = k * J := IntWalk.i64_in _ ⟨by omega, by omega⟩
  have q5 : IntKind.u64.wrap (k * J) = k * J := IntWalk.u64_in _ ⟨by omega, by omega⟩
  have q6 : IntKind.u64.wrap (x + k * J) = x + k * J := IntWalk.u64_in _ ⟨by omega, by omega⟩
  have q7 : IntKind.u64.wrap (x + 1) = x + 1 := IntWalk.u64_in _ ⟨by omega, by omega⟩
  have hdb := HDB.out
  have hjb := HJB.out
  have BW := Lib.hid (HZ.out)
  have K : ∀ w', Below w2.heap.size w2 w' → w'.cell? ⟨w.heap.size, 0, none⟩ = some (.int .i64 W) ∧ w'.cell? ⟨w.heap.size, 1, none⟩ = some (.int .i64 D) ∧ w'.cell? ⟨w.heap.size, 2, none⟩ = some (.int .i64 J) ∧ w'.cell? ⟨w.heap.size, 3, none⟩ = some (.int .i64 S) ∧ Below w2.heap.size w2 w' := by
    intro w' hb
    obtain ⟨f00, f01, f02, f03⟩ := (Bx.below Bc.out hb).cells
    exact ⟨f00, f01, f02, f03, hb⟩
  have HK := Lib.hid K
  clear K
  simp only [List.append_eq, List.cons_append, List.nil_append]
  refine wp_region_held_drew (S := fun w' => w'.cell? ⟨w.heap.size, 0, none⟩ = some (.int .i64 W) ∧ w'.cell? ⟨w.heap.size, 1, none⟩ = some (.int .i64 D) ∧ w'.cell? ⟨w.heap.size, 2, none⟩ = some (.int .i64 J) ∧ w'.cell? ⟨w.heap.size, 3, none⟩ = some (.int .i64 S) ∧ Below w2.heap.size w2 w') (by kernel_rfl) (HK.out _ (keep_drew (Below.refl _ _))) (fun hHeld => ?_)
  refine wpAnyH_take (i := 0) (oi := { dst := some 41, op := Go.Op.load 23 (Go.Operand.tmp 4), type := 23, pos := "more.go:14", after := #[], guard := none }) (v := ?v11_0) rfl (by kernel_rfl) (by kernel_rfl) (by kernel_rfl) (fun _ _ _ h => h) (Or.inl ⟨by rfl, ?y11_0⟩) (by assumption) ?r11_0
  case y11_0 => (intro w hSw; (try dsimp only at hSw); go_simp; (try with_reducible rfl))
  (try simp only [Act.put, List.setIfInBounds_toArray, List.set_cons_zero, List.set_cons_succ])
  refine wpAnyH_take (i := 1) (oi := { dst := some 42, op := Go.Op.move (Go.Operand.tmp 1), type := 3, pos := "more.go:14", after := #[], guard := none }) (v := ?v11_1) rfl (by kernel_rfl) (by kernel_rfl) (by kernel_rfl) (fun _ _ _ h => h) (Or.inl ⟨by rfl, ?y11_1⟩) (by assumption) ?r11_1
  case y11_1 => (intro w hSw; (try dsimp only at hSw); go_simp; (try with_reducible rfl))
  (try simp only [Act.put, List.setIfInBounds_toArray, List.set_cons_zero, List.set_cons_succ])
  refine wpAnyH_take (i := 2) (oi := { dst := some 43, op := Go.Op.move (Go.Operand.tmp 2), type := 24, pos := "more.go:14", after := #[], guard := none }) (v := ?v11_2) rfl (by kernel_rfl) (by kernel_rfl) (by kernel_rfl) (fun _ _ _ h => h) (Or.inl ⟨by rfl, ?y11_2⟩) (by assumption) ?r11_2
  case y11_2 => (intro w hSw; (try dsimp only at hSw); go_simp; (try with_reducible rfl))
  (try simp only [Act.put, List.setIfInBounds_toArray, List.set_cons_zero, List.set_cons_succ])
  refine wpAnyH_take (i := 3) (oi := { dst := some 44, op := Go.Op.move (Go.Operand.tmp 3), type := 3, pos := "more.go:14", after := #[], guard := none }) (v := ?v11_3) rfl (by kernel_rfl) (by kernel_rfl) (by kernel_rfl) (fun _ _ _ h => h) (Or.inl ⟨by rfl, ?y11_3⟩) (by assumption) ?r11_3
  case y11_3 => (intro w hSw; (try dsimp only at hSw); go_simp; (try with_reducible rfl))
  (try simp only [Act.put, List.setIfInBounds_toArray, List.set_cons_zero, List.set_cons_succ])
  refine wpAnyH_take (i := 4) (oi := { dst := some 45, op := Go.Op.fieldAddr 23 (Go.Operand.tmp 4) 1, type := 0, pos := "more.go:14", after := #[], guard := none }) (v := ?v11_4) rfl (by kernel_rfl) (by kernel_rfl) (by kernel_rfl) (fun _ _ _ h => h) (Or.inl ⟨by rfl, ?y11_4⟩) (by assumption) ?r11_4
  case y11_4 => (intro w hSw; (try dsimp only at hSw); go_simp; (try with_reducible rfl))
  (try simp only [Act.put, List.setIfInBounds_toArray, List.set_cons_zero, List.set_cons_succ])
  refine wpAnyH_take (i := 5) (oi := { dst := some 46, op := Go.Op.load 3 (Go.Operand.tmp 45), type := 3, pos := "more.go:14", after := #[{ on := 4, ground := Go.Ground.data }], guard := none }) (v := ?v11_5) rfl (by kernel_rfl) (by kernel_rfl) (by kernel_rfl) (fun _ _ _ h => h) (Or.inl ⟨by rfl, ?y11_5⟩) (by assumption) ?r11_5
  case y11_5 => (intro w hSw; (try dsimp only at hSw); go_simp; (try with_reducible rfl))
  (try simp only [Act.put, List.setIfInBounds_toArray, List.set_cons_zero, List.set_cons_succ])
  refine wpAnyH_take (i := 6) (oi := { dst := some 47, op := Go.Op.binOp Go.BinOp.mul 3 (Go.Operand.tmp 44) (Go.Operand.tmp 46) 3, type := 3, pos := "more.go:14", after := #[{ on := 3, ground := Go.Ground.data }, { on := 5, ground := Go.Ground.data }], guard := none }) (v := ?v11_6) rfl (by kernel_rfl) (by kernel_rfl) (by kernel_rfl) (fun _ _ _ h => h) (Or.inl ⟨by rfl, ?y11_6⟩) (by assumption) ?r11_6
  case y11_6 => (intro w hSw; (try dsimp only at hSw); go_simp; (try with_reducible rfl))
  (try simp only [Act.put, List.setIfInBounds_toArray, List.set_cons_zero, List.set_cons_succ])
  refine wpAnyH_take (i := 7) (oi := { dst := some 48, op := Go.Op.convert 3 24 (Go.Operand.tmp 47), type := 24, pos := "more.go:14", after := #[{ on := 6, ground := Go.Ground.data }], guard := none }) (v := ?v11_7) rfl (by kernel_rfl) (by kernel_rfl) (by kernel_rfl) (fun _ _ _ h => h) (Or.inl ⟨by rfl, ?y11_7⟩) (by assumption) ?r11_7
  case y11_7 => (intro w hSw; (try dsimp only at hSw); go_simp; (try with_reducible rfl))
  (try simp only [Act.put, List.setIfInBounds_toArray, List.set_cons_zero, List.set_cons_succ])
  refine wpAnyH_take (i := 8) (oi := { dst := some 49, op := Go.Op.binOp Go.BinOp.add 24 (Go.Operand.tmp 43) (Go.Operand.tmp 48) 24, type := 24, pos := "more.go:14", after := #[{ on := 2, ground := Go.Ground.data }, { on := 7, ground := Go.Ground.data }], guard := none }) (v := ?v11_8) rfl (by kernel_rfl) (by kernel_rfl) (by kernel_rfl) (fun _ _ _ h => h) (Or.inl ⟨by rfl, ?y11_8⟩) (by assumption) ?r11_8
  case y11_8 => (intro w hSw; (try dsimp only at hSw); go_simp; (try with_reducible rfl))
  (try simp only [Act.put, List.setIfInBounds_toArray, List.set_cons_zero, List.set_cons_succ])
  refine wpAnyH_take (i := 10) (oi := { dst := some 51, op := Go.Op.load 23 (Go.Operand.tmp 4), type := 23, pos := "more.go:14", after := #[], guard := none }) (v := ?v11_10) rfl (by kernel_rfl) (by kernel_rfl) (by kernel_rfl) (fun _ _ _ h => h) (Or.inl ⟨by rfl, ?y11_10⟩) (by assumption) ?r11_10
  case y11_10 => (intro w hSw; (try dsimp only at hSw); go_simp; (try with_reducible rfl))
  (try simp only [Act.put, List.setIfInBounds_toArray, List.set_cons_zero, List.set_cons_succ])
  refine wpAnyH_take (i := 11) (oi := { dst := some 52, op := Go.Op.move (Go.Operand.tmp 1), type := 3, pos := "more.go:14", after := #[], guard := none }) (v := ?v11_11) rfl (by kernel_rfl) (by kernel_rfl) (by kernel_rfl) (fun _ _ _ h => h) (Or.inl ⟨by rfl, ?y11_11⟩) (by assumption) ?r11_11
  case y11_11 => (intro w hSw; (try dsimp only at hSw); go_simp; (try with_reducible rfl))
  (try simp only [Act.put, List.setIfInBounds_toArray, List.set_cons_zero, List.set_cons_succ])
  refine wpAnyH_take (i := 12) (oi := { dst := some 53, op := Go.Op.move (Go.Operand.tmp 2), type := 24, pos := "more.go:14", after := #[], guard := none }) (v := ?v11_12) rfl (by kernel_rfl) (by kernel_rfl) (by kernel_rfl) (fun _ _ _ h => h) (Or.inl ⟨by rfl, ?y11_12⟩) (by assumption) ?r11_12
  case y11_12 => (intro w hSw; (try dsimp only at hSw); go_simp; (try with_reducible rfl))
  (try simp only [Act.put, List.setIfInBounds_toArray, List.set_cons_zero, List.set_cons_succ])
  refine wpAnyH_ready (rs := [9]) (by kernel_rfl) (by simp) ?_
  refine AllReadyH.cons (o := { dst := some 50, op := Go.Op.call { callee := Go.Callee.value (Go.Operand.func 27), args := #[Go.Operand.tmp 41, Go.Operand.tmp 42, Go.Operand.tmp 49], argTypes := #[23, 3, 24] }, type := 3, pos := "more.go:14", after := #[{ on := 0, ground := Go.Ground.data }, { on := 1, ground := Go.Ground.data }, { on := 8, ground := Go.Ground.data }], guard := none }) rfl (fun K hK => ?_) AllReadyH.nil
  go_simp
  refine (Tells.of (HCS.out (x + k * D) _ HXD.out) (v' := .int .i64 (bg D J y + 3 + x % D)) (congrArg (fun z => Value.int .i64 (bg D J y + 3 + z)) HE1.out)).mono ?_
  rintro e w' ⟨rfl, hb⟩
  go_wp2_with fail
  refine hK.out _ _ (held_call HK.out (fun _ h => h.2.2.2.2) hb hHeld) (fun hHeld2 => ?_)
  clear hK K hHeld
  have hHeld := hHeld2
  clear hHeld2
  (try simp only [Act.put, List.setIfInBounds_toArray, List.set_cons_zero, List.set_cons_succ])
  refine wpAnyH_ready (rs := [13]) (by kernel_rfl) (by simp) ?_
  refine AllReadyH.cons (o := { dst := some 54, op := Go.Op.call { callee := Go.Callee.value (Go.Operand.func 27), args := #[Go.Operand.tmp 51, Go.Operand.tmp 52, Go.Operand.tmp 53], argTypes := #[23, 3, 24] }, type := 3, pos := "more.go:14", after := #[{ on := 10, ground := Go.Ground.data }, { on := 11, ground := Go.Ground.data }, { on := 12, ground := Go.Ground.data }, { on := 9, ground := Go.Ground.chain }], guard := none }) rfl (fun K hK => ?_) AllReadyH.nil
  go_simp
  refine (HCS.out x _ HX.out).mono ?_
  rintro e w' ⟨rfl, hb⟩
  go_wp2_with fail
  refine hK.out _ _ (held_call HK.out (fun _ h => h.2.2.2.2) hb hHeld) (fun hHeld2 => ?_)
  clear hK K hHeld
  have hHeld := hHeld2
  clear hHeld2
  (try simp only [Act.put, List.setIfInBounds_toArray, List.set_cons_zero, List.set_cons_succ])
  refine wpAnyH_take (i := 14) (oi := { dst := some 55, op := Go.Op.binOp Go.BinOp.eql 3 (Go.Operand.tmp 50) (Go.Operand.tmp 54) 3, type := 4, pos := "more.go:14", after := #[{ on := 9, ground := Go.Ground.data }, { on := 13, ground := Go.Ground.data }], guard := none }) (v := ?v11_14) rfl (by kernel_rfl) (by kernel_rfl) (by kernel_rfl) (fun _ _ _ h => h) (Or.inl ⟨by rfl, ?y11_14⟩) (by assumption) ?r11_14
  case y11_14 => (intro w hSw; (try dsimp only at hSw); go_simp; (try with_reducible rfl))
  (try simp only [Act.put, List.setIfInBounds_toArray, List.set_cons_zero, List.set_cons_succ])
  refine wpAnyH_take (i := 15) (oi := { dst := some 56, op := Go.Op.move (Go.Operand.tmp 55), type := 4, pos := "more.go:14", after := #[{ on := 14, ground := Go.Ground.data }, { on := 13, ground := Go.Ground.chain }], guard := none }) (v := ?v11_15) rfl (by kernel_rfl) (by kernel_rfl) (by kernel_rfl) (fun _ _ _ h => h) (Or.inl ⟨by rfl, ?y11_15⟩) (by assumption) ?r11_15
  case y11_15 => (intro w hSw; (try dsimp only at hSw); go_simp; (try with_reducible rfl))
  (try simp only [Act.put, List.setIfInBounds_toArray, List.set_cons_zero, List.set_cons_succ])
  refine wpAnyH_take (i := 16) (oi := { dst := some 57, op := Go.Op.load 23 (Go.Operand.tmp 4), type := 23, pos := "more.go:14", after := #[{ on := 15, ground := Go.Ground.guard }], guard := some (15, true) }) (v := ?v11_16) rfl (by kernel_rfl) (by kernel_rfl) (by kernel_rfl) (fun _ _ _ h => h) (Or.inl ⟨by rfl, ?y11_16⟩) (by assumption) ?r11_16
  case y11_16 => (intro w hSw; (try dsimp only at hSw); go_simp; (try with_reducible rfl))
  (try simp only [Act.put, List.setIfInBounds_toArray, List.set_cons_zero, List.set_cons_succ])
  refine wpAnyH_take (i := 17) (oi := { dst := some 58, op := Go.Op.move (Go.Operand.tmp 2), type := 24, pos := "more.go:14", after := #[{ on := 15, ground := Go.Ground.guard }], guard := some (15, true) }) (v := ?v11_17) rfl (by kernel_rfl) (by kernel_rfl) (by kernel_rfl) (fun _ _ _ h => h) (Or.inl ⟨by rfl, ?y11_17⟩) (by assumption) ?r11_17
  case y11_17 => (intro w hSw; (try dsimp only at hSw); go_simp; (try with_reducible rfl))
  (try simp only [Act.put, List.setIfInBounds_toArray, List.set_cons_zero, List.set_cons_succ])
  refine wpAnyH_take (i := 18) (oi := { dst := some 59, op := Go.Op.move (Go.Operand.tmp 3), type := 3, pos := "more.go:14", after := #[{ on := 15, ground := Go.Ground.guard }], guard := some (15, true) }) (v := ?v11_18) rfl (by kernel_rfl) (by kernel_rfl) (by kernel_rfl) (fun _ _ _ h => h) (Or.inl ⟨by rfl, ?y11_18⟩) (by assumption) ?r11_18
  case y11_18 => (intro w hSw; (try dsimp only at hSw); go_simp; (try with_reducible rfl))
  (try simp only [Act.put, List.setIfInBounds_toArray, List.set_cons_zero, List.set_cons_succ])
  refine wpAnyH_take (i := 19) (oi := { dst := some 60, op := Go.Op.fieldAddr 23 (Go.Operand.tmp 4) 2, type := 0, pos := "more.go:14", after := #[{ on := 15, ground := Go.Ground.guard }], guard := some (15, true) }) (v := ?v11_19) rfl (by kernel_rfl) (by kernel_rfl) (by kernel_rfl) (fun _ _ _ h => h) (Or.inl ⟨by rfl, ?y11_19⟩) (by assumption) ?r11_19
  case y11_19 => (intro w hSw; (try dsimp only at hSw); go_simp; (try with_reducible rfl))
  (try simp only [Act.put, List.setIfInBounds_toArray, List.set_cons_zero, List.set_cons_succ])
  refine wpAnyH_take (i := 20) (oi := { dst := some 61, op := Go.Op.load 3 (Go.Operand.tmp 60), type := 3, pos := "more.go:14", after := #[{ on := 19, ground := Go.Ground.data }, { on := 15, ground := Go.Ground.guard }], guard := some (15, true) }) (v := ?v11_20) rfl (by kernel_rfl) (by kernel_rfl) (by kernel_rfl) (fun _ _ _ h => h) (Or.inl ⟨by rfl, ?y11_20⟩) (by assumption) ?r11_20
  case y11_20 => (intro w hSw; (try dsimp only at hSw); go_simp; (try with_reducible rfl))
  (try simp only [Act.put, List.setIfInBounds_toArray, List.set_cons_zero, List.set_cons_succ])
  refine wpAnyH_take (i := 21) (oi := { dst := some 62, op := Go.Op.binOp Go.BinOp.mul 3 (Go.Operand.tmp 59) (Go.Operand.tmp 61) 3, type := 3, pos := "more.go:14", after := #[{ on := 18, ground := Go.Ground.data }, { on := 20, ground := Go.Ground.data }, { on := 15, ground := Go.Ground.guard }], guard := some (15, true) }) (v := ?v11_21) rfl (by kernel_rfl) (by kernel_rfl) (by kernel_rfl) (fun _ _ _ h => h) (Or.inl ⟨by rfl, ?y11_21⟩) (by assumption) ?r11_21
  case y11_21 => (intro w hSw; (try dsimp only at hSw); go_simp; (try with_reducible rfl))
  (try simp only [Act.put, List.setIfInBounds_toArray, List.set_cons_zero, List.set_cons_succ])
  refine wpAnyH_take (i := 22) (oi := { dst := some 63, op := Go.Op.convert 3 24 (Go.Operand.tmp 62), type := 24, pos := "more.go:14", after := #[{ on := 21, ground := Go.Ground.data }, { on := 15, ground := Go.Ground.guard }], guard := some (15, true) }) (v := ?v11_22) rfl (by kernel_rfl) (by kernel_rfl) (by kernel_rfl) (fun _ _ _ h => h) (Or.inl ⟨by rfl, ?y11_22⟩) (by assumption) ?r11_22
  case y11_22 => (intro w hSw; (try dsimp only at hSw); go_simp; (try with_reducible rfl))
  (try simp only [Act.put, List.setIfInBounds_toArray, List.set_cons_zero, List.set_cons_succ])
  refine wpAnyH_take (i := 23) (oi := { dst := some 64, op := Go.Op.binOp Go.BinOp.add 24 (Go.Operand.tmp 58) (Go.Operand.tmp 63) 24, type := 24, pos := "more.go:14", after := #[{ on := 17, ground := Go.Ground.data }, { on := 22, ground := Go.Ground.data }, { on := 15, ground := Go.Ground.guard }], guard := some (15, true) }) (v := ?v11_23) rfl (by kernel_rfl) (by kernel_rfl) (by kernel_rfl) (fun _ _ _ h => h) (Or.inl ⟨by rfl, ?y11_23⟩) (by assumption) ?r11_23
  case y11_23 => (intro w hSw; (try dsimp only at hSw); go_simp; (try with_reducible rfl))
  (try simp only [Act.put, List.setIfInBounds_toArray, List.set_cons_zero, List.set_cons_succ])
  refine wpAnyH_take (i := 25) (oi := { dst := some 66, op := Go.Op.load 23 (Go.Operand.tmp 4), type := 23, pos := "more.go:14", after := #[{ on := 15, ground := Go.Ground.guard }], guard := some (15, true) }) (v := ?v11_25) rfl (by kernel_rfl) (by kernel_rfl) (by kernel_rfl) (fun _ _ _ h => h) (Or.inl ⟨by rfl, ?y11_25⟩) (by assumption) ?r11_25
  case y11_25 => (intro w hSw; (try dsimp only at hSw); go_simp; (try with_reducible rfl))
  (try simp only [Act.put, List.setIfInBounds_toArray, List.set_cons_zero, List.set_cons_succ])
  refine wpAnyH_take (i := 26) (oi := { dst := some 67, op := Go.Op.move (Go.Operand.tmp 2), type := 24, pos := "more.go:14", after := #[{ on := 15, ground := Go.Ground.guard }], guard := some (15, true) }) (v := ?v11_26) rfl (by kernel_rfl) (by kernel_rfl) (by kernel_rfl) (fun _ _ _ h => h) (Or.inl ⟨by rfl, ?y11_26⟩) (by assumption) ?r11_26
  case y11_26 => (intro w hSw; (try dsimp only at hSw); go_simp; (try with_reducible rfl))
  (try simp only [Act.put, List.setIfInBounds_toArray, List.set_cons_zero, List.set_cons_succ])
  refine wpAnyH_ready (rs := [24]) (by kernel_rfl) (by simp) ?_
  refine AllReadyH.cons (o := { dst := some 65, op := Go.Op.call { callee := Go.Callee.value (Go.Operand.func 17), args := #[Go.Operand.tmp 57, Go.Operand.tmp 64], argTypes := #[23, 24] }, type := 3, pos := "more.go:14", after := #[{ on := 16, ground := Go.Ground.data }, { on := 23, ground := Go.Ground.data }, { on := 15, ground := Go.Ground.chain }, { on := 15, ground := Go.Ground.guard }], guard := some (15, true) }) rfl (fun K hK => ?_) AllReadyH.nil
  go_simp
  refine (Tells.of (HCQ.out (x + k * J) _ HXJ.out) (v' := .int .i64 (6 + x % J)) (congrArg (fun z => Value.int .i64 (6 + z)) HE2.out)).mono ?_
  rintro e w' ⟨rfl, hb⟩
  go_wp2_with fail
  refine hK.out _ _ (held_call HK.out (fun _ h => h.2.2.2.2) hb hHeld) (fun hHeld2 => ?_)
  clear hK K hHeld
  have hHeld := hHeld2
  clear hHeld2
  (try simp only [Act.put, List.setIfInBounds_toArray, List.set_cons_zero, List.set_cons_succ])
  refine wpAnyH_ready (rs := [27]) (by kernel_rfl) (by simp) ?_
  refine AllReadyH.cons (o := { dst := some 68, op := Go.Op.call { callee := Go.Callee.value (Go.Operand.func 17), args := #[Go.Operand.tmp 66, Go.Operand.tmp 67], argTypes := #[23, 24] }, type := 3, pos := "more.go:14", after := #[{ on := 25, ground := Go.Ground.data }, { on := 26, ground := Go.Ground.data }, { on := 24, ground := Go.Ground.chain }, { on := 15, ground := Go.Ground.guard }], guard := some (15, true) }) rfl (fun K hK => ?_) AllReadyH.nil
  go_simp
  refine (HCQ.out x _ HX.out).mono ?_
  rintro e w' ⟨rfl, hb⟩
  go_wp2_with fail
  refine hK.out _ _ (held_call HK.out (fun _ h => h.2.2.2.2) hb hHeld) (fun hHeld2 => ?_)
  clear hK K hHeld
  have hHeld := hHeld2
  clear hHeld2
  (try simp only [Act.put, List.setIfInBounds_toArray, List.set_cons_zero, List.set_cons_succ])
  refine wpAnyH_take (i := 28) (oi := { dst := some 69, op := Go.Op.binOp Go.BinOp.eql 3 (Go.Operand.tmp 65) (Go.Operand.tmp 68) 3, type := 4, pos := "more.go:14", after := #[{ on := 24, ground := Go.Ground.data }, { on := 27, ground := Go.Ground.data }, { on := 15, ground := Go.Ground.guard }], guard := some (15, true) }) (v := ?v11_28) rfl (by kernel_rfl) (by kernel_rfl) (by kernel_rfl) (fun _ _ _ h => h) (Or.inl ⟨by rfl, ?y11_28⟩) (by assumption) ?r11_28
  case y11_28 => (intro w hSw; (try dsimp only at hSw); go_simp; (try with_reducible rfl))
  (try simp only [Act.put, List.setIfInBounds_toArray, List.set_cons_zero, List.set_cons_succ])
  refine wpAnyH_take (i := 29) (oi := { dst := some 70, op := Go.Op.pick (Go.Operand.tmp 56) (Go.Operand.tmp 69) (Go.Operand.const (Go.Value.bool false)), type := 4, pos := "more.go:14", after := #[{ on := 15, ground := Go.Ground.data }, { on := 28, ground := Go.Ground.data }], guard := none }) (v := ?v11_29) rfl (by kernel_rfl) (by kernel_rfl) (by kernel_rfl) (fun _ _ _ h => h) (Or.inl ⟨by rfl, ?y11_29⟩) (by assumption) ?r11_29
  case y11_29 => (intro w hSw; (try dsimp only at hSw); go_simp; (try with_reducible rfl))
  (try simp only [Act.put, List.setIfInBounds_toArray, List.set_cons_zero, List.set_cons_succ])
  refine wpAnyH_take (i := 30) (oi := { dst := some 71, op := Go.Op.move (Go.Operand.tmp 70), type := 4, pos := "more.go:14", after := #[{ on := 29, ground := Go.Ground.data }, { on := 27, ground := Go.Ground.chain }], guard := none }) (v := ?v11_30) rfl (by kernel_rfl) (by kernel_rfl) (by kernel_rfl) (fun _ _ _ h => h) (Or.inl ⟨by rfl, ?y11_30⟩) (by assumption) ?r11_30
  case y11_30 => (intro w hSw; (try dsimp only at hSw); go_simp; (try with_reducible rfl))
  (try simp only [Act.put, List.setIfInBounds_toArray, List.set_cons_zero, List.set_cons_succ])
  refine wpAnyH_take (i := 31) (oi := { dst := some 72, op := Go.Op.load 23 (Go.Operand.tmp 4), type := 23, pos := "more.go:14", after := #[{ on := 30, ground := Go.Ground.guard }], guard := some (30, true) }) (v := ?v11_31) rfl (by kernel_rfl) (by kernel_rfl) (by kernel_rfl) (fun _ _ _ h => h) (Or.inl ⟨by rfl, ?y11_31⟩) (by assumption) ?r11_31
  case y11_31 => (intro w hSw; (try dsimp only at hSw); go_simp; (try with_reducible rfl))
  (try simp only [Act.put, List.setIfInBounds_toArray, List.set_cons_zero, List.set_cons_succ])
  refine wpAnyH_take (i := 32) (oi := { dst := some 73, op := Go.Op.move (Go.Operand.tmp 2), type := 24, pos := "more.go:14", after := #[{ on := 30, ground := Go.Ground.guard }], guard := some (30, true) }) (v := ?v11_32) rfl (by kernel_rfl) (by kernel_rfl) (by kernel_rfl) (fun _ _ _ h => h) (Or.inl ⟨by rfl, ?y11_32⟩) (by assumption) ?r11_32
  case y11_32 => (intro w hSw; (try dsimp only at hSw); go_simp; (try with_reducible rfl))
  (try simp only [Act.put, List.setIfInBounds_toArray, List.set_cons_zero, List.set_cons_succ])
  refine wpAnyH_take (i := 33) (oi := { dst := some 74, op := Go.Op.move (Go.Operand.tmp 3), type := 3, pos := "more.go:14", after := #[{ on := 30, ground := Go.Ground.guard }], guard := some (30, true) }) (v := ?v11_33) rfl (by kernel_rfl) (by kernel_rfl) (by kernel_rfl) (fun _ _ _ h => h) (Or.inl ⟨by rfl, ?y11_33⟩) (by assumption) ?r11_33
  case y11_33 => (intro w hSw; (try dsimp only at hSw); go_simp; (try with_reducible rfl))
  (try simp only [Act.put, List.setIfInBounds_toArray, List.set_cons_zero, List.set_cons_succ])
  refine wpAnyH_take (i := 34) (oi := { dst := some 75, op := Go.Op.fieldAddr 23 (Go.Operand.tmp 4) 2, type := 0, pos := "more.go:14", after := #[{ on := 30, ground := Go.Ground.guard }], guard := some (30, true) }) (v := ?v11_34) rfl (by kernel_rfl) (by kernel_rfl) (by kernel_rfl) (fun _ _ _ h => h) (Or.inl ⟨by rfl, ?y11_34⟩) (by assumption) ?r11_34
  case y11_34 => (intro w hSw; (try dsimp only at hSw); go_simp; (try with_reducible rfl))
  (try simp only [Act.put, List.setIfInBounds_toArray, List.set_cons_zero, List.set_cons_succ])
  refine wpAnyH_take (i := 35) (oi := { dst := some 76, op := Go.Op.load 3 (Go.Operand.tmp 75), type := 3, pos := "more.go:14", after := #[{ on := 34, ground := Go.Ground.data }, { on := 30, ground := Go.Ground.guard }], guard := some (30, true) }) (v := ?v11_35) rfl (by kernel_rfl) (by kernel_rfl) (by kernel_rfl) (fun _ _ _ h => h) (Or.inl ⟨by rfl, ?y11_35⟩) (by assumption) ?r11_35
  case y11_35 => (intro w hSw; (try dsimp only at hSw); go_simp; (try with_reducible rfl))
  (try simp only [Act.put, List.setIfInBounds_toArray, List.set_cons_zero, List.set_cons_succ])
  refine wpAnyH_take (i := 36) (oi := { dst := some 77, op := Go.Op.binOp Go.BinOp.mul 3 (Go.Operand.tmp 74) (Go.Operand.tmp 76) 3, type := 3, pos := "more.go:14", after := #[{ on := 33, ground := Go.Ground.data }, { on := 35, ground := Go.Ground.data }, { on := 30, ground := Go.Ground.guard }], guard := some (30, true) }) (v := ?v11_36) rfl (by kernel_rfl) (by kernel_rfl) (by kernel_rfl) (fun _ _ _ h => h) (Or.inl ⟨by rfl, ?y11_36⟩) (by assumption) ?r11_36
  case y11_36 => (intro w hSw; (try dsimp only at hSw); go_simp; (try with_reducible rfl))
  (try simp only [Act.put, List.setIfInBounds_toArray, List.set_cons_zero, List.set_cons_succ])
  refine wpAnyH_take (i := 37) (oi := { dst := some 78, op := Go.Op.convert 3 24 (Go.Operand.tmp 77), type := 24, pos := "more.go:14", after := #[{ on := 36, ground := Go.Ground.data }, { on := 30, ground := Go.Ground.guard }], guard := some (30, true) }) (v := ?v11_37) rfl (by kernel_rfl) (by kernel_rfl) (by kernel_rfl) (fun _ _ _ h => h) (Or.inl ⟨by rfl, ?y11_37⟩) (by assumption) ?r11_37
  case y11_37 => (intro w hSw; (try dsimp only at hSw); go_simp; (try with_reducible rfl))
  (try simp only [Act.put, List.setIfInBounds_toArray, List.set_cons_zero, List.set_cons_succ])
  refine wpAnyH_take (i := 38) (oi := { dst := some 79, op := Go.Op.binOp Go.BinOp.add 24 (Go.Operand.tmp 73) (Go.Operand.tmp 78) 24, type := 24, pos := "more.go:14", after := #[{ on := 32, ground := Go.Ground.data }, { on := 37, ground := Go.Ground.data }, { on := 30, ground := Go.Ground.guard }], guard := some (30, true) }) (v := ?v11_38) rfl (by kernel_rfl) (by kernel_rfl) (by kernel_rfl) (fun _ _ _ h => h) (Or.inl ⟨by rfl, ?y11_38⟩) (by assumption) ?r11_38
  case y11_38 => (intro w hSw; (try dsimp only at hSw); go_simp; (try with_reducible rfl))
  (try simp only [Act.put, List.setIfInBounds_toArray, List.set_cons_zero, List.set_cons_succ])
  refine wpAnyH_take (i := 40) (oi := { dst := some 81, op := Go.Op.load 23 (Go.Operand.tmp 4), type := 23, pos := "more.go:14", after := #[{ on := 30, ground := Go.Ground.guard }], guard := some (30, true) }) (v := ?v11_40) rfl (by kernel_rfl) (by kernel_rfl) (by kernel_rfl) (fun _ _ _ h => h) (Or.inl ⟨by rfl, ?y11_40⟩) (by assumption) ?r11_40
  case y11_40 => (intro w hSw; (try dsimp only at hSw); go_simp; (try with_reducible rfl))
  (try simp only [Act.put, List.setIfInBounds_toArray, List.set_cons_zero, List.set_cons_succ])
  refine wpAnyH_take (i := 41) (oi := { dst := some 82, op := Go.Op.move (Go.Operand.tmp 2), type := 24, pos := "more.go:14", after := #[{ on := 30, ground := Go.Ground.guard }], guard := some (30, true) }) (v := ?v11_41) rfl (by kernel_rfl) (by kernel_rfl) (by kernel_rfl) (fun _ _ _ h => h) (Or.inl ⟨by rfl, ?y11_41⟩) (by assumption) ?r11_41
  case y11_41 => (intro w hSw; (try dsimp only at hSw); go_simp; (try with_reducible rfl))
  (try simp only [Act.put, List.setIfInBounds_toArray, List.set_cons_zero, List.set_cons_succ])
  refine wpAnyH_ready (rs := [39]) (by kernel_rfl) (by simp) ?_
  refine AllReadyH.cons (o := { dst := some 80, op := Go.Op.call { callee := Go.Callee.value (Go.Operand.func 19), args := #[Go.Operand.tmp 72, Go.Operand.tmp 79], argTypes := #[23, 24] }, type := 3, pos := "more.go:14", after := #[{ on := 31, ground := Go.Ground.data }, { on := 38, ground := Go.Ground.data }, { on := 30, ground := Go.Ground.chain }, { on := 30, ground := Go.Ground.guard }], guard := some (30, true) }) rfl (fun K hK => ?_) AllReadyH.nil
  go_simp
  refine (Tells.of (HCV.out (x + k * J) _ HXJ.out) (v' := .int .i64 (6 + J + x % J)) (congrArg (fun z => Value.int .i64 (6 + J + z)) HE2.out)).mono ?_
  rintro e w' ⟨rfl, hb⟩
  go_wp2_with fail
  refine hK.out _ _ (held_call HK.out (fun _ h => h.2.2.2.2) hb hHeld) (fun hHeld2 => ?_)
  clear hK K hHeld
  have hHeld := hHeld2
  clear hHeld2
  (try simp only [Act.put, List.setIfInBounds_toArray, List.set_cons_zero, List.set_cons_succ])
  refine wpAnyH_ready (rs := [42]) (by kernel_rfl) (by simp) ?_
  refine AllReadyH.cons (o := { dst := some 83, op := Go.Op.call { callee := Go.Callee.value (Go.Operand.func 19), args := #[Go.Operand.tmp 81, Go.Operand.tmp 82], argTypes := #[23, 24] }, type := 3, pos := "more.go:14", after := #[{ on := 40, ground := Go.Ground.data }, { on := 41, ground := Go.Ground.data }, { on := 39, ground := Go.Ground.chain }, { on := 30, ground := Go.Ground.guard }], guard := some (30, true) }) rfl (fun K hK => ?_) AllReadyH.nil
  go_simp
  refine (HCV.out x _ HX.out).mono ?_
  rintro e w' ⟨rfl, hb⟩
  go_wp2_with fail
  refine hK.out _ _ (held_call HK.out (fun _ h => h.2.2.2.2) hb hHeld) (fun hHeld2 => ?_)
  clear hK K hHeld
  have hHeld := hHeld2
  clear hHeld2
  (try simp only [Act.put, List.setIfInBounds_toArray, List.set_cons_zero, List.set_cons_succ])
  refine wpAnyH_take (i := 43) (oi := { dst := some 84, op := Go.Op.binOp Go.BinOp.eql 3 (Go.Operand.tmp 80) (Go.Operand.tmp 83) 3, type := 4, pos := "more.go:14", after := #[{ on := 39, ground := Go.Ground.data }, { on := 42, ground := Go.Ground.data }, { on := 30, ground := Go.Ground.guard }], guard := some (30, true) }) (v := ?v11_43) rfl (by kernel_rfl) (by kernel_rfl) (by kernel_rfl) (fun _ _ _ h => h) (Or.inl ⟨by rfl, ?y11_43⟩) (by assumption) ?r11_43
  case y11_43 => (intro w hSw; (try dsimp only at hSw); go_simp; (try with_reducible rfl))
  (try simp only [Act.put, List.setIfInBounds_toArray, List.set_cons_zero, List.set_cons_succ])
  refine wpAnyH_take (i := 44) (oi := { dst := some 85, op := Go.Op.pick (Go.Operand.tmp 71) (Go.Operand.tmp 84) (Go.Operand.const (Go.Value.bool false)), type := 4, pos := "more.go:14", after := #[{ on := 30, ground := Go.Ground.data }, { on := 43, ground := Go.Ground.data }], guard := none }) (v := ?v11_44) rfl (by kernel_rfl) (by kernel_rfl) (by kernel_rfl) (fun _ _ _ h => h) (Or.inl ⟨by rfl, ?y11_44⟩) (by assumption) ?r11_44
  case y11_44 => (intro w hSw; (try dsimp only at hSw); go_simp; (try with_reducible rfl))
  (try simp only [Act.put, List.setIfInBounds_toArray, List.set_cons_zero, List.set_cons_succ])
  refine wpAnyH_take (i := 45) (oi := { dst := some 86, op := Go.Op.move (Go.Operand.tmp 85), type := 4, pos := "more.go:14", after := #[{ on := 44, ground := Go.Ground.data }, { on := 42, ground := Go.Ground.chain }], guard := none }) (v := ?v11_45) rfl (by kernel_rfl) (by kernel_rfl) (by kernel_rfl) (fun _ _ _ h => h) (Or.inl ⟨by rfl, ?y11_45⟩) (by assumption) ?r11_45
  case y11_45 => (intro w hSw; (try dsimp only at hSw); go_simp; (try with_reducible rfl))
  (try simp only [Act.put, List.setIfInBounds_toArray, List.set_cons_zero, List.set_cons_succ])
  refine wpAnyH_take (i := 46) (oi := { dst := some 87, op := Go.Op.fieldAddr 23 (Go.Operand.tmp 4) 1, type := 0, pos := "more.go:14", after := #[{ on := 45, ground := Go.Ground.guard }], guard := some (45, true) }) (v := ?v11_46) rfl (by kernel_rfl) (by kernel_rfl) (by kernel_rfl) (fun _ _ _ h => h) (Or.inl ⟨by rfl, ?y11_46⟩) (by assumption) ?r11_46
  case y11_46 => (intro w hSw; (try dsimp only at hSw); go_simp; (try with_reducible rfl))
  (try simp only [Act.put, List.setIfInBounds_toArray, List.set_cons_zero, List.set_cons_succ])
  refine wpAnyH_take (i := 47) (oi := { dst := some 88, op := Go.Op.load 3 (Go.Operand.tmp 87), type := 3, pos := "more.go:14", after := #[{ on := 46, ground := Go.Ground.data }, { on := 45, ground := Go.Ground.guard }], guard := some (45, true) }) (v := ?v11_47) rfl (by kernel_rfl) (by kernel_rfl) (by kernel_rfl) (fun _ _ _ h => h) (Or.inl ⟨by rfl, ?y11_47⟩) (by assumption) ?r11_47
  case y11_47 => (intro w hSw; (try dsimp only at hSw); go_simp; (try with_reducible rfl))
  (try simp only [Act.put, List.setIfInBounds_toArray, List.set_cons_zero, List.set_cons_succ])
  refine wpAnyH_take (i := 48) (oi := { dst := some 89, op := Go.Op.binOp Go.BinOp.eql 3 (Go.Operand.tmp 88) (Go.Operand.const (Go.Value.int Go.IntKind.i64 1)) 3, type := 4, pos := "more.go:14", after := #[{ on := 47, ground := Go.Ground.data }, { on := 45, ground := Go.Ground.guard }], guard := some (45, true) }) (v := ?v11_48) rfl (by kernel_rfl) (by kernel_rfl) (by kernel_rfl) (fun _ _ _ h => h) (Or.inl ⟨by rfl, ?y11_48⟩) (by assumption) ?r11_48
  case y11_48 => (intro w hSw; (try dsimp only at hSw); go_simp; (try with_reducible rfl))
  (try simp only [Act.put, List.setIfInBounds_toArray, List.set_cons_zero, List.set_cons_succ])
  refine wpAnyH_take (i := 49) (oi := { dst := some 90, op := Go.Op.move (Go.Operand.tmp 89), type := 4, pos := "more.go:14", after := #[{ on := 48, ground := Go.Ground.data }, { on := 45, ground := Go.Ground.chain }, { on := 45, ground := Go.Ground.guard }], guard := some (45, true) }) (v := ?v11_49) rfl (by kernel_rfl) (by kernel_rfl) (by kernel_rfl) (fun _ _ _ h => h) (Or.inl ⟨by rfl, ?y11_49⟩) (by assumption) ?r11_49
  case y11_49 => (intro w hSw; (try dsimp only at hSw); go_simp; (try with_reducible rfl))
  (try simp only [Act.put, List.setIfInBounds_toArray, List.set_cons_zero, List.set_cons_succ])
  refine wpAnyH_take (i := 50) (oi := { dst := some 91, op := Go.Op.load 23 (Go.Operand.tmp 4), type := 23, pos := "more.go:14", after := #[{ on := 49, ground := Go.Ground.guard }], guard := some (49, false) }) (v := undef) rfl (by kernel_rfl) (by kernel_rfl) (by kernel_rfl) (fun _ _ _ h => h) (Or.inr ⟨by rfl, rfl⟩) (by assumption) ?_
  (try simp only [Act.put, List.setIfInBounds_toArray, List.set_cons_zero, List.set_cons_succ])
  refine wpAnyH_take (i := 51) (oi := { dst := some 92, op := Go.Op.move (Go.Operand.tmp 1), type := 3, pos := "more.go:14", after := #[{ on := 49, ground := Go.Ground.guard }], guard := some (49, false) }) (v := undef) rfl (by kernel_rfl) (by kernel_rfl) (by kernel_rfl) (fun _ _ _ h => h) (Or.inr ⟨by rfl, rfl⟩) (by assumption) ?_
  (try simp only [Act.put, List.setIfInBounds_toArray, List.set_cons_zero, List.set_cons_succ])
  refine wpAnyH_take (i := 52) (oi := { dst := some 93, op := Go.Op.move (Go.Operand.tmp 2), type := 24, pos := "more.go:14", after := #[{ on := 49, ground := Go.Ground.guard }], guard := some (49, false) }) (v := undef) rfl (by kernel_rfl) (by kernel_rfl) (by kernel_rfl) (fun _ _ _ h => h) (Or.inr ⟨by rfl, rfl⟩) (by assumption) ?_
  (try simp only [Act.put, List.setIfInBounds_toArray, List.set_cons_zero, List.set_cons_succ])
  refine wpAnyH_take (i := 53) (oi := { dst := some 94, op := Go.Op.binOp Go.BinOp.add 24 (Go.Operand.tmp 93) (Go.Operand.const (Go.Value.int Go.IntKind.u64 1)) 24, type := 24, pos := "more.go:14", after := #[{ on := 52, ground := Go.Ground.data }, { on := 49, ground := Go.Ground.guard }], guard := some (49, false) }) (v := undef) rfl (by kernel_rfl) (by kernel_rfl) (by kernel_rfl) (fun _ _ _ h => h) (Or.inr ⟨by rfl, rfl⟩) (by assumption) ?_
  (try simp only [Act.put, List.setIfInBounds_toArray, List.set_cons_zero, List.set_cons_succ])
  refine wpAnyH_take (i := 54) (oi := { dst := some 95, op := Go.Op.call { callee := Go.Callee.value (Go.Operand.func 27), args := #[Go.Operand.tmp 91, Go.Operand.tmp 92, Go.Operand.tmp 94], argTypes := #[23, 3, 24] }, type := 3, pos := "more.go:14", after := #[{ on := 50, ground := Go.Ground.data }, { on := 51, ground := Go.Ground.data }, { on := 53, ground := Go.Ground.data }, { on := 49, ground := Go.Ground.chain }, { on := 49, ground := Go.Ground.guard }], guard := some (49, false) }) (v := undef) rfl (by kernel_rfl) (by kernel_rfl) (by kernel_rfl) (fun _ _ _ h => h) (Or.inr ⟨by rfl, rfl⟩) (by assumption) ?_
  (try simp only [Act.put, List.setIfInBounds_toArray, List.set_cons_zero, List.set_cons_succ])
  refine wpAnyH_take (i := 55) (oi := { dst := some 96, op := Go.Op.load 23 (Go.Operand.tmp 4), type := 23, pos := "more.go:14", after := #[{ on := 49, ground := Go.Ground.guard }], guard := some (49, false) }) (v := undef) rfl (by kernel_rfl) (by kernel_rfl) (by kernel_rfl) (fun _ _ _ h => h) (Or.inr ⟨by rfl, rfl⟩) (by assumption) ?_
  (try simp only [Act.put, List.setIfInBounds_toArray, List.set_cons_zero, List.set_cons_succ])
  refine wpAnyH_take (i := 56) (oi := { dst := some 97, op := Go.Op.move (Go.Operand.tmp 1), type := 3, pos := "more.go:14", after := #[{ on := 49, ground := Go.Ground.guard }], guard := some (49, false) }) (v := undef) rfl (by kernel_rfl) (by kernel_rfl) (by kernel_rfl) (fun _ _ _ h => h) (Or.inr ⟨by rfl, rfl⟩) (by assumption) ?_
  (try simp only [Act.put, List.setIfInBounds_toArray, List.set_cons_zero, List.set_cons_succ])
  refine wpAnyH_take (i := 57) (oi := { dst := some 98, op := Go.Op.move (Go.Operand.tmp 2), type := 24, pos := "more.go:14", after := #[{ on := 49, ground := Go.Ground.guard }], guard := some (49, false) }) (v := undef) rfl (by kernel_rfl) (by kernel_rfl) (by kernel_rfl) (fun _ _ _ h => h) (Or.inr ⟨by rfl, rfl⟩) (by assumption) ?_
  (try simp only [Act.put, List.setIfInBounds_toArray, List.set_cons_zero, List.set_cons_succ])
  refine wpAnyH_take (i := 58) (oi := { dst := some 99, op := Go.Op.call { callee := Go.Callee.value (Go.Operand.func 27), args := #[Go.Operand.tmp 96, Go.Operand.tmp 97, Go.Operand.tmp 98], argTypes := #[23, 3, 24] }, type := 3, pos := "more.go:14", after := #[{ on := 55, ground := Go.Ground.data }, { on := 56, ground := Go.Ground.data }, { on := 57, ground := Go.Ground.data }, { on := 54, ground := Go.Ground.chain }, { on := 49, ground := Go.Ground.guard }], guard := some (49, false) }) (v := undef) rfl (by kernel_rfl) (by kernel_rfl) (by kernel_rfl) (fun _ _ _ h => h) (Or.inr ⟨by rfl, rfl⟩) (by assumption) ?_
  (try simp only [Act.put, List.setIfInBounds_toArray, List.set_cons_zero, List.set_cons_succ])
  refine wpAnyH_take (i := 59) (oi := { dst := some 100, op := Go.Op.binOp Go.BinOp.neq 3 (Go.Operand.tmp 95) (Go.Operand.tmp 99) 3, type := 4, pos := "more.go:14", after := #[{ on := 54, ground := Go.Ground.data }, { on := 58, ground := Go.Ground.data }, { on := 49, ground := Go.Ground.guard }], guard := some (49, false) }) (v := undef) rfl (by kernel_rfl) (by kernel_rfl) (by kernel_rfl) (fun _ _ _ h => h) (Or.inr ⟨by rfl, rfl⟩) (by assumption) ?_
  (try simp only [Act.put, List.setIfInBounds_toArray, List.set_cons_zero, List.set_cons_succ])
  refine wpAnyH_take (i := 60) (oi := { dst := some 101, op := Go.Op.pick (Go.Operand.tmp 90) (Go.Operand.const (Go.Value.bool true)) (Go.Operand.tmp 100), type := 4, pos := "more.go:14", after := #[{ on := 49, ground := Go.Ground.data }, { on := 59, ground := Go.Ground.data }, { on := 45, ground := Go.Ground.guard }], guard := some (45, true) }) (v := ?v11_60) rfl (by kernel_rfl) (by kernel_rfl) (by kernel_rfl) (fun _ _ _ h => h) (Or.inl ⟨by rfl, ?y11_60⟩) (by assumption) ?r11_60
  case y11_60 => (intro w hSw; (try dsimp only at hSw); go_simp; (try with_reducible rfl))
  (try simp only [Act.put, List.setIfInBounds_toArray, List.set_cons_zero, List.set_cons_succ])
  refine wpAnyH_take (i := 61) (oi := { dst := some 102, op := Go.Op.pick (Go.Operand.tmp 86) (Go.Operand.tmp 101) (Go.Operand.const (Go.Value.bool false)), type := 4, pos := "more.go:14", after := #[{ on := 45, ground := Go.Ground.data }, { on := 60, ground := Go.Ground.data }], guard := none }) (v := ?v11_61) rfl (by kernel_rfl) (by kernel_rfl) (by kernel_rfl) (fun _ _ _ h => h) (Or.inl ⟨by rfl, ?y11_61⟩) (by assumption) ?r11_61
  case y11_61 => (intro w hSw; (try dsimp only at hSw); go_simp; (try with_reducible rfl))
  (try simp only [Act.put, List.setIfInBounds_toArray, List.set_cons_zero, List.set_cons_succ])
  refine wpAnyH_take (i := 62) (oi := { dst := some 103, op := Go.Op.move (Go.Operand.tmp 102), type := 4, pos := "more.go:14", after := #[{ on := 61, ground := Go.Ground.data }, { on := 58, ground := Go.Ground.chain }], guard := none }) (v := ?v11_62) rfl (by kernel_rfl) (by kernel_rfl) (by kernel_rfl) (fun _ _ _ h => h) (Or.inl ⟨by rfl, ?y11_62⟩) (by assumption) ?r11_62
  case y11_62 => (intro w hSw; (try dsimp only at hSw); go_simp; (try with_reducible rfl))
  (try simp only [Act.put, List.setIfInBounds_toArray, List.set_cons_zero, List.set_cons_succ])
  refine wpAnyH_take (i := 63) (oi := { dst := some 104, op := Go.Op.fieldAddr 23 (Go.Operand.tmp 4) 2, type := 0, pos := "more.go:14", after := #[{ on := 62, ground := Go.Ground.guard }], guard := some (62, true) }) (v := ?v11_63) rfl (by kernel_rfl) (by kernel_rfl) (by kernel_rfl) (fun _ _ _ h => h) (Or.inl ⟨by rfl, ?y11_63⟩) (by assumption) ?r11_63
  case y11_63 => (intro w hSw; (try dsimp only at hSw); go_simp; (try with_reducible rfl))
  (try simp only [Act.put, List.setIfInBounds_toArray, List.set_cons_zero, List.set_cons_succ])
  refine wpAnyH_take (i := 64) (oi := { dst := some 105, op := Go.Op.load 3 (Go.Operand.tmp 104), type := 3, pos := "more.go:14", after := #[{ on := 63, ground := Go.Ground.data }, { on := 62, ground := Go.Ground.guard }], guard := some (62, true) }) (v := ?v11_64) rfl (by kernel_rfl) (by kernel_rfl) (by kernel_rfl) (fun _ _ _ h => h) (Or.inl ⟨by rfl, ?y11_64⟩) (by assumption) ?r11_64
  case y11_64 => (intro w hSw; (try dsimp only at hSw); go_simp; (try with_reducible rfl))
  (try simp only [Act.put, List.setIfInBounds_toArray, List.set_cons_zero, List.set_cons_succ])
  refine wpAnyH_take (i := 65) (oi := { dst := some 106, op := Go.Op.binOp Go.BinOp.eql 3 (Go.Operand.tmp 105) (Go.Operand.const (Go.Value.int Go.IntKind.i64 1)) 3, type := 4, pos := "more.go:14", after := #[{ on := 64, ground := Go.Ground.data }, { on := 62, ground := Go.Ground.guard }], guard := some (62, true) }) (v := ?v11_65) rfl (by kernel_rfl) (by kernel_rfl) (by kernel_rfl) (fun _ _ _ h => h) (Or.inl ⟨by rfl, ?y11_65⟩) (by assumption) ?r11_65
  case y11_65 => (intro w hSw; (try dsimp only at hSw); go_simp; (try with_reducible rfl))
  (try simp only [Act.put, List.setIfInBounds_toArray, List.set_cons_zero, List.set_cons_succ])
  refine wpAnyH_take (i := 66) (oi := { dst := some 107, op := Go.Op.move (Go.Operand.tmp 106), type := 4, pos := "more.go:14", after := #[{ on := 65, ground := Go.Ground.data }, { on := 62, ground := Go.Ground.chain }, { on := 62, ground := Go.Ground.guard }], guard := some (62, true) }) (v := ?v11_66) rfl (by kernel_rfl) (by kernel_rfl) (by kernel_rfl) (fun _ _ _ h => h) (Or.inl ⟨by rfl, ?y11_66⟩) (by assumption) ?r11_66
  case y11_66 => (intro w hSw; (try dsimp only at hSw); go_simp; (try with_reducible rfl))
  (try simp only [Act.put, List.setIfInBounds_toArray, List.set_cons_zero, List.set_cons_succ])
  refine wpAnyH_take (i := 67) (oi := { dst := some 108, op := Go.Op.load 23 (Go.Operand.tmp 4), type := 23, pos := "more.go:14", after := #[{ on := 66, ground := Go.Ground.guard }], guard := some (66, false) }) (v := undef) rfl (by kernel_rfl) (by kernel_rfl) (by kernel_rfl) (fun _ _ _ h => h) (Or.inr ⟨by rfl, rfl⟩) (by assumption) ?_
  (try simp only [Act.put, List.setIfInBounds_toArray, List.set_cons_zero, List.set_cons_succ])
  refine wpAnyH_take (i := 68) (oi := { dst := some 109, op := Go.Op.move (Go.Operand.tmp 2), type := 24, pos := "more.go:14", after := #[{ on := 66, ground := Go.Ground.guard }], guard := some (66, false) }) (v := undef) rfl (by kernel_rfl) (by kernel_rfl) (by kernel_rfl) (fun _ _ _ h => h) (Or.inr ⟨by rfl, rfl⟩) (by assumption) ?_
  (try simp only [Act.put, List.setIfInBounds_toArray, List.set_cons_zero, List.set_cons_succ])
  refine wpAnyH_take (i := 69) (oi := { dst := some 110, op := Go.Op.binOp Go.BinOp.add 24 (Go.Operand.tmp 109) (Go.Operand.const (Go.Value.int Go.IntKind.u64 1)) 24, type := 24, pos := "more.go:14", after := #[{ on := 68, ground := Go.Ground.data }, { on := 66, ground := Go.Ground.guard }], guard := some (66, false) }) (v := undef) rfl (by kernel_rfl) (by kernel_rfl) (by kernel_rfl) (fun _ _ _ h => h) (Or.inr ⟨by rfl, rfl⟩) (by assumption) ?_
  (try simp only [Act.put, List.setIfInBounds_toArray, List.set_cons_zero, List.set_cons_succ])
  refine wpAnyH_take (i := 70) (oi := { dst := some 111, op := Go.Op.call { callee := Go.Callee.value (Go.Operand.func 17), args := #[Go.Operand.tmp 108, Go.Operand.tmp 110], argTypes := #[23, 24] }, type := 3, pos := "more.go:14", after := #[{ on := 67, ground := Go.Ground.data }, { on := 69, ground := Go.Ground.data }, { on := 66, ground := Go.Ground.chain }, { on := 66, ground := Go.Ground.guard }], guard := some (66, false) }) (v := undef) rfl (by kernel_rfl) (by kernel_rfl) (by kernel_rfl) (fun _ _ _ h => h) (Or.inr ⟨by rfl, rfl⟩) (by assumption) ?_
  (try simp only [Act.put, List.setIfInBounds_toArray, List.set_cons_zero, List.set_cons_succ])
  refine wpAnyH_take (i := 71) (oi := { dst := some 112, op := Go.Op.load 23 (Go.Operand.tmp 4), type := 23, pos := "more.go:14", after := #[{ on := 66, ground := Go.Ground.guard }], guard := some (66, false) }) (v := undef) rfl (by kernel_rfl) (by kernel_rfl) (by kernel_rfl) (fun _ _ _ h => h) (Or.inr ⟨by rfl, rfl⟩) (by assumption) ?_
  (try simp only [Act.put, List.setIfInBounds_toArray, List.set_cons_zero, List.set_cons_succ])
  refine wpAnyH_take (i := 72) (oi := { dst := some 113, op := Go.Op.move (Go.Operand.tmp 2), type := 24, pos := "more.go:14", after := #[{ on := 66, ground := Go.Ground.guard }], guard := some (66, false) }) (v := undef) rfl (by kernel_rfl) (by kernel_rfl) (by kernel_rfl) (fun _ _ _ h => h) (Or.inr ⟨by rfl, rfl⟩) (by assumption) ?_
  (try simp only [Act.put, List.setIfInBounds_toArray, List.set_cons_zero, List.set_cons_succ])
  refine wpAnyH_take (i := 73) (oi := { dst := some 114, op := Go.Op.call { callee := Go.Callee.value (Go.Operand.func 17), args := #[Go.Operand.tmp 112, Go.Operand.tmp 113], argTypes := #[23, 24] }, type := 3, pos := "more.go:14", after := #[{ on := 71, ground := Go.Ground.data }, { on := 72, ground := Go.Ground.data }, { on := 70, ground := Go.Ground.chain }, { on := 66, ground := Go.Ground.guard }], guard := some (66, false) }) (v := undef) rfl (by kernel_rfl) (by kernel_rfl) (by kernel_rfl) (fun _ _ _ h => h) (Or.inr ⟨by rfl, rfl⟩) (by assumption) ?_
  (try simp only [Act.put, List.setIfInBounds_toArray, List.set_cons_zero, List.set_cons_succ])
  refine wpAnyH_take (i := 74) (oi := { dst := some 115, op := Go.Op.binOp Go.BinOp.neq 3 (Go.Operand.tmp 111) (Go.Operand.tmp 114) 3, type := 4, pos := "more.go:14", after := #[{ on := 70, ground := Go.Ground.data }, { on := 73, ground := Go.Ground.data }, { on := 66, ground := Go.Ground.guard }], guard := some (66, false) }) (v := undef) rfl (by kernel_rfl) (by kernel_rfl) (by kernel_rfl) (fun _ _ _ h => h) (Or.inr ⟨by rfl, rfl⟩) (by assumption) ?_
  (try simp only [Act.put, List.setIfInBounds_toArray, List.set_cons_zero, List.set_cons_succ])
  refine wpAnyH_take (i := 75) (oi := { dst := some 116, op := Go.Op.pick (Go.Operand.tmp 107) (Go.Operand.const (Go.Value.bool true)) (Go.Operand.tmp 115), type := 4, pos := "more.go:14", after := #[{ on := 66, ground := Go.Ground.data }, { on := 74, ground := Go.Ground.data }, { on := 62, ground := Go.Ground.guard }], guard := some (62, true) }) (v := ?v11_75) rfl (by kernel_rfl) (by kernel_rfl) (by kernel_rfl) (fun _ _ _ h => h) (Or.inl ⟨by rfl, ?y11_75⟩) (by assumption) ?r11_75
  case y11_75 => (intro w hSw; (try dsimp only at hSw); go_simp; (try with_reducible rfl))
  (try simp only [Act.put, List.setIfInBounds_toArray, List.set_cons_zero, List.set_cons_succ])
  refine wpAnyH_take (i := 76) (oi := { dst := some 117, op := Go.Op.pick (Go.Operand.tmp 103) (Go.Operand.tmp 116) (Go.Operand.const (Go.Value.bool false)), type := 4, pos := "more.go:14", after := #[{ on := 62, ground := Go.Ground.data }, { on := 75, ground := Go.Ground.data }], guard := none }) (v := ?v11_76) rfl (by kernel_rfl) (by kernel_rfl) (by kernel_rfl) (fun _ _ _ h => h) (Or.inl ⟨by rfl, ?y11_76⟩) (by assumption) ?r11_76
  case y11_76 => (intro w hSw; (try dsimp only at hSw); go_simp; (try with_reducible rfl))
  (try simp only [Act.put, List.setIfInBounds_toArray, List.set_cons_zero, List.set_cons_succ])
  refine wpAnyH_take (i := 77) (oi := { dst := some 8, op := Go.Op.assign (Go.Operand.tmp 117), type := 4, pos := "more.go:14", after := #[{ on := 76, ground := Go.Ground.data }, { on := 73, ground := Go.Ground.chain }, { on := 0, ground := Go.Ground.phase }, { on := 1, ground := Go.Ground.phase }, { on := 2, ground := Go.Ground.phase }, { on := 3, ground := Go.Ground.phase }, { on := 4, ground := Go.Ground.phase }, { on := 5, ground := Go.Ground.phase }, { on := 6, ground := Go.Ground.phase }, { on := 7, ground := Go.Ground.phase }, { on := 8, ground := Go.Ground.phase }, { on := 9, ground := Go.Ground.phase }, { on := 10, ground := Go.Ground.phase }, { on := 11, ground := Go.Ground.phase }, { on := 12, ground := Go.Ground.phase }, { on := 13, ground := Go.Ground.phase }, { on := 14, ground := Go.Ground.phase }, { on := 15, ground := Go.Ground.phase }, { on := 16, ground := Go.Ground.phase }, { on := 17, ground := Go.Ground.phase }, { on := 18, ground := Go.Ground.phase }, { on := 19, ground := Go.Ground.phase }, { on := 20, ground := Go.Ground.phase }, { on := 21, ground := Go.Ground.phase }, { on := 22, ground := Go.Ground.phase }, { on := 23, ground := Go.Ground.phase }, { on := 24, ground := Go.Ground.phase }, { on := 25, ground := Go.Ground.phase }, { on := 26, ground := Go.Ground.phase }, { on := 27, ground := Go.Ground.phase }, { on := 28, ground := Go.Ground.phase }, { on := 29, ground := Go.Ground.phase }, { on := 30, ground := Go.Ground.phase }, { on := 31, ground := Go.Ground.phase }, { on := 32, ground := Go.Ground.phase }, { on := 33, ground := Go.Ground.phase }, { on := 34, ground := Go.Ground.phase }, { on := 35, ground := Go.Ground.phase }, { on := 36, ground := Go.Ground.phase }, { on := 37, ground := Go.Ground.phase }, { on := 38, ground := Go.Ground.phase }, { on := 39, ground := Go.Ground.phase }, { on := 40, ground := Go.Ground.phase }, { on := 41, ground := Go.Ground.phase }, { on := 42, ground := Go.Ground.phase }, { on := 43, ground := Go.Ground.phase }, { on := 44, ground := Go.Ground.phase }, { on := 45, ground := Go.Ground.phase }, { on := 46, ground := Go.Ground.phase }, { on := 47, ground := Go.Ground.phase }, { on := 48, ground := Go.Ground.phase }, { on := 49, ground := Go.Ground.phase }, { on := 50, ground := Go.Ground.phase }, { on := 51, ground := Go.Ground.phase }, { on := 52, ground := Go.Ground.phase }, { on := 53, ground := Go.Ground.phase }, { on := 54, ground := Go.Ground.phase }, { on := 55, ground := Go.Ground.phase }, { on := 56, ground := Go.Ground.phase }, { on := 57, ground := Go.Ground.phase }, { on := 58, ground := Go.Ground.phase }, { on := 59, ground := Go.Ground.phase }, { on := 60, ground := Go.Ground.phase }, { on := 61, ground := Go.Ground.phase }, { on := 62, ground := Go.Ground.phase }, { on := 63, ground := Go.Ground.phase }, { on := 64, ground := Go.Ground.phase }, { on := 65, ground := Go.Ground.phase }, { on := 66, ground := Go.Ground.phase }, { on := 67, ground := Go.Ground.phase }, { on := 68, ground := Go.Ground.phase }, { on := 69, ground := Go.Ground.phase }, { on := 70, ground := Go.Ground.phase }, { on := 71, ground := Go.Ground.phase }, { on := 72, ground := Go.Ground.phase }, { on := 73, ground := Go.Ground.phase }, { on := 74, ground := Go.Ground.phase }, { on := 75, ground := Go.Ground.phase }, { on := 76, ground := Go.Ground.phase }], guard := none }) (v := ?v11_77) rfl (by kernel_rfl) (by kernel_rfl) (by kernel_rfl) (fun _ _ _ h => h) (Or.inl ⟨by rfl, ?y11_77⟩) (by assumption) ?r11_77
  case y11_77 => (intro w hSw; (try dsimp only at hSw); go_simp; (try with_reducible rfl))
  (try simp only [Act.put, List.setIfInBounds_toArray, List.set_cons_zero, List.set_cons_succ])
  refine wpAnyH_done (by kernel_rfl) ?_ _
  have HEND := Lib.hid (BW.out.trans ((hHeld.2.2.2.2).mono BW.out.size))
  clear hHeld
  go_wp2
  go_ret
  exact ⟨rfl, HEND.out⟩
set_option maxHeartbeats 2000000 in
theorem layRing_c10 (W D J S y x k : Int) (w : World) (hx : U x) (hm : may W D J S = true) (hy : 0 ≤ y ∧ y < W) (hk : 0 ≤ k ∧ k ≤ 1000) (hx2 : x ≤ 4611686018427387904) (hd : D = 1) (hj : ¬ J = 1) : Tells 6 #[cf W D J S, .int .i64 y, .int .u64 x, .int .i64 k] w (.bool true) := by
  have HM := Lib.hid hm
  obtain ⟨⟨w1', w2'⟩, ⟨d1, d2⟩, ⟨j1, j2⟩, ⟨s1, s2⟩⟩ := may_lim hm
  clear hm
  have hy0 : ¬ y < 0 := by omega
  have hy1 : ¬ W ≤ y := by omega
  have hk0 : ¬ k < 0 := by omega
  have hk1 : ¬ 1000 < k := by omega
  have hx1 : ¬ 4611686018427387904 < x := by omega
  have kd0 : 0 ≤ k * D := Int.mul_nonneg (by omega) (by omega)
  have kd1 : k * D ≤ 1000 * 16 := Int.mul_le_mul (by omega) (by omega) (by omega) (by omega)
  have kj0 : 0 ≤ k * J := Int.mul_nonneg (by omega) (by omega)
  have kj1 : k * J ≤ 1000 * 16 := Int.mul_le_mul (by omega) (by omega) (by omega) (by omega)
  have wy : wi y 0 (W - 1) = true := wi_true.2 ⟨by omega, by omega⟩
  have CS : ∀ z w, U z → Tells 27 #[cf W D J S, .int .i64 y, .int .u64 z] w (.int .i64 (bg D J y + 3 + z % D)) := fun z w hz => Tells.of (slot_any _ _ _ _ _ _ w hz) (by unfold sl; rw [HM.out, wy]; rfl)
  have CQ : ∀ z w, U z → Tells 17 #[cf W D J S, .int .u64 z] w (.int .i64 (6 + z % J)) := fun z w hz => Tells.of (seq_any _ _ _ _ _ w hz) (by unfold sq; rw [HM.out]; rfl)
  have CV : ∀ z w, U z → Tells 19 #[cf W D J S, .int .u64 z] w (.int .i64 (6 + J + z % J)) := fun z w hz => Tells.of (val_any _ _ _ _ _ w hz) (by unfold vl; rw [HM.out]; rfl)
  have HCS := Lib.hid CS
  have HCQ := Lib.hid CQ
  have HCV := Lib.hid CV
  have ux : 0 ≤ x := hx.1
  have HX := Lib.hid hx
  have HXD := Lib.hid (show U (x + k * D) by unfold U; omega)
  have HXJ := Lib.hid (show U (x + k * J) by unfold U; omega)
  have HX1 := Lib.hid (show U (x + 1) by unfold U; omega)
  have HE1 := Lib.hid (mod_more x k (n := D))
  have HE2 := Lib.hid (mod_more x k (n := J))
  clear CS CQ CV hx wy
  have HDB := Lib.hid (show (D == 1) = true by simp [hd])
  have HJB := Lib.hid (show (J == 1) = false by simp [hj])
  have HN := Lib.hid (show (6 + (x + 1) % J != 6 + x % J) = true by have := mod_next x (n := J) (by omega); simp; omega)
  clear hd hj
  go_enter Try.func6, Try.ntmps6
  go_wp2_with fail
  have Bc := Lib.hid (Bx.mk w W D J S 23)
  obtain ⟨g_c, c0_c, c1_c, c2_c, c3_c⟩ := Bc.out
  refine (awake_any _).mono ?_
  rintro _ w1 ⟨rfl, z1⟩
  have HZ := Lib.hid ((box_below w _).trans (z1.mono (by simp)))
  clear g_c c0_c c1_c c2_c c3_c
  replace Bc := Lib.hid (Bc.out.below z1)
  obtain ⟨g_c, c0_c, c1_c, c2_c, c3_c⟩ := Bc.out
  clear z1
  go_wp2_with fail
  refine (Tells.of (may_any W D J S _) (v' := .bool true) (by rw [HM.out])).mono ?_
  rintro _ w2 ⟨rfl, z2⟩
  replace HZ := Lib.hid (HZ.out.trans (z2.mono HZ.out.size))
  clear g_c c0_c c1_c c2_c c3_c
  replace Bc := Lib.hid (Bc.out.below z2)
  obtain ⟨g_c, c0_c, c1_c, c2_c, c3_c⟩ := Bc.out
  clear z2
  go_wp2_with fail
  have q1 : IntKind.i64.wrap (k * D) = k * D := IntWalk.i64_in _ ⟨by omega, by omega⟩
  have q2 : IntKind.u64.wrap (k * D) = k * D := IntWalk.u64_in _ ⟨by omega, by omega⟩
  have q3 : IntKind.u64.wrap (x + k * D) = x + k * D := IntWalk.u64_in _ ⟨by omega, by omega⟩
  have q4 : IntKind.i64.wrap (k * J) = k * J := IntWalk.i64_in _ ⟨by omega, by omega⟩
  have q5 : IntKind.u64.wrap (k * J) = k * J := IntWalk.u64_in _ ⟨by omega, by omega⟩
  have q6 : IntKind.u64.wrap (x + k * J) = x + k * J := IntWalk.u64_in _ ⟨by omega, by omega⟩
  have q7 : IntKind.u64.wrap (x + 1) = x + 1 := IntWalk.u64_in _ ⟨by omega, by omega⟩
  have hdb := HDB.out
  have hjb := HJB.out
  have hnj := HN.out
  have BW := Lib.hid (HZ.out)
  have K : ∀ w', Below w2.heap.size w2 w' → w'.cell? ⟨w.heap.size, 0, none⟩ = some (.int .i64 W) ∧ w'.cell? ⟨w.heap.size, 1, none⟩ = some (.int .i64 D) ∧ w'.cell? ⟨w.heap.size, 2, none⟩ = some (.int .i64 J) ∧ w'.cell? ⟨w.heap.size, 3, none⟩ = some (.int .i64 S) ∧ Below w2.heap.size w2 w' := by
    intro w' hb
    obtain ⟨f00, f01, f02, f03⟩ := (Bx.below Bc.out hb).cells
    exact ⟨f00, f01, f02, f03, hb⟩
  have HK := Lib.hid K
  clear K
  simp only [List.append_eq, List.cons_append, List.nil_append]
  refine wp_region_held_drew (S := fun w' => w'.cell? ⟨w.heap.size, 0, none⟩ = some (.int .i64 W) ∧ w'.cell? ⟨w.heap.size, 1, none⟩ = some (.int .i64 D) ∧ w'.cell? ⟨w.heap.size, 2, none⟩ = some (.int .i64 J) ∧ w'.cell? ⟨w.heap.size, 3, none⟩ = some (.int .i64 S) ∧ Below w2.heap.size w2 w') (by kernel_rfl) (HK.out _ (keep_drew (Below.refl _ _))) (fun hHeld => ?_)
  refine wpAnyH_take (i := 0) (oi := { dst := some 41, op := Go.Op.load 23 (Go.Operand.tmp 4), type := 23, pos := "more.go:14", after := #[], guard := none }) (v := ?v10_0) rfl (by kernel_rfl) (by kernel_rfl) (by kernel_rfl) (fun _ _ _ h => h) (Or.inl ⟨by rfl, ?y10_0⟩) (by assumption) ?r10_0
  case y10_0 => (intro w hSw; (try dsimp only at hSw); go_simp; (try with_reducible rfl))
  (try simp only [Act.put, List.setIfInBounds_toArray, List.set_cons_zero, List.set_cons_succ])
  refine wpAnyH_take (i := 1) (oi := { dst := some 42, op := Go.Op.move (Go.Operand.tmp 1), type := 3, pos := "more.go:14", after := #[], guard := none }) (v := ?v10_1) rfl (by kernel_rfl) (by kernel_rfl) (by kernel_rfl) (fun _ _ _ h => h) (Or.inl ⟨by rfl, ?y10_1⟩) (by assumption) ?r10_1
  case y10_1 => (intro w hSw; (try dsimp only at hSw); go_simp; (try with_reducible rfl))
  (try simp only [Act.put, List.setIfInBounds_toArray, List.set_cons_zero, List.set_cons_succ])
  refine wpAnyH_take (i := 2) (oi := { dst := some 43, op := Go.Op.move (Go.Operand.tmp 2), type := 24, pos := "more.go:14", after := #[], guard := none }) (v := ?v10_2) rfl (by kernel_rfl) (by kernel_rfl) (by kernel_rfl) (fun _ _ _ h => h) (Or.inl ⟨by rfl, ?y10_2⟩) (by assumption) ?r10_2
  case y10_2 => (intro w hSw; (try dsimp only at hSw); go_simp; (try with_reducible rfl))
  (try simp only [Act.put, List.setIfInBounds_toArray, List.set_cons_zero, List.set_cons_succ])
  refine wpAnyH_take (i := 3) (oi := { dst := some 44, op := Go.Op.move (Go.Operand.tmp 3), type := 3, pos := "more.go:14", after := #[], guard := none }) (v := ?v10_3) rfl (by kernel_rfl) (by kernel_rfl) (by kernel_rfl) (fun _ _ _ h => h) (Or.inl ⟨by rfl, ?y10_3⟩) (by assumption) ?r10_3
  case y10_3 => (intro w hSw; (try dsimp only at hSw); go_simp; (try with_reducible rfl))
  (try simp only [Act.put, List.setIfInBounds_toArray, List.set_cons_zero, List.set_cons_succ])
  refine wpAnyH_take (i := 4) (oi := { dst := some 45, op := Go.Op.fieldAddr 23 (Go.Operand.tmp 4) 1, type := 0, pos := "more.go:14", after := #[], guard := none }) (v := ?v10_4) rfl (by kernel_rfl) (by kernel_rfl) (by kernel_rfl) (fun _ _ _ h => h) (Or.inl ⟨by rfl, ?y10_4⟩) (by assumption) ?r10_4
  case y10_4 => (intro w hSw; (try dsimp only at hSw); go_simp; (try with_reducible rfl))
  (try simp only [Act.put, List.setIfInBounds_toArray, List.set_cons_zero, List.set_cons_succ])
  refine wpAnyH_take (i := 5) (oi := { dst := some 46, op := Go.Op.load 3 (Go.Operand.tmp 45), type := 3, pos := "more.go:14", after := #[{ on := 4, ground := Go.Ground.data }], guard := none }) (v := ?v10_5) rfl (by kernel_rfl) (by kernel_rfl) (by kernel_rfl) (fun _ _ _ h => h) (Or.inl ⟨by rfl, ?y10_5⟩) (by assumption) ?r10_5
  case y10_5 => (intro w hSw; (try dsimp only at hSw); go_simp; (try with_reducible rfl))
  (try simp only [Act.put, List.setIfInBounds_toArray, List.set_cons_zero, List.set_cons_succ])
  refine wpAnyH_take (i := 6) (oi := { dst := some 47, op := Go.Op.binOp Go.BinOp.mul 3 (Go.Operand.tmp 44) (Go.Operand.tmp 46) 3, type := 3, pos := "more.go:14", after := #[{ on := 3, ground := Go.Ground.data }, { on := 5, ground := Go.Ground.data }], guard := none }) (v := ?v10_6) rfl (by kernel_rfl) (by kernel_rfl) (by kernel_rfl) (fun _ _ _ h => h) (Or.inl ⟨by rfl, ?y10_6⟩) (by assumption) ?r10_6
  case y10_6 => (intro w hSw; (try dsimp only at hSw); go_simp; (try with_reducible rfl))
  (try simp only [Act.put, List.setIfInBounds_toArray, List.set_cons_zero, List.set_cons_succ])
  refine wpAnyH_take (i := 7) (oi := { dst := some 48, op := Go.Op.convert 3 24 (Go.Operand.tmp 47), type := 24, pos := "more.go:14", after := #[{ on := 6, ground := Go.Ground.data }], guard := none }) (v := ?v10_7) rfl (by kernel_rfl) (by kernel_rfl) (by kernel_rfl) (fun _ _ _ h => h) (Or.inl ⟨by rfl, ?y10_7⟩) (by assumption) ?r10_7
  case y10_7 => (intro w hSw; (try dsimp only at hSw); go_simp; (try with_reducible rfl))
  (try simp only [Act.put, List.setIfInBounds_toArray, List.set_cons_zero, List.set_cons_succ])
  refine wpAnyH_take (i := 8) (oi := { dst := some 49, op := Go.Op.binOp Go.BinOp.add 24 (Go.Operand.tmp 43) (Go.Operand.tmp 48) 24, type := 24, pos := "more.go:14", after := #[{ on := 2, ground := Go.Ground.data }, { on := 7, ground := Go.Ground.data }], guard := none }) (v := ?v10_8) rfl (by kernel_rfl) (by kernel_rfl) (by kernel_rfl) (fun _ _ _ h => h) (Or.inl ⟨by rfl, ?y10_8⟩) (by assumption) ?r10_8
  case y10_8 => (intro w hSw; (try dsimp only at hSw); go_simp; (try with_reducible rfl))
  (try simp only [Act.put, List.setIfInBounds_toArray, List.set_cons_zero, List.set_cons_succ])
  refine wpAnyH_take (i := 10) (oi := { dst := some 51, op := Go.Op.load 23 (Go.Operand.tmp 4), type := 23, pos := "more.go:14", after := #[], guard := none }) (v := ?v10_10) rfl (by kernel_rfl) (by kernel_rfl) (by kernel_rfl) (fun _ _ _ h => h) (Or.inl ⟨by rfl, ?y10_10⟩) (by assumption) ?r10_10
  case y10_10 => (intro w hSw; (try dsimp only at hSw); go_simp; (try with_reducible rfl))
  (try simp only [Act.put, List.setIfInBounds_toArray, List.set_cons_zero, List.set_cons_succ])
  refine wpAnyH_take (i := 11) (oi := { dst := some 52, op := Go.Op.move (Go.Operand.tmp 1), type := 3, pos := "more.go:14", after := #[], guard := none }) (v := ?v10_11) rfl (by kernel_rfl) (by kernel_rfl) (by kernel_rfl) (fun _ _ _ h => h) (Or.inl ⟨by rfl, ?y10_11⟩) (by assumption) ?r10_11
  case y10_11 => (intro w hSw; (try dsimp only at hSw); go_simp; (try with_reducible rfl))
  (try simp only [Act.put, List.setIfInBounds_toArray, List.set_cons_zero, List.set_cons_succ])
  refine wpAnyH_take (i := 12) (oi := { dst := some 53, op := Go.Op.move (Go.Operand.tmp 2), type := 24, pos := "more.go:14", after := #[], guard := none }) (v := ?v10_12) rfl (by kernel_rfl) (by kernel_rfl) (by kernel_rfl) (fun _ _ _ h => h) (Or.inl ⟨by rfl, ?y10_12⟩) (by assumption) ?r10_12
  case y10_12 => (intro w hSw; (try dsimp only at hSw); go_simp; (try with_reducible rfl))
  (try simp only [Act.put, List.setIfInBounds_toArray, List.set_cons_zero, List.set_cons_succ])
  refine wpAnyH_ready (rs := [9]) (by kernel_rfl) (by simp) ?_
  refine AllReadyH.cons (o := { dst := some 50, op := Go.Op.call { callee := Go.Callee.value (Go.Operand.func 27), args := #[Go.Operand.tmp 41, Go.Operand.tmp 42, Go.Operand.tmp 49], argTypes := #[23, 3, 24] }, type := 3, pos := "more.go:14", after := #[{ on := 0, ground := Go.Ground.data }, { on := 1, ground := Go.Ground.data }, { on := 8, ground := Go.Ground.data }], guard := none }) rfl (fun K hK => ?_) AllReadyH.nil
  go_simp
  refine (Tells.of (HCS.out (x + k * D) _ HXD.out) (v' := .int .i64 (bg D J y + 3 + x % D)) (congrArg (fun z => Value.int .i64 (bg D J y + 3 + z)) HE1.out)).mono ?_
  rintro e w' ⟨rfl, hb⟩
  go_wp2_with fail
  refine hK.out _ _ (held_call HK.out (fun _ h => h.2.2.2.2) hb hHeld) (fun hHeld2 => ?_)
  clear hK K hHeld
  have hHeld := hHeld2
  clear hHeld2
  (try simp only [Act.put, List.setIfInBounds_toArray, List.set_cons_zero, List.set_cons_succ])
  refine wpAnyH_ready (rs := [13]) (by kernel_rfl) (by simp) ?_
  refine AllReadyH.cons (o := { dst := some 54, op := Go.Op.call { callee := Go.Callee.value (Go.Operand.func 27), args := #[Go.Operand.tmp 51, Go.Operand.tmp 52, Go.Operand.tmp 53], argTypes := #[23, 3, 24] }, type := 3, pos := "more.go:14", after := #[{ on := 10, ground := Go.Ground.data }, { on := 11, ground := Go.Ground.data }, { on := 12, ground := Go.Ground.data }, { on := 9, ground := Go.Ground.chain }], guard := none }) rfl (fun K hK => ?_) AllReadyH.nil
  go_simp
  refine (HCS.out x _ HX.out).mono ?_
  rintro e w' ⟨rfl, hb⟩
  go_wp2_with fail
  refine hK.out _ _ (held_call HK.out (fun _ h => h.2.2.2.2) hb hHeld) (fun hHeld2 => ?_)
  clear hK K hHeld
  have hHeld := hHeld2
  clear hHeld2
  (try simp only [Act.put, List.setIfInBounds_toArray, List.set_cons_zero, List.set_cons_succ])
  refine wpAnyH_take (i := 14) (oi := { dst := some 55, op := Go.Op.binOp Go.BinOp.eql 3 (Go.Operand.tmp 50) (Go.Operand.tmp 54) 3, type := 4, pos := "more.go:14", after := #[{ on := 9, ground := Go.Ground.data }, { on := 13, ground := Go.Ground.data }], guard := none }) (v := ?v10_14) rfl (by kernel_rfl) (by kernel_rfl) (by kernel_rfl) (fun _ _ _ h => h) (Or.inl ⟨by rfl, ?y10_14⟩) (by assumption) ?r10_14
  case y10_14 => (intro w hSw; (try dsimp only at hSw); go_simp; (try with_reducible rfl))
  (try simp only [Act.put, List.setIfInBounds_toArray, List.set_cons_zero, List.set_cons_succ])
  refine wpAnyH_take (i := 15) (oi := { dst := some 56, op := Go.Op.move (Go.Operand.tmp 55), type := 4, pos := "more.go:14", after := #[{ on := 14, ground := Go.Ground.data }, { on := 13, ground := Go.Ground.chain }], guard := none }) (v := ?v10_15) rfl (by kernel_rfl) (by kernel_rfl) (by kernel_rfl) (fun _ _ _ h => h) (Or.inl ⟨by rfl, ?y10_15⟩) (by assumption) ?r10_15
  case y10_15 => (intro w hSw; (try dsimp only at hSw); go_simp; (try with_reducible rfl))
  (try simp only [Act.put, List.setIfInBounds_toArray, List.set_cons_zero, List.set_cons_succ])
  refine wpAnyH_take (i := 16) (oi := { dst := some 57, op := Go.Op.load 23 (Go.Operand.tmp 4), type := 23, pos := "more.go:14", after := #[{ on := 15, ground := Go.Ground.guard }], guard := some (15, true) }) (v := ?v10_16) rfl (by kernel_rfl) (by kernel_rfl) (by kernel_rfl) (fun _ _ _ h => h) (Or.inl ⟨by rfl, ?y10_16⟩) (by assumption) ?r10_16
  case y10_16 => (intro w hSw; (try dsimp only at hSw); go_simp; (try with_reducible rfl))
  (try simp only [Act.put, List.setIfInBounds_toArray, List.set_cons_zero, List.set_cons_succ])
  refine wpAnyH_take (i := 17) (oi := { dst := some 58, op := Go.Op.move (Go.Operand.tmp 2), type := 24, pos := "more.go:14", after := #[{ on := 15, ground := Go.Ground.guard }], guard := some (15, true) }) (v := ?v10_17) rfl (by kernel_rfl) (by kernel_rfl) (by kernel_rfl) (fun _ _ _ h => h) (Or.inl ⟨by rfl, ?y10_17⟩) (by assumption) ?r10_17
  case y10_17 => (intro w hSw; (try dsimp only at hSw); go_simp; (try with_reducible rfl))
  (try simp only [Act.put, List.setIfInBounds_toArray, List.set_cons_zero, List.set_cons_succ])
  refine wpAnyH_take (i := 18) (oi := { dst := some 59, op := Go.Op.move (Go.Operand.tmp 3), type := 3, pos := "more.go:14", after := #[{ on := 15, ground := Go.Ground.guard }], guard := some (15, true) }) (v := ?v10_18) rfl (by kernel_rfl) (by kernel_rfl) (by kernel_rfl) (fun _ _ _ h => h) (Or.inl ⟨by rfl, ?y10_18⟩) (by assumption) ?r10_18
  case y10_18 => (intro w hSw; (try dsimp only at hSw); go_simp; (try with_reducible rfl))
  (try simp only [Act.put, List.setIfInBounds_toArray, List.set_cons_zero, List.set_cons_succ])
  refine wpAnyH_take (i := 19) (oi := { dst := some 60, op := Go.Op.fieldAddr 23 (Go.Operand.tmp 4) 2, type := 0, pos := "more.go:14", after := #[{ on := 15, ground := Go.Ground.guard }], guard := some (15, true) }) (v := ?v10_19) rfl (by kernel_rfl) (by kernel_rfl) (by kernel_rfl) (fun _ _ _ h => h) (Or.inl ⟨by rfl, ?y10_19⟩) (by assumption) ?r10_19
  case y10_19 => (intro w hSw; (try dsimp only at hSw); go_simp; (try with_reducible rfl))
  (try simp only [Act.put, List.setIfInBounds_toArray, List.set_cons_zero, List.set_cons_succ])
  refine wpAnyH_take (i := 20) (oi := { dst := some 61, op := Go.Op.load 3 (Go.Operand.tmp 60), type := 3, pos := "more.go:14", after := #[{ on := 19, ground := Go.Ground.data }, { on := 15, ground := Go.Ground.guard }], guard := some (15, true) }) (v := ?v10_20) rfl (by kernel_rfl) (by kernel_rfl) (by kernel_rfl) (fun _ _ _ h => h) (Or.inl ⟨by rfl, ?y10_20⟩) (by assumption) ?r10_20
  case y10_20 => (intro w hSw; (try dsimp only at hSw); go_simp; (try with_reducible rfl))
  (try simp only [Act.put, List.setIfInBounds_toArray, List.set_cons_zero, List.set_cons_succ])
  refine wpAnyH_take (i := 21) (oi := { dst := some 62, op := Go.Op.binOp Go.BinOp.mul 3 (Go.Operand.tmp 59) (Go.Operand.tmp 61) 3, type := 3, pos := "more.go:14", after := #[{ on := 18, ground := Go.Ground.data }, { on := 20, ground := Go.Ground.data }, { on := 15, ground := Go.Ground.guard }], guard := some (15, true) }) (v := ?v10_21) rfl (by kernel_rfl) (by kernel_rfl) (by kernel_rfl) (fun _ _ _ h => h) (Or.inl ⟨by rfl, ?y10_21⟩) (by assumption) ?r10_21
  case y10_21 => (intro w hSw; (try dsimp only at hSw); go_simp; (try with_reducible rfl))
  (try simp only [Act.put, List.setIfInBounds_toArray, List.set_cons_zero, List.set_cons_succ])
  refine wpAnyH_take (i := 22) (oi := { dst := some 63, op := Go.Op.convert 3 24 (Go.Operand.tmp 62), type := 24, pos := "more.go:14", after := #[{ on := 21, ground := Go.Ground.data }, { on := 15, ground := Go.Ground.guard }], guard := some (15, true) }) (v := ?v10_22) rfl (by kernel_rfl) (by kernel_rfl) (by kernel_rfl) (fun _ _ _ h => h) (Or.inl ⟨by rfl, ?y10_22⟩) (by assumption) ?r10_22
  case y10_22 => (intro w hSw; (try dsimp only at hSw); go_simp; (try with_reducible rfl))
  (try simp only [Act.put, List.setIfInBounds_toArray, List.set_cons_zero, List.set_cons_succ])
  refine wpAnyH_take (i := 23) (oi := { dst := some 64, op := Go.Op.binOp Go.BinOp.add 24 (Go.Operand.tmp 58) (Go.Operand.tmp 63) 24, type := 24, pos := "more.go:14", after := #[{ on := 17, ground := Go.Ground.data }, { on := 22, ground := Go.Ground.data }, { on := 15, ground := Go.Ground.guard }], guard := some (15, true) }) (v := ?v10_23) rfl (by kernel_rfl) (by kernel_rfl) (by kernel_rfl) (fun _ _ _ h => h) (Or.inl ⟨by rfl, ?y10_23⟩) (by assumption) ?r10_23
  case y10_23 => (intro w hSw; (try dsimp only at hSw); go_simp; (try with_reducible rfl))
  (try simp only [Act.put, List.setIfInBounds_toArray, List.set_cons_zero, List.set_cons_succ])
  refine wpAnyH_take (i := 25) (oi := { dst := some 66, op := Go.Op.load 23 (Go.Operand.tmp 4), type := 23, pos := "more.go:14", after := #[{ on := 15, ground := Go.Ground.guard }], guard := some (15, true) }) (v := ?v10_25) rfl (by kernel_rfl) (by kernel_rfl) (by kernel_rfl) (fun _ _ _ h => h) (Or.inl ⟨by rfl, ?y10_25⟩) (by assumption) ?r10_25
  case y10_25 => (intro w hSw; (try dsimp only at hSw); go_simp; (try with_reducible rfl))
  (try simp only [Act.put, List.setIfInBounds_toArray, List.set_cons_zero, List.set_cons_succ])
  refine wpAnyH_take (i := 26) (oi := { dst := some 67, op := Go.Op.move (Go.Operand.tmp 2), type := 24, pos := "more.go:14", after := #[{ on := 15, ground := Go.Ground.guard }], guard := some (15, true) }) (v := ?v10_26) rfl (by kernel_rfl) (by kernel_rfl) (by kernel_rfl) (fun _ _ _ h => h) (Or.inl ⟨by rfl, ?y10_26⟩) (by assumption) ?r10_26
  case y10_26 => (intro w hSw; (try dsimp only at hSw); go_simp; (try with_reducible rfl))
  (try simp only [Act.put, List.setIfInBounds_toArray, List.set_cons_zero, List.set_cons_succ])
  refine wpAnyH_ready (rs := [24]) (by kernel_rfl) (by simp) ?_
  refine AllReadyH.cons (o := { dst := some 65, op := Go.Op.call { callee := Go.Callee.value (Go.Operand.func 17), args := #[Go.Operand.tmp 57, Go.Operand.tmp 64], argTypes := #[23, 24] }, type := 3, pos := "more.go:14", after := #[{ on := 16, ground := Go.Ground.data }, { on := 23, ground := Go.Ground.data }, { on := 15, ground := Go.Ground.chain }, { on := 15, ground := Go.Ground.guard }], guard := some (15, true) }) rfl (fun K hK => ?_) AllReadyH.nil
  go_simp
  refine (Tells.of (HCQ.out (x + k * J) _ HXJ.out) (v' := .int .i64 (6 + x % J)) (congrArg (fun z => Value.int .i64 (6 + z)) HE2.out)).mono ?_
  rintro e w' ⟨rfl, hb⟩
  go_wp2_with fail
  refine hK.out _ _ (held_call HK.out (fun _ h => h.2.2.2.2) hb hHeld) (fun hHeld2 => ?_)
  clear hK K hHeld
  have hHeld := hHeld2
  clear hHeld2
  (try simp only [Act.put, List.setIfInBounds_toArray, List.set_cons_zero, List.set_cons_succ])
  refine wpAnyH_ready (rs := [27]) (by kernel_rfl) (by simp) ?_
  refine AllReadyH.cons (o := { dst := some 68, op := Go.Op.call { callee := Go.Callee.value (Go.Operand.func 17), args := #[Go.Operand.tmp 66, Go.Operand.tmp 67], argTypes := #[23, 24] }, type := 3, pos := "more.go:14", after := #[{ on := 25, ground := Go.Ground.data }, { on := 26, ground := Go.Ground.data }, { on := 24, ground := Go.Ground.chain }, { on := 15, ground := Go.Ground.guard }], guard := some (15, true) }) rfl (fun K hK => ?_) AllReadyH.nil
  go_simp
  refine (HCQ.out x _ HX.out).mono ?_
  rintro e w' ⟨rfl, hb⟩
  go_wp2_with fail
  refine hK.out _ _ (held_call HK.out (fun _ h => h.2.2.2.2) hb hHeld) (fun hHeld2 => ?_)
  clear hK K hHeld
  have hHeld := hHeld2
  clear hHeld2
  (try simp only [Act.put, List.setIfInBounds_toArray, List.set_cons_zero, List.set_cons_succ])
  refine wpAnyH_take (i := 28) (oi := { dst := some 69, op := Go.Op.binOp Go.BinOp.eql 3 (Go.Operand.tmp 65) (Go.Operand.tmp 68) 3, type := 4, pos := "more.go:14", after := #[{ on := 24, ground := Go.Ground.data }, { on := 27, ground := Go.Ground.data }, { on := 15, ground := Go.Ground.guard }], guard := some (15, true) }) (v := ?v10_28) rfl (by kernel_rfl) (by kernel_rfl) (by kernel_rfl) (fun _ _ _ h => h) (Or.inl ⟨by rfl, ?y10_28⟩) (by assumption) ?r10_28
  case y10_28 => (intro w hSw; (try dsimp only at hSw); go_simp; (try with_reducible rfl))
  (try simp only [Act.put, List.setIfInBounds_toArray, List.set_cons_zero, List.set_cons_succ])
  refine wpAnyH_take (i := 29) (oi := { dst := some 70, op := Go.Op.pick (Go.Operand.tmp 56) (Go.Operand.tmp 69) (Go.Operand.const (Go.Value.bool false)), type := 4, pos := "more.go:14", after := #[{ on := 15, ground := Go.Ground.data }, { on := 28, ground := Go.Ground.data }], guard := none }) (v := ?v10_29) rfl (by kernel_rfl) (by kernel_rfl) (by kernel_rfl) (fun _ _ _ h => h) (Or.inl ⟨by rfl, ?y10_29⟩) (by assumption) ?r10_29
  case y10_29 => (intro w hSw; (try dsimp only at hSw); go_simp; (try with_reducible rfl))
  (try simp only [Act.put, List.setIfInBounds_toArray, List.set_cons_zero, List.set_cons_succ])
  refine wpAnyH_take (i := 30) (oi := { dst := some 71, op := Go.Op.move (Go.Operand.tmp 70), type := 4, pos := "more.go:14", after := #[{ on := 29, ground := Go.Ground.data }, { on := 27, ground := Go.Ground.chain }], guard := none }) (v := ?v10_30) rfl (by kernel_rfl) (by kernel_rfl) (by kernel_rfl) (fun _ _ _ h => h) (Or.inl ⟨by rfl, ?y10_30⟩) (by assumption) ?r10_30
  case y10_30 => (intro w hSw; (try dsimp only at hSw); go_simp; (try with_reducible rfl))
  (try simp only [Act.put, List.setIfInBounds_toArray, List.set_cons_zero, List.set_cons_succ])
  refine wpAnyH_take (i := 31) (oi := { dst := some 72, op := Go.Op.load 23 (Go.Operand.tmp 4), type := 23, pos := "more.go:14", after := #[{ on := 30, ground := Go.Ground.guard }], guard := some (30, true) }) (v := ?v10_31) rfl (by kernel_rfl) (by kernel_rfl) (by kernel_rfl) (fun _ _ _ h => h) (Or.inl ⟨by rfl, ?y10_31⟩) (by assumption) ?r10_31
  case y10_31 => (intro w hSw; (try dsimp only at hSw); go_simp; (try with_reducible rfl))
  (try simp only [Act.put, List.setIfInBounds_toArray, List.set_cons_zero, List.set_cons_succ])
  refine wpAnyH_take (i := 32) (oi := { dst := some 73, op := Go.Op.move (Go.Operand.tmp 2), type := 24, pos := "more.go:14", after := #[{ on := 30, ground := Go.Ground.guard }], guard := some (30, true) }) (v := ?v10_32) rfl (by kernel_rfl) (by kernel_rfl) (by kernel_rfl) (fun _ _ _ h => h) (Or.inl ⟨by rfl, ?y10_32⟩) (by assumption) ?r10_32
  case y10_32 => (intro w hSw; (try dsimp only at hSw); go_simp; (try with_reducible rfl))
  (try simp only [Act.put, List.setIfInBounds_toArray, List.set_cons_zero, List.set_cons_succ])
  refine wpAnyH_take (i := 33) (oi := { dst := some 74, op := Go.Op.move (Go.Operand.tmp 3), type := 3, pos := "more.go:14", after := #[{ on := 30, ground := Go.Ground.guard }], guard := some (30, true) }) (v := ?v10_33) rfl (by kernel_rfl) (by kernel_rfl) (by kernel_rfl) (fun _ _ _ h => h) (Or.inl ⟨by rfl, ?y10_33⟩) (by assumption) ?r10_33
  case y10_33 => (intro w hSw; (try dsimp only at hSw); go_simp; (try with_reducible rfl))
  (try simp only [Act.put, List.setIfInBounds_toArray, List.set_cons_zero, List.set_cons_succ])
  refine wpAnyH_take (i := 34) (oi := { dst := some 75, op := Go.Op.fieldAddr 23 (Go.Operand.tmp 4) 2, type := 0, pos := "more.go:14", after := #[{ on := 30, ground := Go.Ground.guard }], guard := some (30, true) }) (v := ?v10_34) rfl (by kernel_rfl) (by kernel_rfl) (by kernel_rfl) (fun _ _ _ h => h) (Or.inl ⟨by rfl, ?y10_34⟩) (by assumption) ?r10_34
  case y10_34 => (intro w hSw; (try dsimp only at hSw); go_simp; (try with_reducible rfl))
  (try simp only [Act.put, List.setIfInBounds_toArray, List.set_cons_zero, List.set_cons_succ])
  refine wpAnyH_take (i := 35) (oi := { dst := some 76, op := Go.Op.load 3 (Go.Operand.tmp 75), type := 3, pos := "more.go:14", after := #[{ on := 34, ground := Go.Ground.data }, { on := 30, ground := Go.Ground.guard }], guard := some (30, true) }) (v := ?v10_35) rfl (by kernel_rfl) (by kernel_rfl) (by kernel_rfl) (fun _ _ _ h => h) (Or.inl ⟨by rfl, ?y10_35⟩) (by assumption) ?r10_35
  case y10_35 => (intro w hSw; (try dsimp only at hSw); go_simp; (try with_reducible rfl))
  (try simp only [Act.put, List.setIfInBounds_toArray, List.set_cons_zero, List.set_cons_succ])
  refine wpAnyH_take (i := 36) (oi := { dst := some 77, op := Go.Op.binOp Go.BinOp.mul 3 (Go.Operand.tmp 74) (Go.Operand.tmp 76) 3, type := 3, pos := "more.go:14", after := #[{ on := 33, ground := Go.Ground.data }, { on := 35, ground := Go.Ground.data }, { on := 30, ground := Go.Ground.guard }], guard := some (30, true) }) (v := ?v10_36) rfl (by kernel_rfl) (by kernel_rfl) (by kernel_rfl) (fun _ _ _ h => h) (Or.inl ⟨by rfl, ?y10_36⟩) (by assumption) ?r10_36
  case y10_36 => (intro w hSw; (try dsimp only at hSw); go_simp; (try with_reducible rfl))
  (try simp only [Act.put, List.setIfInBounds_toArray, List.set_cons_zero, List.set_cons_succ])
  refine wpAnyH_take (i := 37) (oi := { dst := some 78, op := Go.Op.convert 3 24 (Go.Operand.tmp 77), type := 24, pos := "more.go:14", after := #[{ on := 36, ground := Go.Ground.data }, { on := 30, ground := Go.Ground.guard }], guard := some (30, true) }) (v := ?v10_37) rfl (by kernel_rfl) (by kernel_rfl) (by kernel_rfl) (fun _ _ _ h => h) (Or.inl ⟨by rfl, ?y10_37⟩) (by assumption) ?r10_37
  case y10_37 => (intro w hSw; (try dsimp only at hSw); go_simp; (try with_reducible rfl))
  (try simp only [Act.put, List.setIfInBounds_toArray, List.set_cons_zero, List.set_cons_succ])
  refine wpAnyH_take (i := 38) (oi := { dst := some 79, op := Go.Op.binOp Go.BinOp.add 24 (Go.Operand.tmp 73) (Go.Operand.tmp 78) 24, type := 24, pos := "more.go:14", after := #[{ on := 32, ground := Go.Ground.data }, { on := 37, ground := Go.Ground.data }, { on := 30, ground := Go.Ground.guard }], guard := some (30, true) }) (v := ?v10_38) rfl (by kernel_rfl) (by kernel_rfl) (by kernel_rfl) (fun _ _ _ h => h) (Or.inl ⟨by rfl, ?y10_38⟩) (by assumption) ?r10_38
  case y10_38 => (intro w hSw; (try dsimp only at hSw); go_simp; (try with_reducible rfl))
  (try simp only [Act.put, List.setIfInBounds_toArray, List.set_cons_zero, List.set_cons_succ])
  refine wpAnyH_take (i := 40) (oi := { dst := some 81, op := Go.Op.load 23 (Go.Operand.tmp 4), type := 23, pos := "more.go:14", after := #[{ on := 30, ground := Go.Ground.guard }], guard := some (30, true) }) (v := ?v10_40) rfl (by kernel_rfl) (by kernel_rfl) (by kernel_rfl) (fun _ _ _ h => h) (Or.inl ⟨by rfl, ?y10_40⟩) (by assumption) ?r10_40
  case y10_40 => (intro w hSw; (try dsimp only at hSw); go_simp; (try with_reducible rfl))
  (try simp only [Act.put, List.setIfInBounds_toArray, List.set_cons_zero, List.set_cons_succ])
  refine wpAnyH_take (i := 41) (oi := { dst := some 82, op := Go.Op.move (Go.Operand.tmp 2), type := 24, pos := "more.go:14", after := #[{ on := 30, ground := Go.Ground.guard }], guard := some (30, true) }) (v := ?v10_41) rfl (by kernel_rfl) (by kernel_rfl) (by kernel_rfl) (fun _ _ _ h => h) (Or.inl ⟨by rfl, ?y10_41⟩) (by assumption) ?r10_41
  case y10_41 => (intro w hSw; (try dsimp only at hSw); go_simp; (try with_reducible rfl))
  (try simp only [Act.put, List.setIfInBounds_toArray, List.set_cons_zero, List.set_cons_succ])
  refine wpAnyH_ready (rs := [39]) (by kernel_rfl) (by simp) ?_
  refine AllReadyH.cons (o := { dst := some 80, op := Go.Op.call { callee := Go.Callee.value (Go.Operand.func 19), args := #[Go.Operand.tmp 72, Go.Operand.tmp 79], argTypes := #[23, 24] }, type := 3, pos := "more.go:14", after := #[{ on := 31, ground := Go.Ground.data }, { on := 38, ground := Go.Ground.data }, { on := 30, ground := Go.Ground.chain }, { on := 30, ground := Go.Ground.guard }], guard := some (30, true) }) rfl (fun K hK => ?_) AllReadyH.nil
  go_simp
  refine (Tells.of (HCV.out (x + k * J) _ HXJ.out) (v' := .int .i64 (6 + J + x % J)) (congrArg (fun z => Value.int .i64 (6 + J + z)) HE2.out)).mono ?_
  rintro e w' ⟨rfl, hb⟩
  go_wp2_with fail
  refine hK.out _ _ (held_call HK.out (fun _ h => h.2.2.2.2) hb hHeld) (fun hHeld2 => ?_)
  clear hK K hHeld
  have hHeld := hHeld2
  clear hHeld2
  (try simp only [Act.put, List.setIfInBounds_toArray, List.set_cons_zero, List.set_cons_succ])
  refine wpAnyH_ready (rs := [42]) (by kernel_rfl) (by simp) ?_
  refine AllReadyH.cons (o := { dst := some 83, op := Go.Op.call { callee := Go.Callee.value (Go.Operand.func 19), args := #[Go.Operand.tmp 81, Go.Operand.tmp 82], argTypes := #[23, 24] }, type := 3, pos := "more.go:14", after := #[{ on := 40, ground := Go.Ground.data }, { on := 41, ground := Go.Ground.data }, { on := 39, ground := Go.Ground.chain }, { on := 30, ground := Go.Ground.guard }], guard := some (30, true) }) rfl (fun K hK => ?_) AllReadyH.nil
  go_simp
  refine (HCV.out x _ HX.out).mono ?_
  rintro e w' ⟨rfl, hb⟩
  go_wp2_with fail
  refine hK.out _ _ (held_call HK.out (fun _ h => h.2.2.2.2) hb hHeld) (fun hHeld2 => ?_)
  clear hK K hHeld
  have hHeld := hHeld2
  clear hHeld2
  (try simp only [Act.put, List.setIfInBounds_toArray, List.set_cons_zero, List.set_cons_succ])
  refine wpAnyH_take (i := 43) (oi := { dst := some 84, op := Go.Op.binOp Go.BinOp.eql 3 (Go.Operand.tmp 80) (Go.Operand.tmp 83) 3, type := 4, pos := "more.go:14", after := #[{ on := 39, ground := Go.Ground.data }, { on := 42, ground := Go.Ground.data }, { on := 30, ground := Go.Ground.guard }], guard := some (30, true) }) (v := ?v10_43) rfl (by kernel_rfl) (by kernel_rfl) (by kernel_rfl) (fun _ _ _ h => h) (Or.inl ⟨by rfl, ?y10_43⟩) (by assumption) ?r10_43
  case y10_43 => (intro w hSw; (try dsimp only at hSw); go_simp; (try with_reducible rfl))
  (try simp only [Act.put, List.setIfInBounds_toArray, List.set_cons_zero, List.set_cons_succ])
  refine wpAnyH_take (i := 44) (oi := { dst := some 85, op := Go.Op.pick (Go.Operand.tmp 71) (Go.Operand.tmp 84) (Go.Operand.const (Go.Value.bool false)), type := 4, pos := "more.go:14", after := #[{ on := 30, ground := Go.Ground.data }, { on := 43, ground := Go.Ground.data }], guard := none }) (v := ?v10_44) rfl (by kernel_rfl) (by kernel_rfl) (by kernel_rfl) (fun _ _ _ h => h) (Or.inl ⟨by rfl, ?y10_44⟩) (by assumption) ?r10_44
  case y10_44 => (intro w hSw; (try dsimp only at hSw); go_simp; (try with_reducible rfl))
  (try simp only [Act.put, List.setIfInBounds_toArray, List.set_cons_zero, List.set_cons_succ])
  refine wpAnyH_take (i := 45) (oi := { dst := some 86, op := Go.Op.move (Go.Operand.tmp 85), type := 4, pos := "more.go:14", after := #[{ on := 44, ground := Go.Ground.data }, { on := 42, ground := Go.Ground.chain }], guard := none }) (v := ?v10_45) rfl (by kernel_rfl) (by kernel_rfl) (by kernel_rfl) (fun _ _ _ h => h) (Or.inl ⟨by rfl, ?y10_45⟩) (by assumption) ?r10_45
  case y10_45 => (intro w hSw; (try dsimp only at hSw); go_simp; (try with_reducible rfl))
  (try simp only [Act.put, List.setIfInBounds_toArray, List.set_cons_zero, List.set_cons_succ])
  refine wpAnyH_take (i := 46) (oi := { dst := some 87, op := Go.Op.fieldAddr 23 (Go.Operand.tmp 4) 1, type := 0, pos := "more.go:14", after := #[{ on := 45, ground := Go.Ground.guard }], guard := some (45, true) }) (v := ?v10_46) rfl (by kernel_rfl) (by kernel_rfl) (by kernel_rfl) (fun _ _ _ h => h) (Or.inl ⟨by rfl, ?y10_46⟩) (by assumption) ?r10_46
  case y10_46 => (intro w hSw; (try dsimp only at hSw); go_simp; (try with_reducible rfl))
  (try simp only [Act.put, List.setIfInBounds_toArray, List.set_cons_zero, List.set_cons_succ])
  refine wpAnyH_take (i := 47) (oi := { dst := some 88, op := Go.Op.load 3 (Go.Operand.tmp 87), type := 3, pos := "more.go:14", after := #[{ on := 46, ground := Go.Ground.data }, { on := 45, ground := Go.Ground.guard }], guard := some (45, true) }) (v := ?v10_47) rfl (by kernel_rfl) (by kernel_rfl) (by kernel_rfl) (fun _ _ _ h => h) (Or.inl ⟨by rfl, ?y10_47⟩) (by assumption) ?r10_47
  case y10_47 => (intro w hSw; (try dsimp only at hSw); go_simp; (try with_reducible rfl))
  (try simp only [Act.put, List.setIfInBounds_toArray, List.set_cons_zero, List.set_cons_succ])
  refine wpAnyH_take (i := 48) (oi := { dst := some 89, op := Go.Op.binOp Go.BinOp.eql 3 (Go.Operand.tmp 88) (Go.Operand.const (Go.Value.int Go.IntKind.i64 1)) 3, type := 4, pos := "more.go:14", after := #[{ on := 47, ground := Go.Ground.data }, { on := 45, ground := Go.Ground.guard }], guard := some (45, true) }) (v := ?v10_48) rfl (by kernel_rfl) (by kernel_rfl) (by kernel_rfl) (fun _ _ _ h => h) (Or.inl ⟨by rfl, ?y10_48⟩) (by assumption) ?r10_48
  case y10_48 => (intro w hSw; (try dsimp only at hSw); go_simp; (try with_reducible rfl))
  (try simp only [Act.put, List.setIfInBounds_toArray, List.set_cons_zero, List.set_cons_succ])
  refine wpAnyH_take (i := 49) (oi := { dst := some 90, op := Go.Op.move (Go.Operand.tmp 89), type := 4, pos := "more.go:14", after := #[{ on := 48, ground := Go.Ground.data }, { on := 45, ground := Go.Ground.chain }, { on := 45, ground := Go.Ground.guard }], guard := some (45, true) }) (v := ?v10_49) rfl (by kernel_rfl) (by kernel_rfl) (by kernel_rfl) (fun _ _ _ h => h) (Or.inl ⟨by rfl, ?y10_49⟩) (by assumption) ?r10_49
  case y10_49 => (intro w hSw; (try dsimp only at hSw); go_simp; (try with_reducible rfl))
  (try simp only [Act.put, List.setIfInBounds_toArray, List.set_cons_zero, List.set_cons_succ])
  refine wpAnyH_take (i := 50) (oi := { dst := some 91, op := Go.Op.load 23 (Go.Operand.tmp 4), type := 23, pos := "more.go:14", after := #[{ on := 49, ground := Go.Ground.guard }], guard := some (49, false) }) (v := undef) rfl (by kernel_rfl) (by kernel_rfl) (by kernel_rfl) (fun _ _ _ h => h) (Or.inr ⟨by rfl, rfl⟩) (by assumption) ?_
  (try simp only [Act.put, List.setIfInBounds_toArray, List.set_cons_zero, List.set_cons_succ])
  refine wpAnyH_take (i := 51) (oi := { dst := some 92, op := Go.Op.move (Go.Operand.tmp 1), type := 3, pos := "more.go:14", after := #[{ on := 49, ground := Go.Ground.guard }], guard := some (49, false) }) (v := undef) rfl (by kernel_rfl) (by kernel_rfl) (by kernel_rfl) (fun _ _ _ h => h) (Or.inr ⟨by rfl, rfl⟩) (by assumption) ?_
  (try simp only [Act.put, List.setIfInBounds_toArray, List.set_cons_zero, List.set_cons_succ])
  refine wpAnyH_take (i := 52) (oi := { dst := some 93, op := Go.Op.move (Go.Operand.tmp 2), type := 24, pos := "more.go:14", after := #[{ on := 49, ground := Go.Ground.guard }], guard := some (49, false) }) (v := undef) rfl (by kernel_rfl) (by kernel_rfl) (by kernel_rfl) (fun _ _ _ h => h) (Or.inr ⟨by rfl, rfl⟩) (by assumption) ?_
  (try simp only [Act.put, List.setIfInBounds_toArray, List.set_cons_zero, List.set_cons_succ])
  refine wpAnyH_take (i := 53) (oi := { dst := some 94, op := Go.Op.binOp Go.BinOp.add 24 (Go.Operand.tmp 93) (Go.Operand.const (Go.Value.int Go.IntKind.u64 1)) 24, type := 24, pos := "more.go:14", after := #[{ on := 52, ground := Go.Ground.data }, { on := 49, ground := Go.Ground.guard }], guard := some (49, false) }) (v := undef) rfl (by kernel_rfl) (by kernel_rfl) (by kernel_rfl) (fun _ _ _ h => h) (Or.inr ⟨by rfl, rfl⟩) (by assumption) ?_
  (try simp only [Act.put, List.setIfInBounds_toArray, List.set_cons_zero, List.set_cons_succ])
  refine wpAnyH_take (i := 54) (oi := { dst := some 95, op := Go.Op.call { callee := Go.Callee.value (Go.Operand.func 27), args := #[Go.Operand.tmp 91, Go.Operand.tmp 92, Go.Operand.tmp 94], argTypes := #[23, 3, 24] }, type := 3, pos := "more.go:14", after := #[{ on := 50, ground := Go.Ground.data }, { on := 51, ground := Go.Ground.data }, { on := 53, ground := Go.Ground.data }, { on := 49, ground := Go.Ground.chain }, { on := 49, ground := Go.Ground.guard }], guard := some (49, false) }) (v := undef) rfl (by kernel_rfl) (by kernel_rfl) (by kernel_rfl) (fun _ _ _ h => h) (Or.inr ⟨by rfl, rfl⟩) (by assumption) ?_
  (try simp only [Act.put, List.setIfInBounds_toArray, List.set_cons_zero, List.set_cons_succ])
  refine wpAnyH_take (i := 55) (oi := { dst := some 96, op := Go.Op.load 23 (Go.Operand.tmp 4), type := 23, pos := "more.go:14", after := #[{ on := 49, ground := Go.Ground.guard }], guard := some (49, false) }) (v := undef) rfl (by kernel_rfl) (by kernel_rfl) (by kernel_rfl) (fun _ _ _ h => h) (Or.inr ⟨by rfl, rfl⟩) (by assumption) ?_
  (try simp only [Act.put, List.setIfInBounds_toArray, List.set_cons_zero, List.set_cons_succ])
  refine wpAnyH_take (i := 56) (oi := { dst := some 97, op := Go.Op.move (Go.Operand.tmp 1), type := 3, pos := "more.go:14", after := #[{ on := 49, ground := Go.Ground.guard }], guard := some (49, false) }) (v := undef) rfl (by kernel_rfl) (by kernel_rfl) (by kernel_rfl) (fun _ _ _ h => h) (Or.inr ⟨by rfl, rfl⟩) (by assumption) ?_
  (try simp only [Act.put, List.setIfInBounds_toArray, List.set_cons_zero, List.set_cons_succ])
  refine wpAnyH_take (i := 57) (oi := { dst := some 98, op := Go.Op.move (Go.Operand.tmp 2), type := 24, pos := "more.go:14", after := #[{ on := 49, ground := Go.Ground.guard }], guard := some (49, false) }) (v := undef) rfl (by kernel_rfl) (by kernel_rfl) (by kernel_rfl) (fun _ _ _ h => h) (Or.inr ⟨by rfl, rfl⟩) (by assumption) ?_
  (try simp only [Act.put, List.setIfInBounds_toArray, List.set_cons_zero, List.set_cons_succ])
  refine wpAnyH_take (i := 58) (oi := { dst := some 99, op := Go.Op.call { callee := Go.Callee.value (Go.Operand.func 27), args := #[Go.Operand.tmp 96, Go.Operand.tmp 97, Go.Operand.tmp 98], argTypes := #[23, 3, 24] }, type := 3, pos := "more.go:14", after := #[{ on := 55, ground := Go.Ground.data }, { on := 56, ground := Go.Ground.data }, { on := 57, ground := Go.Ground.data }, { on := 54, ground := Go.Ground.chain }, { on := 49, ground := Go.Ground.guard }], guard := some (49, false) }) (v := undef) rfl (by kernel_rfl) (by kernel_rfl) (by kernel_rfl) (fun _ _ _ h => h) (Or.inr ⟨by rfl, rfl⟩) (by assumption) ?_
  (try simp only [Act.put, List.setIfInBounds_toArray, List.set_cons_zero, List.set_cons_succ])
  refine wpAnyH_take (i := 59) (oi := { dst := some 100, op := Go.Op.binOp Go.BinOp.neq 3 (Go.Operand.tmp 95) (Go.Operand.tmp 99) 3, type := 4, pos := "more.go:14", after := #[{ on := 54, ground := Go.Ground.data }, { on := 58, ground := Go.Ground.data }, { on := 49, ground := Go.Ground.guard }], guard := some (49, false) }) (v := undef) rfl (by kernel_rfl) (by kernel_rfl) (by kernel_rfl) (fun _ _ _ h => h) (Or.inr ⟨by rfl, rfl⟩) (by assumption) ?_
  (try simp only [Act.put, List.setIfInBounds_toArray, List.set_cons_zero, List.set_cons_succ])
  refine wpAnyH_take (i := 60) (oi := { dst := some 101, op := Go.Op.pick (Go.Operand.tmp 90) (Go.Operand.const (Go.Value.bool true)) (Go.Operand.tmp 100), type := 4, pos := "more.go:14", after := #[{ on := 49, ground := Go.Ground.data }, { on := 59, ground := Go.Ground.data }, { on := 45, ground := Go.Ground.guard }], guard := some (45, true) }) (v := ?v10_60) rfl (by kernel_rfl) (by kernel_rfl) (by kernel_rfl) (fun _ _ _ h => h) (Or.inl ⟨by rfl, ?y10_60⟩) (by assumption) ?r10_60
  case y10_60 => (intro w hSw; (try dsimp only at hSw); go_simp; (try with_reducible rfl))
  (try simp only [Act.put, List.setIfInBounds_toArray, List.set_cons_zero, List.set_cons_succ])
  refine wpAnyH_take (i := 61) (oi := { dst := some 102, op := Go.Op.pick (Go.Operand.tmp 86) (Go.Operand.tmp 101) (Go.Operand.const (Go.Value.bool false)), type := 4, pos := "more.go:14", after := #[{ on := 45, ground := Go.Ground.data }, { on := 60, ground := Go.Ground.data }], guard := none }) (v := ?v10_61) rfl (by kernel_rfl) (by kernel_rfl) (by kernel_rfl) (fun _ _ _ h => h) (Or.inl ⟨by rfl, ?y10_61⟩) (by assumption) ?r10_61
  case y10_61 => (intro w hSw; (try dsimp only at hSw); go_simp; (try with_reducible rfl))
  (try simp only [Act.put, List.setIfInBounds_toArray, List.set_cons_zero, List.set_cons_succ])
  refine wpAnyH_take (i := 62) (oi := { dst := some 103, op := Go.Op.move (Go.Operand.tmp 102), type := 4, pos := "more.go:14", after := #[{ on := 61, ground := Go.Ground.data }, { on := 58, ground := Go.Ground.chain }], guard := none }) (v := ?v10_62) rfl (by kernel_rfl) (by kernel_rfl) (by kernel_rfl) (fun _ _ _ h => h) (Or.inl ⟨by rfl, ?y10_62⟩) (by assumption) ?r10_62
  case y10_62 => (intro w hSw; (try dsimp only at hSw); go_simp; (try with_reducible rfl))
  (try simp only [Act.put, List.setIfInBounds_toArray, List.set_cons_zero, List.set_cons_succ])
  refine wpAnyH_take (i := 63) (oi := { dst := some 104, op := Go.Op.fieldAddr 23 (Go.Operand.tmp 4) 2, type := 0, pos := "more.go:14", after := #[{ on := 62, ground := Go.Ground.guard }], guard := some (62, true) }) (v := ?v10_63) rfl (by kernel_rfl) (by kernel_rfl) (by kernel_rfl) (fun _ _ _ h => h) (Or.inl ⟨by rfl, ?y10_63⟩) (by assumption) ?r10_63
  case y10_63 => (intro w hSw; (try dsimp only at hSw); go_simp; (try with_reducible rfl))
  (try simp only [Act.put, List.setIfInBounds_toArray, List.set_cons_zero, List.set_cons_succ])
  refine wpAnyH_take (i := 64) (oi := { dst := some 105, op := Go.Op.load 3 (Go.Operand.tmp 104), type := 3, pos := "more.go:14", after := #[{ on := 63, ground := Go.Ground.data }, { on := 62, ground := Go.Ground.guard }], guard := some (62, true) }) (v := ?v10_64) rfl (by kernel_rfl) (by kernel_rfl) (by kernel_rfl) (fun _ _ _ h => h) (Or.inl ⟨by rfl, ?y10_64⟩) (by assumption) ?r10_64
  case y10_64 => (intro w hSw; (try dsimp only at hSw); go_simp; (try with_reducible rfl))
  (try simp only [Act.put, List.setIfInBounds_toArray, List.set_cons_zero, List.set_cons_succ])
  refine wpAnyH_take (i := 65) (oi := { dst := some 106, op := Go.Op.binOp Go.BinOp.eql 3 (Go.Operand.tmp 105) (Go.Operand.const (Go.Value.int Go.IntKind.i64 1)) 3, type := 4, pos := "more.go:14", after := #[{ on := 64, ground := Go.Ground.data }, { on := 62, ground := Go.Ground.guard }], guard := some (62, true) }) (v := ?v10_65) rfl (by kernel_rfl) (by kernel_rfl) (by kernel_rfl) (fun _ _ _ h => h) (Or.inl ⟨by rfl, ?y10_65⟩) (by assumption) ?r10_65
  case y10_65 => (intro w hSw; (try dsimp only at hSw); go_simp; (try with_reducible rfl))
  (try simp only [Act.put, List.setIfInBounds_toArray, List.set_cons_zero, List.set_cons_succ])
  refine wpAnyH_take (i := 66) (oi := { dst := some 107, op := Go.Op.move (Go.Operand.tmp 106), type := 4, pos := "more.go:14", after := #[{ on := 65, ground := Go.Ground.data }, { on := 62, ground := Go.Ground.chain }, { on := 62, ground := Go.Ground.guard }], guard := some (62, true) }) (v := ?v10_66) rfl (by kernel_rfl) (by kernel_rfl) (by kernel_rfl) (fun _ _ _ h => h) (Or.inl ⟨by rfl, ?y10_66⟩) (by assumption) ?r10_66
  case y10_66 => (intro w hSw; (try dsimp only at hSw); go_simp; (try with_reducible rfl))
  (try simp only [Act.put, List.setIfInBounds_toArray, List.set_cons_zero, List.set_cons_succ])
  refine wpAnyH_take (i := 67) (oi := { dst := some 108, op := Go.Op.load 23 (Go.Operand.tmp 4), type := 23, pos := "more.go:14", after := #[{ on := 66, ground := Go.Ground.guard }], guard := some (66, false) }) (v := ?v10_67) rfl (by kernel_rfl) (by kernel_rfl) (by kernel_rfl) (fun _ _ _ h => h) (Or.inl ⟨by rfl, ?y10_67⟩) (by assumption) ?r10_67
  case y10_67 => (intro w hSw; (try dsimp only at hSw); go_simp; (try with_reducible rfl))
  (try simp only [Act.put, List.setIfInBounds_toArray, List.set_cons_zero, List.set_cons_succ])
  refine wpAnyH_take (i := 68) (oi := { dst := some 109, op := Go.Op.move (Go.Operand.tmp 2), type := 24, pos := "more.go:14", after := #[{ on := 66, ground := Go.Ground.guard }], guard := some (66, false) }) (v := ?v10_68) rfl (by kernel_rfl) (by kernel_rfl) (by kernel_rfl) (fun _ _ _ h => h) (Or.inl ⟨by rfl, ?y10_68⟩) (by assumption) ?r10_68
  case y10_68 => (intro w hSw; (try dsimp only at hSw); go_simp; (try with_reducible rfl))
  (try simp only [Act.put, List.setIfInBounds_toArray, List.set_cons_zero, List.set_cons_succ])
  refine wpAnyH_take (i := 69) (oi := { dst := some 110, op := Go.Op.binOp Go.BinOp.add 24 (Go.Operand.tmp 109) (Go.Operand.const (Go.Value.int Go.IntKind.u64 1)) 24, type := 24, pos := "more.go:14", after := #[{ on := 68, ground := Go.Ground.data }, { on := 66, ground := Go.Ground.guard }], guard := some (66, false) }) (v := ?v10_69) rfl (by kernel_rfl) (by kernel_rfl) (by kernel_rfl) (fun _ _ _ h => h) (Or.inl ⟨by rfl, ?y10_69⟩) (by assumption) ?r10_69
  case y10_69 => (intro w hSw; (try dsimp only at hSw); go_simp; (try with_reducible rfl))
  (try simp only [Act.put, List.setIfInBounds_toArray, List.set_cons_zero, List.set_cons_succ])
  refine wpAnyH_take (i := 71) (oi := { dst := some 112, op := Go.Op.load 23 (Go.Operand.tmp 4), type := 23, pos := "more.go:14", after := #[{ on := 66, ground := Go.Ground.guard }], guard := some (66, false) }) (v := ?v10_71) rfl (by kernel_rfl) (by kernel_rfl) (by kernel_rfl) (fun _ _ _ h => h) (Or.inl ⟨by rfl, ?y10_71⟩) (by assumption) ?r10_71
  case y10_71 => (intro w hSw; (try dsimp only at hSw); go_simp; (try with_reducible rfl))
  (try simp only [Act.put, List.setIfInBounds_toArray, List.set_cons_zero, List.set_cons_succ])
  refine wpAnyH_take (i := 72) (oi := { dst := some 113, op := Go.Op.move (Go.Operand.tmp 2), type := 24, pos := "more.go:14", after := #[{ on := 66, ground := Go.Ground.guard }], guard := some (66, false) }) (v := ?v10_72) rfl (by kernel_rfl) (by kernel_rfl) (by kernel_rfl) (fun _ _ _ h => h) (Or.inl ⟨by rfl, ?y10_72⟩) (by assumption) ?r10_72
  case y10_72 => (intro w hSw; (try dsimp only at hSw); go_simp; (try with_reducible rfl))
  (try simp only [Act.put, List.setIfInBounds_toArray, List.set_cons_zero, List.set_cons_succ])
  refine wpAnyH_ready (rs := [70]) (by kernel_rfl) (by simp) ?_
  refine AllReadyH.cons (o := { dst := some 111, op := Go.Op.call { callee := Go.Callee.value (Go.Operand.func 17), args := #[Go.Operand.tmp 108, Go.Operand.tmp 110], argTypes := #[23, 24] }, type := 3, pos := "more.go:14", after := #[{ on := 67, ground := Go.Ground.data }, { on := 69, ground := Go.Ground.data }, { on := 66, ground := Go.Ground.chain }, { on := 66, ground := Go.Ground.guard }], guard := some (66, false) }) rfl (fun K hK => ?_) AllReadyH.nil
  go_simp
  refine (HCQ.out (x + 1) _ HX1.out).mono ?_
  rintro e w' ⟨rfl, hb⟩
  go_wp2_with fail
  refine hK.out _ _ (held_call HK.out (fun _ h => h.2.2.2.2) hb hHeld) (fun hHeld2 => ?_)
  clear hK K hHeld
  have hHeld := hHeld2
  clear hHeld2
  (try simp only [Act.put, List.setIfInBounds_toArray, List.set_cons_zero, List.set_cons_succ])
  refine wpAnyH_ready (rs := [73]) (by kernel_rfl) (by simp) ?_
  refine AllReadyH.cons (o := { dst := some 114, op := Go.Op.call { callee := Go.Callee.value (Go.Operand.func 17), args := #[Go.Operand.tmp 112, Go.Operand.tmp 113], argTypes := #[23, 24] }, type := 3, pos := "more.go:14", after := #[{ on := 71, ground := Go.Ground.data }, { on := 72, ground := Go.Ground.data }, { on := 70, ground := Go.Ground.chain }, { on := 66, ground := Go.Ground.guard }], guard := some (66, false) }) rfl (fun K hK => ?_) AllReadyH.nil
  go_simp
  refine (HCQ.out x _ HX.out).mono ?_
  rintro e w' ⟨rfl, hb⟩
  go_wp2_with fail
  refine hK.out _ _ (held_call HK.out (fun _ h => h.2.2.2.2) hb hHeld) (fun hHeld2 => ?_)
  clear hK K hHeld
  have hHeld := hHeld2
  clear hHeld2
  (try simp only [Act.put, List.setIfInBounds_toArray, List.set_cons_zero, List.set_cons_succ])
  refine wpAnyH_take (i := 74) (oi := { dst := some 115, op := Go.Op.binOp Go.BinOp.neq 3 (Go.Operand.tmp 111) (Go.Operand.tmp 114) 3, type := 4, pos := "more.go:14", after := #[{ on := 70, ground := Go.Ground.data }, { on := 73, ground := Go.Ground.data }, { on := 66, ground := Go.Ground.guard }], guard := some (66, false) }) (v := ?v10_74) rfl (by kernel_rfl) (by kernel_rfl) (by kernel_rfl) (fun _ _ _ h => h) (Or.inl ⟨by rfl, ?y10_74⟩) (by assumption) ?r10_74
  case y10_74 => (intro w hSw; (try dsimp only at hSw); go_simp; (try with_reducible rfl))
  (try simp only [Act.put, List.setIfInBounds_toArray, List.set_cons_zero, List.set_cons_succ])
  refine wpAnyH_take (i := 75) (oi := { dst := some 116, op := Go.Op.pick (Go.Operand.tmp 107) (Go.Operand.const (Go.Value.bool true)) (Go.Operand.tmp 115), type := 4, pos := "more.go:14", after := #[{ on := 66, ground := Go.Ground.data }, { on := 74, ground := Go.Ground.data }, { on := 62, ground := Go.Ground.guard }], guard := some (62, true) }) (v := ?v10_75) rfl (by kernel_rfl) (by kernel_rfl) (by kernel_rfl) (fun _ _ _ h => h) (Or.inl ⟨by rfl, ?y10_75⟩) (by assumption) ?r10_75
  case y10_75 => (intro w hSw; (try dsimp only at hSw); go_simp; (try with_reducible rfl))
  (try simp only [Act.put, List.setIfInBounds_toArray, List.set_cons_zero, List.set_cons_succ])
  refine wpAnyH_take (i := 76) (oi := { dst := some 117, op := Go.Op.pick (Go.Operand.tmp 103) (Go.Operand.tmp 116) (Go.Operand.const (Go.Value.bool false)), type := 4, pos := "more.go:14", after := #[{ on := 62, ground := Go.Ground.data }, { on := 75, ground := Go.Ground.data }], guard := none }) (v := ?v10_76) rfl (by kernel_rfl) (by kernel_rfl) (by kernel_rfl) (fun _ _ _ h => h) (Or.inl ⟨by rfl, ?y10_76⟩) (by assumption) ?r10_76
  case y10_76 => (intro w hSw; (try dsimp only at hSw); go_simp; (try with_reducible rfl))
  (try simp only [Act.put, List.setIfInBounds_toArray, List.set_cons_zero, List.set_cons_succ])
  refine wpAnyH_take (i := 77) (oi := { dst := some 8, op := Go.Op.assign (Go.Operand.tmp 117), type := 4, pos := "more.go:14", after := #[{ on := 76, ground := Go.Ground.data }, { on := 73, ground := Go.Ground.chain }, { on := 0, ground := Go.Ground.phase }, { on := 1, ground := Go.Ground.phase }, { on := 2, ground := Go.Ground.phase }, { on := 3, ground := Go.Ground.phase }, { on := 4, ground := Go.Ground.phase }, { on := 5, ground := Go.Ground.phase }, { on := 6, ground := Go.Ground.phase }, { on := 7, ground := Go.Ground.phase }, { on := 8, ground := Go.Ground.phase }, { on := 9, ground := Go.Ground.phase }, { on := 10, ground := Go.Ground.phase }, { on := 11, ground := Go.Ground.phase }, { on := 12, ground := Go.Ground.phase }, { on := 13, ground := Go.Ground.phase }, { on := 14, ground := Go.Ground.phase }, { on := 15, ground := Go.Ground.phase }, { on := 16, ground := Go.Ground.phase }, { on := 17, ground := Go.Ground.phase }, { on := 18, ground := Go.Ground.phase }, { on := 19, ground := Go.Ground.phase }, { on := 20, ground := Go.Ground.phase }, { on := 21, ground := Go.Ground.phase }, { on := 22, ground := Go.Ground.phase }, { on := 23, ground := Go.Ground.phase }, { on := 24, ground := Go.Ground.phase }, { on := 25, ground := Go.Ground.phase }, { on := 26, ground := Go.Ground.phase }, { on := 27, ground := Go.Ground.phase }, { on := 28, ground := Go.Ground.phase }, { on := 29, ground := Go.Ground.phase }, { on := 30, ground := Go.Ground.phase }, { on := 31, ground := Go.Ground.phase }, { on := 32, ground := Go.Ground.phase }, { on := 33, ground := Go.Ground.phase }, { on := 34, ground := Go.Ground.phase }, { on := 35, ground := Go.Ground.phase }, { on := 36, ground := Go.Ground.phase }, { on := 37, ground := Go.Ground.phase }, { on := 38, ground := Go.Ground.phase }, { on := 39, ground := Go.Ground.phase }, { on := 40, ground := Go.Ground.phase }, { on := 41, ground := Go.Ground.phase }, { on := 42, ground := Go.Ground.phase }, { on := 43, ground := Go.Ground.phase }, { on := 44, ground := Go.Ground.phase }, { on := 45, ground := Go.Ground.phase }, { on := 46, ground := Go.Ground.phase }, { on := 47, ground := Go.Ground.phase }, { on := 48, ground := Go.Ground.phase }, { on := 49, ground := Go.Ground.phase }, { on := 50, ground := Go.Ground.phase }, { on := 51, ground := Go.Ground.phase }, { on := 52, ground := Go.Ground.phase }, { on := 53, ground := Go.Ground.phase }, { on := 54, ground := Go.Ground.phase }, { on := 55, ground := Go.Ground.phase }, { on := 56, ground := Go.Ground.phase }, { on := 57, ground := Go.Ground.phase }, { on := 58, ground := Go.Ground.phase }, { on := 59, ground := Go.Ground.phase }, { on := 60, ground := Go.Ground.phase }, { on := 61, ground := Go.Ground.phase }, { on := 62, ground := Go.Ground.phase }, { on := 63, ground := Go.Ground.phase }, { on := 64, ground := Go.Ground.phase }, { on := 65, ground := Go.Ground.phase }, { on := 66, ground := Go.Ground.phase }, { on := 67, ground := Go.Ground.phase }, { on := 68, ground := Go.Ground.phase }, { on := 69, ground := Go.Ground.phase }, { on := 70, ground := Go.Ground.phase }, { on := 71, ground := Go.Ground.phase }, { on := 72, ground := Go.Ground.phase }, { on := 73, ground := Go.Ground.phase }, { on := 74, ground := Go.Ground.phase }, { on := 75, ground := Go.Ground.phase }, { on := 76, ground := Go.Ground.phase }], guard := none }) (v := ?v10_77) rfl (by kernel_rfl) (by kernel_rfl) (by kernel_rfl) (fun _ _ _ h => h) (Or.inl ⟨by rfl, ?y10_77⟩) (by assumption) ?r10_77
  case y10_77 => (intro w hSw; (try dsimp only at hSw); go_simp; (try with_reducible rfl))
  (try simp only [Act.put, List.setIfInBounds_toArray, List.set_cons_zero, List.set_cons_succ])
  refine wpAnyH_done (by kernel_rfl) ?_ _
  have HEND := Lib.hid (BW.out.trans ((hHeld.2.2.2.2).mono BW.out.size))
  clear hHeld
  go_wp2
  go_ret
  exact ⟨rfl, HEND.out⟩
set_option maxHeartbeats 2000000 in
theorem layRing_c01 (W D J S y x k : Int) (w : World) (hx : U x) (hm : may W D J S = true) (hy : 0 ≤ y ∧ y < W) (hk : 0 ≤ k ∧ k ≤ 1000) (hx2 : x ≤ 4611686018427387904) (hd : ¬ D = 1) (hj : J = 1) : Tells 6 #[cf W D J S, .int .i64 y, .int .u64 x, .int .i64 k] w (.bool true) := by
  have HM := Lib.hid hm
  obtain ⟨⟨w1', w2'⟩, ⟨d1, d2⟩, ⟨j1, j2⟩, ⟨s1, s2⟩⟩ := may_lim hm
  clear hm
  have hy0 : ¬ y < 0 := by omega
  have hy1 : ¬ W ≤ y := by omega
  have hk0 : ¬ k < 0 := by omega
  have hk1 : ¬ 1000 < k := by omega
  have hx1 : ¬ 4611686018427387904 < x := by omega
  have kd0 : 0 ≤ k * D := Int.mul_nonneg (by omega) (by omega)
  have kd1 : k * D ≤ 1000 * 16 := Int.mul_le_mul (by omega) (by omega) (by omega) (by omega)
  have kj0 : 0 ≤ k * J := Int.mul_nonneg (by omega) (by omega)
  have kj1 : k * J ≤ 1000 * 16 := Int.mul_le_mul (by omega) (by omega) (by omega) (by omega)
  have wy : wi y 0 (W - 1) = true := wi_true.2 ⟨by omega, by omega⟩
  have CS : ∀ z w, U z → Tells 27 #[cf W D J S, .int .i64 y, .int .u64 z] w (.int .i64 (bg D J y + 3 + z % D)) := fun z w hz => Tells.of (slot_any _ _ _ _ _ _ w hz) (by unfold sl; rw [HM.out, wy]; rfl)
  have CQ : ∀ z w, U z → Tells 17 #[cf W D J S, .int .u64 z] w (.int .i64 (6 + z % J)) := fun z w hz => Tells.of (seq_any _ _ _ _ _ w hz) (by unfold sq; rw [HM.out]; rfl)
  have CV : ∀ z w, U z → Tells 19 #[cf W D J S, .int .u64 z] w (.int .i64 (6 + J + z % J)) := fun z w hz => Tells.of (val_any _ _ _ _ _ w hz) (by unfold vl; rw [HM.out]; rfl)
  have HCS := Lib.hid CS
  have HCQ := Lib.hid CQ
  have HCV := Lib.hid CV
  have ux : 0 ≤ x := hx.1
  have HX := Lib.hid hx
  have HXD := Lib.hid (show U (x + k * D) by unfold U; omega)
  have HXJ := Lib.hid (show U (x + k * J) by unfold U; omega)
  have HX1 := Lib.hid (show U (x + 1) by unfold U; omega)
  have HE1 := Lib.hid (mod_more x k (n := D))
  have HE2 := Lib.hid (mod_more x k (n := J))
  clear CS CQ CV hx wy
  have HDB := Lib.hid (show (D == 1) = false by simp [hd])
  have HJB := Lib.hid (show (J == 1) = true by simp [hj])
  have HMD := Lib.hid (show (bg D J y + 3 + (x + 1) % D != bg D J y + 3 + x % D) = true by have := mod_next x (n := D) (by omega); simp; omega)
  clear hd hj
  go_enter Try.func6, Try.ntmps6
  go_wp2_with fail
  have Bc := Lib.hid (Bx.mk w W D J S 23)
  obtain ⟨g_c, c0_c, c1_c, c2_c, c3_c⟩ := Bc.out
  refine (awake_any _).mono ?_
  rintro _ w1 ⟨rfl, z1⟩
  have HZ := Lib.hid ((box_below w _).trans (z1.mono (by simp)))
  clear g_c c0_c c1_c c2_c c3_c
  replace Bc := Lib.hid (Bc.out.below z1)
  obtain ⟨g_c, c0_c, c1_c, c2_c, c3_c⟩ := Bc.out
  clear z1
  go_wp2_with fail
  refine (Tells.of (may_any W D J S _) (v' := .bool true) (by rw [HM.out])).mono ?_
  rintro _ w2 ⟨rfl, z2⟩
  replace HZ := Lib.hid (HZ.out.trans (z2.mono HZ.out.size))
  clear g_c c0_c c1_c c2_c c3_c
  replace Bc := Lib.hid (Bc.out.below z2)
  obtain ⟨g_c, c0_c, c1_c, c2_c, c3_c⟩ := Bc.out
  clear z2
  go_wp2_with fail
  have q1 : IntKind.i64.wrap (k * D) = k * D := IntWalk.i64_in _ ⟨by omega, by omega⟩
  have q2 : IntKind.u64.wrap (k * D) = k * D := IntWalk.u64_in _ ⟨by omega, by omega⟩
  have q3 : IntKind.u64.wrap (x + k * D) = x + k * D := IntWalk.u64_in _ ⟨by omega, by omega⟩
  have q4 : IntKind.i64.wrap (k * J) = k * J := IntWalk.i64_in _ ⟨by omega, by omega⟩
  have q5 : IntKind.u64.wrap (k * J) = k * J := IntWalk.u64_in _ ⟨by omega, by omega⟩
  have q6 : IntKind.u64.wrap (x + k * J) = x + k * J := IntWalk.u64_in _ ⟨by omega, by omega⟩
  have q7 : IntKind.u64.wrap (x + 1) = x + 1 := IntWalk.u64_in _ ⟨by omega, by omega⟩
  have hdb := HDB.out
  have hjb := HJB.out
  have hmd := HMD.out
  have BW := Lib.hid (HZ.out)
  have K : ∀ w', Below w2.heap.size w2 w' → w'.cell? ⟨w.heap.size, 0, none⟩ = some (.int .i64 W) ∧ w'.cell? ⟨w.heap.size, 1, none⟩ = some (.int .i64 D) ∧ w'.cell? ⟨w.heap.size, 2, none⟩ = some (.int .i64 J) ∧ w'.cell? ⟨w.heap.size, 3, none⟩ = some (.int .i64 S) ∧ Below w2.heap.size w2 w' := by
    intro w' hb
    obtain ⟨f00, f01, f02, f03⟩ := (Bx.below Bc.out hb).cells
    exact ⟨f00, f01, f02, f03, hb⟩
  have HK := Lib.hid K
  clear K
  simp only [List.append_eq, List.cons_append, List.nil_append]
  refine wp_region_held_drew (S := fun w' => w'.cell? ⟨w.heap.size, 0, none⟩ = some (.int .i64 W) ∧ w'.cell? ⟨w.heap.size, 1, none⟩ = some (.int .i64 D) ∧ w'.cell? ⟨w.heap.size, 2, none⟩ = some (.int .i64 J) ∧ w'.cell? ⟨w.heap.size, 3, none⟩ = some (.int .i64 S) ∧ Below w2.heap.size w2 w') (by kernel_rfl) (HK.out _ (keep_drew (Below.refl _ _))) (fun hHeld => ?_)
  refine wpAnyH_take (i := 0) (oi := { dst := some 41, op := Go.Op.load 23 (Go.Operand.tmp 4), type := 23, pos := "more.go:14", after := #[], guard := none }) (v := ?v01_0) rfl (by kernel_rfl) (by kernel_rfl) (by kernel_rfl) (fun _ _ _ h => h) (Or.inl ⟨by rfl, ?y01_0⟩) (by assumption) ?r01_0
  case y01_0 => (intro w hSw; (try dsimp only at hSw); go_simp; (try with_reducible rfl))
  (try simp only [Act.put, List.setIfInBounds_toArray, List.set_cons_zero, List.set_cons_succ])
  refine wpAnyH_take (i := 1) (oi := { dst := some 42, op := Go.Op.move (Go.Operand.tmp 1), type := 3, pos := "more.go:14", after := #[], guard := none }) (v := ?v01_1) rfl (by kernel_rfl) (by kernel_rfl) (by kernel_rfl) (fun _ _ _ h => h) (Or.inl ⟨by rfl, ?y01_1⟩) (by assumption) ?r01_1
  case y01_1 => (intro w hSw; (try dsimp only at hSw); go_simp; (try with_reducible rfl))
  (try simp only [Act.put, List.setIfInBounds_toArray, List.set_cons_zero, List.set_cons_succ])
  refine wpAnyH_take (i := 2) (oi := { dst := some 43, op := Go.Op.move (Go.Operand.tmp 2), type := 24, pos := "more.go:14", after := #[], guard := none }) (v := ?v01_2) rfl (by kernel_rfl) (by kernel_rfl) (by kernel_rfl) (fun _ _ _ h => h) (Or.inl ⟨by rfl, ?y01_2⟩) (by assumption) ?r01_2
  case y01_2 => (intro w hSw; (try dsimp only at hSw); go_simp; (try with_reducible rfl))
  (try simp only [Act.put, List.setIfInBounds_toArray, List.set_cons_zero, List.set_cons_succ])
  refine wpAnyH_take (i := 3) (oi := { dst := some 44, op := Go.Op.move (Go.Operand.tmp 3), type := 3, pos := "more.go:14", after := #[], guard := none }) (v := ?v01_3) rfl (by kernel_rfl) (by kernel_rfl) (by kernel_rfl) (fun _ _ _ h => h) (Or.inl ⟨by rfl, ?y01_3⟩) (by assumption) ?r01_3
  case y01_3 => (intro w hSw; (try dsimp only at hSw); go_simp; (try with_reducible rfl))
  (try simp only [Act.put, List.setIfInBounds_toArray, List.set_cons_zero, List.set_cons_succ])
  refine wpAnyH_take (i := 4) (oi := { dst := some 45, op := Go.Op.fieldAddr 23 (Go.Operand.tmp 4) 1, type := 0, pos := "more.go:14", after := #[], guard := none }) (v := ?v01_4) rfl (by kernel_rfl) (by kernel_rfl) (by kernel_rfl) (fun _ _ _ h => h) (Or.inl ⟨by rfl, ?y01_4⟩) (by assumption) ?r01_4
  case y01_4 => (intro w hSw; (try dsimp only at hSw); go_simp; (try with_reducible rfl))
  (try simp only [Act.put, List.setIfInBounds_toArray, List.set_cons_zero, List.set_cons_succ])
  refine wpAnyH_take (i := 5) (oi := { dst := some 46, op := Go.Op.load 3 (Go.Operand.tmp 45), type := 3, pos := "more.go:14", after := #[{ on := 4, ground := Go.Ground.data }], guard := none }) (v := ?v01_5) rfl (by kernel_rfl) (by kernel_rfl) (by kernel_rfl) (fun _ _ _ h => h) (Or.inl ⟨by rfl, ?y01_5⟩) (by assumption) ?r01_5
  case y01_5 => (intro w hSw; (try dsimp only at hSw); go_simp; (try with_reducible rfl))
  (try simp only [Act.put, List.setIfInBounds_toArray, List.set_cons_zero, List.set_cons_succ])
  refine wpAnyH_take (i := 6) (oi := { dst := some 47, op := Go.Op.binOp Go.BinOp.mul 3 (Go.Operand.tmp 44) (Go.Operand.tmp 46) 3, type := 3, pos := "more.go:14", after := #[{ on := 3, ground := Go.Ground.data }, { on := 5, ground := Go.Ground.data }], guard := none }) (v := ?v01_6) rfl (by kernel_rfl) (by kernel_rfl) (by kernel_rfl) (fun _ _ _ h => h) (Or.inl ⟨by rfl, ?y01_6⟩) (by assumption) ?r01_6
  case y01_6 => (intro w hSw; (try dsimp only at hSw); go_simp; (try with_reducible rfl))
  (try simp only [Act.put, List.setIfInBounds_toArray, List.set_cons_zero, List.set_cons_succ])
  refine wpAnyH_take (i := 7) (oi := { dst := some 48, op := Go.Op.convert 3 24 (Go.Operand.tmp 47), type := 24, pos := "more.go:14", after := #[{ on := 6, ground := Go.Ground.data }], guard := none }) (v := ?v01_7) rfl (by kernel_rfl) (by kernel_rfl) (by kernel_rfl) (fun _ _ _ h => h) (Or.inl ⟨by rfl, ?y01_7⟩) (by assumption) ?r01_7
  case y01_7 => (intro w hSw; (try dsimp only at hSw); go_simp; (try with_reducible rfl))
  (try simp only [Act.put, List.setIfInBounds_toArray, List.set_cons_zero, List.set_cons_succ])
  refine wpAnyH_take (i := 8) (oi := { dst := some 49, op := Go.Op.binOp Go.BinOp.add 24 (Go.Operand.tmp 43) (Go.Operand.tmp 48) 24, type := 24, pos := "more.go:14", after := #[{ on := 2, ground := Go.Ground.data }, { on := 7, ground := Go.Ground.data }], guard := none }) (v := ?v01_8) rfl (by kernel_rfl) (by kernel_rfl) (by kernel_rfl) (fun _ _ _ h => h) (Or.inl ⟨by rfl, ?y01_8⟩) (by assumption) ?r01_8
  case y01_8 => (intro w hSw; (try dsimp only at hSw); go_simp; (try with_reducible rfl))
  (try simp only [Act.put, List.setIfInBounds_toArray, List.set_cons_zero, List.set_cons_succ])
  refine wpAnyH_take (i := 10) (oi := { dst := some 51, op := Go.Op.load 23 (Go.Operand.tmp 4), type := 23, pos := "more.go:14", after := #[], guard := none }) (v := ?v01_10) rfl (by kernel_rfl) (by kernel_rfl) (by kernel_rfl) (fun _ _ _ h => h) (Or.inl ⟨by rfl, ?y01_10⟩) (by assumption) ?r01_10
  case y01_10 => (intro w hSw; (try dsimp only at hSw); go_simp; (try with_reducible rfl))
  (try simp only [Act.put, List.setIfInBounds_toArray, List.set_cons_zero, List.set_cons_succ])
  refine wpAnyH_take (i := 11) (oi := { dst := some 52, op := Go.Op.move (Go.Operand.tmp 1), type := 3, pos := "more.go:14", after := #[], guard := none }) (v := ?v01_11) rfl (by kernel_rfl) (by kernel_rfl) (by kernel_rfl) (fun _ _ _ h => h) (Or.inl ⟨by rfl, ?y01_11⟩) (by assumption) ?r01_11
  case y01_11 => (intro w hSw; (try dsimp only at hSw); go_simp; (try with_reducible rfl))
  (try simp only [Act.put, List.setIfInBounds_toArray, List.set_cons_zero, List.set_cons_succ])
  refine wpAnyH_take (i := 12) (oi := { dst := some 53, op := Go.Op.move (Go.Operand.tmp 2), type := 24, pos := "more.go:14", after := #[], guard := none }) (v := ?v01_12) rfl (by kernel_rfl) (by kernel_rfl) (by kernel_rfl) (fun _ _ _ h => h) (Or.inl ⟨by rfl, ?y01_12⟩) (by assumption) ?r01_12
  case y01_12 => (intro w hSw; (try dsimp only at hSw); go_simp; (try with_reducible rfl))
  (try simp only [Act.put, List.setIfInBounds_toArray, List.set_cons_zero, List.set_cons_succ])
  refine wpAnyH_ready (rs := [9]) (by kernel_rfl) (by simp) ?_
  refine AllReadyH.cons (o := { dst := some 50, op := Go.Op.call { callee := Go.Callee.value (Go.Operand.func 27), args := #[Go.Operand.tmp 41, Go.Operand.tmp 42, Go.Operand.tmp 49], argTypes := #[23, 3, 24] }, type := 3, pos := "more.go:14", after := #[{ on := 0, ground := Go.Ground.data }, { on := 1, ground := Go.Ground.data }, { on := 8, ground := Go.Ground.data }], guard := none }) rfl (fun K hK => ?_) AllReadyH.nil
  go_simp
  refine (Tells.of (HCS.out (x + k * D) _ HXD.out) (v' := .int .i64 (bg D J y + 3 + x % D)) (congrArg (fun z => Value.int .i64 (bg D J y + 3 + z)) HE1.out)).mono ?_
  rintro e w' ⟨rfl, hb⟩
  go_wp2_with fail
  refine hK.out _ _ (held_call HK.out (fun _ h => h.2.2.2.2) hb hHeld) (fun hHeld2 => ?_)
  clear hK K hHeld
  have hHeld := hHeld2
  clear hHeld2
  (try simp only [Act.put, List.setIfInBounds_toArray, List.set_cons_zero, List.set_cons_succ])
  refine wpAnyH_ready (rs := [13]) (by kernel_rfl) (by simp) ?_
  refine AllReadyH.cons (o := { dst := some 54, op := Go.Op.call { callee := Go.Callee.value (Go.Operand.func 27), args := #[Go.Operand.tmp 51, Go.Operand.tmp 52, Go.Operand.tmp 53], argTypes := #[23, 3, 24] }, type := 3, pos := "more.go:14", after := #[{ on := 10, ground := Go.Ground.data }, { on := 11, ground := Go.Ground.data }, { on := 12, ground := Go.Ground.data }, { on := 9, ground := Go.Ground.chain }], guard := none }) rfl (fun K hK => ?_) AllReadyH.nil
  go_simp
  refine (HCS.out x _ HX.out).mono ?_
  rintro e w' ⟨rfl, hb⟩
  go_wp2_with fail
  refine hK.out _ _ (held_call HK.out (fun _ h => h.2.2.2.2) hb hHeld) (fun hHeld2 => ?_)
  clear hK K hHeld
  have hHeld := hHeld2
  clear hHeld2
  (try simp only [Act.put, List.setIfInBounds_toArray, List.set_cons_zero, List.set_cons_succ])
  refine wpAnyH_take (i := 14) (oi := { dst := some 55, op := Go.Op.binOp Go.BinOp.eql 3 (Go.Operand.tmp 50) (Go.Operand.tmp 54) 3, type := 4, pos := "more.go:14", after := #[{ on := 9, ground := Go.Ground.data }, { on := 13, ground := Go.Ground.data }], guard := none }) (v := ?v01_14) rfl (by kernel_rfl) (by kernel_rfl) (by kernel_rfl) (fun _ _ _ h => h) (Or.inl ⟨by rfl, ?y01_14⟩) (by assumption) ?r01_14
  case y01_14 => (intro w hSw; (try dsimp only at hSw); go_simp; (try with_reducible rfl))
  (try simp only [Act.put, List.setIfInBounds_toArray, List.set_cons_zero, List.set_cons_succ])
  refine wpAnyH_take (i := 15) (oi := { dst := some 56, op := Go.Op.move (Go.Operand.tmp 55), type := 4, pos := "more.go:14", after := #[{ on := 14, ground := Go.Ground.data }, { on := 13, ground := Go.Ground.chain }], guard := none }) (v := ?v01_15) rfl (by kernel_rfl) (by kernel_rfl) (by kernel_rfl) (fun _ _ _ h => h) (Or.inl ⟨by rfl, ?y01_15⟩) (by assumption) ?r01_15
  case y01_15 => (intro w hSw; (try dsimp only at hSw); go_simp; (try with_reducible rfl))
  (try simp only [Act.put, List.setIfInBounds_toArray, List.set_cons_zero, List.set_cons_succ])
  refine wpAnyH_take (i := 16) (oi := { dst := some 57, op := Go.Op.load 23 (Go.Operand.tmp 4), type := 23, pos := "more.go:14", after := #[{ on := 15, ground := Go.Ground.guard }], guard := some (15, true) }) (v := ?v01_16) rfl (by kernel_rfl) (by kernel_rfl) (by kernel_rfl) (fun _ _ _ h => h) (Or.inl ⟨by rfl, ?y01_16⟩) (by assumption) ?r01_16
  case y01_16 => (intro w hSw; (try dsimp only at hSw); go_simp; (try with_reducible rfl))
  (try simp only [Act.put, List.setIfInBounds_toArray, List.set_cons_zero, List.set_cons_succ])
  refine wpAnyH_take (i := 17) (oi := { dst := some 58, op := Go.Op.move (Go.Operand.tmp 2), type := 24, pos := "more.go:14", after := #[{ on := 15, ground := Go.Ground.guard }], guard := some (15, true) }) (v := ?v01_17) rfl (by kernel_rfl) (by kernel_rfl) (by kernel_rfl) (fun _ _ _ h => h) (Or.inl ⟨by rfl, ?y01_17⟩) (by assumption) ?r01_17
  case y01_17 => (intro w hSw; (try dsimp only at hSw); go_simp; (try with_reducible rfl))
  (try simp only [Act.put, List.setIfInBounds_toArray, List.set_cons_zero, List.set_cons_succ])
  refine wpAnyH_take (i := 18) (oi := { dst := some 59, op := Go.Op.move (Go.Operand.tmp 3), type := 3, pos := "more.go:14", after := #[{ on := 15, ground := Go.Ground.guard }], guard := some (15, true) }) (v := ?v01_18) rfl (by kernel_rfl) (by kernel_rfl) (by kernel_rfl) (fun _ _ _ h => h) (Or.inl ⟨by rfl, ?y01_18⟩) (by assumption) ?r01_18
  case y01_18 => (intro w hSw; (try dsimp only at hSw); go_simp; (try with_reducible rfl))
  (try simp only [Act.put, List.setIfInBounds_toArray, List.set_cons_zero, List.set_cons_succ])
  refine wpAnyH_take (i := 19) (oi := { dst := some 60, op := Go.Op.fieldAddr 23 (Go.Operand.tmp 4) 2, type := 0, pos := "more.go:14", after := #[{ on := 15, ground := Go.Ground.guard }], guard := some (15, true) }) (v := ?v01_19) rfl (by kernel_rfl) (by kernel_rfl) (by kernel_rfl) (fun _ _ _ h => h) (Or.inl ⟨by rfl, ?y01_19⟩) (by assumption) ?r01_19
  case y01_19 => (intro w hSw; (try dsimp only at hSw); go_simp; (try with_reducible rfl))
  (try simp only [Act.put, List.setIfInBounds_toArray, List.set_cons_zero, List.set_cons_succ])
  refine wpAnyH_take (i := 20) (oi := { dst := some 61, op := Go.Op.load 3 (Go.Operand.tmp 60), type := 3, pos := "more.go:14", after := #[{ on := 19, ground := Go.Ground.data }, { on := 15, ground := Go.Ground.guard }], guard := some (15, true) }) (v := ?v01_20) rfl (by kernel_rfl) (by kernel_rfl) (by kernel_rfl) (fun _ _ _ h => h) (Or.inl ⟨by rfl, ?y01_20⟩) (by assumption) ?r01_20
  case y01_20 => (intro w hSw; (try dsimp only at hSw); go_simp; (try with_reducible rfl))
  (try simp only [Act.put, List.setIfInBounds_toArray, List.set_cons_zero, List.set_cons_succ])
  refine wpAnyH_take (i := 21) (oi := { dst := some 62, op := Go.Op.binOp Go.BinOp.mul 3 (Go.Operand.tmp 59) (Go.Operand.tmp 61) 3, type := 3, pos := "more.go:14", after := #[{ on := 18, ground := Go.Ground.data }, { on := 20, ground := Go.Ground.data }, { on := 15, ground := Go.Ground.guard }], guard := some (15, true) }) (v := ?v01_21) rfl (by kernel_rfl) (by kernel_rfl) (by kernel_rfl) (fun _ _ _ h => h) (Or.inl ⟨by rfl, ?y01_21⟩) (by assumption) ?r01_21
  case y01_21 => (intro w hSw; (try dsimp only at hSw); go_simp; (try with_reducible rfl))
  (try simp only [Act.put, List.setIfInBounds_toArray, List.set_cons_zero, List.set_cons_succ])
  refine wpAnyH_take (i := 22) (oi := { dst := some 63, op := Go.Op.convert 3 24 (Go.Operand.tmp 62), type := 24, pos := "more.go:14", after := #[{ on := 21, ground := Go.Ground.data }, { on := 15, ground := Go.Ground.guard }], guard := some (15, true) }) (v := ?v01_22) rfl (by kernel_rfl) (by kernel_rfl) (by kernel_rfl) (fun _ _ _ h => h) (Or.inl ⟨by rfl, ?y01_22⟩) (by assumption) ?r01_22
  case y01_22 => (intro w hSw; (try dsimp only at hSw); go_simp; (try with_reducible rfl))
  (try simp only [Act.put, List.setIfInBounds_toArray, List.set_cons_zero, List.set_cons_succ])
  refine wpAnyH_take (i := 23) (oi := { dst := some 64, op := Go.Op.binOp Go.BinOp.add 24 (Go.Operand.tmp 58) (Go.Operand.tmp 63) 24, type := 24, pos := "more.go:14", after := #[{ on := 17, ground := Go.Ground.data }, { on := 22, ground := Go.Ground.data }, { on := 15, ground := Go.Ground.guard }], guard := some (15, true) }) (v := ?v01_23) rfl (by kernel_rfl) (by kernel_rfl) (by kernel_rfl) (fun _ _ _ h => h) (Or.inl ⟨by rfl, ?y01_23⟩) (by assumption) ?r01_23
  case y01_23 => (intro w hSw; (try dsimp only at hSw); go_simp; (try with_reducible rfl))
  (try simp only [Act.put, List.setIfInBounds_toArray, List.set_cons_zero, List.set_cons_succ])
  refine wpAnyH_take (i := 25) (oi := { dst := some 66, op := Go.Op.load 23 (Go.Operand.tmp 4), type := 23, pos := "more.go:14", after := #[{ on := 15, ground := Go.Ground.guard }], guard := some (15, true) }) (v := ?v01_25) rfl (by kernel_rfl) (by kernel_rfl) (by kernel_rfl) (fun _ _ _ h => h) (Or.inl ⟨by rfl, ?y01_25⟩) (by assumption) ?r01_25
  case y01_25 => (intro w hSw; (try dsimp only at hSw); go_simp; (try with_reducible rfl))
  (try simp only [Act.put, List.setIfInBounds_toArray, List.set_cons_zero, List.set_cons_succ])
  refine wpAnyH_take (i := 26) (oi := { dst := some 67, op := Go.Op.move (Go.Operand.tmp 2), type := 24, pos := "more.go:14", after := #[{ on := 15, ground := Go.Ground.guard }], guard := some (15, true) }) (v := ?v01_26) rfl (by kernel_rfl) (by kernel_rfl) (by kernel_rfl) (fun _ _ _ h => h) (Or.inl ⟨by rfl, ?y01_26⟩) (by assumption) ?r01_26
  case y01_26 => (intro w hSw; (try dsimp only at hSw); go_simp; (try with_reducible rfl))
  (try simp only [Act.put, List.setIfInBounds_toArray, List.set_cons_zero, List.set_cons_succ])
  refine wpAnyH_ready (rs := [24]) (by kernel_rfl) (by simp) ?_
  refine AllReadyH.cons (o := { dst := some 65, op := Go.Op.call { callee := Go.Callee.value (Go.Operand.func 17), args := #[Go.Operand.tmp 57, Go.Operand.tmp 64], argTypes := #[23, 24] }, type := 3, pos := "more.go:14", after := #[{ on := 16, ground := Go.Ground.data }, { on := 23, ground := Go.Ground.data }, { on := 15, ground := Go.Ground.chain }, { on := 15, ground := Go.Ground.guard }], guard := some (15, true) }) rfl (fun K hK => ?_) AllReadyH.nil
  go_simp
  refine (Tells.of (HCQ.out (x + k * J) _ HXJ.out) (v' := .int .i64 (6 + x % J)) (congrArg (fun z => Value.int .i64 (6 + z)) HE2.out)).mono ?_
  rintro e w' ⟨rfl, hb⟩
  go_wp2_with fail
  refine hK.out _ _ (held_call HK.out (fun _ h => h.2.2.2.2) hb hHeld) (fun hHeld2 => ?_)
  clear hK K hHeld
  have hHeld := hHeld2
  clear hHeld2
  (try simp only [Act.put, List.setIfInBounds_toArray, List.set_cons_zero, List.set_cons_succ])
  refine wpAnyH_ready (rs := [27]) (by kernel_rfl) (by simp) ?_
  refine AllReadyH.cons (o := { dst := some 68, op := Go.Op.call { callee := Go.Callee.value (Go.Operand.func 17), args := #[Go.Operand.tmp 66, Go.Operand.tmp 67], argTypes := #[23, 24] }, type := 3, pos := "more.go:14", after := #[{ on := 25, ground := Go.Ground.data }, { on := 26, ground := Go.Ground.data }, { on := 24, ground := Go.Ground.chain }, { on := 15, ground := Go.Ground.guard }], guard := some (15, true) }) rfl (fun K hK => ?_) AllReadyH.nil
  go_simp
  refine (HCQ.out x _ HX.out).mono ?_
  rintro e w' ⟨rfl, hb⟩
  go_wp2_with fail
  refine hK.out _ _ (held_call HK.out (fun _ h => h.2.2.2.2) hb hHeld) (fun hHeld2 => ?_)
  clear hK K hHeld
  have hHeld := hHeld2
  clear hHeld2
  (try simp only [Act.put, List.setIfInBounds_toArray, List.set_cons_zero, List.set_cons_succ])
  refine wpAnyH_take (i := 28) (oi := { dst := some 69, op := Go.Op.binOp Go.BinOp.eql 3 (Go.Operand.tmp 65) (Go.Operand.tmp 68) 3, type := 4, pos := "more.go:14", after := #[{ on := 24, ground := Go.Ground.data }, { on := 27, ground := Go.Ground.data }, { on := 15, ground := Go.Ground.guard }], guard := some (15, true) }) (v := ?v01_28) rfl (by kernel_rfl) (by kernel_rfl) (by kernel_rfl) (fun _ _ _ h => h) (Or.inl ⟨by rfl, ?y01_28⟩) (by assumption) ?r01_28
  case y01_28 => (intro w hSw; (try dsimp only at hSw); go_simp; (try with_reducible rfl))
  (try simp only [Act.put, List.setIfInBounds_toArray, List.set_cons_zero, List.set_cons_succ])
  refine wpAnyH_take (i := 29) (oi := { dst := some 70, op := Go.Op.pick (Go.Operand.tmp 56) (Go.Operand.tmp 69) (Go.Operand.const (Go.Value.bool false)), type := 4, pos := "more.go:14", after := #[{ on := 15, ground := Go.Ground.data }, { on := 28, ground := Go.Ground.data }], guard := none }) (v := ?v01_29) rfl (by kernel_rfl) (by kernel_rfl) (by kernel_rfl) (fun _ _ _ h => h) (Or.inl ⟨by rfl, ?y01_29⟩) (by assumption) ?r01_29
  case y01_29 => (intro w hSw; (try dsimp only at hSw); go_simp; (try with_reducible rfl))
  (try simp only [Act.put, List.setIfInBounds_toArray, List.set_cons_zero, List.set_cons_succ])
  refine wpAnyH_take (i := 30) (oi := { dst := some 71, op := Go.Op.move (Go.Operand.tmp 70), type := 4, pos := "more.go:14", after := #[{ on := 29, ground := Go.Ground.data }, { on := 27, ground := Go.Ground.chain }], guard := none }) (v := ?v01_30) rfl (by kernel_rfl) (by kernel_rfl) (by kernel_rfl) (fun _ _ _ h => h) (Or.inl ⟨by rfl, ?y01_30⟩) (by assumption) ?r01_30
  case y01_30 => (intro w hSw; (try dsimp only at hSw); go_simp; (try with_reducible rfl))
  (try simp only [Act.put, List.setIfInBounds_toArray, List.set_cons_zero, List.set_cons_succ])
  refine wpAnyH_take (i := 31) (oi := { dst := some 72, op := Go.Op.load 23 (Go.Operand.tmp 4), type := 23, pos := "more.go:14", after := #[{ on := 30, ground := Go.Ground.guard }], guard := some (30, true) }) (v := ?v01_31) rfl (by kernel_rfl) (by kernel_rfl) (by kernel_rfl) (fun _ _ _ h => h) (Or.inl ⟨by rfl, ?y01_31⟩) (by assumption) ?r01_31
  case y01_31 => (intro w hSw; (try dsimp only at hSw); go_simp; (try with_reducible rfl))
  (try simp only [Act.put, List.setIfInBounds_toArray, List.set_cons_zero, List.set_cons_succ])
  refine wpAnyH_take (i := 32) (oi := { dst := some 73, op := Go.Op.move (Go.Operand.tmp 2), type := 24, pos := "more.go:14", after := #[{ on := 30, ground := Go.Ground.guard }], guard := some (30, true) }) (v := ?v01_32) rfl (by kernel_rfl) (by kernel_rfl) (by kernel_rfl) (fun _ _ _ h => h) (Or.inl ⟨by rfl, ?y01_32⟩) (by assumption) ?r01_32
  case y01_32 => (intro w hSw; (try dsimp only at hSw); go_simp; (try with_reducible rfl))
  (try simp only [Act.put, List.setIfInBounds_toArray, List.set_cons_zero, List.set_cons_succ])
  refine wpAnyH_take (i := 33) (oi := { dst := some 74, op := Go.Op.move (Go.Operand.tmp 3), type := 3, pos := "more.go:14", after := #[{ on := 30, ground := Go.Ground.guard }], guard := some (30, true) }) (v := ?v01_33) rfl (by kernel_rfl) (by kernel_rfl) (by kernel_rfl) (fun _ _ _ h => h) (Or.inl ⟨by rfl, ?y01_33⟩) (by assumption) ?r01_33
  case y01_33 => (intro w hSw; (try dsimp only at hSw); go_simp; (try with_reducible rfl))
  (try simp only [Act.put, List.setIfInBounds_toArray, List.set_cons_zero, List.set_cons_succ])
  refine wpAnyH_take (i := 34) (oi := { dst := some 75, op := Go.Op.fieldAddr 23 (Go.Operand.tmp 4) 2, type := 0, pos := "more.go:14", after := #[{ on := 30, ground := Go.Ground.guard }], guard := some (30, true) }) (v := ?v01_34) rfl (by kernel_rfl) (by kernel_rfl) (by kernel_rfl) (fun _ _ _ h => h) (Or.inl ⟨by rfl, ?y01_34⟩) (by assumption) ?r01_34
  case y01_34 => (intro w hSw; (try dsimp only at hSw); go_simp; (try with_reducible rfl))
  (try simp only [Act.put, List.setIfInBounds_toArray, List.set_cons_zero, List.set_cons_succ])
  refine wpAnyH_take (i := 35) (oi := { dst := some 76, op := Go.Op.load 3 (Go.Operand.tmp 75), type := 3, pos := "more.go:14", after := #[{ on := 34, ground := Go.Ground.data }, { on := 30, ground := Go.Ground.guard }], guard := some (30, true) }) (v := ?v01_35) rfl (by kernel_rfl) (by kernel_rfl) (by kernel_rfl) (fun _ _ _ h => h) (Or.inl ⟨by rfl, ?y01_35⟩) (by assumption) ?r01_35
  case y01_35 => (intro w hSw; (try dsimp only at hSw); go_simp; (try with_reducible rfl))
  (try simp only [Act.put, List.setIfInBounds_toArray, List.set_cons_zero, List.set_cons_succ])
  refine wpAnyH_take (i := 36) (oi := { dst := some 77, op := Go.Op.binOp Go.BinOp.mul 3 (Go.Operand.tmp 74) (Go.Operand.tmp 76) 3, type := 3, pos := "more.go:14", after := #[{ on := 33, ground := Go.Ground.data }, { on := 35, ground := Go.Ground.data }, { on := 30, ground := Go.Ground.guard }], guard := some (30, true) }) (v := ?v01_36) rfl (by kernel_rfl) (by kernel_rfl) (by kernel_rfl) (fun _ _ _ h => h) (Or.inl ⟨by rfl, ?y01_36⟩) (by assumption) ?r01_36
  case y01_36 => (intro w hSw; (try dsimp only at hSw); go_simp; (try with_reducible rfl))
  (try simp only [Act.put, List.setIfInBounds_toArray, List.set_cons_zero, List.set_cons_succ])
  refine wpAnyH_take (i := 37) (oi := { dst := some 78, op := Go.Op.convert 3 24 (Go.Operand.tmp 77), type := 24, pos := "more.go:14", after := #[{ on := 36, ground := Go.Ground.data }, { on := 30, ground := Go.Ground.guard }], guard := some (30, true) }) (v := ?v01_37) rfl (by kernel_rfl) (by kernel_rfl) (by kernel_rfl) (fun _ _ _ h => h) (Or.inl ⟨by rfl, ?y01_37⟩) (by assumption) ?r01_37
  case y01_37 => (intro w hSw; (try dsimp only at hSw); go_simp; (try with_reducible rfl))
  (try simp only [Act.put, List.setIfInBounds_toArray, List.set_cons_zero, List.set_cons_succ])
  refine wpAnyH_take (i := 38) (oi := { dst := some 79, op := Go.Op.binOp Go.BinOp.add 24 (Go.Operand.tmp 73) (Go.Operand.tmp 78) 24, type := 24, pos := "more.go:14", after := #[{ on := 32, ground := Go.Ground.data }, { on := 37, ground := Go.Ground.data }, { on := 30, ground := Go.Ground.guard }], guard := some (30, true) }) (v := ?v01_38) rfl (by kernel_rfl) (by kernel_rfl) (by kernel_rfl) (fun _ _ _ h => h) (Or.inl ⟨by rfl, ?y01_38⟩) (by assumption) ?r01_38
  case y01_38 => (intro w hSw; (try dsimp only at hSw); go_simp; (try with_reducible rfl))
  (try simp only [Act.put, List.setIfInBounds_toArray, List.set_cons_zero, List.set_cons_succ])
  refine wpAnyH_take (i := 40) (oi := { dst := some 81, op := Go.Op.load 23 (Go.Operand.tmp 4), type := 23, pos := "more.go:14", after := #[{ on := 30, ground := Go.Ground.guard }], guard := some (30, true) }) (v := ?v01_40) rfl (by kernel_rfl) (by kernel_rfl) (by kernel_rfl) (fun _ _ _ h => h) (Or.inl ⟨by rfl, ?y01_40⟩) (by assumption) ?r01_40
  case y01_40 => (intro w hSw; (try dsimp only at hSw); go_simp; (try with_reducible rfl))
  (try simp only [Act.put, List.setIfInBounds_toArray, List.set_cons_zero, List.set_cons_succ])
  refine wpAnyH_take (i := 41) (oi := { dst := some 82, op := Go.Op.move (Go.Operand.tmp 2), type := 24, pos := "more.go:14", after := #[{ on := 30, ground := Go.Ground.guard }], guard := some (30, true) }) (v := ?v01_41) rfl (by kernel_rfl) (by kernel_rfl) (by kernel_rfl) (fun _ _ _ h => h) (Or.inl ⟨by rfl, ?y01_41⟩) (by assumption) ?r01_41
  case y01_41 => (intro w hSw; (try dsimp only at hSw); go_simp; (try with_reducible rfl))
  (try simp only [Act.put, List.setIfInBounds_toArray, List.set_cons_zero, List.set_cons_succ])
  refine wpAnyH_ready (rs := [39]) (by kernel_rfl) (by simp) ?_
  refine AllReadyH.cons (o := { dst := some 80, op := Go.Op.call { callee := Go.Callee.value (Go.Operand.func 19), args := #[Go.Operand.tmp 72, Go.Operand.tmp 79], argTypes := #[23, 24] }, type := 3, pos := "more.go:14", after := #[{ on := 31, ground := Go.Ground.data }, { on := 38, ground := Go.Ground.data }, { on := 30, ground := Go.Ground.chain }, { on := 30, ground := Go.Ground.guard }], guard := some (30, true) }) rfl (fun K hK => ?_) AllReadyH.nil
  go_simp
  refine (Tells.of (HCV.out (x + k * J) _ HXJ.out) (v' := .int .i64 (6 + J + x % J)) (congrArg (fun z => Value.int .i64 (6 + J + z)) HE2.out)).mono ?_
  rintro e w' ⟨rfl, hb⟩
  go_wp2_with fail
  refine hK.out _ _ (held_call HK.out (fun _ h => h.2.2.2.2) hb hHeld) (fun hHeld2 => ?_)
  clear hK K hHeld
  have hHeld := hHeld2
  clear hHeld2
  (try simp only [Act.put, List.setIfInBounds_toArray, List.set_cons_zero, List.set_cons_succ])
  refine wpAnyH_ready (rs := [42]) (by kernel_rfl) (by simp) ?_
  refine AllReadyH.cons (o := { dst := some 83, op := Go.Op.call { callee := Go.Callee.value (Go.Operand.func 19), args := #[Go.Operand.tmp 81, Go.Operand.tmp 82], argTypes := #[23, 24] }, type := 3, pos := "more.go:14", after := #[{ on := 40, ground := Go.Ground.data }, { on := 41, ground := Go.Ground.data }, { on := 39, ground := Go.Ground.chain }, { on := 30, ground := Go.Ground.guard }], guard := some (30, true) }) rfl (fun K hK => ?_) AllReadyH.nil
  go_simp
  refine (HCV.out x _ HX.out).mono ?_
  rintro e w' ⟨rfl, hb⟩
  go_wp2_with fail
  refine hK.out _ _ (held_call HK.out (fun _ h => h.2.2.2.2) hb hHeld) (fun hHeld2 => ?_)
  clear hK K hHeld
  have hHeld := hHeld2
  clear hHeld2
  (try simp only [Act.put, List.setIfInBounds_toArray, List.set_cons_zero, List.set_cons_succ])
  refine wpAnyH_take (i := 43) (oi := { dst := some 84, op := Go.Op.binOp Go.BinOp.eql 3 (Go.Operand.tmp 80) (Go.Operand.tmp 83) 3, type := 4, pos := "more.go:14", after := #[{ on := 39, ground := Go.Ground.data }, { on := 42, ground := Go.Ground.data }, { on := 30, ground := Go.Ground.guard }], guard := some (30, true) }) (v := ?v01_43) rfl (by kernel_rfl) (by kernel_rfl) (by kernel_rfl) (fun _ _ _ h => h) (Or.inl ⟨by rfl, ?y01_43⟩) (by assumption) ?r01_43
  case y01_43 => (intro w hSw; (try dsimp only at hSw); go_simp; (try with_reducible rfl))
  (try simp only [Act.put, List.setIfInBounds_toArray, List.set_cons_zero, List.set_cons_succ])
  refine wpAnyH_take (i := 44) (oi := { dst := some 85, op := Go.Op.pick (Go.Operand.tmp 71) (Go.Operand.tmp 84) (Go.Operand.const (Go.Value.bool false)), type := 4, pos := "more.go:14", after := #[{ on := 30, ground := Go.Ground.data }, { on := 43, ground := Go.Ground.data }], guard := none }) (v := ?v01_44) rfl (by kernel_rfl) (by kernel_rfl) (by kernel_rfl) (fun _ _ _ h => h) (Or.inl ⟨by rfl, ?y01_44⟩) (by assumption) ?r01_44
  case y01_44 => (intro w hSw; (try dsimp only at hSw); go_simp; (try with_reducible rfl))
  (try simp only [Act.put, List.setIfInBounds_toArray, List.set_cons_zero, List.set_cons_succ])
  refine wpAnyH_take (i := 45) (oi := { dst := some 86, op := Go.Op.move (Go.Operand.tmp 85), type := 4, pos := "more.go:14", after := #[{ on := 44, ground := Go.Ground.data }, { on := 42, ground := Go.Ground.chain }], guard := none }) (v := ?v01_45) rfl (by kernel_rfl) (by kernel_rfl) (by kernel_rfl) (fun _ _ _ h => h) (Or.inl ⟨by rfl, ?y01_45⟩) (by assumption) ?r01_45
  case y01_45 => (intro w hSw; (try dsimp only at hSw); go_simp; (try with_reducible rfl))
  (try simp only [Act.put, List.setIfInBounds_toArray, List.set_cons_zero, List.set_cons_succ])
  refine wpAnyH_take (i := 46) (oi := { dst := some 87, op := Go.Op.fieldAddr 23 (Go.Operand.tmp 4) 1, type := 0, pos := "more.go:14", after := #[{ on := 45, ground := Go.Ground.guard }], guard := some (45, true) }) (v := ?v01_46) rfl (by kernel_rfl) (by kernel_rfl) (by kernel_rfl) (fun _ _ _ h => h) (Or.inl ⟨by rfl, ?y01_46⟩) (by assumption) ?r01_46
  case y01_46 => (intro w hSw; (try dsimp only at hSw); go_simp; (try with_reducible rfl))
  (try simp only [Act.put, List.setIfInBounds_toArray, List.set_cons_zero, List.set_cons_succ])
  refine wpAnyH_take (i := 47) (oi := { dst := some 88, op := Go.Op.load 3 (Go.Operand.tmp 87), type := 3, pos := "more.go:14", after := #[{ on := 46, ground := Go.Ground.data }, { on := 45, ground := Go.Ground.guard }], guard := some (45, true) }) (v := ?v01_47) rfl (by kernel_rfl) (by kernel_rfl) (by kernel_rfl) (fun _ _ _ h => h) (Or.inl ⟨by rfl, ?y01_47⟩) (by assumption) ?r01_47
  case y01_47 => (intro w hSw; (try dsimp only at hSw); go_simp; (try with_reducible rfl))
  (try simp only [Act.put, List.setIfInBounds_toArray, List.set_cons_zero, List.set_cons_succ])
  refine wpAnyH_take (i := 48) (oi := { dst := some 89, op := Go.Op.binOp Go.BinOp.eql 3 (Go.Operand.tmp 88) (Go.Operand.const (Go.Value.int Go.IntKind.i64 1)) 3, type := 4, pos := "more.go:14", after := #[{ on := 47, ground := Go.Ground.data }, { on := 45, ground := Go.Ground.guard }], guard := some (45, true) }) (v := ?v01_48) rfl (by kernel_rfl) (by kernel_rfl) (by kernel_rfl) (fun _ _ _ h => h) (Or.inl ⟨by rfl, ?y01_48⟩) (by assumption) ?r01_48
  case y01_48 => (intro w hSw; (try dsimp only at hSw); go_simp; (try with_reducible rfl))
  (try simp only [Act.put, List.setIfInBounds_toArray, List.set_cons_zero, List.set_cons_succ])
  refine wpAnyH_take (i := 49) (oi := { dst := some 90, op := Go.Op.move (Go.Operand.tmp 89), type := 4, pos := "more.go:14", after := #[{ on := 48, ground := Go.Ground.data }, { on := 45, ground := Go.Ground.chain }, { on := 45, ground := Go.Ground.guard }], guard := some (45, true) }) (v := ?v01_49) rfl (by kernel_rfl) (by kernel_rfl) (by kernel_rfl) (fun _ _ _ h => h) (Or.inl ⟨by rfl, ?y01_49⟩) (by assumption) ?r01_49
  case y01_49 => (intro w hSw; (try dsimp only at hSw); go_simp; (try with_reducible rfl))
  (try simp only [Act.put, List.setIfInBounds_toArray, List.set_cons_zero, List.set_cons_succ])
  refine wpAnyH_take (i := 50) (oi := { dst := some 91, op := Go.Op.load 23 (Go.Operand.tmp 4), type := 23, pos := "more.go:14", after := #[{ on := 49, ground := Go.Ground.guard }], guard := some (49, false) }) (v := ?v01_50) rfl (by kernel_rfl) (by kernel_rfl) (by kernel_rfl) (fun _ _ _ h => h) (Or.inl ⟨by rfl, ?y01_50⟩) (by assumption) ?r01_50
  case y01_50 => (intro w hSw; (try dsimp only at hSw); go_simp; (try with_reducible rfl))
  (try simp only [Act.put, List.setIfInBounds_toArray, List.set_cons_zero, List.set_cons_succ])
  refine wpAnyH_take (i := 51) (oi := { dst := some 92, op := Go.Op.move (Go.Operand.tmp 1), type := 3, pos := "more.go:14", after := #[{ on := 49, ground := Go.Ground.guard }], guard := some (49, false) }) (v := ?v01_51) rfl (by kernel_rfl) (by kernel_rfl) (by kernel_rfl) (fun _ _ _ h => h) (Or.inl ⟨by rfl, ?y01_51⟩) (by assumption) ?r01_51
  case y01_51 => (intro w hSw; (try dsimp only at hSw); go_simp; (try with_reducible rfl))
  (try simp only [Act.put, List.setIfInBounds_toArray, List.set_cons_zero, List.set_cons_succ])
  refine wpAnyH_take (i := 52) (oi := { dst := some 93, op := Go.Op.move (Go.Operand.tmp 2), type := 24, pos := "more.go:14", after := #[{ on := 49, ground := Go.Ground.guard }], guard := some (49, false) }) (v := ?v01_52) rfl (by kernel_rfl) (by kernel_rfl) (by kernel_rfl) (fun _ _ _ h => h) (Or.inl ⟨by rfl, ?y01_52⟩) (by assumption) ?r01_52
  case y01_52 => (intro w hSw; (try dsimp only at hSw); go_simp; (try with_reducible rfl))
  (try simp only [Act.put, List.setIfInBounds_toArray, List.set_cons_zero, List.set_cons_succ])
  refine wpAnyH_take (i := 53) (oi := { dst := some 94, op := Go.Op.binOp Go.BinOp.add 24 (Go.Operand.tmp 93) (Go.Operand.const (Go.Value.int Go.IntKind.u64 1)) 24, type := 24, pos := "more.go:14", after := #[{ on := 52, ground := Go.Ground.data }, { on := 49, ground := Go.Ground.guard }], guard := some (49, false) }) (v := ?v01_53) rfl (by kernel_rfl) (by kernel_rfl) (by kernel_rfl) (fun _ _ _ h => h) (Or.inl ⟨by rfl, ?y01_53⟩) (by assumption) ?r01_53
  case y01_53 => (intro w hSw; (try dsimp only at hSw); go_simp; (try with_reducible rfl))
  (try simp only [Act.put, List.setIfInBounds_toArray, List.set_cons_zero, List.set_cons_succ])
  refine wpAnyH_take (i := 55) (oi := { dst := some 96, op := Go.Op.load 23 (Go.Operand.tmp 4), type := 23, pos := "more.go:14", after := #[{ on := 49, ground := Go.Ground.guard }], guard := some (49, false) }) (v := ?v01_55) rfl (by kernel_rfl) (by kernel_rfl) (by kernel_rfl) (fun _ _ _ h => h) (Or.inl ⟨by rfl, ?y01_55⟩) (by assumption) ?r01_55
  case y01_55 => (intro w hSw; (try dsimp only at hSw); go_simp; (try with_reducible rfl))
  (try simp only [Act.put, List.setIfInBounds_toArray, List.set_cons_zero, List.set_cons_succ])
  refine wpAnyH_take (i := 56) (oi := { dst := some 97, op := Go.Op.move (Go.Operand.tmp 1), type := 3, pos := "more.go:14", after := #[{ on := 49, ground := Go.Ground.guard }], guard := some (49, false) }) (v := ?v01_56) rfl (by kernel_rfl) (by kernel_rfl) (by kernel_rfl) (fun _ _ _ h => h) (Or.inl ⟨by rfl, ?y01_56⟩) (by assumption) ?r01_56
  case y01_56 => (intro w hSw; (try dsimp only at hSw); go_simp; (try with_reducible rfl))
  (try simp only [Act.put, List.setIfInBounds_toArray, List.set_cons_zero, List.set_cons_succ])
  refine wpAnyH_take (i := 57) (oi := { dst := some 98, op := Go.Op.move (Go.Operand.tmp 2), type := 24, pos := "more.go:14", after := #[{ on := 49, ground := Go.Ground.guard }], guard := some (49, false) }) (v := ?v01_57) rfl (by kernel_rfl) (by kernel_rfl) (by kernel_rfl) (fun _ _ _ h => h) (Or.inl ⟨by rfl, ?y01_57⟩) (by assumption) ?r01_57
  case y01_57 => (intro w hSw; (try dsimp only at hSw); go_simp; (try with_reducible rfl))
  (try simp only [Act.put, List.setIfInBounds_toArray, List.set_cons_zero, List.set_cons_succ])
  refine wpAnyH_ready (rs := [54]) (by kernel_rfl) (by simp) ?_
  refine AllReadyH.cons (o := { dst := some 95, op := Go.Op.call { callee := Go.Callee.value (Go.Operand.func 27), args := #[Go.Operand.tmp 91, Go.Operand.tmp 92, Go.Operand.tmp 94], argTypes := #[23, 3, 24] }, type := 3, pos := "more.go:14", after := #[{ on := 50, ground := Go.Ground.data }, { on := 51, ground := Go.Ground.data }, { on := 53, ground := Go.Ground.data }, { on := 49, ground := Go.Ground.chain }, { on := 49, ground := Go.Ground.guard }], guard := some (49, false) }) rfl (fun K hK => ?_) AllReadyH.nil
  go_simp
  refine (HCS.out (x + 1) _ HX1.out).mono ?_
  rintro e w' ⟨rfl, hb⟩
  go_wp2_with fail
  refine hK.out _ _ (held_call HK.out (fun _ h => h.2.2.2.2) hb hHeld) (fun hHeld2 => ?_)
  clear hK K hHeld
  have hHeld := hHeld2
  clear hHeld2
  (try simp only [Act.put, List.setIfInBounds_toArray, List.set_cons_zero, List.set_cons_succ])
  refine wpAnyH_ready (rs := [58]) (by kernel_rfl) (by simp) ?_
  refine AllReadyH.cons (o := { dst := some 99, op := Go.Op.call { callee := Go.Callee.value (Go.Operand.func 27), args := #[Go.Operand.tmp 96, Go.Operand.tmp 97, Go.Operand.tmp 98], argTypes := #[23, 3, 24] }, type := 3, pos := "more.go:14", after := #[{ on := 55, ground := Go.Ground.data }, { on := 56, ground := Go.Ground.data }, { on := 57, ground := Go.Ground.data }, { on := 54, ground := Go.Ground.chain }, { on := 49, ground := Go.Ground.guard }], guard := some (49, false) }) rfl (fun K hK => ?_) AllReadyH.nil
  go_simp
  refine (HCS.out x _ HX.out).mono ?_
  rintro e w' ⟨rfl, hb⟩
  go_wp2_with fail
  refine hK.out _ _ (held_call HK.out (fun _ h => h.2.2.2.2) hb hHeld) (fun hHeld2 => ?_)
  clear hK K hHeld
  have hHeld := hHeld2
  clear hHeld2
  (try simp only [Act.put, List.setIfInBounds_toArray, List.set_cons_zero, List.set_cons_succ])
  refine wpAnyH_take (i := 59) (oi := { dst := some 100, op := Go.Op.binOp Go.BinOp.neq 3 (Go.Operand.tmp 95) (Go.Operand.tmp 99) 3, type := 4, pos := "more.go:14", after := #[{ on := 54, ground := Go.Ground.data }, { on := 58, ground := Go.Ground.data }, { on := 49, ground := Go.Ground.guard }], guard := some (49, false) }) (v := ?v01_59) rfl (by kernel_rfl) (by kernel_rfl) (by kernel_rfl) (fun _ _ _ h => h) (Or.inl ⟨by rfl, ?y01_59⟩) (by assumption) ?r01_59
  case y01_59 => (intro w hSw; (try dsimp only at hSw); go_simp; (try with_reducible rfl))
  (try simp only [Act.put, List.setIfInBounds_toArray, List.set_cons_zero, List.set_cons_succ])
  refine wpAnyH_take (i := 60) (oi := { dst := some 101, op := Go.Op.pick (Go.Operand.tmp 90) (Go.Operand.const (Go.Value.bool true)) (Go.Operand.tmp 100), type := 4, pos := "more.go:14", after := #[{ on := 49, ground := Go.Ground.data }, { on := 59, ground := Go.Ground.data }, { on := 45, ground := Go.Ground.guard }], guard := some (45, true) }) (v := ?v01_60) rfl (by kernel_rfl) (by kernel_rfl) (by kernel_rfl) (fun _ _ _ h => h) (Or.inl ⟨by rfl, ?y01_60⟩) (by assumption) ?r01_60
  case y01_60 => (intro w hSw; (try dsimp only at hSw); go_simp; (try with_reducible rfl))
  (try simp only [Act.put, List.setIfInBounds_toArray, List.set_cons_zero, List.set_cons_succ])
  refine wpAnyH_take (i := 61) (oi := { dst := some 102, op := Go.Op.pick (Go.Operand.tmp 86) (Go.Operand.tmp 101) (Go.Operand.const (Go.Value.bool false)), type := 4, pos := "more.go:14", after := #[{ on := 45, ground := Go.Ground.data }, { on := 60, ground := Go.Ground.data }], guard := none }) (v := ?v01_61) rfl (by kernel_rfl) (by kernel_rfl) (by kernel_rfl) (fun _ _ _ h => h) (Or.inl ⟨by rfl, ?y01_61⟩) (by assumption) ?r01_61
  case y01_61 => (intro w hSw; (try dsimp only at hSw); go_simp; (try with_reducible rfl))
  (try simp only [Act.put, List.setIfInBounds_toArray, List.set_cons_zero, List.set_cons_succ])
  refine wpAnyH_take (i := 62) (oi := { dst := some 103, op := Go.Op.move (Go.Operand.tmp 102), type := 4, pos := "more.go:14", after := #[{ on := 61, ground := Go.Ground.data }, { on := 58, ground := Go.Ground.chain }], guard := none }) (v := ?v01_62) rfl (by kernel_rfl) (by kernel_rfl) (by kernel_rfl) (fun _ _ _ h => h) (Or.inl ⟨by rfl, ?y01_62⟩) (by assumption) ?r01_62
  case y01_62 => (intro w hSw; (try dsimp only at hSw); go_simp; (try with_reducible rfl))
  (try simp only [Act.put, List.setIfInBounds_toArray, List.set_cons_zero, List.set_cons_succ])
  refine wpAnyH_take (i := 63) (oi := { dst := some 104, op := Go.Op.fieldAddr 23 (Go.Operand.tmp 4) 2, type := 0, pos := "more.go:14", after := #[{ on := 62, ground := Go.Ground.guard }], guard := some (62, true) }) (v := ?v01_63) rfl (by kernel_rfl) (by kernel_rfl) (by kernel_rfl) (fun _ _ _ h => h) (Or.inl ⟨by rfl, ?y01_63⟩) (by assumption) ?r01_63
  case y01_63 => (intro w hSw; (try dsimp only at hSw); go_simp; (try with_reducible rfl))
  (try simp only [Act.put, List.setIfInBounds_toArray, List.set_cons_zero, List.set_cons_succ])
  refine wpAnyH_take (i := 64) (oi := { dst := some 105, op := Go.Op.load 3 (Go.Operand.tmp 104), type := 3, pos := "more.go:14", after := #[{ on := 63, ground := Go.Ground.data }, { on := 62, ground := Go.Ground.guard }], guard := some (62, true) }) (v := ?v01_64) rfl (by kernel_rfl) (by kernel_rfl) (by kernel_rfl) (fun _ _ _ h => h) (Or.inl ⟨by rfl, ?y01_64⟩) (by assumption) ?r01_64
  case y01_64 => (intro w hSw; (try dsimp only at hSw); go_simp; (try with_reducible rfl))
  (try simp only [Act.put, List.setIfInBounds_toArray, List.set_cons_zero, List.set_cons_succ])
  refine wpAnyH_take (i := 65) (oi := { dst := some 106, op := Go.Op.binOp Go.BinOp.eql 3 (Go.Operand.tmp 105) (Go.Operand.const (Go.Value.int Go.IntKind.i64 1)) 3, type := 4, pos := "more.go:14", after := #[{ on := 64, ground := Go.Ground.data }, { on := 62, ground := Go.Ground.guard }], guard := some (62, true) }) (v := ?v01_65) rfl (by kernel_rfl) (by kernel_rfl) (by kernel_rfl) (fun _ _ _ h => h) (Or.inl ⟨by rfl, ?y01_65⟩) (by assumption) ?r01_65
  case y01_65 => (intro w hSw; (try dsimp only at hSw); go_simp; (try with_reducible rfl))
  (try simp only [Act.put, List.setIfInBounds_toArray, List.set_cons_zero, List.set_cons_succ])
  refine wpAnyH_take (i := 66) (oi := { dst := some 107, op := Go.Op.move (Go.Operand.tmp 106), type := 4, pos := "more.go:14", after := #[{ on := 65, ground := Go.Ground.data }, { on := 62, ground := Go.Ground.chain }, { on := 62, ground := Go.Ground.guard }], guard := some (62, true) }) (v := ?v01_66) rfl (by kernel_rfl) (by kernel_rfl) (by kernel_rfl) (fun _ _ _ h => h) (Or.inl ⟨by rfl, ?y01_66⟩) (by assumption) ?r01_66
  case y01_66 => (intro w hSw; (try dsimp only at hSw); go_simp; (try with_reducible rfl))
  (try simp only [Act.put, List.setIfInBounds_toArray, List.set_cons_zero, List.set_cons_succ])
  refine wpAnyH_take (i := 67) (oi := { dst := some 108, op := Go.Op.load 23 (Go.Operand.tmp 4), type := 23, pos := "more.go:14", after := #[{ on := 66, ground := Go.Ground.guard }], guard := some (66, false) }) (v := undef) rfl (by kernel_rfl) (by kernel_rfl) (by kernel_rfl) (fun _ _ _ h => h) (Or.inr ⟨by rfl, rfl⟩) (by assumption) ?_
  (try simp only [Act.put, List.setIfInBounds_toArray, List.set_cons_zero, List.set_cons_succ])
  refine wpAnyH_take (i := 68) (oi := { dst := some 109, op := Go.Op.move (Go.Operand.tmp 2), type := 24, pos := "more.go:14", after := #[{ on := 66, ground := Go.Ground.guard }], guard := some (66, false) }) (v := undef) rfl (by kernel_rfl) (by kernel_rfl) (by kernel_rfl) (fun _ _ _ h => h) (Or.inr ⟨by rfl, rfl⟩) (by assumption) ?_
  (try simp only [Act.put, List.setIfInBounds_toArray, List.set_cons_zero, List.set_cons_succ])
  refine wpAnyH_take (i := 69) (oi := { dst := some 110, op := Go.Op.binOp Go.BinOp.add 24 (Go.Operand.tmp 109) (Go.Operand.const (Go.Value.int Go.IntKind.u64 1)) 24, type := 24, pos := "more.go:14", after := #[{ on := 68, ground := Go.Ground.data }, { on := 66, ground := Go.Ground.guard }], guard := some (66, false) }) (v := undef) rfl (by kernel_rfl) (by kernel_rfl) (by kernel_rfl) (fun _ _ _ h => h) (Or.inr ⟨by rfl, rfl⟩) (by assumption) ?_
  (try simp only [Act.put, List.setIfInBounds_toArray, List.set_cons_zero, List.set_cons_succ])
  refine wpAnyH_take (i := 70) (oi := { dst := some 111, op := Go.Op.call { callee := Go.Callee.value (Go.Operand.func 17), args := #[Go.Operand.tmp 108, Go.Operand.tmp 110], argTypes := #[23, 24] }, type := 3, pos := "more.go:14", after := #[{ on := 67, ground := Go.Ground.data }, { on := 69, ground := Go.Ground.data }, { on := 66, ground := Go.Ground.chain }, { on := 66, ground := Go.Ground.guard }], guard := some (66, false) }) (v := undef) rfl (by kernel_rfl) (by kernel_rfl) (by kernel_rfl) (fun _ _ _ h => h) (Or.inr ⟨by rfl, rfl⟩) (by assumption) ?_
  (try simp only [Act.put, List.setIfInBounds_toArray, List.set_cons_zero, List.set_cons_succ])
  refine wpAnyH_take (i := 71) (oi := { dst := some 112, op := Go.Op.load 23 (Go.Operand.tmp 4), type := 23, pos := "more.go:14", after := #[{ on := 66, ground := Go.Ground.guard }], guard := some (66, false) }) (v := undef) rfl (by kernel_rfl) (by kernel_rfl) (by kernel_rfl) (fun _ _ _ h => h) (Or.inr ⟨by rfl, rfl⟩) (by assumption) ?_
  (try simp only [Act.put, List.setIfInBounds_toArray, List.set_cons_zero, List.set_cons_succ])
  refine wpAnyH_take (i := 72) (oi := { dst := some 113, op := Go.Op.move (Go.Operand.tmp 2), type := 24, pos := "more.go:14", after := #[{ on := 66, ground := Go.Ground.guard }], guard := some (66, false) }) (v := undef) rfl (by kernel_rfl) (by kernel_rfl) (by kernel_rfl) (fun _ _ _ h => h) (Or.inr ⟨by rfl, rfl⟩) (by assumption) ?_
  (try simp only [Act.put, List.setIfInBounds_toArray, List.set_cons_zero, List.set_cons_succ])
  refine wpAnyH_take (i := 73) (oi := { dst := some 114, op := Go.Op.call { callee := Go.Callee.value (Go.Operand.func 17), args := #[Go.Operand.tmp 112, Go.Operand.tmp 113], argTypes := #[23, 24] }, type := 3, pos := "more.go:14", after := #[{ on := 71, ground := Go.Ground.data }, { on := 72, ground := Go.Ground.data }, { on := 70, ground := Go.Ground.chain }, { on := 66, ground := Go.Ground.guard }], guard := some (66, false) }) (v := undef) rfl (by kernel_rfl) (by kernel_rfl) (by kernel_rfl) (fun _ _ _ h => h) (Or.inr ⟨by rfl, rfl⟩) (by assumption) ?_
  (try simp only [Act.put, List.setIfInBounds_toArray, List.set_cons_zero, List.set_cons_succ])
  refine wpAnyH_take (i := 74) (oi := { dst := some 115, op := Go.Op.binOp Go.BinOp.neq 3 (Go.Operand.tmp 111) (Go.Operand.tmp 114) 3, type := 4, pos := "more.go:14", after := #[{ on := 70, ground := Go.Ground.data }, { on := 73, ground := Go.Ground.data }, { on := 66, ground := Go.Ground.guard }], guard := some (66, false) }) (v := undef) rfl (by kernel_rfl) (by kernel_rfl) (by kernel_rfl) (fun _ _ _ h => h) (Or.inr ⟨by rfl, rfl⟩) (by assumption) ?_
  (try simp only [Act.put, List.setIfInBounds_toArray, List.set_cons_zero, List.set_cons_succ])
  refine wpAnyH_take (i := 75) (oi := { dst := some 116, op := Go.Op.pick (Go.Operand.tmp 107) (Go.Operand.const (Go.Value.bool true)) (Go.Operand.tmp 115), type := 4, pos := "more.go:14", after := #[{ on := 66, ground := Go.Ground.data }, { on := 74, ground := Go.Ground.data }, { on := 62, ground := Go.Ground.guard }], guard := some (62, true) }) (v := ?v01_75) rfl (by kernel_rfl) (by kernel_rfl) (by kernel_rfl) (fun _ _ _ h => h) (Or.inl ⟨by rfl, ?y01_75⟩) (by assumption) ?r01_75
  case y01_75 => (intro w hSw; (try dsimp only at hSw); go_simp; (try with_reducible rfl))
  (try simp only [Act.put, List.setIfInBounds_toArray, List.set_cons_zero, List.set_cons_succ])
  refine wpAnyH_take (i := 76) (oi := { dst := some 117, op := Go.Op.pick (Go.Operand.tmp 103) (Go.Operand.tmp 116) (Go.Operand.const (Go.Value.bool false)), type := 4, pos := "more.go:14", after := #[{ on := 62, ground := Go.Ground.data }, { on := 75, ground := Go.Ground.data }], guard := none }) (v := ?v01_76) rfl (by kernel_rfl) (by kernel_rfl) (by kernel_rfl) (fun _ _ _ h => h) (Or.inl ⟨by rfl, ?y01_76⟩) (by assumption) ?r01_76
  case y01_76 => (intro w hSw; (try dsimp only at hSw); go_simp; (try with_reducible rfl))
  (try simp only [Act.put, List.setIfInBounds_toArray, List.set_cons_zero, List.set_cons_succ])
  refine wpAnyH_take (i := 77) (oi := { dst := some 8, op := Go.Op.assign (Go.Operand.tmp 117), type := 4, pos := "more.go:14", after := #[{ on := 76, ground := Go.Ground.data }, { on := 73, ground := Go.Ground.chain }, { on := 0, ground := Go.Ground.phase }, { on := 1, ground := Go.Ground.phase }, { on := 2, ground := Go.Ground.phase }, { on := 3, ground := Go.Ground.phase }, { on := 4, ground := Go.Ground.phase }, { on := 5, ground := Go.Ground.phase }, { on := 6, ground := Go.Ground.phase }, { on := 7, ground := Go.Ground.phase }, { on := 8, ground := Go.Ground.phase }, { on := 9, ground := Go.Ground.phase }, { on := 10, ground := Go.Ground.phase }, { on := 11, ground := Go.Ground.phase }, { on := 12, ground := Go.Ground.phase }, { on := 13, ground := Go.Ground.phase }, { on := 14, ground := Go.Ground.phase }, { on := 15, ground := Go.Ground.phase }, { on := 16, ground := Go.Ground.phase }, { on := 17, ground := Go.Ground.phase }, { on := 18, ground := Go.Ground.phase }, { on := 19, ground := Go.Ground.phase }, { on := 20, ground := Go.Ground.phase }, { on := 21, ground := Go.Ground.phase }, { on := 22, ground := Go.Ground.phase }, { on := 23, ground := Go.Ground.phase }, { on := 24, ground := Go.Ground.phase }, { on := 25, ground := Go.Ground.phase }, { on := 26, ground := Go.Ground.phase }, { on := 27, ground := Go.Ground.phase }, { on := 28, ground := Go.Ground.phase }, { on := 29, ground := Go.Ground.phase }, { on := 30, ground := Go.Ground.phase }, { on := 31, ground := Go.Ground.phase }, { on := 32, ground := Go.Ground.phase }, { on := 33, ground := Go.Ground.phase }, { on := 34, ground := Go.Ground.phase }, { on := 35, ground := Go.Ground.phase }, { on := 36, ground := Go.Ground.phase }, { on := 37, ground := Go.Ground.phase }, { on := 38, ground := Go.Ground.phase }, { on := 39, ground := Go.Ground.phase }, { on := 40, ground := Go.Ground.phase }, { on := 41, ground := Go.Ground.phase }, { on := 42, ground := Go.Ground.phase }, { on := 43, ground := Go.Ground.phase }, { on := 44, ground := Go.Ground.phase }, { on := 45, ground := Go.Ground.phase }, { on := 46, ground := Go.Ground.phase }, { on := 47, ground := Go.Ground.phase }, { on := 48, ground := Go.Ground.phase }, { on := 49, ground := Go.Ground.phase }, { on := 50, ground := Go.Ground.phase }, { on := 51, ground := Go.Ground.phase }, { on := 52, ground := Go.Ground.phase }, { on := 53, ground := Go.Ground.phase }, { on := 54, ground := Go.Ground.phase }, { on := 55, ground := Go.Ground.phase }, { on := 56, ground := Go.Ground.phase }, { on := 57, ground := Go.Ground.phase }, { on := 58, ground := Go.Ground.phase }, { on := 59, ground := Go.Ground.phase }, { on := 60, ground := Go.Ground.phase }, { on := 61, ground := Go.Ground.phase }, { on := 62, ground := Go.Ground.phase }, { on := 63, ground := Go.Ground.phase }, { on := 64, ground := Go.Ground.phase }, { on := 65, ground := Go.Ground.phase }, { on := 66, ground := Go.Ground.phase }, { on := 67, ground := Go.Ground.phase }, { on := 68, ground := Go.Ground.phase }, { on := 69, ground := Go.Ground.phase }, { on := 70, ground := Go.Ground.phase }, { on := 71, ground := Go.Ground.phase }, { on := 72, ground := Go.Ground.phase }, { on := 73, ground := Go.Ground.phase }, { on := 74, ground := Go.Ground.phase }, { on := 75, ground := Go.Ground.phase }, { on := 76, ground := Go.Ground.phase }], guard := none }) (v := ?v01_77) rfl (by kernel_rfl) (by kernel_rfl) (by kernel_rfl) (fun _ _ _ h => h) (Or.inl ⟨by rfl, ?y01_77⟩) (by assumption) ?r01_77
  case y01_77 => (intro w hSw; (try dsimp only at hSw); go_simp; (try with_reducible rfl))
  (try simp only [Act.put, List.setIfInBounds_toArray, List.set_cons_zero, List.set_cons_succ])
  refine wpAnyH_done (by kernel_rfl) ?_ _
  have HEND := Lib.hid (BW.out.trans ((hHeld.2.2.2.2).mono BW.out.size))
  clear hHeld
  go_wp2
  go_ret
  exact ⟨rfl, HEND.out⟩
set_option maxHeartbeats 2000000 in
theorem layRing_c00 (W D J S y x k : Int) (w : World) (hx : U x) (hm : may W D J S = true) (hy : 0 ≤ y ∧ y < W) (hk : 0 ≤ k ∧ k ≤ 1000) (hx2 : x ≤ 4611686018427387904) (hd : ¬ D = 1) (hj : ¬ J = 1) : Tells 6 #[cf W D J S, .int .i64 y, .int .u64 x, .int .i64 k] w (.bool true) := by
  have HM := Lib.hid hm
  obtain ⟨⟨w1', w2'⟩, ⟨d1, d2⟩, ⟨j1, j2⟩, ⟨s1, s2⟩⟩ := may_lim hm
  clear hm
  have hy0 : ¬ y < 0 := by omega
  have hy1 : ¬ W ≤ y := by omega
  have hk0 : ¬ k < 0 := by omega
  have hk1 : ¬ 1000 < k := by omega
  have hx1 : ¬ 4611686018427387904 < x := by omega
  have kd0 : 0 ≤ k * D := Int.mul_nonneg (by omega) (by omega)
  have kd1 : k * D ≤ 1000 * 16 := Int.mul_le_mul (by omega) (by omega) (by omega) (by omega)
  have kj0 : 0 ≤ k * J := Int.mul_nonneg (by omega) (by omega)
  have kj1 : k * J ≤ 1000 * 16 := Int.mul_le_mul (by omega) (by omega) (by omega) (by omega)
  have wy : wi y 0 (W - 1) = true := wi_true.2 ⟨by omega, by omega⟩
  have CS : ∀ z w, U z → Tells 27 #[cf W D J S, .int .i64 y, .int .u64 z] w (.int .i64 (bg D J y + 3 + z % D)) := fun z w hz => Tells.of (slot_any _ _ _ _ _ _ w hz) (by unfold sl; rw [HM.out, wy]; rfl)
  have CQ : ∀ z w, U z → Tells 17 #[cf W D J S, .int .u64 z] w (.int .i64 (6 + z % J)) := fun z w hz => Tells.of (seq_any _ _ _ _ _ w hz) (by unfold sq; rw [HM.out]; rfl)
  have CV : ∀ z w, U z → Tells 19 #[cf W D J S, .int .u64 z] w (.int .i64 (6 + J + z % J)) := fun z w hz => Tells.of (val_any _ _ _ _ _ w hz) (by unfold vl; rw [HM.out]; rfl)
  have HCS := Lib.hid CS
  have HCQ := Lib.hid CQ
  have HCV := Lib.hid CV
  have ux : 0 ≤ x := hx.1
  have HX := Lib.hid hx
  have HXD := Lib.hid (show U (x + k * D) by unfold U; omega)
  have HXJ := Lib.hid (show U (x + k * J) by unfold U; omega)
  have HX1 := Lib.hid (show U (x + 1) by unfold U; omega)
  have HE1 := Lib.hid (mod_more x k (n := D))
  have HE2 := Lib.hid (mod_more x k (n := J))
  clear CS CQ CV hx wy
  have HDB := Lib.hid (show (D == 1) = false by simp [hd])
  have HJB := Lib.hid (show (J == 1) = false by simp [hj])
  have HMD := Lib.hid (show (bg D J y + 3 + (x + 1) % D != bg D J y + 3 + x % D) = true by have := mod_next x (n := D) (by omega); simp; omega)
  have HN := Lib.hid (show (6 + (x + 1) % J != 6 + x % J) = true by have := mod_next x (n := J) (by omega); simp; omega)
  clear hd hj
  go_enter Try.func6, Try.ntmps6
  go_wp2_with fail
  have Bc := Lib.hid (Bx.mk w W D J S 23)
  obtain ⟨g_c, c0_c, c1_c, c2_c, c3_c⟩ := Bc.out
  refine (awake_any _).mono ?_
  rintro _ w1 ⟨rfl, z1⟩
  have HZ := Lib.hid ((box_below w _).trans (z1.mono (by simp)))
  clear g_c c0_c c1_c c2_c c3_c
  replace Bc := Lib.hid (Bc.out.below z1)
  obtain ⟨g_c, c0_c, c1_c, c2_c, c3_c⟩ := Bc.out
  clear z1
  go_wp2_with fail
  refine (Tells.of (may_any W D J S _) (v' := .bool true) (by rw [HM.out])).mono ?_
  rintro _ w2 ⟨rfl, z2⟩
  replace HZ := Lib.hid (HZ.out.trans (z2.mono HZ.out.size))
  clear g_c c0_c c1_c c2_c c3_c
  replace Bc := Lib.hid (Bc.out.below z2)
  obtain ⟨g_c, c0_c, c1_c, c2_c, c3_c⟩ := Bc.out
  clear z2
  go_wp2_with fail
  have q1 : IntKind.i64.wrap (k * D) = k * D := IntWalk.i64_in _ ⟨by omega, by omega⟩
  have q2 : IntKind.u64.wrap (k * D) = k * D := IntWalk.u64_in _ ⟨by omega, by omega⟩
  have q3 : IntKind.u64.wrap (x + k * D) = x + k * D := IntWalk.u64_in _ ⟨by omega, by omega⟩
  have q4 : IntKind.i64.wrap (k * J) = k * J := IntWalk.i64_in _ ⟨by omega, by omega⟩
  have q5 : IntKind.u64.wrap (k * J) = k * J := IntWalk.u64_in _ ⟨by omega, by omega⟩
  have q6 : IntKind.u64.wrap (x + k * J) = x + k * J := IntWalk.u64_in _ ⟨by omega, by omega⟩
  have q7 : IntKind.u64.wrap (x + 1) = x + 1 := IntWalk.u64_in _ ⟨by omega, by omega⟩
  have hdb := HDB.out
  have hjb := HJB.out
  have hmd := HMD.out
  have hnj := HN.out
  have BW := Lib.hid (HZ.out)
  have K : ∀ w', Below w2.heap.size w2 w' → w'.cell? ⟨w.heap.size, 0, none⟩ = some (.int .i64 W) ∧ w'.cell? ⟨w.heap.size, 1, none⟩ = some (.int .i64 D) ∧ w'.cell? ⟨w.heap.size, 2, none⟩ = some (.int .i64 J) ∧ w'.cell? ⟨w.heap.size, 3, none⟩ = some (.int .i64 S) ∧ Below w2.heap.size w2 w' := by
    intro w' hb
    obtain ⟨f00, f01, f02, f03⟩ := (Bx.below Bc.out hb).cells
    exact ⟨f00, f01, f02, f03, hb⟩
  have HK := Lib.hid K
  clear K
  simp only [List.append_eq, List.cons_append, List.nil_append]
  refine wp_region_held_drew (S := fun w' => w'.cell? ⟨w.heap.size, 0, none⟩ = some (.int .i64 W) ∧ w'.cell? ⟨w.heap.size, 1, none⟩ = some (.int .i64 D) ∧ w'.cell? ⟨w.heap.size, 2, none⟩ = some (.int .i64 J) ∧ w'.cell? ⟨w.heap.size, 3, none⟩ = some (.int .i64 S) ∧ Below w2.heap.size w2 w') (by kernel_rfl) (HK.out _ (keep_drew (Below.refl _ _))) (fun hHeld => ?_)
  refine wpAnyH_take (i := 0) (oi := { dst := some 41, op := Go.Op.load 23 (Go.Operand.tmp 4), type := 23, pos := "more.go:14", after := #[], guard := none }) (v := ?v00_0) rfl (by kernel_rfl) (by kernel_rfl) (by kernel_rfl) (fun _ _ _ h => h) (Or.inl ⟨by rfl, ?y00_0⟩) (by assumption) ?r00_0
  case y00_0 => (intro w hSw; (try dsimp only at hSw); go_simp; (try with_reducible rfl))
  (try simp only [Act.put, List.setIfInBounds_toArray, List.set_cons_zero, List.set_cons_succ])
  refine wpAnyH_take (i := 1) (oi := { dst := some 42, op := Go.Op.move (Go.Operand.tmp 1), type := 3, pos := "more.go:14", after := #[], guard := none }) (v := ?v00_1) rfl (by kernel_rfl) (by kernel_rfl) (by kernel_rfl) (fun _ _ _ h => h) (Or.inl ⟨by rfl, ?y00_1⟩) (by assumption) ?r00_1
  case y00_1 => (intro w hSw; (try dsimp only at hSw); go_simp; (try with_reducible rfl))
  (try simp only [Act.put, List.setIfInBounds_toArray, List.set_cons_zero, List.set_cons_succ])
  refine wpAnyH_take (i := 2) (oi := { dst := some 43, op := Go.Op.move (Go.Operand.tmp 2), type := 24, pos := "more.go:14", after := #[], guard := none }) (v := ?v00_2) rfl (by kernel_rfl) (by kernel_rfl) (by kernel_rfl) (fun _ _ _ h => h) (Or.inl ⟨by rfl, ?y00_2⟩) (by assumption) ?r00_2
  case y00_2 => (intro w hSw; (try dsimp only at hSw); go_simp; (try with_reducible rfl))
  (try simp only [Act.put, List.setIfInBounds_toArray, List.set_cons_zero, List.set_cons_succ])
  refine wpAnyH_take (i := 3) (oi := { dst := some 44, op := Go.Op.move (Go.Operand.tmp 3), type := 3, pos := "more.go:14", after := #[], guard := none }) (v := ?v00_3) rfl (by kernel_rfl) (by kernel_rfl) (by kernel_rfl) (fun _ _ _ h => h) (Or.inl ⟨by rfl, ?y00_3⟩) (by assumption) ?r00_3
  case y00_3 => (intro w hSw; (try dsimp only at hSw); go_simp; (try with_reducible rfl))
  (try simp only [Act.put, List.setIfInBounds_toArray, List.set_cons_zero, List.set_cons_succ])
  refine wpAnyH_take (i := 4) (oi := { dst := some 45, op := Go.Op.fieldAddr 23 (Go.Operand.tmp 4) 1, type := 0, pos := "more.go:14", after := #[], guard := none }) (v := ?v00_4) rfl (by kernel_rfl) (by kernel_rfl) (by kernel_rfl) (fun _ _ _ h => h) (Or.inl ⟨by rfl, ?y00_4⟩) (by assumption) ?r00_4
  case y00_4 => (intro w hSw; (try dsimp only at hSw); go_simp; (try with_reducible rfl))
  (try simp only [Act.put, List.setIfInBounds_toArray, List.set_cons_zero, List.set_cons_succ])
  refine wpAnyH_take (i := 5) (oi := { dst := some 46, op := Go.Op.load 3 (Go.Operand.tmp 45), type := 3, pos := "more.go:14", after := #[{ on := 4, ground := Go.Ground.data }], guard := none }) (v := ?v00_5) rfl (by kernel_rfl) (by kernel_rfl) (by kernel_rfl) (fun _ _ _ h => h) (Or.inl ⟨by rfl, ?y00_5⟩) (by assumption) ?r00_5
  case y00_5 => (intro w hSw; (try dsimp only at hSw); go_simp; (try with_reducible rfl))
  (try simp only [Act.put, List.setIfInBounds_toArray, List.set_cons_zero, List.set_cons_succ])
  refine wpAnyH_take (i := 6) (oi := { dst := some 47, op := Go.Op.binOp Go.BinOp.mul 3 (Go.Operand.tmp 44) (Go.Operand.tmp 46) 3, type := 3, pos := "more.go:14", after := #[{ on := 3, ground := Go.Ground.data }, { on := 5, ground := Go.Ground.data }], guard := none }) (v := ?v00_6) rfl (by kernel_rfl) (by kernel_rfl) (by kernel_rfl) (fun _ _ _ h => h) (Or.inl ⟨by rfl, ?y00_6⟩) (by assumption) ?r00_6
  case y00_6 => (intro w hSw; (try dsimp only at hSw); go_simp; (try with_reducible rfl))
  (try simp only [Act.put, List.setIfInBounds_toArray, List.set_cons_zero, List.set_cons_succ])
  refine wpAnyH_take (i := 7) (oi := { dst := some 48, op := Go.Op.convert 3 24 (Go.Operand.tmp 47), type := 24, pos := "more.go:14", after := #[{ on := 6, ground := Go.Ground.data }], guard := none }) (v := ?v00_7) rfl (by kernel_rfl) (by kernel_rfl) (by kernel_rfl) (fun _ _ _ h => h) (Or.inl ⟨by rfl, ?y00_7⟩) (by assumption) ?r00_7
  case y00_7 => (intro w hSw; (try dsimp only at hSw); go_simp; (try with_reducible rfl))
  (try simp only [Act.put, List.setIfInBounds_toArray, List.set_cons_zero, List.set_cons_succ])
  refine wpAnyH_take (i := 8) (oi := { dst := some 49, op := Go.Op.binOp Go.BinOp.add 24 (Go.Operand.tmp 43) (Go.Operand.tmp 48) 24, type := 24, pos := "more.go:14", after := #[{ on := 2, ground := Go.Ground.data }, { on := 7, ground := Go.Ground.data }], guard := none }) (v := ?v00_8) rfl (by kernel_rfl) (by kernel_rfl) (by kernel_rfl) (fun _ _ _ h => h) (Or.inl ⟨by rfl, ?y00_8⟩) (by assumption) ?r00_8
  case y00_8 => (intro w hSw; (try dsimp only at hSw); go_simp; (try with_reducible rfl))
  (try simp only [Act.put, List.setIfInBounds_toArray, List.set_cons_zero, List.set_cons_succ])
  refine wpAnyH_take (i := 10) (oi := { dst := some 51, op := Go.Op.load 23 (Go.Operand.tmp 4), type := 23, pos := "more.go:14", after := #[], guard := none }) (v := ?v00_10) rfl (by kernel_rfl) (by kernel_rfl) (by kernel_rfl) (fun _ _ _ h => h) (Or.inl ⟨by rfl, ?y00_10⟩) (by assumption) ?r00_10
  case y00_10 => (intro w hSw; (try dsimp only at hSw); go_simp; (try with_reducible rfl))
  (try simp only [Act.put, List.setIfInBounds_toArray, List.set_cons_zero, List.set_cons_succ])
  refine wpAnyH_take (i := 11) (oi := { dst := some 52, op := Go.Op.move (Go.Operand.tmp 1), type := 3, pos := "more.go:14", after := #[], guard := none }) (v := ?v00_11) rfl (by kernel_rfl) (by kernel_rfl) (by kernel_rfl) (fun _ _ _ h => h) (Or.inl ⟨by rfl, ?y00_11⟩) (by assumption) ?r00_11
  case y00_11 => (intro w hSw; (try dsimp only at hSw); go_simp; (try with_reducible rfl))
  (try simp only [Act.put, List.setIfInBounds_toArray, List.set_cons_zero, List.set_cons_succ])
  refine wpAnyH_take (i := 12) (oi := { dst := some 53, op := Go.Op.move (Go.Operand.tmp 2), type := 24, pos := "more.go:14", after := #[], guard := none }) (v := ?v00_12) rfl (by kernel_rfl) (by kernel_rfl) (by kernel_rfl) (fun _ _ _ h => h) (Or.inl ⟨by rfl, ?y00_12⟩) (by assumption) ?r00_12
  case y00_12 => (intro w hSw; (try dsimp only at hSw); go_simp; (try with_reducible rfl))
  (try simp only [Act.put, List.setIfInBounds_toArray, List.set_cons_zero, List.set_cons_succ])
  refine wpAnyH_ready (rs := [9]) (by kernel_rfl) (by simp) ?_
  refine AllReadyH.cons (o := { dst := some 50, op := Go.Op.call { callee := Go.Callee.value (Go.Operand.func 27), args := #[Go.Operand.tmp 41, Go.Operand.tmp 42, Go.Operand.tmp 49], argTypes := #[23, 3, 24] }, type := 3, pos := "more.go:14", after := #[{ on := 0, ground := Go.Ground.data }, { on := 1, ground := Go.Ground.data }, { on := 8, ground := Go.Ground.data }], guard := none }) rfl (fun K hK => ?_) AllReadyH.nil
  go_simp
  refine (Tells.of (HCS.out (x + k * D) _ HXD.out) (v' := .int .i64 (bg D J y + 3 + x % D)) (congrArg (fun z => Value.int .i64 (bg D J y + 3 + z)) HE1.out)).mono ?_
  rintro e w' ⟨rfl, hb⟩
  go_wp2_with fail
  refine hK.out _ _ (held_call HK.out (fun _ h => h.2.2.2.2) hb hHeld) (fun hHeld2 => ?_)
  clear hK K hHeld
  have hHeld := hHeld2
  clear hHeld2
  (try simp only [Act.put, List.setIfInBounds_toArray, List.set_cons_zero, List.set_cons_succ])
  refine wpAnyH_ready (rs := [13]) (by kernel_rfl) (by simp) ?_
  refine AllReadyH.cons (o := { dst := some 54, op := Go.Op.call { callee := Go.Callee.value (Go.Operand.func 27), args := #[Go.Operand.tmp 51, Go.Operand.tmp 52, Go.Operand.tmp 53], argTypes := #[23, 3, 24] }, type := 3, pos := "more.go:14", after := #[{ on := 10, ground := Go.Ground.data }, { on := 11, ground := Go.Ground.data }, { on := 12, ground := Go.Ground.data }, { on := 9, ground := Go.Ground.chain }], guard := none }) rfl (fun K hK => ?_) AllReadyH.nil
  go_simp
  refine (HCS.out x _ HX.out).mono ?_
  rintro e w' ⟨rfl, hb⟩
  go_wp2_with fail
  refine hK.out _ _ (held_call HK.out (fun _ h => h.2.2.2.2) hb hHeld) (fun hHeld2 => ?_)
  clear hK K hHeld
  have hHeld := hHeld2
  clear hHeld2
  (try simp only [Act.put, List.setIfInBounds_toArray, List.set_cons_zero, List.set_cons_succ])
  refine wpAnyH_take (i := 14) (oi := { dst := some 55, op := Go.Op.binOp Go.BinOp.eql 3 (Go.Operand.tmp 50) (Go.Operand.tmp 54) 3, type := 4, pos := "more.go:14", after := #[{ on := 9, ground := Go.Ground.data }, { on := 13, ground := Go.Ground.data }], guard := none }) (v := ?v00_14) rfl (by kernel_rfl) (by kernel_rfl) (by kernel_rfl) (fun _ _ _ h => h) (Or.inl ⟨by rfl, ?y00_14⟩) (by assumption) ?r00_14
  case y00_14 => (intro w hSw; (try dsimp only at hSw); go_simp; (try with_reducible rfl))
  (try simp only [Act.put, List.setIfInBounds_toArray, List.set_cons_zero, List.set_cons_succ])
  refine wpAnyH_take (i := 15) (oi := { dst := some 56, op := Go.Op.move (Go.Operand.tmp 55), type := 4, pos := "more.go:14", after := #[{ on := 14, ground := Go.Ground.data }, { on := 13, ground := Go.Ground.chain }], guard := none }) (v := ?v00_15) rfl (by kernel_rfl) (by kernel_rfl) (by kernel_rfl) (fun _ _ _ h => h) (Or.inl ⟨by rfl, ?y00_15⟩) (by assumption) ?r00_15
  case y00_15 => (intro w hSw; (try dsimp only at hSw); go_simp; (try with_reducible rfl))
  (try simp only [Act.put, List.setIfInBounds_toArray, List.set_cons_zero, List.set_cons_succ])
  refine wpAnyH_take (i := 16) (oi := { dst := some 57, op := Go.Op.load 23 (Go.Operand.tmp 4), type := 23, pos := "more.go:14", after := #[{ on := 15, ground := Go.Ground.guard }], guard := some (15, true) }) (v := ?v00_16) rfl (by kernel_rfl) (by kernel_rfl) (by kernel_rfl) (fun _ _ _ h => h) (Or.inl ⟨by rfl, ?y00_16⟩) (by assumption) ?r00_16
  case y00_16 => (intro w hSw; (try dsimp only at hSw); go_simp; (try with_reducible rfl))
  (try simp only [Act.put, List.setIfInBounds_toArray, List.set_cons_zero, List.set_cons_succ])
  refine wpAnyH_take (i := 17) (oi := { dst := some 58, op := Go.Op.move (Go.Operand.tmp 2), type := 24, pos := "more.go:14", after := #[{ on := 15, ground := Go.Ground.guard }], guard := some (15, true) }) (v := ?v00_17) rfl (by kernel_rfl) (by kernel_rfl) (by kernel_rfl) (fun _ _ _ h => h) (Or.inl ⟨by rfl, ?y00_17⟩) (by assumption) ?r00_17
  case y00_17 => (intro w hSw; (try dsimp only at hSw); go_simp; (try with_reducible rfl))
  (try simp only [Act.put, List.setIfInBounds_toArray, List.set_cons_zero, List.set_cons_succ])
  refine wpAnyH_take (i := 18) (oi := { dst := some 59, op := Go.Op.move (Go.Operand.tmp 3), type := 3, pos := "more.go:14", after := #[{ on := 15, ground := Go.Ground.guard }], guard := some (15, true) }) (v := ?v00_18) rfl (by kernel_rfl) (by kernel_rfl) (by kernel_rfl) (fun _ _ _ h => h) (Or.inl ⟨by rfl, ?y00_18⟩) (by assumption) ?r00_18
  case y00_18 => (intro w hSw; (try dsimp only at hSw); go_simp; (try with_reducible rfl))
  (try simp only [Act.put, List.setIfInBounds_toArray, List.set_cons_zero, List.set_cons_succ])
  refine wpAnyH_take (i := 19) (oi := { dst := some 60, op := Go.Op.fieldAddr 23 (Go.Operand.tmp 4) 2, type := 0, pos := "more.go:14", after := #[{ on := 15, ground := Go.Ground.guard }], guard := some (15, true) }) (v := ?v00_19) rfl (by kernel_rfl) (by kernel_rfl) (by kernel_rfl) (fun _ _ _ h => h) (Or.inl ⟨by rfl, ?y00_19⟩) (by assumption) ?r00_19
  case y00_19 => (intro w hSw; (try dsimp only at hSw); go_simp; (try with_reducible rfl))
  (try simp only [Act.put, List.setIfInBounds_toArray, List.set_cons_zero, List.set_cons_succ])
  refine wpAnyH_take (i := 20) (oi := { dst := some 61, op := Go.Op.load 3 (Go.Operand.tmp 60), type := 3, pos := "more.go:14", after := #[{ on := 19, ground := Go.Ground.data }, { on := 15, ground := Go.Ground.guard }], guard := some (15, true) }) (v := ?v00_20) rfl (by kernel_rfl) (by kernel_rfl) (by kernel_rfl) (fun _ _ _ h => h) (Or.inl ⟨by rfl, ?y00_20⟩) (by assumption) ?r00_20
  case y00_20 => (intro w hSw; (try dsimp only at hSw); go_simp; (try with_reducible rfl))
  (try simp only [Act.put, List.setIfInBounds_toArray, List.set_cons_zero, List.set_cons_succ])
  refine wpAnyH_take (i := 21) (oi := { dst := some 62, op := Go.Op.binOp Go.BinOp.mul 3 (Go.Operand.tmp 59) (Go.Operand.tmp 61) 3, type := 3, pos := "more.go:14", after := #[{ on := 18, ground := Go.Ground.data }, { on := 20, ground := Go.Ground.data }, { on := 15, ground := Go.Ground.guard }], guard := some (15, true) }) (v := ?v00_21) rfl (by kernel_rfl) (by kernel_rfl) (by kernel_rfl) (fun _ _ _ h => h) (Or.inl ⟨by rfl, ?y00_21⟩) (by assumption) ?r00_21
  case y00_21 => (intro w hSw; (try dsimp only at hSw); go_simp; (try with_reducible rfl))
  (try simp only [Act.put, List.setIfInBounds_toArray, List.set_cons_zero, List.set_cons_succ])
  refine wpAnyH_take (i := 22) (oi := { dst := some 63, op := Go.Op.convert 3 24 (Go.Operand.tmp 62), type := 24, pos := "more.go:14", after := #[{ on := 21, ground := Go.Ground.data }, { on := 15, ground := Go.Ground.guard }], guard := some (15, true) }) (v := ?v00_22) rfl (by kernel_rfl) (by kernel_rfl) (by kernel_rfl) (fun _ _ _ h => h) (Or.inl ⟨by rfl, ?y00_22⟩) (by assumption) ?r00_22
  case y00_22 => (intro w hSw; (try dsimp only at hSw); go_simp; (try with_reducible rfl))
  (try simp only [Act.put, List.setIfInBounds_toArray, List.set_cons_zero, List.set_cons_succ])
  refine wpAnyH_take (i := 23) (oi := { dst := some 64, op := Go.Op.binOp Go.BinOp.add 24 (Go.Operand.tmp 58) (Go.Operand.tmp 63) 24, type := 24, pos := "more.go:14", after := #[{ on := 17, ground := Go.Ground.data }, { on := 22, ground := Go.Ground.data }, { on := 15, ground := Go.Ground.guard }], guard := some (15, true) }) (v := ?v00_23) rfl (by kernel_rfl) (by kernel_rfl) (by kernel_rfl) (fun _ _ _ h => h) (Or.inl ⟨by rfl, ?y00_23⟩) (by assumption) ?r00_23
  case y00_23 => (intro w hSw; (try dsimp only at hSw); go_simp; (try with_reducible rfl))
  (try simp only [Act.put, List.setIfInBounds_toArray, List.set_cons_zero, List.set_cons_succ])
  refine wpAnyH_take (i := 25) (oi := { dst := some 66, op := Go.Op.load 23 (Go.Operand.tmp 4), type := 23, pos := "more.go:14", after := #[{ on := 15, ground := Go.Ground.guard }], guard := some (15, true) }) (v := ?v00_25) rfl (by kernel_rfl) (by kernel_rfl) (by kernel_rfl) (fun _ _ _ h => h) (Or.inl ⟨by rfl, ?y00_25⟩) (by assumption) ?r00_25
  case y00_25 => (intro w hSw; (try dsimp only at hSw); go_simp; (try with_reducible rfl))
  (try simp only [Act.put, List.setIfInBounds_toArray, List.set_cons_zero, List.set_cons_succ])
  refine wpAnyH_take (i := 26) (oi := { dst := some 67, op := Go.Op.move (Go.Operand.tmp 2), type := 24, pos := "more.go:14", after := #[{ on := 15, ground := Go.Ground.guard }], guard := some (15, true) }) (v := ?v00_26) rfl (by kernel_rfl) (by kernel_rfl) (by kernel_rfl) (fun _ _ _ h => h) (Or.inl ⟨by rfl, ?y00_26⟩) (by assumption) ?r00_26
  case y00_26 => (intro w hSw; (try dsimp only at hSw); go_simp; (try with_reducible rfl))
  (try simp only [Act.put, List.setIfInBounds_toArray, List.set_cons_zero, List.set_cons_succ])
  refine wpAnyH_ready (rs := [24]) (by kernel_rfl) (by simp) ?_
  refine AllReadyH.cons (o := { dst := some 65, op := Go.Op.call { callee := Go.Callee.value (Go.Operand.func 17), args := #[Go.Operand.tmp 57, Go.Operand.tmp 64], argTypes := #[23, 24] }, type := 3, pos := "more.go:14", after := #[{ on := 16, ground := Go.Ground.data }, { on := 23, ground := Go.Ground.data }, { on := 15, ground := Go.Ground.chain }, { on := 15, ground := Go.Ground.guard }], guard := some (15, true) }) rfl (fun K hK => ?_) AllReadyH.nil
  go_simp
  refine (Tells.of (HCQ.out (x + k * J) _ HXJ.out) (v' := .int .i64 (6 + x % J)) (congrArg (fun z => Value.int .i64 (6 + z)) HE2.out)).mono ?_
  rintro e w' ⟨rfl, hb⟩
  go_wp2_with fail
  refine hK.out _ _ (held_call HK.out (fun _ h => h.2.2.2.2) hb hHeld) (fun hHeld2 => ?_)
  clear hK K hHeld
  have hHeld := hHeld2
  clear hHeld2
  (try simp only [Act.put, List.setIfInBounds_toArray, List.set_cons_zero, List.set_cons_succ])
  refine wpAnyH_ready (rs := [27]) (by kernel_rfl) (by simp) ?_
  refine AllReadyH.cons (o := { dst := some 68, op := Go.Op.call { callee := Go.Callee.value (Go.Operand.func 17), args := #[Go.Operand.tmp 66, Go.Operand.tmp 67], argTypes := #[23, 24] }, type := 3, pos := "more.go:14", after := #[{ on := 25, ground := Go.Ground.data }, { on := 26, ground := Go.Ground.data }, { on := 24, ground := Go.Ground.chain }, { on := 15, ground := Go.Ground.guard }], guard := some (15, true) }) rfl (fun K hK => ?_) AllReadyH.nil
  go_simp
  refine (HCQ.out x _ HX.out).mono ?_
  rintro e w' ⟨rfl, hb⟩
  go_wp2_with fail
  refine hK.out _ _ (held_call HK.out (fun _ h => h.2.2.2.2) hb hHeld) (fun hHeld2 => ?_)
  clear hK K hHeld
  have hHeld := hHeld2
  clear hHeld2
  (try simp only [Act.put, List.setIfInBounds_toArray, List.set_cons_zero, List.set_cons_succ])
  refine wpAnyH_take (i := 28) (oi := { dst := some 69, op := Go.Op.binOp Go.BinOp.eql 3 (Go.Operand.tmp 65) (Go.Operand.tmp 68) 3, type := 4, pos := "more.go:14", after := #[{ on := 24, ground := Go.Ground.data }, { on := 27, ground := Go.Ground.data }, { on := 15, ground := Go.Ground.guard }], guard := some (15, true) }) (v := ?v00_28) rfl (by kernel_rfl) (by kernel_rfl) (by kernel_rfl) (fun _ _ _ h => h) (Or.inl ⟨by rfl, ?y00_28⟩) (by assumption) ?r00_28
  case y00_28 => (intro w hSw; (try dsimp only at hSw); go_simp; (try with_reducible rfl))
  (try simp only [Act.put, List.setIfInBounds_toArray, List.set_cons_zero, List.set_cons_succ])
  refine wpAnyH_take (i := 29) (oi := { dst := some 70, op := Go.Op.pick (Go.Operand.tmp 56) (Go.Operand.tmp 69) (Go.Operand.const (Go.Value.bool false)), type := 4, pos := "more.go:14", after := #[{ on := 15, ground := Go.Ground.data }, { on := 28, ground := Go.Ground.data }], guard := none }) (v := ?v00_29) rfl (by kernel_rfl) (by kernel_rfl) (by kernel_rfl) (fun _ _ _ h => h) (Or.inl ⟨by rfl, ?y00_29⟩) (by assumption) ?r00_29
  case y00_29 => (intro w hSw; (try dsimp only at hSw); go_simp; (try with_reducible rfl))
  (try simp only [Act.put, List.setIfInBounds_toArray, List.set_cons_zero, List.set_cons_succ])
  refine wpAnyH_take (i := 30) (oi := { dst := some 71, op := Go.Op.move (Go.Operand.tmp 70), type := 4, pos := "more.go:14", after := #[{ on := 29, ground := Go.Ground.data }, { on := 27, ground := Go.Ground.chain }], guard := none }) (v := ?v00_30) rfl (by kernel_rfl) (by kernel_rfl) (by kernel_rfl) (fun _ _ _ h => h) (Or.inl ⟨by rfl, ?y00_30⟩) (by assumption) ?r00_30
  case y00_30 => (intro w hSw; (try dsimp only at hSw); go_simp; (try with_reducible rfl))
  (try simp only [Act.put, List.setIfInBounds_toArray, List.set_cons_zero, List.set_cons_succ])
  refine wpAnyH_take (i := 31) (oi := { dst := some 72, op := Go.Op.load 23 (Go.Operand.tmp 4), type := 23, pos := "more.go:14", after := #[{ on := 30, ground := Go.Ground.guard }], guard := some (30, true) }) (v := ?v00_31) rfl (by kernel_rfl) (by kernel_rfl) (by kernel_rfl) (fun _ _ _ h => h) (Or.inl ⟨by rfl, ?y00_31⟩) (by assumption) ?r00_31
  case y00_31 => (intro w hSw; (try dsimp only at hSw); go_simp; (try with_reducible rfl))
  (try simp only [Act.put, List.setIfInBounds_toArray, List.set_cons_zero, List.set_cons_succ])
  refine wpAnyH_take (i := 32) (oi := { dst := some 73, op := Go.Op.move (Go.Operand.tmp 2), type := 24, pos := "more.go:14", after := #[{ on := 30, ground := Go.Ground.guard }], guard := some (30, true) }) (v := ?v00_32) rfl (by kernel_rfl) (by kernel_rfl) (by kernel_rfl) (fun _ _ _ h => h) (Or.inl ⟨by rfl, ?y00_32⟩) (by assumption) ?r00_32
  case y00_32 => (intro w hSw; (try dsimp only at hSw); go_simp; (try with_reducible rfl))
  (try simp only [Act.put, List.setIfInBounds_toArray, List.set_cons_zero, List.set_cons_succ])
  refine wpAnyH_take (i := 33) (oi := { dst := some 74, op := Go.Op.move (Go.Operand.tmp 3), type := 3, pos := "more.go:14", after := #[{ on := 30, ground := Go.Ground.guard }], guard := some (30, true) }) (v := ?v00_33) rfl (by kernel_rfl) (by kernel_rfl) (by kernel_rfl) (fun _ _ _ h => h) (Or.inl ⟨by rfl, ?y00_33⟩) (by assumption) ?r00_33
  case y00_33 => (intro w hSw; (try dsimp only at hSw); go_simp; (try with_reducible rfl))
  (try simp only [Act.put, List.setIfInBounds_toArray, List.set_cons_zero, List.set_cons_succ])
  refine wpAnyH_take (i := 34) (oi := { dst := some 75, op := Go.Op.fieldAddr 23 (Go.Operand.tmp 4) 2, type := 0, pos := "more.go:14", after := #[{ on := 30, ground := Go.Ground.guard }], guard := some (30, true) }) (v := ?v00_34) rfl (by kernel_rfl) (by kernel_rfl) (by kernel_rfl) (fun _ _ _ h => h) (Or.inl ⟨by rfl, ?y00_34⟩) (by assumption) ?r00_34
  case y00_34 => (intro w hSw; (try dsimp only at hSw); go_simp; (try with_reducible rfl))
  (try simp only [Act.put, List.setIfInBounds_toArray, List.set_cons_zero, List.set_cons_succ])
  refine wpAnyH_take (i := 35) (oi := { dst := some 76, op := Go.Op.load 3 (Go.Operand.tmp 75), type := 3, pos := "more.go:14", after := #[{ on := 34, ground := Go.Ground.data }, { on := 30, ground := Go.Ground.guard }], guard := some (30, true) }) (v := ?v00_35) rfl (by kernel_rfl) (by kernel_rfl) (by kernel_rfl) (fun _ _ _ h => h) (Or.inl ⟨by rfl, ?y00_35⟩) (by assumption) ?r00_35
  case y00_35 => (intro w hSw; (try dsimp only at hSw); go_simp; (try with_reducible rfl))
  (try simp only [Act.put, List.setIfInBounds_toArray, List.set_cons_zero, List.set_cons_succ])
  refine wpAnyH_take (i := 36) (oi := { dst := some 77, op := Go.Op.binOp Go.BinOp.mul 3 (Go.Operand.tmp 74) (Go.Operand.tmp 76) 3, type := 3, pos := "more.go:14", after := #[{ on := 33, ground := Go.Ground.data }, { on := 35, ground := Go.Ground.data }, { on := 30, ground := Go.Ground.guard }], guard := some (30, true) }) (v := ?v00_36) rfl (by kernel_rfl) (by kernel_rfl) (by kernel_rfl) (fun _ _ _ h => h) (Or.inl ⟨by rfl, ?y00_36⟩) (by assumption) ?r00_36
  case y00_36 => (intro w hSw; (try dsimp only at hSw); go_simp; (try with_reducible rfl))
  (try simp only [Act.put, List.setIfInBounds_toArray, List.set_cons_zero, List.set_cons_succ])
  refine wpAnyH_take (i := 37) (oi := { dst := some 78, op := Go.Op.convert 3 24 (Go.Operand.tmp 77), type := 24, pos := "more.go:14", after := #[{ on := 36, ground := Go.Ground.data }, { on := 30, ground := Go.Ground.guard }], guard := some (30, true) }) (v := ?v00_37) rfl (by kernel_rfl) (by kernel_rfl) (by kernel_rfl) (fun _ _ _ h => h) (Or.inl ⟨by rfl, ?y00_37⟩) (by assumption) ?r00_37
  case y00_37 => (intro w hSw; (try dsimp only at hSw); go_simp; (try with_reducible rfl))
  (try simp only [Act.put, List.setIfInBounds_toArray, List.set_cons_zero, List.set_cons_succ])
  refine wpAnyH_take (i := 38) (oi := { dst := some 79, op := Go.Op.binOp Go.BinOp.add 24 (Go.Operand.tmp 73) (Go.Operand.tmp 78) 24, type := 24, pos := "more.go:14", after := #[{ on := 32, ground := Go.Ground.data }, { on := 37, ground := Go.Ground.data }, { on := 30, ground := Go.Ground.guard }], guard := some (30, true) }) (v := ?v00_38) rfl (by kernel_rfl) (by kernel_rfl) (by kernel_rfl) (fun _ _ _ h => h) (Or.inl ⟨by rfl, ?y00_38⟩) (by assumption) ?r00_38
  case y00_38 => (intro w hSw; (try dsimp only at hSw); go_simp; (try with_reducible rfl))
  (try simp only [Act.put, List.setIfInBounds_toArray, List.set_cons_zero, List.set_cons_succ])
  refine wpAnyH_take (i := 40) (oi := { dst := some 81, op := Go.Op.load 23 (Go.Operand.tmp 4), type := 23, pos := "more.go:14", after := #[{ on := 30, ground := Go.Ground.guard }], guard := some (30, true) }) (v := ?v00_40) rfl (by kernel_rfl) (by kernel_rfl) (by kernel_rfl) (fun _ _ _ h => h) (Or.inl ⟨by rfl, ?y00_40⟩) (by assumption) ?r00_40
  case y00_40 => (intro w hSw; (try dsimp only at hSw); go_simp; (try with_reducible rfl))
  (try simp only [Act.put, List.setIfInBounds_toArray, List.set_cons_zero, List.set_cons_succ])
  refine wpAnyH_take (i := 41) (oi := { dst := some 82, op := Go.Op.move (Go.Operand.tmp 2), type := 24, pos := "more.go:14", after := #[{ on := 30, ground := Go.Ground.guard }], guard := some (30, true) }) (v := ?v00_41) rfl (by kernel_rfl) (by kernel_rfl) (by kernel_rfl) (fun _ _ _ h => h) (Or.inl ⟨by rfl, ?y00_41⟩) (by assumption) ?r00_41
  case y00_41 => (intro w hSw; (try dsimp only at hSw); go_simp; (try with_reducible rfl))
  (try simp only [Act.put, List.setIfInBounds_toArray, List.set_cons_zero, List.set_cons_succ])
  refine wpAnyH_ready (rs := [39]) (by kernel_rfl) (by simp) ?_
  refine AllReadyH.cons (o := { dst := some 80, op := Go.Op.call { callee := Go.Callee.value (Go.Operand.func 19), args := #[Go.Operand.tmp 72, Go.Operand.tmp 79], argTypes := #[23, 24] }, type := 3, pos := "more.go:14", after := #[{ on := 31, ground := Go.Ground.data }, { on := 38, ground := Go.Ground.data }, { on := 30, ground := Go.Ground.chain }, { on := 30, ground := Go.Ground.guard }], guard := some (30, true) }) rfl (fun K hK => ?_) AllReadyH.nil
  go_simp
  refine (Tells.of (HCV.out (x + k * J) _ HXJ.out) (v' := .int .i64 (6 + J + x % J)) (congrArg (fun z => Value.int .i64 (6 + J + z)) HE2.out)).mono ?_
  rintro e w' ⟨rfl, hb⟩
  go_wp2_with fail
  refine hK.out _ _ (held_call HK.out (fun _ h => h.2.2.2.2) hb hHeld) (fun hHeld2 => ?_)
  clear hK K hHeld
  have hHeld := hHeld2
  clear hHeld2
  (try simp only [Act.put, List.setIfInBounds_toArray, List.set_cons_zero, List.set_cons_succ])
  refine wpAnyH_ready (rs := [42]) (by kernel_rfl) (by simp) ?_
  refine AllReadyH.cons (o := { dst := some 83, op := Go.Op.call { callee := Go.Callee.value (Go.Operand.func 19), args := #[Go.Operand.tmp 81, Go.Operand.tmp 82], argTypes := #[23, 24] }, type := 3, pos := "more.go:14", after := #[{ on := 40, ground := Go.Ground.data }, { on := 41, ground := Go.Ground.data }, { on := 39, ground := Go.Ground.chain }, { on := 30, ground := Go.Ground.guard }], guard := some (30, true) }) rfl (fun K hK => ?_) AllReadyH.nil
  go_simp
  refine (HCV.out x _ HX.out).mono ?_
  rintro e w' ⟨rfl, hb⟩
  go_wp2_with fail
  refine hK.out _ _ (held_call HK.out (fun _ h => h.2.2.2.2) hb hHeld) (fun hHeld2 => ?_)
  clear hK K hHeld
  have hHeld := hHeld2
  clear hHeld2
  (try simp only [Act.put, List.setIfInBounds_toArray, List.set_cons_zero, List.set_cons_succ])
  refine wpAnyH_take (i := 43) (oi := { dst := some 84, op := Go.Op.binOp Go.BinOp.eql 3 (Go.Operand.tmp 80) (Go.Operand.tmp 83) 3, type := 4, pos := "more.go:14", after := #[{ on := 39, ground := Go.Ground.data }, { on := 42, ground := Go.Ground.data }, { on := 30, ground := Go.Ground.guard }], guard := some (30, true) }) (v := ?v00_43) rfl (by kernel_rfl) (by kernel_rfl) (by kernel_rfl) (fun _ _ _ h => h) (Or.inl ⟨by rfl, ?y00_43⟩) (by assumption) ?r00_43
  case y00_43 => (intro w hSw; (try dsimp only at hSw); go_simp; (try with_reducible rfl))
  (try simp only [Act.put, List.setIfInBounds_toArray, List.set_cons_zero, List.set_cons_succ])
  refine wpAnyH_take (i := 44) (oi := { dst := some 85, op := Go.Op.pick (Go.Operand.tmp 71) (Go.Operand.tmp 84) (Go.Operand.const (Go.Value.bool false)), type := 4, pos := "more.go:14", after := #[{ on := 30, ground := Go.Ground.data }, { on := 43, ground := Go.Ground.data }], guard := none }) (v := ?v00_44) rfl (by kernel_rfl) (by kernel_rfl) (by kernel_rfl) (fun _ _ _ h => h) (Or.inl ⟨by rfl, ?y00_44⟩) (by assumption) ?r00_44
  case y00_44 => (intro w hSw; (try dsimp only at hSw); go_simp; (try with_reducible rfl))
  (try simp only [Act.put, List.setIfInBounds_toArray, List.set_cons_zero, List.set_cons_succ])
  refine wpAnyH_take (i := 45) (oi := { dst := some 86, op := Go.Op.move (Go.Operand.tmp 85), type := 4, pos := "more.go:14", after := #[{ on := 44, ground := Go.Ground.data }, { on := 42, ground := Go.Ground.chain }], guard := none }) (v := ?v00_45) rfl (by kernel_rfl) (by kernel_rfl) (by kernel_rfl) (fun _ _ _ h => h) (Or.inl ⟨by rfl, ?y00_45⟩) (by assumption) ?r00_45
  case y00_45 => (intro w hSw; (try dsimp only at hSw); go_simp; (try with_reducible rfl))
  (try simp only [Act.put, List.setIfInBounds_toArray, List.set_cons_zero, List.set_cons_succ])
  refine wpAnyH_take (i := 46) (oi := { dst := some 87, op := Go.Op.fieldAddr 23 (Go.Operand.tmp 4) 1, type := 0, pos := "more.go:14", after := #[{ on := 45, ground := Go.Ground.guard }], guard := some (45, true) }) (v := ?v00_46) rfl (by kernel_rfl) (by kernel_rfl) (by kernel_rfl) (fun _ _ _ h => h) (Or.inl ⟨by rfl, ?y00_46⟩) (by assumption) ?r00_46
  case y00_46 => (intro w hSw; (try dsimp only at hSw); go_simp; (try with_reducible rfl))
  (try simp only [Act.put, List.setIfInBounds_toArray, List.set_cons_zero, List.set_cons_succ])
  refine wpAnyH_take (i := 47) (oi := { dst := some 88, op := Go.Op.load 3 (Go.Operand.tmp 87), type := 3, pos := "more.go:14", after := #[{ on := 46, ground := Go.Ground.data }, { on := 45, ground := Go.Ground.guard }], guard := some (45, true) }) (v := ?v00_47) rfl (by kernel_rfl) (by kernel_rfl) (by kernel_rfl) (fun _ _ _ h => h) (Or.inl ⟨by rfl, ?y00_47⟩) (by assumption) ?r00_47
  case y00_47 => (intro w hSw; (try dsimp only at hSw); go_simp; (try with_reducible rfl))
  (try simp only [Act.put, List.setIfInBounds_toArray, List.set_cons_zero, List.set_cons_succ])
  refine wpAnyH_take (i := 48) (oi := { dst := some 89, op := Go.Op.binOp Go.BinOp.eql 3 (Go.Operand.tmp 88) (Go.Operand.const (Go.Value.int Go.IntKind.i64 1)) 3, type := 4, pos := "more.go:14", after := #[{ on := 47, ground := Go.Ground.data }, { on := 45, ground := Go.Ground.guard }], guard := some (45, true) }) (v := ?v00_48) rfl (by kernel_rfl) (by kernel_rfl) (by kernel_rfl) (fun _ _ _ h => h) (Or.inl ⟨by rfl, ?y00_48⟩) (by assumption) ?r00_48
  case y00_48 => (intro w hSw; (try dsimp only at hSw); go_simp; (try with_reducible rfl))
  (try simp only [Act.put, List.setIfInBounds_toArray, List.set_cons_zero, List.set_cons_succ])
  refine wpAnyH_take (i := 49) (oi := { dst := some 90, op := Go.Op.move (Go.Operand.tmp 89), type := 4, pos := "more.go:14", after := #[{ on := 48, ground := Go.Ground.data }, { on := 45, ground := Go.Ground.chain }, { on := 45, ground := Go.Ground.guard }], guard := some (45, true) }) (v := ?v00_49) rfl (by kernel_rfl) (by kernel_rfl) (by kernel_rfl) (fun _ _ _ h => h) (Or.inl ⟨by rfl, ?y00_49⟩) (by assumption) ?r00_49
  case y00_49 => (intro w hSw; (try dsimp only at hSw); go_simp; (try with_reducible rfl))
  (try simp only [Act.put, List.setIfInBounds_toArray, List.set_cons_zero, List.set_cons_succ])
  refine wpAnyH_take (i := 50) (oi := { dst := some 91, op := Go.Op.load 23 (Go.Operand.tmp 4), type := 23, pos := "more.go:14", after := #[{ on := 49, ground := Go.Ground.guard }], guard := some (49, false) }) (v := ?v00_50) rfl (by kernel_rfl) (by kernel_rfl) (by kernel_rfl) (fun _ _ _ h => h) (Or.inl ⟨by rfl, ?y00_50⟩) (by assumption) ?r00_50
  case y00_50 => (intro w hSw; (try dsimp only at hSw); go_simp; (try with_reducible rfl))
  (try simp only [Act.put, List.setIfInBounds_toArray, List.set_cons_zero, List.set_cons_succ])
  refine wpAnyH_take (i := 51) (oi := { dst := some 92, op := Go.Op.move (Go.Operand.tmp 1), type := 3, pos := "more.go:14", after := #[{ on := 49, ground := Go.Ground.guard }], guard := some (49, false) }) (v := ?v00_51) rfl (by kernel_rfl) (by kernel_rfl) (by kernel_rfl) (fun _ _ _ h => h) (Or.inl ⟨by rfl, ?y00_51⟩) (by assumption) ?r00_51
  case y00_51 => (intro w hSw; (try dsimp only at hSw); go_simp; (try with_reducible rfl))
  (try simp only [Act.put, List.setIfInBounds_toArray, List.set_cons_zero, List.set_cons_succ])
  refine wpAnyH_take (i := 52) (oi := { dst := some 93, op := Go.Op.move (Go.Operand.tmp 2), type := 24, pos := "more.go:14", after := #[{ on := 49, ground := Go.Ground.guard }], guard := some (49, false) }) (v := ?v00_52) rfl (by kernel_rfl) (by kernel_rfl) (by kernel_rfl) (fun _ _ _ h => h) (Or.inl ⟨by rfl, ?y00_52⟩) (by assumption) ?r00_52
  case y00_52 => (intro w hSw; (try dsimp only at hSw); go_simp; (try with_reducible rfl))
  (try simp only [Act.put, List.setIfInBounds_toArray, List.set_cons_zero, List.set_cons_succ])
  refine wpAnyH_take (i := 53) (oi := { dst := some 94, op := Go.Op.binOp Go.BinOp.add 24 (Go.Operand.tmp 93) (Go.Operand.const (Go.Value.int Go.IntKind.u64 1)) 24, type := 24, pos := "more.go:14", after := #[{ on := 52, ground := Go.Ground.data }, { on := 49, ground := Go.Ground.guard }], guard := some (49, false) }) (v := ?v00_53) rfl (by kernel_rfl) (by kernel_rfl) (by kernel_rfl) (fun _ _ _ h => h) (Or.inl ⟨by rfl, ?y00_53⟩) (by assumption) ?r00_53
  case y00_53 => (intro w hSw; (try dsimp only at hSw); go_simp; (try with_reducible rfl))
  (try simp only [Act.put, List.setIfInBounds_toArray, List.set_cons_zero, List.set_cons_succ])
  refine wpAnyH_take (i := 55) (oi := { dst := some 96, op := Go.Op.load 23 (Go.Operand.tmp 4), type := 23, pos := "more.go:14", after := #[{ on := 49, ground := Go.Ground.guard }], guard := some (49, false) }) (v := ?v00_55) rfl (by kernel_rfl) (by kernel_rfl) (by kernel_rfl) (fun _ _ _ h => h) (Or.inl ⟨by rfl, ?y00_55⟩) (by assumption) ?r00_55
  case y00_55 => (intro w hSw; (try dsimp only at hSw); go_simp; (try with_reducible rfl))
  (try simp only [Act.put, List.setIfInBounds_toArray, List.set_cons_zero, List.set_cons_succ])
  refine wpAnyH_take (i := 56) (oi := { dst := some 97, op := Go.Op.move (Go.Operand.tmp 1), type := 3, pos := "more.go:14", after := #[{ on := 49, ground := Go.Ground.guard }], guard := some (49, false) }) (v := ?v00_56) rfl (by kernel_rfl) (by kernel_rfl) (by kernel_rfl) (fun _ _ _ h => h) (Or.inl ⟨by rfl, ?y00_56⟩) (by assumption) ?r00_56
  case y00_56 => (intro w hSw; (try dsimp only at hSw); go_simp; (try with_reducible rfl))
  (try simp only [Act.put, List.setIfInBounds_toArray, List.set_cons_zero, List.set_cons_succ])
  refine wpAnyH_take (i := 57) (oi := { dst := some 98, op := Go.Op.move (Go.Operand.tmp 2), type := 24, pos := "more.go:14", after := #[{ on := 49, ground := Go.Ground.guard }], guard := some (49, false) }) (v := ?v00_57) rfl (by kernel_rfl) (by kernel_rfl) (by kernel_rfl) (fun _ _ _ h => h) (Or.inl ⟨by rfl, ?y00_57⟩) (by assumption) ?r00_57
  case y00_57 => (intro w hSw; (try dsimp only at hSw); go_simp; (try with_reducible rfl))
  (try simp only [Act.put, List.setIfInBounds_toArray, List.set_cons_zero, List.set_cons_succ])
  refine wpAnyH_ready (rs := [54]) (by kernel_rfl) (by simp) ?_
  refine AllReadyH.cons (o := { dst := some 95, op := Go.Op.call { callee := Go.Callee.value (Go.Operand.func 27), args := #[Go.Operand.tmp 91, Go.Operand.tmp 92, Go.Operand.tmp 94], argTypes := #[23, 3, 24] }, type := 3, pos := "more.go:14", after := #[{ on := 50, ground := Go.Ground.data }, { on := 51, ground := Go.Ground.data }, { on := 53, ground := Go.Ground.data }, { on := 49, ground := Go.Ground.chain }, { on := 49, ground := Go.Ground.guard }], guard := some (49, false) }) rfl (fun K hK => ?_) AllReadyH.nil
  go_simp
  refine (HCS.out (x + 1) _ HX1.out).mono ?_
  rintro e w' ⟨rfl, hb⟩
  go_wp2_with fail
  refine hK.out _ _ (held_call HK.out (fun _ h => h.2.2.2.2) hb hHeld) (fun hHeld2 => ?_)
  clear hK K hHeld
  have hHeld := hHeld2
  clear hHeld2
  (try simp only [Act.put, List.setIfInBounds_toArray, List.set_cons_zero, List.set_cons_succ])
  refine wpAnyH_ready (rs := [58]) (by kernel_rfl) (by simp) ?_
  refine AllReadyH.cons (o := { dst := some 99, op := Go.Op.call { callee := Go.Callee.value (Go.Operand.func 27), args := #[Go.Operand.tmp 96, Go.Operand.tmp 97, Go.Operand.tmp 98], argTypes := #[23, 3, 24] }, type := 3, pos := "more.go:14", after := #[{ on := 55, ground := Go.Ground.data }, { on := 56, ground := Go.Ground.data }, { on := 57, ground := Go.Ground.data }, { on := 54, ground := Go.Ground.chain }, { on := 49, ground := Go.Ground.guard }], guard := some (49, false) }) rfl (fun K hK => ?_) AllReadyH.nil
  go_simp
  refine (HCS.out x _ HX.out).mono ?_
  rintro e w' ⟨rfl, hb⟩
  go_wp2_with fail
  refine hK.out _ _ (held_call HK.out (fun _ h => h.2.2.2.2) hb hHeld) (fun hHeld2 => ?_)
  clear hK K hHeld
  have hHeld := hHeld2
  clear hHeld2
  (try simp only [Act.put, List.setIfInBounds_toArray, List.set_cons_zero, List.set_cons_succ])
  refine wpAnyH_take (i := 59) (oi := { dst := some 100, op := Go.Op.binOp Go.BinOp.neq 3 (Go.Operand.tmp 95) (Go.Operand.tmp 99) 3, type := 4, pos := "more.go:14", after := #[{ on := 54, ground := Go.Ground.data }, { on := 58, ground := Go.Ground.data }, { on := 49, ground := Go.Ground.guard }], guard := some (49, false) }) (v := ?v00_59) rfl (by kernel_rfl) (by kernel_rfl) (by kernel_rfl) (fun _ _ _ h => h) (Or.inl ⟨by rfl, ?y00_59⟩) (by assumption) ?r00_59
  case y00_59 => (intro w hSw; (try dsimp only at hSw); go_simp; (try with_reducible rfl))
  (try simp only [Act.put, List.setIfInBounds_toArray, List.set_cons_zero, List.set_cons_succ])
  refine wpAnyH_take (i := 60) (oi := { dst := some 101, op := Go.Op.pick (Go.Operand.tmp 90) (Go.Operand.const (Go.Value.bool true)) (Go.Operand.tmp 100), type := 4, pos := "more.go:14", after := #[{ on := 49, ground := Go.Ground.data }, { on := 59, ground := Go.Ground.data }, { on := 45, ground := Go.Ground.guard }], guard := some (45, true) }) (v := ?v00_60) rfl (by kernel_rfl) (by kernel_rfl) (by kernel_rfl) (fun _ _ _ h => h) (Or.inl ⟨by rfl, ?y00_60⟩) (by assumption) ?r00_60
  case y00_60 => (intro w hSw; (try dsimp only at hSw); go_simp; (try with_reducible rfl))
  (try simp only [Act.put, List.setIfInBounds_toArray, List.set_cons_zero, List.set_cons_succ])
  refine wpAnyH_take (i := 61) (oi := { dst := some 102, op := Go.Op.pick (Go.Operand.tmp 86) (Go.Operand.tmp 101) (Go.Operand.const (Go.Value.bool false)), type := 4, pos := "more.go:14", after := #[{ on := 45, ground := Go.Ground.data }, { on := 60, ground := Go.Ground.data }], guard := none }) (v := ?v00_61) rfl (by kernel_rfl) (by kernel_rfl) (by kernel_rfl) (fun _ _ _ h => h) (Or.inl ⟨by rfl, ?y00_61⟩) (by assumption) ?r00_61
  case y00_61 => (intro w hSw; (try dsimp only at hSw); go_simp; (try with_reducible rfl))
  (try simp only [Act.put, List.setIfInBounds_toArray, List.set_cons_zero, List.set_cons_succ])
  refine wpAnyH_take (i := 62) (oi := { dst := some 103, op := Go.Op.move (Go.Operand.tmp 102), type := 4, pos := "more.go:14", after := #[{ on := 61, ground := Go.Ground.data }, { on := 58, ground := Go.Ground.chain }], guard := none }) (v := ?v00_62) rfl (by kernel_rfl) (by kernel_rfl) (by kernel_rfl) (fun _ _ _ h => h) (Or.inl ⟨by rfl, ?y00_62⟩) (by assumption) ?r00_62
  case y00_62 => (intro w hSw; (try dsimp only at hSw); go_simp; (try with_reducible rfl))
  (try simp only [Act.put, List.setIfInBounds_toArray, List.set_cons_zero, List.set_cons_succ])
  refine wpAnyH_take (i := 63) (oi := { dst := some 104, op := Go.Op.fieldAddr 23 (Go.Operand.tmp 4) 2, type := 0, pos := "more.go:14", after := #[{ on := 62, ground := Go.Ground.guard }], guard := some (62, true) }) (v := ?v00_63) rfl (by kernel_rfl) (by kernel_rfl) (by kernel_rfl) (fun _ _ _ h => h) (Or.inl ⟨by rfl, ?y00_63⟩) (by assumption) ?r00_63
  case y00_63 => (intro w hSw; (try dsimp only at hSw); go_simp; (try with_reducible rfl))
  (try simp only [Act.put, List.setIfInBounds_toArray, List.set_cons_zero, List.set_cons_succ])
  refine wpAnyH_take (i := 64) (oi := { dst := some 105, op := Go.Op.load 3 (Go.Operand.tmp 104), type := 3, pos := "more.go:14", after := #[{ on := 63, ground := Go.Ground.data }, { on := 62, ground := Go.Ground.guard }], guard := some (62, true) }) (v := ?v00_64) rfl (by kernel_rfl) (by kernel_rfl) (by kernel_rfl) (fun _ _ _ h => h) (Or.inl ⟨by rfl, ?y00_64⟩) (by assumption) ?r00_64
  case y00_64 => (intro w hSw; (try dsimp only at hSw); go_simp; (try with_reducible rfl))
  (try simp only [Act.put, List.setIfInBounds_toArray, List.set_cons_zero, List.set_cons_succ])
  refine wpAnyH_take (i := 65) (oi := { dst := some 106, op := Go.Op.binOp Go.BinOp.eql 3 (Go.Operand.tmp 105) (Go.Operand.const (Go.Value.int Go.IntKind.i64 1)) 3, type := 4, pos := "more.go:14", after := #[{ on := 64, ground := Go.Ground.data }, { on := 62, ground := Go.Ground.guard }], guard := some (62, true) }) (v := ?v00_65) rfl (by kernel_rfl) (by kernel_rfl) (by kernel_rfl) (fun _ _ _ h => h) (Or.inl ⟨by rfl, ?y00_65⟩) (by assumption) ?r00_65
  case y00_65 => (intro w hSw; (try dsimp only at hSw); go_simp; (try with_reducible rfl))
  (try simp only [Act.put, List.setIfInBounds_toArray, List.set_cons_zero, List.set_cons_succ])
  refine wpAnyH_take (i := 66) (oi := { dst := some 107, op := Go.Op.move (Go.Operand.tmp 106), type := 4, pos := "more.go:14", after := #[{ on := 65, ground := Go.Ground.data }, { on := 62, ground := Go.Ground.chain }, { on := 62, ground := Go.Ground.guard }], guard := some (62, true) }) (v := ?v00_66) rfl (by kernel_rfl) (by kernel_rfl) (by kernel_rfl) (fun _ _ _ h => h) (Or.inl ⟨by rfl, ?y00_66⟩) (by assumption) ?r00_66
  case y00_66 => (intro w hSw; (try dsimp only at hSw); go_simp; (try with_reducible rfl))
  (try simp only [Act.put, List.setIfInBounds_toArray, List.set_cons_zero, List.set_cons_succ])
  refine wpAnyH_take (i := 67) (oi := { dst := some 108, op := Go.Op.load 23 (Go.Operand.tmp 4), type := 23, pos := "more.go:14", after := #[{ on := 66, ground := Go.Ground.guard }], guard := some (66, false) }) (v := ?v00_67) rfl (by kernel_rfl) (by kernel_rfl) (by kernel_rfl) (fun _ _ _ h => h) (Or.inl ⟨by rfl, ?y00_67⟩) (by assumption) ?r00_67
  case y00_67 => (intro w hSw; (try dsimp only at hSw); go_simp; (try with_reducible rfl))
  (try simp only [Act.put, List.setIfInBounds_toArray, List.set_cons_zero, List.set_cons_succ])
  refine wpAnyH_take (i := 68) (oi := { dst := some 109, op := Go.Op.move (Go.Operand.tmp 2), type := 24, pos := "more.go:14", after := #[{ on := 66, ground := Go.Ground.guard }], guard := some (66, false) }) (v := ?v00_68) rfl (by kernel_rfl) (by kernel_rfl) (by kernel_rfl) (fun _ _ _ h => h) (Or.inl ⟨by rfl, ?y00_68⟩) (by assumption) ?r00_68
  case y00_68 => (intro w hSw; (try dsimp only at hSw); go_simp; (try with_reducible rfl))
  (try simp only [Act.put, List.setIfInBounds_toArray, List.set_cons_zero, List.set_cons_succ])
  refine wpAnyH_take (i := 69) (oi := { dst := some 110, op := Go.Op.binOp Go.BinOp.add 24 (Go.Operand.tmp 109) (Go.Operand.const (Go.Value.int Go.IntKind.u64 1)) 24, type := 24, pos := "more.go:14", after := #[{ on := 68, ground := Go.Ground.data }, { on := 66, ground := Go.Ground.guard }], guard := some (66, false) }) (v := ?v00_69) rfl (by kernel_rfl) (by kernel_rfl) (by kernel_rfl) (fun _ _ _ h => h) (Or.inl ⟨by rfl, ?y00_69⟩) (by assumption) ?r00_69
  case y00_69 => (intro w hSw; (try dsimp only at hSw); go_simp; (try with_reducible rfl))
  (try simp only [Act.put, List.setIfInBounds_toArray, List.set_cons_zero, List.set_cons_succ])
  refine wpAnyH_take (i := 71) (oi := { dst := some 112, op := Go.Op.load 23 (Go.Operand.tmp 4), type := 23, pos := "more.go:14", after := #[{ on := 66, ground := Go.Ground.guard }], guard := some (66, false) }) (v := ?v00_71) rfl (by kernel_rfl) (by kernel_rfl) (by kernel_rfl) (fun _ _ _ h => h) (Or.inl ⟨by rfl, ?y00_71⟩) (by assumption) ?r00_71
  case y00_71 => (intro w hSw; (try dsimp only at hSw); go_simp; (try with_reducible rfl))
  (try simp only [Act.put, List.setIfInBounds_toArray, List.set_cons_zero, List.set_cons_succ])
  refine wpAnyH_take (i := 72) (oi := { dst := some 113, op := Go.Op.move (Go.Operand.tmp 2), type := 24, pos := "more.go:14", after := #[{ on := 66, ground := Go.Ground.guard }], guard := some (66, false) }) (v := ?v00_72) rfl (by kernel_rfl) (by kernel_rfl) (by kernel_rfl) (fun _ _ _ h => h) (Or.inl ⟨by rfl, ?y00_72⟩) (by assumption) ?r00_72
  case y00_72 => (intro w hSw; (try dsimp only at hSw); go_simp; (try with_reducible rfl))
  (try simp only [Act.put, List.setIfInBounds_toArray, List.set_cons_zero, List.set_cons_succ])
  refine wpAnyH_ready (rs := [70]) (by kernel_rfl) (by simp) ?_
  refine AllReadyH.cons (o := { dst := some 111, op := Go.Op.call { callee := Go.Callee.value (Go.Operand.func 17), args := #[Go.Operand.tmp 108, Go.Operand.tmp 110], argTypes := #[23, 24] }, type := 3, pos := "more.go:14", after := #[{ on := 67, ground := Go.Ground.data }, { on := 69, ground := Go.Ground.data }, { on := 66, ground := Go.Ground.chain }, { on := 66, ground := Go.Ground.guard }], guard := some (66, false) }) rfl (fun K hK => ?_) AllReadyH.nil
  go_simp
  refine (HCQ.out (x + 1) _ HX1.out).mono ?_
  rintro e w' ⟨rfl, hb⟩
  go_wp2_with fail
  refine hK.out _ _ (held_call HK.out (fun _ h => h.2.2.2.2) hb hHeld) (fun hHeld2 => ?_)
  clear hK K hHeld
  have hHeld := hHeld2
  clear hHeld2
  (try simp only [Act.put, List.setIfInBounds_toArray, List.set_cons_zero, List.set_cons_succ])
  refine wpAnyH_ready (rs := [73]) (by kernel_rfl) (by simp) ?_
  refine AllReadyH.cons (o := { dst := some 114, op := Go.Op.call { callee := Go.Callee.value (Go.Operand.func 17), args := #[Go.Operand.tmp 112, Go.Operand.tmp 113], argTypes := #[23, 24] }, type := 3, pos := "more.go:14", after := #[{ on := 71, ground := Go.Ground.data }, { on := 72, ground := Go.Ground.data }, { on := 70, ground := Go.Ground.chain }, { on := 66, ground := Go.Ground.guard }], guard := some (66, false) }) rfl (fun K hK => ?_) AllReadyH.nil
  go_simp
  refine (HCQ.out x _ HX.out).mono ?_
  rintro e w' ⟨rfl, hb⟩
  go_wp2_with fail
  refine hK.out _ _ (held_call HK.out (fun _ h => h.2.2.2.2) hb hHeld) (fun hHeld2 => ?_)
  clear hK K hHeld
  have hHeld := hHeld2
  clear hHeld2
  (try simp only [Act.put, List.setIfInBounds_toArray, List.set_cons_zero, List.set_cons_succ])
  refine wpAnyH_take (i := 74) (oi := { dst := some 115, op := Go.Op.binOp Go.BinOp.neq 3 (Go.Operand.tmp 111) (Go.Operand.tmp 114) 3, type := 4, pos := "more.go:14", after := #[{ on := 70, ground := Go.Ground.data }, { on := 73, ground := Go.Ground.data }, { on := 66, ground := Go.Ground.guard }], guard := some (66, false) }) (v := ?v00_74) rfl (by kernel_rfl) (by kernel_rfl) (by kernel_rfl) (fun _ _ _ h => h) (Or.inl ⟨by rfl, ?y00_74⟩) (by assumption) ?r00_74
  case y00_74 => (intro w hSw; (try dsimp only at hSw); go_simp; (try with_reducible rfl))
  (try simp only [Act.put, List.setIfInBounds_toArray, List.set_cons_zero, List.set_cons_succ])
  refine wpAnyH_take (i := 75) (oi := { dst := some 116, op := Go.Op.pick (Go.Operand.tmp 107) (Go.Operand.const (Go.Value.bool true)) (Go.Operand.tmp 115), type := 4, pos := "more.go:14", after := #[{ on := 66, ground := Go.Ground.data }, { on := 74, ground := Go.Ground.data }, { on := 62, ground := Go.Ground.guard }], guard := some (62, true) }) (v := ?v00_75) rfl (by kernel_rfl) (by kernel_rfl) (by kernel_rfl) (fun _ _ _ h => h) (Or.inl ⟨by rfl, ?y00_75⟩) (by assumption) ?r00_75
  case y00_75 => (intro w hSw; (try dsimp only at hSw); go_simp; (try with_reducible rfl))
  (try simp only [Act.put, List.setIfInBounds_toArray, List.set_cons_zero, List.set_cons_succ])
  refine wpAnyH_take (i := 76) (oi := { dst := some 117, op := Go.Op.pick (Go.Operand.tmp 103) (Go.Operand.tmp 116) (Go.Operand.const (Go.Value.bool false)), type := 4, pos := "more.go:14", after := #[{ on := 62, ground := Go.Ground.data }, { on := 75, ground := Go.Ground.data }], guard := none }) (v := ?v00_76) rfl (by kernel_rfl) (by kernel_rfl) (by kernel_rfl) (fun _ _ _ h => h) (Or.inl ⟨by rfl, ?y00_76⟩) (by assumption) ?r00_76
  case y00_76 => (intro w hSw; (try dsimp only at hSw); go_simp; (try with_reducible rfl))
  (try simp only [Act.put, List.setIfInBounds_toArray, List.set_cons_zero, List.set_cons_succ])
  refine wpAnyH_take (i := 77) (oi := { dst := some 8, op := Go.Op.assign (Go.Operand.tmp 117), type := 4, pos := "more.go:14", after := #[{ on := 76, ground := Go.Ground.data }, { on := 73, ground := Go.Ground.chain }, { on := 0, ground := Go.Ground.phase }, { on := 1, ground := Go.Ground.phase }, { on := 2, ground := Go.Ground.phase }, { on := 3, ground := Go.Ground.phase }, { on := 4, ground := Go.Ground.phase }, { on := 5, ground := Go.Ground.phase }, { on := 6, ground := Go.Ground.phase }, { on := 7, ground := Go.Ground.phase }, { on := 8, ground := Go.Ground.phase }, { on := 9, ground := Go.Ground.phase }, { on := 10, ground := Go.Ground.phase }, { on := 11, ground := Go.Ground.phase }, { on := 12, ground := Go.Ground.phase }, { on := 13, ground := Go.Ground.phase }, { on := 14, ground := Go.Ground.phase }, { on := 15, ground := Go.Ground.phase }, { on := 16, ground := Go.Ground.phase }, { on := 17, ground := Go.Ground.phase }, { on := 18, ground := Go.Ground.phase }, { on := 19, ground := Go.Ground.phase }, { on := 20, ground := Go.Ground.phase }, { on := 21, ground := Go.Ground.phase }, { on := 22, ground := Go.Ground.phase }, { on := 23, ground := Go.Ground.phase }, { on := 24, ground := Go.Ground.phase }, { on := 25, ground := Go.Ground.phase }, { on := 26, ground := Go.Ground.phase }, { on := 27, ground := Go.Ground.phase }, { on := 28, ground := Go.Ground.phase }, { on := 29, ground := Go.Ground.phase }, { on := 30, ground := Go.Ground.phase }, { on := 31, ground := Go.Ground.phase }, { on := 32, ground := Go.Ground.phase }, { on := 33, ground := Go.Ground.phase }, { on := 34, ground := Go.Ground.phase }, { on := 35, ground := Go.Ground.phase }, { on := 36, ground := Go.Ground.phase }, { on := 37, ground := Go.Ground.phase }, { on := 38, ground := Go.Ground.phase }, { on := 39, ground := Go.Ground.phase }, { on := 40, ground := Go.Ground.phase }, { on := 41, ground := Go.Ground.phase }, { on := 42, ground := Go.Ground.phase }, { on := 43, ground := Go.Ground.phase }, { on := 44, ground := Go.Ground.phase }, { on := 45, ground := Go.Ground.phase }, { on := 46, ground := Go.Ground.phase }, { on := 47, ground := Go.Ground.phase }, { on := 48, ground := Go.Ground.phase }, { on := 49, ground := Go.Ground.phase }, { on := 50, ground := Go.Ground.phase }, { on := 51, ground := Go.Ground.phase }, { on := 52, ground := Go.Ground.phase }, { on := 53, ground := Go.Ground.phase }, { on := 54, ground := Go.Ground.phase }, { on := 55, ground := Go.Ground.phase }, { on := 56, ground := Go.Ground.phase }, { on := 57, ground := Go.Ground.phase }, { on := 58, ground := Go.Ground.phase }, { on := 59, ground := Go.Ground.phase }, { on := 60, ground := Go.Ground.phase }, { on := 61, ground := Go.Ground.phase }, { on := 62, ground := Go.Ground.phase }, { on := 63, ground := Go.Ground.phase }, { on := 64, ground := Go.Ground.phase }, { on := 65, ground := Go.Ground.phase }, { on := 66, ground := Go.Ground.phase }, { on := 67, ground := Go.Ground.phase }, { on := 68, ground := Go.Ground.phase }, { on := 69, ground := Go.Ground.phase }, { on := 70, ground := Go.Ground.phase }, { on := 71, ground := Go.Ground.phase }, { on := 72, ground := Go.Ground.phase }, { on := 73, ground := Go.Ground.phase }, { on := 74, ground := Go.Ground.phase }, { on := 75, ground := Go.Ground.phase }, { on := 76, ground := Go.Ground.phase }], guard := none }) (v := ?v00_77) rfl (by kernel_rfl) (by kernel_rfl) (by kernel_rfl) (fun _ _ _ h => h) (Or.inl ⟨by rfl, ?y00_77⟩) (by assumption) ?r00_77
  case y00_77 => (intro w hSw; (try dsimp only at hSw); go_simp; (try with_reducible rfl))
  (try simp only [Act.put, List.setIfInBounds_toArray, List.set_cons_zero, List.set_cons_succ])
  refine wpAnyH_done (by kernel_rfl) ?_ _
  have HEND := Lib.hid (BW.out.trans ((hHeld.2.2.2.2).mono BW.out.size))
  clear hHeld
  go_wp2
  go_ret
  exact ⟨rfl, HEND.out⟩
theorem layRing_walk (W D J S y x k : Int) (w : World) (hx : U x) : Tells 6 #[cf W D J S, .int .i64 y, .int .u64 x, .int .i64 k] w (.bool true) := by
  cases hm : may W D J S
  · exact layRing_a W D J S y x k w hm
  · by_cases hy : (0 ≤ y ∧ y < W) ∧ (0 ≤ k ∧ k ≤ 1000) ∧ x ≤ 4611686018427387904
    · by_cases hd : D = 1
      · by_cases hj : J = 1
        · exact layRing_c11 W D J S y x k w hx hm hy.1 hy.2.1 hy.2.2 hd hj
        · exact layRing_c10 W D J S y x k w hx hm hy.1 hy.2.1 hy.2.2 hd hj
      · by_cases hj : J = 1
        · exact layRing_c01 W D J S y x k w hx hm hy.1 hy.2.1 hy.2.2 hd hj
        · exact layRing_c00 W D J S y x k w hx hm hy.1 hy.2.1 hy.2.2 hd hj
    · exact layRing_b W D J S y x k w hm (by omega)
end Go.Proofs.Ytmmojjpmnmjbkaa
