/- The walk of DrawRound. -/
import Derived.Test.YtnabomdadhgeeaaDrO
namespace Go.Proofs.Ytnabomdadhgeeaa
open Go.RowKit Go.Deep
attribute [local go_sem ↓] eql_pk neq_pk guard_pk
theorem held_call {S : World → Prop} {w2 w w' : World} (K : ∀ x, Below w2.heap.size w2 x → S x) (G : ∀ x, S x → Below w2.heap.size w2 x) (hc : Below w.heap.size w w') (h : S w) : S w' := K _ (keep_call hc (G _ h))
theorem rndN_at {m : Nat} {d : Int} {j i : Nat} (h : i < j) : (rndN m d j)[i]? = some (rn m d i) := by simp [rndN, h]
theorem rn_ne {m : Nat} {d : Int} {i k : Nat} (h : ¬ i = k) : ¬ rn m d i = rn m d k := by
  unfold rn
  split <;> split <;> simp <;> omega
theorem fit_rn {m q : Nat} {d : Int} {i : Nat} (hi : i < m + q) : fit (rn m d i) m q = true := by
  unfold rn
  split
  · rw [fit_work rfl]; exact be_yes (by simp) (by simp; omega)
  · rw [fit_sub rfl]; exact be_yes (by simp; omega) (by simp; omega)
theorem fit_less_w {m q : Nat} {d : Int} {i : Nat} (hi : i < m) : fit (0, (i : Int), d) ((m : Int) - 1) q = ((i : Int) != (m : Int) - 1) := by
  rw [fit_work rfl]
  unfold be
  by_cases h : i = m - 1
  · have e1 : ((i : Int) != (m : Int) - 1) = false := by simp; omega
    rw [e1]; exact decide_eq_false (by dsimp only; omega)
  · have e1 : ((i : Int) != (m : Int) - 1) = true := by simp; omega
    rw [e1]; exact decide_eq_true (by dsimp only; omega)
theorem fit_less_s {m q : Nat} {d : Int} {i : Nat} (h : ¬ i < m) (hi : i < m + q) : fit (1, (i : Int) - m, d) ((m : Int) - 1) q = true := by
  rw [fit_sub rfl]; exact be_yes (by dsimp only; omega) (by dsimp only; omega)
theorem round_off (nw ns d i k : Int) (w : World) (h : mt nw ns = false) : Tells 8 #[.int .i64 nw, .int .i64 ns, .int .u64 d, .int .i64 i, .int .i64 k] w (.bool true) := by
  have E := Lib.hid (rnd_no (d := d) h)
  have h' : ¬ ((0 ≤ nw ∧ nw ≤ 20) ∧ 0 ≤ ns ∧ ns ≤ 20) := fun x => by rw [mt_iff.2 x] at h; cases h
  clear h
  have main : (decide (nw < 0) = true ∨ (decide (nw < 0) = false ∧ (decide (ns < 0) = true ∨ (decide (ns < 0) = false ∧ (decide (20 < nw) = true ∨ (decide (20 < nw) = false ∧ decide (20 < ns) = true)))))) := by
    simp only [decide_eq_true_eq, decide_eq_false_iff_not]
    omega
  clear h'
  rcases main with d1 | ⟨d1, d2 | ⟨d2, d3 | ⟨d3, d4⟩⟩⟩
  all_goals
    go_enter Try.func8, Try.ntmps8
    go_wp2_with fail
    refine (awake_any _).mono ?_
    rintro _ w1 ⟨rfl, z1⟩
    have Z := Lib.hid z1
    clear z1
    go_wp2_with fail
    have C := round_any nw ns d w1
    rw [E.out] at C
    refine C.mono ?_
    rintro _ w2 ⟨X, c, rfl, ox, z2⟩
    replace Z := Lib.hid (Z.out.trans (z2.mono Z.out.size))
    have e0 : ([] : List Pk).length = 0 := rfl
    rw [e0]
    clear C z2 ox e0
    go_wp2
    go_ret
    exact ⟨rfl, Z.out⟩
theorem round_ilo (m q : Nat) (d i k : Int) (w : World) (hm : m ≤ 20) (hq : q ≤ 20)  (h0 : i < 0) : Tells 8 #[.int .i64 m, .int .i64 q, .int .u64 d, .int .i64 i, .int .i64 k] w (.bool true) := by
  have d0 : decide ((m : Int) < 0) = false := decide_eq_false (by omega)
  have d1 : decide ((q : Int) < 0) = false := decide_eq_false (by omega)
  have d2 : decide (20 < (m : Int)) = false := decide_eq_false (by omega)
  have d3 : decide (20 < (q : Int)) = false := decide_eq_false (by omega)
  obtain ⟨n, hn⟩ : ∃ n, n = m + q := ⟨_, rfl⟩
  have e1 : ((n : Int) != (m : Int) + (q : Int)) = false := by rw [hn]; simp
  have e2 : ((n : Int) == (m : Int) + (q : Int)) = true := by rw [hn]; simp
  have hn4 : n ≤ 40 := by omega
  have f0 : decide (i < 0) = true := decide_eq_true (by omega)
  go_enter Try.func8, Try.ntmps8
  go_wp2_with fail
  refine (awake_any _).mono ?_
  rintro _ w1 ⟨rfl, z1⟩
  have Z := Lib.hid z1
  clear z1
  go_wp2_with fail
  refine (round_yes m q d w1 hm hq).mono ?_
  rintro _ w2 ⟨X, c, rfl, ox, z2⟩
  replace Z := Lib.hid (Z.out.trans (z2.mono Z.out.size))
  rw [rndN_len, ← hn]
  rw [rndN_len, ← hn] at ox
  clear z2 ox hn
  go_wp2
  go_ret
  exact ⟨rfl, Z.out⟩
theorem round_klo (m q : Nat) (d i k : Int) (w : World) (hm : m ≤ 20) (hq : q ≤ 20) (h0 : ¬ i < 0) (h1 : k < 0) : Tells 8 #[.int .i64 m, .int .i64 q, .int .u64 d, .int .i64 i, .int .i64 k] w (.bool true) := by
  have d0 : decide ((m : Int) < 0) = false := decide_eq_false (by omega)
  have d1 : decide ((q : Int) < 0) = false := decide_eq_false (by omega)
  have d2 : decide (20 < (m : Int)) = false := decide_eq_false (by omega)
  have d3 : decide (20 < (q : Int)) = false := decide_eq_false (by omega)
  obtain ⟨n, hn⟩ : ∃ n, n = m + q := ⟨_, rfl⟩
  have e1 : ((n : Int) != (m : Int) + (q : Int)) = false := by rw [hn]; simp
  have e2 : ((n : Int) == (m : Int) + (q : Int)) = true := by rw [hn]; simp
  have hn4 : n ≤ 40 := by omega
  have f0 : decide (i < 0) = false := decide_eq_false (by omega)
  have f1 : decide (k < 0) = true := decide_eq_true (by omega)
  go_enter Try.func8, Try.ntmps8
  go_wp2_with fail
  refine (awake_any _).mono ?_
  rintro _ w1 ⟨rfl, z1⟩
  have Z := Lib.hid z1
  clear z1
  go_wp2_with fail
  refine (round_yes m q d w1 hm hq).mono ?_
  rintro _ w2 ⟨X, c, rfl, ox, z2⟩
  replace Z := Lib.hid (Z.out.trans (z2.mono Z.out.size))
  rw [rndN_len, ← hn]
  rw [rndN_len, ← hn] at ox
  clear z2 ox hn
  go_wp2
  go_ret
  exact ⟨rfl, Z.out⟩
theorem round_ihi (m q : Nat) (d i k : Int) (w : World) (hm : m ≤ 20) (hq : q ≤ 20) (h0 : ¬ i < 0) (h1 : ¬ k < 0) (h2 : ((m + q : Nat) : Int) ≤ i) : Tells 8 #[.int .i64 m, .int .i64 q, .int .u64 d, .int .i64 i, .int .i64 k] w (.bool true) := by
  have d0 : decide ((m : Int) < 0) = false := decide_eq_false (by omega)
  have d1 : decide ((q : Int) < 0) = false := decide_eq_false (by omega)
  have d2 : decide (20 < (m : Int)) = false := decide_eq_false (by omega)
  have d3 : decide (20 < (q : Int)) = false := decide_eq_false (by omega)
  obtain ⟨n, hn⟩ : ∃ n, n = m + q := ⟨_, rfl⟩
  have e1 : ((n : Int) != (m : Int) + (q : Int)) = false := by rw [hn]; simp
  have e2 : ((n : Int) == (m : Int) + (q : Int)) = true := by rw [hn]; simp
  have hn4 : n ≤ 40 := by omega
  have f0 : decide (i < 0) = false := decide_eq_false (by omega)
  have f1 : decide (k < 0) = false := decide_eq_false (by omega)
  have f2 : decide ((n : Int) ≤ i) = true := decide_eq_true (by omega)
  go_enter Try.func8, Try.ntmps8
  go_wp2_with fail
  refine (awake_any _).mono ?_
  rintro _ w1 ⟨rfl, z1⟩
  have Z := Lib.hid z1
  clear z1
  go_wp2_with fail
  refine (round_yes m q d w1 hm hq).mono ?_
  rintro _ w2 ⟨X, c, rfl, ox, z2⟩
  replace Z := Lib.hid (Z.out.trans (z2.mono Z.out.size))
  rw [rndN_len, ← hn]
  rw [rndN_len, ← hn] at ox
  clear z2 ox hn
  go_wp2
  go_ret
  exact ⟨rfl, Z.out⟩
theorem round_khi (m q : Nat) (d i k : Int) (w : World) (hm : m ≤ 20) (hq : q ≤ 20) (h0 : ¬ i < 0) (h1 : ¬ k < 0) (h2 : ¬ ((m + q : Nat) : Int) ≤ i) (h3 : ((m + q : Nat) : Int) ≤ k) : Tells 8 #[.int .i64 m, .int .i64 q, .int .u64 d, .int .i64 i, .int .i64 k] w (.bool true) := by
  have d0 : decide ((m : Int) < 0) = false := decide_eq_false (by omega)
  have d1 : decide ((q : Int) < 0) = false := decide_eq_false (by omega)
  have d2 : decide (20 < (m : Int)) = false := decide_eq_false (by omega)
  have d3 : decide (20 < (q : Int)) = false := decide_eq_false (by omega)
  obtain ⟨n, hn⟩ : ∃ n, n = m + q := ⟨_, rfl⟩
  have e1 : ((n : Int) != (m : Int) + (q : Int)) = false := by rw [hn]; simp
  have e2 : ((n : Int) == (m : Int) + (q : Int)) = true := by rw [hn]; simp
  have hn4 : n ≤ 40 := by omega
  have f0 : decide (i < 0) = false := decide_eq_false (by omega)
  have f1 : decide (k < 0) = false := decide_eq_false (by omega)
  have f2 : decide ((n : Int) ≤ i) = false := decide_eq_false (by omega)
  have f3 : decide ((n : Int) ≤ k) = true := decide_eq_true (by omega)
  go_enter Try.func8, Try.ntmps8
  go_wp2_with fail
  refine (awake_any _).mono ?_
  rintro _ w1 ⟨rfl, z1⟩
  have Z := Lib.hid z1
  clear z1
  go_wp2_with fail
  refine (round_yes m q d w1 hm hq).mono ?_
  rintro _ w2 ⟨X, c, rfl, ox, z2⟩
  replace Z := Lib.hid (Z.out.trans (z2.mono Z.out.size))
  rw [rndN_len, ← hn]
  rw [rndN_len, ← hn] at ox
  clear z2 ox hn
  go_wp2
  go_ret
  exact ⟨rfl, Z.out⟩
set_option maxRecDepth 100000 in
set_option maxHeartbeats 8000000 in
theorem round_ws (m q i : Nat) (d : Int) (w : World) (hm : m ≤ 20) (hq : q ≤ 20) (hi : i < m) (hil : i < m + q) : Tells 8 #[.int .i64 m, .int .i64 q, .int .u64 d, .int .i64 (i : Int), .int .i64 (i : Int)] w (.bool true) := by
  have d0 : decide ((m : Int) < 0) = false := decide_eq_false (by omega)
  have d1 : decide ((q : Int) < 0) = false := decide_eq_false (by omega)
  have d2 : decide (20 < (m : Int)) = false := decide_eq_false (by omega)
  have d3 : decide (20 < (q : Int)) = false := decide_eq_false (by omega)
  obtain ⟨n, hn⟩ : ∃ n, n = m + q := ⟨_, rfl⟩
  have e1 : ((n : Int) != (m : Int) + (q : Int)) = false := by rw [hn]; simp
  have e2 : ((n : Int) == (m : Int) + (q : Int)) = true := by rw [hn]; simp
  have hn4 : n ≤ 40 := by omega
  have fi0 : decide ((i : Int) < 0) = false := decide_eq_false (by omega)
  have fi1 : decide ((n : Int) ≤ (i : Int)) = false := decide_eq_false (by omega)
  have fi2 : decide (n ≤ i) = false := decide_eq_false (by omega)
  have fi3 : i < n := by omega
  have RI := Lib.hid (show rn m d i = (0, (i : Int), d) by unfold rn; rw [if_pos hi])
  have F1 := Lib.hid (show fit (0, (i : Int), d) m q = true by have := fit_rn (d := d) hil; rw [RI.out] at this; exact this)
  have F2 := Lib.hid (fit_less_w (q := q) (d := d) hi)
  have dd : (d == d) = true := by simp
  have wm : IntKind.i64.wrap ((m : Int) - 1) = (m : Int) - 1 := by rw [IntKind.wrap_i64]; omega
  have ik : ((i : Int) == (i : Int)) = true := by simp
  have ik2 : (i == i) = true := by simp
  have BV := Lib.hid (show ((i : Int) != (m : Int) - 1) = ((i : Int) != (m : Int) - 1) from rfl)
  obtain ⟨bv, hbv⟩ : ∃ bv : Bool, ((i : Int) != (m : Int) - 1) = bv := ⟨_, rfl⟩
  have bb : (bv == bv) = true := by simp
  have F2 := Lib.hid (F2.out.trans hbv)
  clear BV
  have k0 : ((0 : Int) != 0) = false := by simp
  have RI2 := Lib.hid (rndN_at (m := m) (d := d) (j := n) fi3)
  go_enter Try.func8, Try.ntmps8
  go_wp2_with fail
  refine (awake_any _).mono ?_
  rintro _ w1 ⟨rfl, z1⟩
  have Z := Lib.hid z1
  clear z1
  go_wp2_with fail
  refine (round_yes m q d w1 hm hq).mono ?_
  rintro _ w2 ⟨X, c, rfl, ox, z2⟩
  replace Z := Lib.hid (Z.out.trans (z2.mono Z.out.size))
  rw [rndN_len, ← hn]
  rw [rndN_len, ← hn] at ox
  obtain ⟨xb, xo, rfl, xl, xc⟩ := ox.pr (by rw [rndN_len]; omega)
  obtain ⟨x0, x1, x2⟩ := xc i _ (RI2.out)
  rw [RI.out] at x0 x1 x2
  dsimp only at x0 x1 x2
  have Z2 := Lib.hid z2
  clear z2 ox xc hn
  go_wp2_with fail
  have K : ∀ w', Below w2.heap.size w2 w' → w'.cell? ⟨xb, xo + i * 3, none⟩ = some (.int .i64 0) ∧ w'.cell? ⟨xb, xo + i * 3 + 1, none⟩ = some (.int .i64 (i : Int)) ∧ w'.cell? ⟨xb, xo + i * 3 + 2, none⟩ = some (.int .u64 d) ∧ Below w2.heap.size w2 w' := fun w' hb => ⟨(hb.cell (p := ⟨xb, xo + i * 3, none⟩) xl).trans x0, (hb.cell (p := ⟨xb, xo + i * 3 + 1, none⟩) xl).trans x1, (hb.cell (p := ⟨xb, xo + i * 3 + 2, none⟩) xl).trans x2, hb⟩
  have HK := Lib.hid K
  clear K x0 x1 x2
  refine wp_region_held_drew (S := fun w' => w'.cell? ⟨xb, xo + i * 3, none⟩ = some (.int .i64 0) ∧ w'.cell? ⟨xb, xo + i * 3 + 1, none⟩ = some (.int .i64 (i : Int)) ∧ w'.cell? ⟨xb, xo + i * 3 + 2, none⟩ = some (.int .u64 d) ∧ Below w2.heap.size w2 w') (by kernel_rfl) (HK.out _ (keep_drew (Below.refl _ _))) (fun hHeld => ?_)
  refine wpAnyH_take (i := 0) (oi := { dst := some 74, op := Go.Op.move (Go.Operand.tmp 12), type := 26, pos := "more.go:28", after := #[], guard := none }) (v := ?vws_0) rfl (by kernel_rfl) (by kernel_rfl) (by kernel_rfl) (fun _ _ _ h => h) (Or.inl ⟨by rfl, ?yws_0⟩) (by assumption) ?rws_0
  case yws_0 => (intro w hSw; (try dsimp only at hSw); go_simp; (try with_reducible rfl))
  (try simp only [Act.put, List.setIfInBounds_toArray, List.set_cons_zero, List.set_cons_succ])
  refine wpAnyH_take (i := 1) (oi := { dst := some 75, op := Go.Op.move (Go.Operand.tmp 3), type := 3, pos := "more.go:28", after := #[], guard := none }) (v := ?vws_1) rfl (by kernel_rfl) (by kernel_rfl) (by kernel_rfl) (fun _ _ _ h => h) (Or.inl ⟨by rfl, ?yws_1⟩) (by assumption) ?rws_1
  case yws_1 => (intro w hSw; (try dsimp only at hSw); go_simp; (try with_reducible rfl))
  (try simp only [Act.put, List.setIfInBounds_toArray, List.set_cons_zero, List.set_cons_succ])
  refine wpAnyH_take (i := 2) (oi := { dst := some 76, op := Go.Op.indexAddr 26 (Go.Operand.tmp 74) (Go.Operand.tmp 75), type := 0, pos := "more.go:28", after := #[{ on := 0, ground := Go.Ground.data }, { on := 1, ground := Go.Ground.data }], guard := none }) (v := ?vws_2) rfl (by kernel_rfl) (by kernel_rfl) (by kernel_rfl) (fun _ _ _ h => h) (Or.inl ⟨by rfl, ?yws_2⟩) (by assumption) ?rws_2
  case yws_2 => (intro w hSw; (try dsimp only at hSw); go_simp; (try with_reducible rfl))
  (try simp only [Act.put, List.setIfInBounds_toArray, List.set_cons_zero, List.set_cons_succ])
  refine wpAnyH_take (i := 3) (oi := { dst := some 77, op := Go.Op.load 25 (Go.Operand.tmp 76), type := 25, pos := "more.go:28", after := #[{ on := 2, ground := Go.Ground.data }], guard := none }) (v := ?vws_3) rfl (by kernel_rfl) (by kernel_rfl) (by kernel_rfl) (fun _ _ _ h => h) (Or.inl ⟨by rfl, ?yws_3⟩) (by assumption) ?rws_3
  case yws_3 => (intro w hSw; (try dsimp only at hSw); go_simp; (try with_reducible rfl))
  (try simp only [Act.put, List.setIfInBounds_toArray, List.set_cons_zero, List.set_cons_succ])
  refine wpAnyH_take (i := 4) (oi := { dst := some 78, op := Go.Op.move (Go.Operand.tmp 0), type := 3, pos := "more.go:28", after := #[], guard := none }) (v := ?vws_4) rfl (by kernel_rfl) (by kernel_rfl) (by kernel_rfl) (fun _ _ _ h => h) (Or.inl ⟨by rfl, ?yws_4⟩) (by assumption) ?rws_4
  case yws_4 => (intro w hSw; (try dsimp only at hSw); go_simp; (try with_reducible rfl))
  (try simp only [Act.put, List.setIfInBounds_toArray, List.set_cons_zero, List.set_cons_succ])
  refine wpAnyH_take (i := 5) (oi := { dst := some 79, op := Go.Op.move (Go.Operand.tmp 1), type := 3, pos := "more.go:28", after := #[], guard := none }) (v := ?vws_5) rfl (by kernel_rfl) (by kernel_rfl) (by kernel_rfl) (fun _ _ _ h => h) (Or.inl ⟨by rfl, ?yws_5⟩) (by assumption) ?rws_5
  case yws_5 => (intro w hSw; (try dsimp only at hSw); go_simp; (try with_reducible rfl))
  (try simp only [Act.put, List.setIfInBounds_toArray, List.set_cons_zero, List.set_cons_succ])
  refine wpAnyH_ready (rs := [6]) (by kernel_rfl) (by simp) ?_
  refine AllReadyH.cons (o := { dst := some 80, op := Go.Op.call { callee := Go.Callee.value (Go.Operand.func 20), args := #[Go.Operand.tmp 77, Go.Operand.tmp 78, Go.Operand.tmp 79], argTypes := #[25, 3, 3] }, type := 4, pos := "more.go:28", after := #[{ on := 3, ground := Go.Ground.data }, { on := 4, ground := Go.Ground.data }, { on := 5, ground := Go.Ground.data }], guard := none }) rfl (fun K hK => ?_) AllReadyH.nil
  go_simp
  refine (Tells.of (fits_any (0, (i : Int), d) m q _) (v' := .bool true) (by rw [F1.out])).mono ?_
  rintro e w' ⟨rfl, hb⟩
  go_wp2_with fail
  refine hK.out _ _ (held_call HK.out (fun _ h => h.2.2.2) hb hHeld) (fun hHeld2 => ?_)
  clear hK K hHeld
  have hHeld := hHeld2
  clear hHeld2
  (try simp only [Act.put, List.setIfInBounds_toArray, List.set_cons_zero, List.set_cons_succ])
  refine wpAnyH_take (i := 7) (oi := { dst := some 81, op := Go.Op.move (Go.Operand.tmp 80), type := 4, pos := "more.go:28", after := #[{ on := 6, ground := Go.Ground.data }, { on := 6, ground := Go.Ground.chain }], guard := none }) (v := ?vws_7) rfl (by kernel_rfl) (by kernel_rfl) (by kernel_rfl) (fun _ _ _ h => h) (Or.inl ⟨by rfl, ?yws_7⟩) (by assumption) ?rws_7
  case yws_7 => (intro w hSw; (try dsimp only at hSw); go_simp; (try with_reducible rfl))
  (try simp only [Act.put, List.setIfInBounds_toArray, List.set_cons_zero, List.set_cons_succ])
  refine wpAnyH_take (i := 8) (oi := { dst := some 82, op := Go.Op.move (Go.Operand.tmp 12), type := 26, pos := "more.go:28", after := #[{ on := 7, ground := Go.Ground.guard }], guard := some (7, true) }) (v := ?vws_8) rfl (by kernel_rfl) (by kernel_rfl) (by kernel_rfl) (fun _ _ _ h => h) (Or.inl ⟨by rfl, ?yws_8⟩) (by assumption) ?rws_8
  case yws_8 => (intro w hSw; (try dsimp only at hSw); go_simp; (try with_reducible rfl))
  (try simp only [Act.put, List.setIfInBounds_toArray, List.set_cons_zero, List.set_cons_succ])
  refine wpAnyH_take (i := 9) (oi := { dst := some 83, op := Go.Op.move (Go.Operand.tmp 3), type := 3, pos := "more.go:28", after := #[{ on := 7, ground := Go.Ground.guard }], guard := some (7, true) }) (v := ?vws_9) rfl (by kernel_rfl) (by kernel_rfl) (by kernel_rfl) (fun _ _ _ h => h) (Or.inl ⟨by rfl, ?yws_9⟩) (by assumption) ?rws_9
  case yws_9 => (intro w hSw; (try dsimp only at hSw); go_simp; (try with_reducible rfl))
  (try simp only [Act.put, List.setIfInBounds_toArray, List.set_cons_zero, List.set_cons_succ])
  refine wpAnyH_take (i := 10) (oi := { dst := some 84, op := Go.Op.indexAddr 26 (Go.Operand.tmp 82) (Go.Operand.tmp 83), type := 0, pos := "more.go:28", after := #[{ on := 8, ground := Go.Ground.data }, { on := 9, ground := Go.Ground.data }, { on := 7, ground := Go.Ground.guard }], guard := some (7, true) }) (v := ?vws_10) rfl (by kernel_rfl) (by kernel_rfl) (by kernel_rfl) (fun _ _ _ h => h) (Or.inl ⟨by rfl, ?yws_10⟩) (by assumption) ?rws_10
  case yws_10 => (intro w hSw; (try dsimp only at hSw); go_simp; (try with_reducible rfl))
  (try simp only [Act.put, List.setIfInBounds_toArray, List.set_cons_zero, List.set_cons_succ])
  refine wpAnyH_take (i := 11) (oi := { dst := some 85, op := Go.Op.fieldAddr 25 (Go.Operand.tmp 84) 2, type := 0, pos := "more.go:28", after := #[{ on := 10, ground := Go.Ground.data }, { on := 7, ground := Go.Ground.guard }], guard := some (7, true) }) (v := ?vws_11) rfl (by kernel_rfl) (by kernel_rfl) (by kernel_rfl) (fun _ _ _ h => h) (Or.inl ⟨by rfl, ?yws_11⟩) (by assumption) ?rws_11
  case yws_11 => (intro w hSw; (try dsimp only at hSw); go_simp; (try with_reducible rfl))
  (try simp only [Act.put, List.setIfInBounds_toArray, List.set_cons_zero, List.set_cons_succ])
  refine wpAnyH_take (i := 12) (oi := { dst := some 86, op := Go.Op.load 23 (Go.Operand.tmp 85), type := 23, pos := "more.go:28", after := #[{ on := 11, ground := Go.Ground.data }, { on := 7, ground := Go.Ground.guard }], guard := some (7, true) }) (v := ?vws_12) rfl (by kernel_rfl) (by kernel_rfl) (by kernel_rfl) (fun _ _ _ h => h) (Or.inl ⟨by rfl, ?yws_12⟩) (by assumption) ?rws_12
  case yws_12 => (intro w hSw; (try dsimp only at hSw); go_simp; (try with_reducible rfl))
  (try simp only [Act.put, List.setIfInBounds_toArray, List.set_cons_zero, List.set_cons_succ])
  refine wpAnyH_take (i := 13) (oi := { dst := some 87, op := Go.Op.move (Go.Operand.tmp 2), type := 23, pos := "more.go:28", after := #[{ on := 7, ground := Go.Ground.guard }], guard := some (7, true) }) (v := ?vws_13) rfl (by kernel_rfl) (by kernel_rfl) (by kernel_rfl) (fun _ _ _ h => h) (Or.inl ⟨by rfl, ?yws_13⟩) (by assumption) ?rws_13
  case yws_13 => (intro w hSw; (try dsimp only at hSw); go_simp; (try with_reducible rfl))
  (try simp only [Act.put, List.setIfInBounds_toArray, List.set_cons_zero, List.set_cons_succ])
  refine wpAnyH_take (i := 14) (oi := { dst := some 88, op := Go.Op.binOp Go.BinOp.eql 23 (Go.Operand.tmp 86) (Go.Operand.tmp 87) 23, type := 4, pos := "more.go:28", after := #[{ on := 12, ground := Go.Ground.data }, { on := 13, ground := Go.Ground.data }, { on := 7, ground := Go.Ground.guard }], guard := some (7, true) }) (v := ?vws_14) rfl (by kernel_rfl) (by kernel_rfl) (by kernel_rfl) (fun _ _ _ h => h) (Or.inl ⟨by rfl, ?yws_14⟩) (by assumption) ?rws_14
  case yws_14 => (intro w hSw; (try dsimp only at hSw); go_simp; (try with_reducible rfl))
  (try simp only [Act.put, List.setIfInBounds_toArray, List.set_cons_zero, List.set_cons_succ])
  refine wpAnyH_take (i := 15) (oi := { dst := some 89, op := Go.Op.pick (Go.Operand.tmp 81) (Go.Operand.tmp 88) (Go.Operand.const (Go.Value.bool false)), type := 4, pos := "more.go:28", after := #[{ on := 7, ground := Go.Ground.data }, { on := 14, ground := Go.Ground.data }], guard := none }) (v := ?vws_15) rfl (by kernel_rfl) (by kernel_rfl) (by kernel_rfl) (fun _ _ _ h => h) (Or.inl ⟨by rfl, ?yws_15⟩) (by assumption) ?rws_15
  case yws_15 => (intro w hSw; (try dsimp only at hSw); go_simp; (try with_reducible rfl))
  (try simp only [Act.put, List.setIfInBounds_toArray, List.set_cons_zero, List.set_cons_succ])
  refine wpAnyH_take (i := 16) (oi := { dst := some 90, op := Go.Op.move (Go.Operand.tmp 89), type := 4, pos := "more.go:28", after := #[{ on := 15, ground := Go.Ground.data }, { on := 7, ground := Go.Ground.chain }], guard := none }) (v := ?vws_16) rfl (by kernel_rfl) (by kernel_rfl) (by kernel_rfl) (fun _ _ _ h => h) (Or.inl ⟨by rfl, ?yws_16⟩) (by assumption) ?rws_16
  case yws_16 => (intro w hSw; (try dsimp only at hSw); go_simp; (try with_reducible rfl))
  (try simp only [Act.put, List.setIfInBounds_toArray, List.set_cons_zero, List.set_cons_succ])
  refine wpAnyH_take (i := 17) (oi := { dst := some 91, op := Go.Op.move (Go.Operand.tmp 3), type := 3, pos := "more.go:28", after := #[{ on := 16, ground := Go.Ground.guard }], guard := some (16, true) }) (v := ?vws_17) rfl (by kernel_rfl) (by kernel_rfl) (by kernel_rfl) (fun _ _ _ h => h) (Or.inl ⟨by rfl, ?yws_17⟩) (by assumption) ?rws_17
  case yws_17 => (intro w hSw; (try dsimp only at hSw); go_simp; (try with_reducible rfl))
  (try simp only [Act.put, List.setIfInBounds_toArray, List.set_cons_zero, List.set_cons_succ])
  refine wpAnyH_take (i := 18) (oi := { dst := some 92, op := Go.Op.move (Go.Operand.tmp 4), type := 3, pos := "more.go:28", after := #[{ on := 16, ground := Go.Ground.guard }], guard := some (16, true) }) (v := ?vws_18) rfl (by kernel_rfl) (by kernel_rfl) (by kernel_rfl) (fun _ _ _ h => h) (Or.inl ⟨by rfl, ?yws_18⟩) (by assumption) ?rws_18
  case yws_18 => (intro w hSw; (try dsimp only at hSw); go_simp; (try with_reducible rfl))
  (try simp only [Act.put, List.setIfInBounds_toArray, List.set_cons_zero, List.set_cons_succ])
  refine wpAnyH_take (i := 19) (oi := { dst := some 93, op := Go.Op.binOp Go.BinOp.eql 3 (Go.Operand.tmp 91) (Go.Operand.tmp 92) 3, type := 4, pos := "more.go:28", after := #[{ on := 17, ground := Go.Ground.data }, { on := 18, ground := Go.Ground.data }, { on := 16, ground := Go.Ground.guard }], guard := some (16, true) }) (v := ?vws_19) rfl (by kernel_rfl) (by kernel_rfl) (by kernel_rfl) (fun _ _ _ h => h) (Or.inl ⟨by rfl, ?yws_19⟩) (by assumption) ?rws_19
  case yws_19 => (intro w hSw; (try dsimp only at hSw); go_simp; (try with_reducible rfl))
  (try simp only [Act.put, List.setIfInBounds_toArray, List.set_cons_zero, List.set_cons_succ])
  refine wpAnyH_take (i := 20) (oi := { dst := some 94, op := Go.Op.move (Go.Operand.tmp 93), type := 4, pos := "more.go:28", after := #[{ on := 19, ground := Go.Ground.data }, { on := 16, ground := Go.Ground.chain }, { on := 16, ground := Go.Ground.guard }], guard := some (16, true) }) (v := ?vws_20) rfl (by kernel_rfl) (by kernel_rfl) (by kernel_rfl) (fun _ _ _ h => h) (Or.inl ⟨by rfl, ?yws_20⟩) (by assumption) ?rws_20
  case yws_20 => (intro w hSw; (try dsimp only at hSw); go_simp; (try with_reducible rfl))
  (try simp only [Act.put, List.setIfInBounds_toArray, List.set_cons_zero, List.set_cons_succ])
  refine wpAnyH_take (i := 21) (oi := { dst := some 95, op := Go.Op.move (Go.Operand.tmp 12), type := 26, pos := "more.go:28", after := #[{ on := 20, ground := Go.Ground.guard }], guard := some (20, false) }) (v := undef) rfl (by kernel_rfl) (by kernel_rfl) (by kernel_rfl) (fun _ _ _ h => h) (Or.inr ⟨by rfl, rfl⟩) (by assumption) ?_
  (try simp only [Act.put, List.setIfInBounds_toArray, List.set_cons_zero, List.set_cons_succ])
  refine wpAnyH_take (i := 22) (oi := { dst := some 96, op := Go.Op.move (Go.Operand.tmp 3), type := 3, pos := "more.go:28", after := #[{ on := 20, ground := Go.Ground.guard }], guard := some (20, false) }) (v := undef) rfl (by kernel_rfl) (by kernel_rfl) (by kernel_rfl) (fun _ _ _ h => h) (Or.inr ⟨by rfl, rfl⟩) (by assumption) ?_
  (try simp only [Act.put, List.setIfInBounds_toArray, List.set_cons_zero, List.set_cons_succ])
  refine wpAnyH_take (i := 23) (oi := { dst := some 97, op := Go.Op.indexAddr 26 (Go.Operand.tmp 95) (Go.Operand.tmp 96), type := 0, pos := "more.go:28", after := #[{ on := 21, ground := Go.Ground.data }, { on := 22, ground := Go.Ground.data }, { on := 20, ground := Go.Ground.guard }], guard := some (20, false) }) (v := undef) rfl (by kernel_rfl) (by kernel_rfl) (by kernel_rfl) (fun _ _ _ h => h) (Or.inr ⟨by rfl, rfl⟩) (by assumption) ?_
  (try simp only [Act.put, List.setIfInBounds_toArray, List.set_cons_zero, List.set_cons_succ])
  refine wpAnyH_take (i := 24) (oi := { dst := some 98, op := Go.Op.load 25 (Go.Operand.tmp 97), type := 25, pos := "more.go:28", after := #[{ on := 23, ground := Go.Ground.data }, { on := 20, ground := Go.Ground.guard }], guard := some (20, false) }) (v := undef) rfl (by kernel_rfl) (by kernel_rfl) (by kernel_rfl) (fun _ _ _ h => h) (Or.inr ⟨by rfl, rfl⟩) (by assumption) ?_
  (try simp only [Act.put, List.setIfInBounds_toArray, List.set_cons_zero, List.set_cons_succ])
  refine wpAnyH_take (i := 25) (oi := { dst := some 99, op := Go.Op.move (Go.Operand.tmp 12), type := 26, pos := "more.go:28", after := #[{ on := 20, ground := Go.Ground.guard }], guard := some (20, false) }) (v := undef) rfl (by kernel_rfl) (by kernel_rfl) (by kernel_rfl) (fun _ _ _ h => h) (Or.inr ⟨by rfl, rfl⟩) (by assumption) ?_
  (try simp only [Act.put, List.setIfInBounds_toArray, List.set_cons_zero, List.set_cons_succ])
  refine wpAnyH_take (i := 26) (oi := { dst := some 100, op := Go.Op.move (Go.Operand.tmp 4), type := 3, pos := "more.go:28", after := #[{ on := 20, ground := Go.Ground.guard }], guard := some (20, false) }) (v := undef) rfl (by kernel_rfl) (by kernel_rfl) (by kernel_rfl) (fun _ _ _ h => h) (Or.inr ⟨by rfl, rfl⟩) (by assumption) ?_
  (try simp only [Act.put, List.setIfInBounds_toArray, List.set_cons_zero, List.set_cons_succ])
  refine wpAnyH_take (i := 27) (oi := { dst := some 101, op := Go.Op.indexAddr 26 (Go.Operand.tmp 99) (Go.Operand.tmp 100), type := 0, pos := "more.go:28", after := #[{ on := 25, ground := Go.Ground.data }, { on := 26, ground := Go.Ground.data }, { on := 20, ground := Go.Ground.guard }], guard := some (20, false) }) (v := undef) rfl (by kernel_rfl) (by kernel_rfl) (by kernel_rfl) (fun _ _ _ h => h) (Or.inr ⟨by rfl, rfl⟩) (by assumption) ?_
  (try simp only [Act.put, List.setIfInBounds_toArray, List.set_cons_zero, List.set_cons_succ])
  refine wpAnyH_take (i := 28) (oi := { dst := some 102, op := Go.Op.load 25 (Go.Operand.tmp 101), type := 25, pos := "more.go:28", after := #[{ on := 27, ground := Go.Ground.data }, { on := 20, ground := Go.Ground.guard }], guard := some (20, false) }) (v := undef) rfl (by kernel_rfl) (by kernel_rfl) (by kernel_rfl) (fun _ _ _ h => h) (Or.inr ⟨by rfl, rfl⟩) (by assumption) ?_
  (try simp only [Act.put, List.setIfInBounds_toArray, List.set_cons_zero, List.set_cons_succ])
  refine wpAnyH_take (i := 29) (oi := { dst := some 103, op := Go.Op.binOp Go.BinOp.neq 25 (Go.Operand.tmp 98) (Go.Operand.tmp 102) 25, type := 4, pos := "more.go:28", after := #[{ on := 24, ground := Go.Ground.data }, { on := 28, ground := Go.Ground.data }, { on := 20, ground := Go.Ground.guard }], guard := some (20, false) }) (v := undef) rfl (by kernel_rfl) (by kernel_rfl) (by kernel_rfl) (fun _ _ _ h => h) (Or.inr ⟨by rfl, rfl⟩) (by assumption) ?_
  (try simp only [Act.put, List.setIfInBounds_toArray, List.set_cons_zero, List.set_cons_succ])
  refine wpAnyH_take (i := 30) (oi := { dst := some 104, op := Go.Op.pick (Go.Operand.tmp 94) (Go.Operand.const (Go.Value.bool true)) (Go.Operand.tmp 103), type := 4, pos := "more.go:28", after := #[{ on := 20, ground := Go.Ground.data }, { on := 29, ground := Go.Ground.data }, { on := 16, ground := Go.Ground.guard }], guard := some (16, true) }) (v := ?vws_30) rfl (by kernel_rfl) (by kernel_rfl) (by kernel_rfl) (fun _ _ _ h => h) (Or.inl ⟨by rfl, ?yws_30⟩) (by assumption) ?rws_30
  case yws_30 => (intro w hSw; (try dsimp only at hSw); go_simp; (try with_reducible rfl))
  (try simp only [Act.put, List.setIfInBounds_toArray, List.set_cons_zero, List.set_cons_succ])
  refine wpAnyH_take (i := 31) (oi := { dst := some 105, op := Go.Op.pick (Go.Operand.tmp 90) (Go.Operand.tmp 104) (Go.Operand.const (Go.Value.bool false)), type := 4, pos := "more.go:28", after := #[{ on := 16, ground := Go.Ground.data }, { on := 30, ground := Go.Ground.data }], guard := none }) (v := ?vws_31) rfl (by kernel_rfl) (by kernel_rfl) (by kernel_rfl) (fun _ _ _ h => h) (Or.inl ⟨by rfl, ?yws_31⟩) (by assumption) ?rws_31
  case yws_31 => (intro w hSw; (try dsimp only at hSw); go_simp; (try with_reducible rfl))
  (try simp only [Act.put, List.setIfInBounds_toArray, List.set_cons_zero, List.set_cons_succ])
  refine wpAnyH_take (i := 32) (oi := { dst := some 106, op := Go.Op.move (Go.Operand.tmp 105), type := 4, pos := "more.go:28", after := #[{ on := 31, ground := Go.Ground.data }, { on := 20, ground := Go.Ground.chain }], guard := none }) (v := ?vws_32) rfl (by kernel_rfl) (by kernel_rfl) (by kernel_rfl) (fun _ _ _ h => h) (Or.inl ⟨by rfl, ?yws_32⟩) (by assumption) ?rws_32
  case yws_32 => (intro w hSw; (try dsimp only at hSw); go_simp; (try with_reducible rfl))
  (try simp only [Act.put, List.setIfInBounds_toArray, List.set_cons_zero, List.set_cons_succ])
  refine wpAnyH_take (i := 33) (oi := { dst := some 107, op := Go.Op.move (Go.Operand.tmp 12), type := 26, pos := "more.go:28", after := #[{ on := 32, ground := Go.Ground.guard }], guard := some (32, true) }) (v := ?vws_33) rfl (by kernel_rfl) (by kernel_rfl) (by kernel_rfl) (fun _ _ _ h => h) (Or.inl ⟨by rfl, ?yws_33⟩) (by assumption) ?rws_33
  case yws_33 => (intro w hSw; (try dsimp only at hSw); go_simp; (try with_reducible rfl))
  (try simp only [Act.put, List.setIfInBounds_toArray, List.set_cons_zero, List.set_cons_succ])
  refine wpAnyH_take (i := 34) (oi := { dst := some 108, op := Go.Op.move (Go.Operand.tmp 3), type := 3, pos := "more.go:28", after := #[{ on := 32, ground := Go.Ground.guard }], guard := some (32, true) }) (v := ?vws_34) rfl (by kernel_rfl) (by kernel_rfl) (by kernel_rfl) (fun _ _ _ h => h) (Or.inl ⟨by rfl, ?yws_34⟩) (by assumption) ?rws_34
  case yws_34 => (intro w hSw; (try dsimp only at hSw); go_simp; (try with_reducible rfl))
  (try simp only [Act.put, List.setIfInBounds_toArray, List.set_cons_zero, List.set_cons_succ])
  refine wpAnyH_take (i := 35) (oi := { dst := some 109, op := Go.Op.indexAddr 26 (Go.Operand.tmp 107) (Go.Operand.tmp 108), type := 0, pos := "more.go:28", after := #[{ on := 33, ground := Go.Ground.data }, { on := 34, ground := Go.Ground.data }, { on := 32, ground := Go.Ground.guard }], guard := some (32, true) }) (v := ?vws_35) rfl (by kernel_rfl) (by kernel_rfl) (by kernel_rfl) (fun _ _ _ h => h) (Or.inl ⟨by rfl, ?yws_35⟩) (by assumption) ?rws_35
  case yws_35 => (intro w hSw; (try dsimp only at hSw); go_simp; (try with_reducible rfl))
  (try simp only [Act.put, List.setIfInBounds_toArray, List.set_cons_zero, List.set_cons_succ])
  refine wpAnyH_take (i := 36) (oi := { dst := some 110, op := Go.Op.load 25 (Go.Operand.tmp 109), type := 25, pos := "more.go:28", after := #[{ on := 35, ground := Go.Ground.data }, { on := 32, ground := Go.Ground.guard }], guard := some (32, true) }) (v := ?vws_36) rfl (by kernel_rfl) (by kernel_rfl) (by kernel_rfl) (fun _ _ _ h => h) (Or.inl ⟨by rfl, ?yws_36⟩) (by assumption) ?rws_36
  case yws_36 => (intro w hSw; (try dsimp only at hSw); go_simp; (try with_reducible rfl))
  (try simp only [Act.put, List.setIfInBounds_toArray, List.set_cons_zero, List.set_cons_succ])
  refine wpAnyH_take (i := 37) (oi := { dst := some 111, op := Go.Op.move (Go.Operand.tmp 0), type := 3, pos := "more.go:28", after := #[{ on := 32, ground := Go.Ground.guard }], guard := some (32, true) }) (v := ?vws_37) rfl (by kernel_rfl) (by kernel_rfl) (by kernel_rfl) (fun _ _ _ h => h) (Or.inl ⟨by rfl, ?yws_37⟩) (by assumption) ?rws_37
  case yws_37 => (intro w hSw; (try dsimp only at hSw); go_simp; (try with_reducible rfl))
  (try simp only [Act.put, List.setIfInBounds_toArray, List.set_cons_zero, List.set_cons_succ])
  refine wpAnyH_take (i := 38) (oi := { dst := some 112, op := Go.Op.binOp Go.BinOp.sub 3 (Go.Operand.tmp 111) (Go.Operand.const (Go.Value.int Go.IntKind.i64 1)) 3, type := 3, pos := "more.go:28", after := #[{ on := 37, ground := Go.Ground.data }, { on := 32, ground := Go.Ground.guard }], guard := some (32, true) }) (v := ?vws_38) rfl (by kernel_rfl) (by kernel_rfl) (by kernel_rfl) (fun _ _ _ h => h) (Or.inl ⟨by rfl, ?yws_38⟩) (by assumption) ?rws_38
  case yws_38 => (intro w hSw; (try dsimp only at hSw); go_simp; (try with_reducible rfl))
  (try simp only [Act.put, List.setIfInBounds_toArray, List.set_cons_zero, List.set_cons_succ])
  refine wpAnyH_take (i := 39) (oi := { dst := some 113, op := Go.Op.move (Go.Operand.tmp 1), type := 3, pos := "more.go:28", after := #[{ on := 32, ground := Go.Ground.guard }], guard := some (32, true) }) (v := ?vws_39) rfl (by kernel_rfl) (by kernel_rfl) (by kernel_rfl) (fun _ _ _ h => h) (Or.inl ⟨by rfl, ?yws_39⟩) (by assumption) ?rws_39
  case yws_39 => (intro w hSw; (try dsimp only at hSw); go_simp; (try with_reducible rfl))
  (try simp only [Act.put, List.setIfInBounds_toArray, List.set_cons_zero, List.set_cons_succ])
  refine wpAnyH_take (i := 41) (oi := { dst := some 115, op := Go.Op.move (Go.Operand.tmp 12), type := 26, pos := "more.go:28", after := #[{ on := 32, ground := Go.Ground.guard }], guard := some (32, true) }) (v := ?vws_41) rfl (by kernel_rfl) (by kernel_rfl) (by kernel_rfl) (fun _ _ _ h => h) (Or.inl ⟨by rfl, ?yws_41⟩) (by assumption) ?rws_41
  case yws_41 => (intro w hSw; (try dsimp only at hSw); go_simp; (try with_reducible rfl))
  (try simp only [Act.put, List.setIfInBounds_toArray, List.set_cons_zero, List.set_cons_succ])
  refine wpAnyH_take (i := 42) (oi := { dst := some 116, op := Go.Op.move (Go.Operand.tmp 3), type := 3, pos := "more.go:28", after := #[{ on := 32, ground := Go.Ground.guard }], guard := some (32, true) }) (v := ?vws_42) rfl (by kernel_rfl) (by kernel_rfl) (by kernel_rfl) (fun _ _ _ h => h) (Or.inl ⟨by rfl, ?yws_42⟩) (by assumption) ?rws_42
  case yws_42 => (intro w hSw; (try dsimp only at hSw); go_simp; (try with_reducible rfl))
  (try simp only [Act.put, List.setIfInBounds_toArray, List.set_cons_zero, List.set_cons_succ])
  refine wpAnyH_take (i := 43) (oi := { dst := some 117, op := Go.Op.indexAddr 26 (Go.Operand.tmp 115) (Go.Operand.tmp 116), type := 0, pos := "more.go:28", after := #[{ on := 41, ground := Go.Ground.data }, { on := 42, ground := Go.Ground.data }, { on := 32, ground := Go.Ground.guard }], guard := some (32, true) }) (v := ?vws_43) rfl (by kernel_rfl) (by kernel_rfl) (by kernel_rfl) (fun _ _ _ h => h) (Or.inl ⟨by rfl, ?yws_43⟩) (by assumption) ?rws_43
  case yws_43 => (intro w hSw; (try dsimp only at hSw); go_simp; (try with_reducible rfl))
  (try simp only [Act.put, List.setIfInBounds_toArray, List.set_cons_zero, List.set_cons_succ])
  refine wpAnyH_take (i := 44) (oi := { dst := some 118, op := Go.Op.fieldAddr 25 (Go.Operand.tmp 117) 0, type := 0, pos := "more.go:28", after := #[{ on := 43, ground := Go.Ground.data }, { on := 32, ground := Go.Ground.guard }], guard := some (32, true) }) (v := ?vws_44) rfl (by kernel_rfl) (by kernel_rfl) (by kernel_rfl) (fun _ _ _ h => h) (Or.inl ⟨by rfl, ?yws_44⟩) (by assumption) ?rws_44
  case yws_44 => (intro w hSw; (try dsimp only at hSw); go_simp; (try with_reducible rfl))
  (try simp only [Act.put, List.setIfInBounds_toArray, List.set_cons_zero, List.set_cons_succ])
  refine wpAnyH_take (i := 45) (oi := { dst := some 119, op := Go.Op.load 3 (Go.Operand.tmp 118), type := 3, pos := "more.go:28", after := #[{ on := 44, ground := Go.Ground.data }, { on := 32, ground := Go.Ground.guard }], guard := some (32, true) }) (v := ?vws_45) rfl (by kernel_rfl) (by kernel_rfl) (by kernel_rfl) (fun _ _ _ h => h) (Or.inl ⟨by rfl, ?yws_45⟩) (by assumption) ?rws_45
  case yws_45 => (intro w hSw; (try dsimp only at hSw); go_simp; (try with_reducible rfl))
  (try simp only [Act.put, List.setIfInBounds_toArray, List.set_cons_zero, List.set_cons_succ])
  refine wpAnyH_take (i := 46) (oi := { dst := some 120, op := Go.Op.binOp Go.BinOp.neq 3 (Go.Operand.tmp 119) (Go.Operand.const (Go.Value.int Go.IntKind.i64 0)) 3, type := 4, pos := "more.go:28", after := #[{ on := 45, ground := Go.Ground.data }, { on := 32, ground := Go.Ground.guard }], guard := some (32, true) }) (v := ?vws_46) rfl (by kernel_rfl) (by kernel_rfl) (by kernel_rfl) (fun _ _ _ h => h) (Or.inl ⟨by rfl, ?yws_46⟩) (by assumption) ?rws_46
  case yws_46 => (intro w hSw; (try dsimp only at hSw); go_simp; (try with_reducible rfl))
  (try simp only [Act.put, List.setIfInBounds_toArray, List.set_cons_zero, List.set_cons_succ])
  refine wpAnyH_ready (rs := [40]) (by kernel_rfl) (by simp) ?_
  refine AllReadyH.cons (o := { dst := some 114, op := Go.Op.call { callee := Go.Callee.value (Go.Operand.func 20), args := #[Go.Operand.tmp 110, Go.Operand.tmp 112, Go.Operand.tmp 113], argTypes := #[25, 3, 3] }, type := 4, pos := "more.go:28", after := #[{ on := 36, ground := Go.Ground.data }, { on := 38, ground := Go.Ground.data }, { on := 39, ground := Go.Ground.data }, { on := 32, ground := Go.Ground.chain }, { on := 32, ground := Go.Ground.guard }], guard := some (32, true) }) rfl (fun K hK => ?_) AllReadyH.nil
  go_simp
  refine (Tells.of (fits_any (0, (i : Int), d) ((m : Int) - 1) q _) (v' := .bool bv) (by rw [F2.out])).mono ?_
  rintro e w' ⟨rfl, hb⟩
  go_wp2_with fail
  refine hK.out _ _ (held_call HK.out (fun _ h => h.2.2.2) hb hHeld) (fun hHeld2 => ?_)
  clear hK K hHeld
  have hHeld := hHeld2
  clear hHeld2
  (try simp only [Act.put, List.setIfInBounds_toArray, List.set_cons_zero, List.set_cons_succ])
  refine wpAnyH_take (i := 47) (oi := { dst := some 121, op := Go.Op.move (Go.Operand.tmp 120), type := 4, pos := "more.go:28", after := #[{ on := 46, ground := Go.Ground.data }, { on := 40, ground := Go.Ground.chain }, { on := 32, ground := Go.Ground.guard }], guard := some (32, true) }) (v := ?vws_47) rfl (by kernel_rfl) (by kernel_rfl) (by kernel_rfl) (fun _ _ _ h => h) (Or.inl ⟨by rfl, ?yws_47⟩) (by assumption) ?rws_47
  case yws_47 => (intro w hSw; (try dsimp only at hSw); go_simp; (try with_reducible rfl))
  (try simp only [Act.put, List.setIfInBounds_toArray, List.set_cons_zero, List.set_cons_succ])
  refine wpAnyH_take (i := 48) (oi := { dst := some 122, op := Go.Op.move (Go.Operand.tmp 12), type := 26, pos := "more.go:28", after := #[{ on := 47, ground := Go.Ground.guard }], guard := some (47, false) }) (v := ?vws_48) rfl (by kernel_rfl) (by kernel_rfl) (by kernel_rfl) (fun _ _ _ h => h) (Or.inl ⟨by rfl, ?yws_48⟩) (by assumption) ?rws_48
  case yws_48 => (intro w hSw; (try dsimp only at hSw); go_simp; (try with_reducible rfl))
  (try simp only [Act.put, List.setIfInBounds_toArray, List.set_cons_zero, List.set_cons_succ])
  refine wpAnyH_take (i := 49) (oi := { dst := some 123, op := Go.Op.move (Go.Operand.tmp 3), type := 3, pos := "more.go:28", after := #[{ on := 47, ground := Go.Ground.guard }], guard := some (47, false) }) (v := ?vws_49) rfl (by kernel_rfl) (by kernel_rfl) (by kernel_rfl) (fun _ _ _ h => h) (Or.inl ⟨by rfl, ?yws_49⟩) (by assumption) ?rws_49
  case yws_49 => (intro w hSw; (try dsimp only at hSw); go_simp; (try with_reducible rfl))
  (try simp only [Act.put, List.setIfInBounds_toArray, List.set_cons_zero, List.set_cons_succ])
  refine wpAnyH_take (i := 50) (oi := { dst := some 124, op := Go.Op.indexAddr 26 (Go.Operand.tmp 122) (Go.Operand.tmp 123), type := 0, pos := "more.go:28", after := #[{ on := 48, ground := Go.Ground.data }, { on := 49, ground := Go.Ground.data }, { on := 47, ground := Go.Ground.guard }], guard := some (47, false) }) (v := ?vws_50) rfl (by kernel_rfl) (by kernel_rfl) (by kernel_rfl) (fun _ _ _ h => h) (Or.inl ⟨by rfl, ?yws_50⟩) (by assumption) ?rws_50
  case yws_50 => (intro w hSw; (try dsimp only at hSw); go_simp; (try with_reducible rfl))
  (try simp only [Act.put, List.setIfInBounds_toArray, List.set_cons_zero, List.set_cons_succ])
  refine wpAnyH_take (i := 51) (oi := { dst := some 125, op := Go.Op.fieldAddr 25 (Go.Operand.tmp 124) 1, type := 0, pos := "more.go:28", after := #[{ on := 50, ground := Go.Ground.data }, { on := 47, ground := Go.Ground.guard }], guard := some (47, false) }) (v := ?vws_51) rfl (by kernel_rfl) (by kernel_rfl) (by kernel_rfl) (fun _ _ _ h => h) (Or.inl ⟨by rfl, ?yws_51⟩) (by assumption) ?rws_51
  case yws_51 => (intro w hSw; (try dsimp only at hSw); go_simp; (try with_reducible rfl))
  (try simp only [Act.put, List.setIfInBounds_toArray, List.set_cons_zero, List.set_cons_succ])
  refine wpAnyH_take (i := 52) (oi := { dst := some 126, op := Go.Op.load 3 (Go.Operand.tmp 125), type := 3, pos := "more.go:28", after := #[{ on := 51, ground := Go.Ground.data }, { on := 47, ground := Go.Ground.guard }], guard := some (47, false) }) (v := ?vws_52) rfl (by kernel_rfl) (by kernel_rfl) (by kernel_rfl) (fun _ _ _ h => h) (Or.inl ⟨by rfl, ?yws_52⟩) (by assumption) ?rws_52
  case yws_52 => (intro w hSw; (try dsimp only at hSw); go_simp; (try with_reducible rfl))
  (try simp only [Act.put, List.setIfInBounds_toArray, List.set_cons_zero, List.set_cons_succ])
  refine wpAnyH_take (i := 53) (oi := { dst := some 127, op := Go.Op.move (Go.Operand.tmp 0), type := 3, pos := "more.go:28", after := #[{ on := 47, ground := Go.Ground.guard }], guard := some (47, false) }) (v := ?vws_53) rfl (by kernel_rfl) (by kernel_rfl) (by kernel_rfl) (fun _ _ _ h => h) (Or.inl ⟨by rfl, ?yws_53⟩) (by assumption) ?rws_53
  case yws_53 => (intro w hSw; (try dsimp only at hSw); go_simp; (try with_reducible rfl))
  (try simp only [Act.put, List.setIfInBounds_toArray, List.set_cons_zero, List.set_cons_succ])
  refine wpAnyH_take (i := 54) (oi := { dst := some 128, op := Go.Op.binOp Go.BinOp.sub 3 (Go.Operand.tmp 127) (Go.Operand.const (Go.Value.int Go.IntKind.i64 1)) 3, type := 3, pos := "more.go:28", after := #[{ on := 53, ground := Go.Ground.data }, { on := 47, ground := Go.Ground.guard }], guard := some (47, false) }) (v := ?vws_54) rfl (by kernel_rfl) (by kernel_rfl) (by kernel_rfl) (fun _ _ _ h => h) (Or.inl ⟨by rfl, ?yws_54⟩) (by assumption) ?rws_54
  case yws_54 => (intro w hSw; (try dsimp only at hSw); go_simp; (try with_reducible rfl))
  (try simp only [Act.put, List.setIfInBounds_toArray, List.set_cons_zero, List.set_cons_succ])
  refine wpAnyH_take (i := 55) (oi := { dst := some 129, op := Go.Op.binOp Go.BinOp.neq 3 (Go.Operand.tmp 126) (Go.Operand.tmp 128) 3, type := 4, pos := "more.go:28", after := #[{ on := 52, ground := Go.Ground.data }, { on := 54, ground := Go.Ground.data }, { on := 47, ground := Go.Ground.guard }], guard := some (47, false) }) (v := ?vws_55) rfl (by kernel_rfl) (by kernel_rfl) (by kernel_rfl) (fun _ _ _ h => h) (Or.inl ⟨by rfl, ?yws_55⟩) (by assumption) ?rws_55
  case yws_55 => (intro w hSw; (try dsimp only at hSw); go_simp; (try with_reducible rfl))
  (try simp only [Act.put, List.setIfInBounds_toArray, List.set_cons_zero, List.set_cons_succ])
  refine wpAnyH_take (i := 56) (oi := { dst := some 130, op := Go.Op.pick (Go.Operand.tmp 121) (Go.Operand.const (Go.Value.bool true)) (Go.Operand.tmp 129), type := 4, pos := "more.go:28", after := #[{ on := 47, ground := Go.Ground.data }, { on := 55, ground := Go.Ground.data }, { on := 32, ground := Go.Ground.guard }], guard := some (32, true) }) (v := ?vws_56) rfl (by kernel_rfl) (by kernel_rfl) (by kernel_rfl) (fun _ _ _ h => h) (Or.inl ⟨by rfl, ?yws_56⟩) (by assumption) ?rws_56
  case yws_56 => (intro w hSw; (try dsimp only at hSw); go_simp; (try with_reducible rfl))
  (try simp only [Act.put, List.setIfInBounds_toArray, List.set_cons_zero, List.set_cons_succ])
  refine wpAnyH_take (i := 57) (oi := { dst := some 131, op := Go.Op.binOp Go.BinOp.eql 4 (Go.Operand.tmp 114) (Go.Operand.tmp 130) 4, type := 4, pos := "more.go:28", after := #[{ on := 40, ground := Go.Ground.data }, { on := 56, ground := Go.Ground.data }, { on := 32, ground := Go.Ground.guard }], guard := some (32, true) }) (v := ?vws_57) rfl (by kernel_rfl) (by kernel_rfl) (by kernel_rfl) (fun _ _ _ h => h) (Or.inl ⟨by rfl, ?yws_57⟩) (by assumption) ?rws_57
  case yws_57 => (intro w hSw; (try dsimp only at hSw); go_simp; (try with_reducible rfl))
  (try simp only [Act.put, List.setIfInBounds_toArray, List.set_cons_zero, List.set_cons_succ])
  refine wpAnyH_take (i := 58) (oi := { dst := some 132, op := Go.Op.pick (Go.Operand.tmp 106) (Go.Operand.tmp 131) (Go.Operand.const (Go.Value.bool false)), type := 4, pos := "more.go:28", after := #[{ on := 32, ground := Go.Ground.data }, { on := 57, ground := Go.Ground.data }], guard := none }) (v := ?vws_58) rfl (by kernel_rfl) (by kernel_rfl) (by kernel_rfl) (fun _ _ _ h => h) (Or.inl ⟨by rfl, ?yws_58⟩) (by assumption) ?rws_58
  case yws_58 => (intro w hSw; (try dsimp only at hSw); go_simp; (try with_reducible rfl))
  (try simp only [Act.put, List.setIfInBounds_toArray, List.set_cons_zero, List.set_cons_succ])
  refine wpAnyH_take (i := 59) (oi := { dst := some 10, op := Go.Op.assign (Go.Operand.tmp 132), type := 4, pos := "more.go:28", after := #[{ on := 58, ground := Go.Ground.data }, { on := 47, ground := Go.Ground.chain }, { on := 0, ground := Go.Ground.phase }, { on := 1, ground := Go.Ground.phase }, { on := 2, ground := Go.Ground.phase }, { on := 3, ground := Go.Ground.phase }, { on := 4, ground := Go.Ground.phase }, { on := 5, ground := Go.Ground.phase }, { on := 6, ground := Go.Ground.phase }, { on := 7, ground := Go.Ground.phase }, { on := 8, ground := Go.Ground.phase }, { on := 9, ground := Go.Ground.phase }, { on := 10, ground := Go.Ground.phase }, { on := 11, ground := Go.Ground.phase }, { on := 12, ground := Go.Ground.phase }, { on := 13, ground := Go.Ground.phase }, { on := 14, ground := Go.Ground.phase }, { on := 15, ground := Go.Ground.phase }, { on := 16, ground := Go.Ground.phase }, { on := 17, ground := Go.Ground.phase }, { on := 18, ground := Go.Ground.phase }, { on := 19, ground := Go.Ground.phase }, { on := 20, ground := Go.Ground.phase }, { on := 21, ground := Go.Ground.phase }, { on := 22, ground := Go.Ground.phase }, { on := 23, ground := Go.Ground.phase }, { on := 24, ground := Go.Ground.phase }, { on := 25, ground := Go.Ground.phase }, { on := 26, ground := Go.Ground.phase }, { on := 27, ground := Go.Ground.phase }, { on := 28, ground := Go.Ground.phase }, { on := 29, ground := Go.Ground.phase }, { on := 30, ground := Go.Ground.phase }, { on := 31, ground := Go.Ground.phase }, { on := 32, ground := Go.Ground.phase }, { on := 33, ground := Go.Ground.phase }, { on := 34, ground := Go.Ground.phase }, { on := 35, ground := Go.Ground.phase }, { on := 36, ground := Go.Ground.phase }, { on := 37, ground := Go.Ground.phase }, { on := 38, ground := Go.Ground.phase }, { on := 39, ground := Go.Ground.phase }, { on := 40, ground := Go.Ground.phase }, { on := 41, ground := Go.Ground.phase }, { on := 42, ground := Go.Ground.phase }, { on := 43, ground := Go.Ground.phase }, { on := 44, ground := Go.Ground.phase }, { on := 45, ground := Go.Ground.phase }, { on := 46, ground := Go.Ground.phase }, { on := 47, ground := Go.Ground.phase }, { on := 48, ground := Go.Ground.phase }, { on := 49, ground := Go.Ground.phase }, { on := 50, ground := Go.Ground.phase }, { on := 51, ground := Go.Ground.phase }, { on := 52, ground := Go.Ground.phase }, { on := 53, ground := Go.Ground.phase }, { on := 54, ground := Go.Ground.phase }, { on := 55, ground := Go.Ground.phase }, { on := 56, ground := Go.Ground.phase }, { on := 57, ground := Go.Ground.phase }, { on := 58, ground := Go.Ground.phase }], guard := none }) (v := ?vws_59) rfl (by kernel_rfl) (by kernel_rfl) (by kernel_rfl) (fun _ _ _ h => h) (Or.inl ⟨by rfl, ?yws_59⟩) (by assumption) ?rws_59
  case yws_59 => (intro w hSw; (try dsimp only at hSw); go_simp; (try with_reducible rfl))
  (try simp only [Act.put, List.setIfInBounds_toArray, List.set_cons_zero, List.set_cons_succ])
  refine wpAnyH_done (by kernel_rfl) ?_ _
  have HEND := Lib.hid (Z.out.trans ((hHeld.2.2.2).mono Z.out.size))
  clear hHeld
  go_wp2
  go_ret
  exact ⟨rfl, HEND.out⟩
set_option maxRecDepth 100000 in
set_option maxHeartbeats 8000000 in
theorem round_wn (m q i k : Nat) (d : Int) (w : World) (hm : m ≤ 20) (hq : q ≤ 20) (hi : i < m) (hil : i < m + q) (hkl : k < m + q) (hik : ¬ i = k) : Tells 8 #[.int .i64 m, .int .i64 q, .int .u64 d, .int .i64 (i : Int), .int .i64 (k : Int)] w (.bool true) := by
  have d0 : decide ((m : Int) < 0) = false := decide_eq_false (by omega)
  have d1 : decide ((q : Int) < 0) = false := decide_eq_false (by omega)
  have d2 : decide (20 < (m : Int)) = false := decide_eq_false (by omega)
  have d3 : decide (20 < (q : Int)) = false := decide_eq_false (by omega)
  obtain ⟨n, hn⟩ : ∃ n, n = m + q := ⟨_, rfl⟩
  have e1 : ((n : Int) != (m : Int) + (q : Int)) = false := by rw [hn]; simp
  have e2 : ((n : Int) == (m : Int) + (q : Int)) = true := by rw [hn]; simp
  have hn4 : n ≤ 40 := by omega
  have fi0 : decide ((i : Int) < 0) = false := decide_eq_false (by omega)
  have fi1 : decide ((n : Int) ≤ (i : Int)) = false := decide_eq_false (by omega)
  have fi2 : decide (n ≤ i) = false := decide_eq_false (by omega)
  have fi3 : i < n := by omega
  have fk0 : decide ((k : Int) < 0) = false := decide_eq_false (by omega)
  have fk1 : decide ((n : Int) ≤ (k : Int)) = false := decide_eq_false (by omega)
  have fk2 : decide (n ≤ k) = false := decide_eq_false (by omega)
  have fk3 : k < n := by omega
  have RI := Lib.hid (show rn m d i = (0, (i : Int), d) by unfold rn; rw [if_pos hi])
  have F1 := Lib.hid (show fit (0, (i : Int), d) m q = true by have := fit_rn (d := d) hil; rw [RI.out] at this; exact this)
  have F2 := Lib.hid (fit_less_w (q := q) (d := d) hi)
  have dd : (d == d) = true := by simp
  have wm : IntKind.i64.wrap ((m : Int) - 1) = (m : Int) - 1 := by rw [IntKind.wrap_i64]; omega
  have ik : ((i : Int) == (k : Int)) = false := by simp; omega
  have ik2 : (i == k) = false := by simp; exact hik
  have pk := pe_no (rn_ne (m := m) (d := d) hik)
  rw [RI.out] at pk
  have BV := Lib.hid (show ((i : Int) != (m : Int) - 1) = ((i : Int) != (m : Int) - 1) from rfl)
  obtain ⟨bv, hbv⟩ : ∃ bv : Bool, ((i : Int) != (m : Int) - 1) = bv := ⟨_, rfl⟩
  have bb : (bv == bv) = true := by simp
  have F2 := Lib.hid (F2.out.trans hbv)
  clear BV
  have k0 : ((0 : Int) != 0) = false := by simp
  have RK := Lib.hid (rndN_at (m := m) (d := d) (j := n) fk3)
  generalize rn m d k = y at *
  have RI2 := Lib.hid (rndN_at (m := m) (d := d) (j := n) fi3)
  go_enter Try.func8, Try.ntmps8
  go_wp2_with fail
  refine (awake_any _).mono ?_
  rintro _ w1 ⟨rfl, z1⟩
  have Z := Lib.hid z1
  clear z1
  go_wp2_with fail
  refine (round_yes m q d w1 hm hq).mono ?_
  rintro _ w2 ⟨X, c, rfl, ox, z2⟩
  replace Z := Lib.hid (Z.out.trans (z2.mono Z.out.size))
  rw [rndN_len, ← hn]
  rw [rndN_len, ← hn] at ox
  obtain ⟨xb, xo, rfl, xl, xc⟩ := ox.pr (by rw [rndN_len]; omega)
  obtain ⟨x0, x1, x2⟩ := xc i _ (RI2.out)
  rw [RI.out] at x0 x1 x2
  obtain ⟨y0, y1, y2⟩ := xc k _ (RK.out)
  dsimp only at x0 x1 x2 pk
  have Z2 := Lib.hid z2
  clear z2 ox xc hn
  go_wp2_with fail
  have K : ∀ w', Below w2.heap.size w2 w' → w'.cell? ⟨xb, xo + i * 3, none⟩ = some (.int .i64 0) ∧ w'.cell? ⟨xb, xo + i * 3 + 1, none⟩ = some (.int .i64 (i : Int)) ∧ w'.cell? ⟨xb, xo + i * 3 + 2, none⟩ = some (.int .u64 d) ∧ w'.cell? ⟨xb, xo + k * 3, none⟩ = some (.int .i64 y.1) ∧ w'.cell? ⟨xb, xo + k * 3 + 1, none⟩ = some (.int .i64 y.2.1) ∧ w'.cell? ⟨xb, xo + k * 3 + 2, none⟩ = some (.int .u64 y.2.2) ∧ Below w2.heap.size w2 w' := fun w' hb => ⟨(hb.cell (p := ⟨xb, xo + i * 3, none⟩) xl).trans x0, (hb.cell (p := ⟨xb, xo + i * 3 + 1, none⟩) xl).trans x1, (hb.cell (p := ⟨xb, xo + i * 3 + 2, none⟩) xl).trans x2, (hb.cell (p := ⟨xb, xo + k * 3, none⟩) xl).trans y0, (hb.cell (p := ⟨xb, xo + k * 3 + 1, none⟩) xl).trans y1, (hb.cell (p := ⟨xb, xo + k * 3 + 2, none⟩) xl).trans y2, hb⟩
  have HK := Lib.hid K
  clear K x0 x1 x2 y0 y1 y2
  refine wp_region_held_drew (S := fun w' => w'.cell? ⟨xb, xo + i * 3, none⟩ = some (.int .i64 0) ∧ w'.cell? ⟨xb, xo + i * 3 + 1, none⟩ = some (.int .i64 (i : Int)) ∧ w'.cell? ⟨xb, xo + i * 3 + 2, none⟩ = some (.int .u64 d) ∧ w'.cell? ⟨xb, xo + k * 3, none⟩ = some (.int .i64 y.1) ∧ w'.cell? ⟨xb, xo + k * 3 + 1, none⟩ = some (.int .i64 y.2.1) ∧ w'.cell? ⟨xb, xo + k * 3 + 2, none⟩ = some (.int .u64 y.2.2) ∧ Below w2.heap.size w2 w') (by kernel_rfl) (HK.out _ (keep_drew (Below.refl _ _))) (fun hHeld => ?_)
  refine wpAnyH_take (i := 0) (oi := { dst := some 74, op := Go.Op.move (Go.Operand.tmp 12), type := 26, pos := "more.go:28", after := #[], guard := none }) (v := ?vwn_0) rfl (by kernel_rfl) (by kernel_rfl) (by kernel_rfl) (fun _ _ _ h => h) (Or.inl ⟨by rfl, ?ywn_0⟩) (by assumption) ?rwn_0
  case ywn_0 => (intro w hSw; (try dsimp only at hSw); go_simp; (try with_reducible rfl))
  (try simp only [Act.put, List.setIfInBounds_toArray, List.set_cons_zero, List.set_cons_succ])
  refine wpAnyH_take (i := 1) (oi := { dst := some 75, op := Go.Op.move (Go.Operand.tmp 3), type := 3, pos := "more.go:28", after := #[], guard := none }) (v := ?vwn_1) rfl (by kernel_rfl) (by kernel_rfl) (by kernel_rfl) (fun _ _ _ h => h) (Or.inl ⟨by rfl, ?ywn_1⟩) (by assumption) ?rwn_1
  case ywn_1 => (intro w hSw; (try dsimp only at hSw); go_simp; (try with_reducible rfl))
  (try simp only [Act.put, List.setIfInBounds_toArray, List.set_cons_zero, List.set_cons_succ])
  refine wpAnyH_take (i := 2) (oi := { dst := some 76, op := Go.Op.indexAddr 26 (Go.Operand.tmp 74) (Go.Operand.tmp 75), type := 0, pos := "more.go:28", after := #[{ on := 0, ground := Go.Ground.data }, { on := 1, ground := Go.Ground.data }], guard := none }) (v := ?vwn_2) rfl (by kernel_rfl) (by kernel_rfl) (by kernel_rfl) (fun _ _ _ h => h) (Or.inl ⟨by rfl, ?ywn_2⟩) (by assumption) ?rwn_2
  case ywn_2 => (intro w hSw; (try dsimp only at hSw); go_simp; (try with_reducible rfl))
  (try simp only [Act.put, List.setIfInBounds_toArray, List.set_cons_zero, List.set_cons_succ])
  refine wpAnyH_take (i := 3) (oi := { dst := some 77, op := Go.Op.load 25 (Go.Operand.tmp 76), type := 25, pos := "more.go:28", after := #[{ on := 2, ground := Go.Ground.data }], guard := none }) (v := ?vwn_3) rfl (by kernel_rfl) (by kernel_rfl) (by kernel_rfl) (fun _ _ _ h => h) (Or.inl ⟨by rfl, ?ywn_3⟩) (by assumption) ?rwn_3
  case ywn_3 => (intro w hSw; (try dsimp only at hSw); go_simp; (try with_reducible rfl))
  (try simp only [Act.put, List.setIfInBounds_toArray, List.set_cons_zero, List.set_cons_succ])
  refine wpAnyH_take (i := 4) (oi := { dst := some 78, op := Go.Op.move (Go.Operand.tmp 0), type := 3, pos := "more.go:28", after := #[], guard := none }) (v := ?vwn_4) rfl (by kernel_rfl) (by kernel_rfl) (by kernel_rfl) (fun _ _ _ h => h) (Or.inl ⟨by rfl, ?ywn_4⟩) (by assumption) ?rwn_4
  case ywn_4 => (intro w hSw; (try dsimp only at hSw); go_simp; (try with_reducible rfl))
  (try simp only [Act.put, List.setIfInBounds_toArray, List.set_cons_zero, List.set_cons_succ])
  refine wpAnyH_take (i := 5) (oi := { dst := some 79, op := Go.Op.move (Go.Operand.tmp 1), type := 3, pos := "more.go:28", after := #[], guard := none }) (v := ?vwn_5) rfl (by kernel_rfl) (by kernel_rfl) (by kernel_rfl) (fun _ _ _ h => h) (Or.inl ⟨by rfl, ?ywn_5⟩) (by assumption) ?rwn_5
  case ywn_5 => (intro w hSw; (try dsimp only at hSw); go_simp; (try with_reducible rfl))
  (try simp only [Act.put, List.setIfInBounds_toArray, List.set_cons_zero, List.set_cons_succ])
  refine wpAnyH_ready (rs := [6]) (by kernel_rfl) (by simp) ?_
  refine AllReadyH.cons (o := { dst := some 80, op := Go.Op.call { callee := Go.Callee.value (Go.Operand.func 20), args := #[Go.Operand.tmp 77, Go.Operand.tmp 78, Go.Operand.tmp 79], argTypes := #[25, 3, 3] }, type := 4, pos := "more.go:28", after := #[{ on := 3, ground := Go.Ground.data }, { on := 4, ground := Go.Ground.data }, { on := 5, ground := Go.Ground.data }], guard := none }) rfl (fun K hK => ?_) AllReadyH.nil
  go_simp
  refine (Tells.of (fits_any (0, (i : Int), d) m q _) (v' := .bool true) (by rw [F1.out])).mono ?_
  rintro e w' ⟨rfl, hb⟩
  go_wp2_with fail
  refine hK.out _ _ (held_call HK.out (fun _ h => h.2.2.2.2.2.2) hb hHeld) (fun hHeld2 => ?_)
  clear hK K hHeld
  have hHeld := hHeld2
  clear hHeld2
  (try simp only [Act.put, List.setIfInBounds_toArray, List.set_cons_zero, List.set_cons_succ])
  refine wpAnyH_take (i := 7) (oi := { dst := some 81, op := Go.Op.move (Go.Operand.tmp 80), type := 4, pos := "more.go:28", after := #[{ on := 6, ground := Go.Ground.data }, { on := 6, ground := Go.Ground.chain }], guard := none }) (v := ?vwn_7) rfl (by kernel_rfl) (by kernel_rfl) (by kernel_rfl) (fun _ _ _ h => h) (Or.inl ⟨by rfl, ?ywn_7⟩) (by assumption) ?rwn_7
  case ywn_7 => (intro w hSw; (try dsimp only at hSw); go_simp; (try with_reducible rfl))
  (try simp only [Act.put, List.setIfInBounds_toArray, List.set_cons_zero, List.set_cons_succ])
  refine wpAnyH_take (i := 8) (oi := { dst := some 82, op := Go.Op.move (Go.Operand.tmp 12), type := 26, pos := "more.go:28", after := #[{ on := 7, ground := Go.Ground.guard }], guard := some (7, true) }) (v := ?vwn_8) rfl (by kernel_rfl) (by kernel_rfl) (by kernel_rfl) (fun _ _ _ h => h) (Or.inl ⟨by rfl, ?ywn_8⟩) (by assumption) ?rwn_8
  case ywn_8 => (intro w hSw; (try dsimp only at hSw); go_simp; (try with_reducible rfl))
  (try simp only [Act.put, List.setIfInBounds_toArray, List.set_cons_zero, List.set_cons_succ])
  refine wpAnyH_take (i := 9) (oi := { dst := some 83, op := Go.Op.move (Go.Operand.tmp 3), type := 3, pos := "more.go:28", after := #[{ on := 7, ground := Go.Ground.guard }], guard := some (7, true) }) (v := ?vwn_9) rfl (by kernel_rfl) (by kernel_rfl) (by kernel_rfl) (fun _ _ _ h => h) (Or.inl ⟨by rfl, ?ywn_9⟩) (by assumption) ?rwn_9
  case ywn_9 => (intro w hSw; (try dsimp only at hSw); go_simp; (try with_reducible rfl))
  (try simp only [Act.put, List.setIfInBounds_toArray, List.set_cons_zero, List.set_cons_succ])
  refine wpAnyH_take (i := 10) (oi := { dst := some 84, op := Go.Op.indexAddr 26 (Go.Operand.tmp 82) (Go.Operand.tmp 83), type := 0, pos := "more.go:28", after := #[{ on := 8, ground := Go.Ground.data }, { on := 9, ground := Go.Ground.data }, { on := 7, ground := Go.Ground.guard }], guard := some (7, true) }) (v := ?vwn_10) rfl (by kernel_rfl) (by kernel_rfl) (by kernel_rfl) (fun _ _ _ h => h) (Or.inl ⟨by rfl, ?ywn_10⟩) (by assumption) ?rwn_10
  case ywn_10 => (intro w hSw; (try dsimp only at hSw); go_simp; (try with_reducible rfl))
  (try simp only [Act.put, List.setIfInBounds_toArray, List.set_cons_zero, List.set_cons_succ])
  refine wpAnyH_take (i := 11) (oi := { dst := some 85, op := Go.Op.fieldAddr 25 (Go.Operand.tmp 84) 2, type := 0, pos := "more.go:28", after := #[{ on := 10, ground := Go.Ground.data }, { on := 7, ground := Go.Ground.guard }], guard := some (7, true) }) (v := ?vwn_11) rfl (by kernel_rfl) (by kernel_rfl) (by kernel_rfl) (fun _ _ _ h => h) (Or.inl ⟨by rfl, ?ywn_11⟩) (by assumption) ?rwn_11
  case ywn_11 => (intro w hSw; (try dsimp only at hSw); go_simp; (try with_reducible rfl))
  (try simp only [Act.put, List.setIfInBounds_toArray, List.set_cons_zero, List.set_cons_succ])
  refine wpAnyH_take (i := 12) (oi := { dst := some 86, op := Go.Op.load 23 (Go.Operand.tmp 85), type := 23, pos := "more.go:28", after := #[{ on := 11, ground := Go.Ground.data }, { on := 7, ground := Go.Ground.guard }], guard := some (7, true) }) (v := ?vwn_12) rfl (by kernel_rfl) (by kernel_rfl) (by kernel_rfl) (fun _ _ _ h => h) (Or.inl ⟨by rfl, ?ywn_12⟩) (by assumption) ?rwn_12
  case ywn_12 => (intro w hSw; (try dsimp only at hSw); go_simp; (try with_reducible rfl))
  (try simp only [Act.put, List.setIfInBounds_toArray, List.set_cons_zero, List.set_cons_succ])
  refine wpAnyH_take (i := 13) (oi := { dst := some 87, op := Go.Op.move (Go.Operand.tmp 2), type := 23, pos := "more.go:28", after := #[{ on := 7, ground := Go.Ground.guard }], guard := some (7, true) }) (v := ?vwn_13) rfl (by kernel_rfl) (by kernel_rfl) (by kernel_rfl) (fun _ _ _ h => h) (Or.inl ⟨by rfl, ?ywn_13⟩) (by assumption) ?rwn_13
  case ywn_13 => (intro w hSw; (try dsimp only at hSw); go_simp; (try with_reducible rfl))
  (try simp only [Act.put, List.setIfInBounds_toArray, List.set_cons_zero, List.set_cons_succ])
  refine wpAnyH_take (i := 14) (oi := { dst := some 88, op := Go.Op.binOp Go.BinOp.eql 23 (Go.Operand.tmp 86) (Go.Operand.tmp 87) 23, type := 4, pos := "more.go:28", after := #[{ on := 12, ground := Go.Ground.data }, { on := 13, ground := Go.Ground.data }, { on := 7, ground := Go.Ground.guard }], guard := some (7, true) }) (v := ?vwn_14) rfl (by kernel_rfl) (by kernel_rfl) (by kernel_rfl) (fun _ _ _ h => h) (Or.inl ⟨by rfl, ?ywn_14⟩) (by assumption) ?rwn_14
  case ywn_14 => (intro w hSw; (try dsimp only at hSw); go_simp; (try with_reducible rfl))
  (try simp only [Act.put, List.setIfInBounds_toArray, List.set_cons_zero, List.set_cons_succ])
  refine wpAnyH_take (i := 15) (oi := { dst := some 89, op := Go.Op.pick (Go.Operand.tmp 81) (Go.Operand.tmp 88) (Go.Operand.const (Go.Value.bool false)), type := 4, pos := "more.go:28", after := #[{ on := 7, ground := Go.Ground.data }, { on := 14, ground := Go.Ground.data }], guard := none }) (v := ?vwn_15) rfl (by kernel_rfl) (by kernel_rfl) (by kernel_rfl) (fun _ _ _ h => h) (Or.inl ⟨by rfl, ?ywn_15⟩) (by assumption) ?rwn_15
  case ywn_15 => (intro w hSw; (try dsimp only at hSw); go_simp; (try with_reducible rfl))
  (try simp only [Act.put, List.setIfInBounds_toArray, List.set_cons_zero, List.set_cons_succ])
  refine wpAnyH_take (i := 16) (oi := { dst := some 90, op := Go.Op.move (Go.Operand.tmp 89), type := 4, pos := "more.go:28", after := #[{ on := 15, ground := Go.Ground.data }, { on := 7, ground := Go.Ground.chain }], guard := none }) (v := ?vwn_16) rfl (by kernel_rfl) (by kernel_rfl) (by kernel_rfl) (fun _ _ _ h => h) (Or.inl ⟨by rfl, ?ywn_16⟩) (by assumption) ?rwn_16
  case ywn_16 => (intro w hSw; (try dsimp only at hSw); go_simp; (try with_reducible rfl))
  (try simp only [Act.put, List.setIfInBounds_toArray, List.set_cons_zero, List.set_cons_succ])
  refine wpAnyH_take (i := 17) (oi := { dst := some 91, op := Go.Op.move (Go.Operand.tmp 3), type := 3, pos := "more.go:28", after := #[{ on := 16, ground := Go.Ground.guard }], guard := some (16, true) }) (v := ?vwn_17) rfl (by kernel_rfl) (by kernel_rfl) (by kernel_rfl) (fun _ _ _ h => h) (Or.inl ⟨by rfl, ?ywn_17⟩) (by assumption) ?rwn_17
  case ywn_17 => (intro w hSw; (try dsimp only at hSw); go_simp; (try with_reducible rfl))
  (try simp only [Act.put, List.setIfInBounds_toArray, List.set_cons_zero, List.set_cons_succ])
  refine wpAnyH_take (i := 18) (oi := { dst := some 92, op := Go.Op.move (Go.Operand.tmp 4), type := 3, pos := "more.go:28", after := #[{ on := 16, ground := Go.Ground.guard }], guard := some (16, true) }) (v := ?vwn_18) rfl (by kernel_rfl) (by kernel_rfl) (by kernel_rfl) (fun _ _ _ h => h) (Or.inl ⟨by rfl, ?ywn_18⟩) (by assumption) ?rwn_18
  case ywn_18 => (intro w hSw; (try dsimp only at hSw); go_simp; (try with_reducible rfl))
  (try simp only [Act.put, List.setIfInBounds_toArray, List.set_cons_zero, List.set_cons_succ])
  refine wpAnyH_take (i := 19) (oi := { dst := some 93, op := Go.Op.binOp Go.BinOp.eql 3 (Go.Operand.tmp 91) (Go.Operand.tmp 92) 3, type := 4, pos := "more.go:28", after := #[{ on := 17, ground := Go.Ground.data }, { on := 18, ground := Go.Ground.data }, { on := 16, ground := Go.Ground.guard }], guard := some (16, true) }) (v := ?vwn_19) rfl (by kernel_rfl) (by kernel_rfl) (by kernel_rfl) (fun _ _ _ h => h) (Or.inl ⟨by rfl, ?ywn_19⟩) (by assumption) ?rwn_19
  case ywn_19 => (intro w hSw; (try dsimp only at hSw); go_simp; (try with_reducible rfl))
  (try simp only [Act.put, List.setIfInBounds_toArray, List.set_cons_zero, List.set_cons_succ])
  refine wpAnyH_take (i := 20) (oi := { dst := some 94, op := Go.Op.move (Go.Operand.tmp 93), type := 4, pos := "more.go:28", after := #[{ on := 19, ground := Go.Ground.data }, { on := 16, ground := Go.Ground.chain }, { on := 16, ground := Go.Ground.guard }], guard := some (16, true) }) (v := ?vwn_20) rfl (by kernel_rfl) (by kernel_rfl) (by kernel_rfl) (fun _ _ _ h => h) (Or.inl ⟨by rfl, ?ywn_20⟩) (by assumption) ?rwn_20
  case ywn_20 => (intro w hSw; (try dsimp only at hSw); go_simp; (try with_reducible rfl))
  (try simp only [Act.put, List.setIfInBounds_toArray, List.set_cons_zero, List.set_cons_succ])
  refine wpAnyH_take (i := 21) (oi := { dst := some 95, op := Go.Op.move (Go.Operand.tmp 12), type := 26, pos := "more.go:28", after := #[{ on := 20, ground := Go.Ground.guard }], guard := some (20, false) }) (v := ?vwn_21) rfl (by kernel_rfl) (by kernel_rfl) (by kernel_rfl) (fun _ _ _ h => h) (Or.inl ⟨by rfl, ?ywn_21⟩) (by assumption) ?rwn_21
  case ywn_21 => (intro w hSw; (try dsimp only at hSw); go_simp; (try with_reducible rfl))
  (try simp only [Act.put, List.setIfInBounds_toArray, List.set_cons_zero, List.set_cons_succ])
  refine wpAnyH_take (i := 22) (oi := { dst := some 96, op := Go.Op.move (Go.Operand.tmp 3), type := 3, pos := "more.go:28", after := #[{ on := 20, ground := Go.Ground.guard }], guard := some (20, false) }) (v := ?vwn_22) rfl (by kernel_rfl) (by kernel_rfl) (by kernel_rfl) (fun _ _ _ h => h) (Or.inl ⟨by rfl, ?ywn_22⟩) (by assumption) ?rwn_22
  case ywn_22 => (intro w hSw; (try dsimp only at hSw); go_simp; (try with_reducible rfl))
  (try simp only [Act.put, List.setIfInBounds_toArray, List.set_cons_zero, List.set_cons_succ])
  refine wpAnyH_take (i := 23) (oi := { dst := some 97, op := Go.Op.indexAddr 26 (Go.Operand.tmp 95) (Go.Operand.tmp 96), type := 0, pos := "more.go:28", after := #[{ on := 21, ground := Go.Ground.data }, { on := 22, ground := Go.Ground.data }, { on := 20, ground := Go.Ground.guard }], guard := some (20, false) }) (v := ?vwn_23) rfl (by kernel_rfl) (by kernel_rfl) (by kernel_rfl) (fun _ _ _ h => h) (Or.inl ⟨by rfl, ?ywn_23⟩) (by assumption) ?rwn_23
  case ywn_23 => (intro w hSw; (try dsimp only at hSw); go_simp; (try with_reducible rfl))
  (try simp only [Act.put, List.setIfInBounds_toArray, List.set_cons_zero, List.set_cons_succ])
  refine wpAnyH_take (i := 24) (oi := { dst := some 98, op := Go.Op.load 25 (Go.Operand.tmp 97), type := 25, pos := "more.go:28", after := #[{ on := 23, ground := Go.Ground.data }, { on := 20, ground := Go.Ground.guard }], guard := some (20, false) }) (v := ?vwn_24) rfl (by kernel_rfl) (by kernel_rfl) (by kernel_rfl) (fun _ _ _ h => h) (Or.inl ⟨by rfl, ?ywn_24⟩) (by assumption) ?rwn_24
  case ywn_24 => (intro w hSw; (try dsimp only at hSw); go_simp; (try with_reducible rfl))
  (try simp only [Act.put, List.setIfInBounds_toArray, List.set_cons_zero, List.set_cons_succ])
  refine wpAnyH_take (i := 25) (oi := { dst := some 99, op := Go.Op.move (Go.Operand.tmp 12), type := 26, pos := "more.go:28", after := #[{ on := 20, ground := Go.Ground.guard }], guard := some (20, false) }) (v := ?vwn_25) rfl (by kernel_rfl) (by kernel_rfl) (by kernel_rfl) (fun _ _ _ h => h) (Or.inl ⟨by rfl, ?ywn_25⟩) (by assumption) ?rwn_25
  case ywn_25 => (intro w hSw; (try dsimp only at hSw); go_simp; (try with_reducible rfl))
  (try simp only [Act.put, List.setIfInBounds_toArray, List.set_cons_zero, List.set_cons_succ])
  refine wpAnyH_take (i := 26) (oi := { dst := some 100, op := Go.Op.move (Go.Operand.tmp 4), type := 3, pos := "more.go:28", after := #[{ on := 20, ground := Go.Ground.guard }], guard := some (20, false) }) (v := ?vwn_26) rfl (by kernel_rfl) (by kernel_rfl) (by kernel_rfl) (fun _ _ _ h => h) (Or.inl ⟨by rfl, ?ywn_26⟩) (by assumption) ?rwn_26
  case ywn_26 => (intro w hSw; (try dsimp only at hSw); go_simp; (try with_reducible rfl))
  (try simp only [Act.put, List.setIfInBounds_toArray, List.set_cons_zero, List.set_cons_succ])
  refine wpAnyH_take (i := 27) (oi := { dst := some 101, op := Go.Op.indexAddr 26 (Go.Operand.tmp 99) (Go.Operand.tmp 100), type := 0, pos := "more.go:28", after := #[{ on := 25, ground := Go.Ground.data }, { on := 26, ground := Go.Ground.data }, { on := 20, ground := Go.Ground.guard }], guard := some (20, false) }) (v := ?vwn_27) rfl (by kernel_rfl) (by kernel_rfl) (by kernel_rfl) (fun _ _ _ h => h) (Or.inl ⟨by rfl, ?ywn_27⟩) (by assumption) ?rwn_27
  case ywn_27 => (intro w hSw; (try dsimp only at hSw); go_simp; (try with_reducible rfl))
  (try simp only [Act.put, List.setIfInBounds_toArray, List.set_cons_zero, List.set_cons_succ])
  refine wpAnyH_take (i := 28) (oi := { dst := some 102, op := Go.Op.load 25 (Go.Operand.tmp 101), type := 25, pos := "more.go:28", after := #[{ on := 27, ground := Go.Ground.data }, { on := 20, ground := Go.Ground.guard }], guard := some (20, false) }) (v := ?vwn_28) rfl (by kernel_rfl) (by kernel_rfl) (by kernel_rfl) (fun _ _ _ h => h) (Or.inl ⟨by rfl, ?ywn_28⟩) (by assumption) ?rwn_28
  case ywn_28 => (intro w hSw; (try dsimp only at hSw); go_simp; (try with_reducible rfl))
  (try simp only [Act.put, List.setIfInBounds_toArray, List.set_cons_zero, List.set_cons_succ])
  refine wpAnyH_take (i := 29) (oi := { dst := some 103, op := Go.Op.binOp Go.BinOp.neq 25 (Go.Operand.tmp 98) (Go.Operand.tmp 102) 25, type := 4, pos := "more.go:28", after := #[{ on := 24, ground := Go.Ground.data }, { on := 28, ground := Go.Ground.data }, { on := 20, ground := Go.Ground.guard }], guard := some (20, false) }) (v := ?vwn_29) rfl (by kernel_rfl) (by kernel_rfl) (by kernel_rfl) (fun _ _ _ h => h) (Or.inl ⟨by rfl, ?ywn_29⟩) (by assumption) ?rwn_29
  case ywn_29 => (intro w hSw; (try dsimp only at hSw); go_simp; (try with_reducible rfl))
  (try simp only [Act.put, List.setIfInBounds_toArray, List.set_cons_zero, List.set_cons_succ])
  refine wpAnyH_take (i := 30) (oi := { dst := some 104, op := Go.Op.pick (Go.Operand.tmp 94) (Go.Operand.const (Go.Value.bool true)) (Go.Operand.tmp 103), type := 4, pos := "more.go:28", after := #[{ on := 20, ground := Go.Ground.data }, { on := 29, ground := Go.Ground.data }, { on := 16, ground := Go.Ground.guard }], guard := some (16, true) }) (v := ?vwn_30) rfl (by kernel_rfl) (by kernel_rfl) (by kernel_rfl) (fun _ _ _ h => h) (Or.inl ⟨by rfl, ?ywn_30⟩) (by assumption) ?rwn_30
  case ywn_30 => (intro w hSw; (try dsimp only at hSw); go_simp; (try with_reducible rfl))
  (try simp only [Act.put, List.setIfInBounds_toArray, List.set_cons_zero, List.set_cons_succ])
  refine wpAnyH_take (i := 31) (oi := { dst := some 105, op := Go.Op.pick (Go.Operand.tmp 90) (Go.Operand.tmp 104) (Go.Operand.const (Go.Value.bool false)), type := 4, pos := "more.go:28", after := #[{ on := 16, ground := Go.Ground.data }, { on := 30, ground := Go.Ground.data }], guard := none }) (v := ?vwn_31) rfl (by kernel_rfl) (by kernel_rfl) (by kernel_rfl) (fun _ _ _ h => h) (Or.inl ⟨by rfl, ?ywn_31⟩) (by assumption) ?rwn_31
  case ywn_31 => (intro w hSw; (try dsimp only at hSw); go_simp; (try with_reducible rfl))
  (try simp only [Act.put, List.setIfInBounds_toArray, List.set_cons_zero, List.set_cons_succ])
  refine wpAnyH_take (i := 32) (oi := { dst := some 106, op := Go.Op.move (Go.Operand.tmp 105), type := 4, pos := "more.go:28", after := #[{ on := 31, ground := Go.Ground.data }, { on := 20, ground := Go.Ground.chain }], guard := none }) (v := ?vwn_32) rfl (by kernel_rfl) (by kernel_rfl) (by kernel_rfl) (fun _ _ _ h => h) (Or.inl ⟨by rfl, ?ywn_32⟩) (by assumption) ?rwn_32
  case ywn_32 => (intro w hSw; (try dsimp only at hSw); go_simp; (try with_reducible rfl))
  (try simp only [Act.put, List.setIfInBounds_toArray, List.set_cons_zero, List.set_cons_succ])
  refine wpAnyH_take (i := 33) (oi := { dst := some 107, op := Go.Op.move (Go.Operand.tmp 12), type := 26, pos := "more.go:28", after := #[{ on := 32, ground := Go.Ground.guard }], guard := some (32, true) }) (v := ?vwn_33) rfl (by kernel_rfl) (by kernel_rfl) (by kernel_rfl) (fun _ _ _ h => h) (Or.inl ⟨by rfl, ?ywn_33⟩) (by assumption) ?rwn_33
  case ywn_33 => (intro w hSw; (try dsimp only at hSw); go_simp; (try with_reducible rfl))
  (try simp only [Act.put, List.setIfInBounds_toArray, List.set_cons_zero, List.set_cons_succ])
  refine wpAnyH_take (i := 34) (oi := { dst := some 108, op := Go.Op.move (Go.Operand.tmp 3), type := 3, pos := "more.go:28", after := #[{ on := 32, ground := Go.Ground.guard }], guard := some (32, true) }) (v := ?vwn_34) rfl (by kernel_rfl) (by kernel_rfl) (by kernel_rfl) (fun _ _ _ h => h) (Or.inl ⟨by rfl, ?ywn_34⟩) (by assumption) ?rwn_34
  case ywn_34 => (intro w hSw; (try dsimp only at hSw); go_simp; (try with_reducible rfl))
  (try simp only [Act.put, List.setIfInBounds_toArray, List.set_cons_zero, List.set_cons_succ])
  refine wpAnyH_take (i := 35) (oi := { dst := some 109, op := Go.Op.indexAddr 26 (Go.Operand.tmp 107) (Go.Operand.tmp 108), type := 0, pos := "more.go:28", after := #[{ on := 33, ground := Go.Ground.data }, { on := 34, ground := Go.Ground.data }, { on := 32, ground := Go.Ground.guard }], guard := some (32, true) }) (v := ?vwn_35) rfl (by kernel_rfl) (by kernel_rfl) (by kernel_rfl) (fun _ _ _ h => h) (Or.inl ⟨by rfl, ?ywn_35⟩) (by assumption) ?rwn_35
  case ywn_35 => (intro w hSw; (try dsimp only at hSw); go_simp; (try with_reducible rfl))
  (try simp only [Act.put, List.setIfInBounds_toArray, List.set_cons_zero, List.set_cons_succ])
  refine wpAnyH_take (i := 36) (oi := { dst := some 110, op := Go.Op.load 25 (Go.Operand.tmp 109), type := 25, pos := "more.go:28", after := #[{ on := 35, ground := Go.Ground.data }, { on := 32, ground := Go.Ground.guard }], guard := some (32, true) }) (v := ?vwn_36) rfl (by kernel_rfl) (by kernel_rfl) (by kernel_rfl) (fun _ _ _ h => h) (Or.inl ⟨by rfl, ?ywn_36⟩) (by assumption) ?rwn_36
  case ywn_36 => (intro w hSw; (try dsimp only at hSw); go_simp; (try with_reducible rfl))
  (try simp only [Act.put, List.setIfInBounds_toArray, List.set_cons_zero, List.set_cons_succ])
  refine wpAnyH_take (i := 37) (oi := { dst := some 111, op := Go.Op.move (Go.Operand.tmp 0), type := 3, pos := "more.go:28", after := #[{ on := 32, ground := Go.Ground.guard }], guard := some (32, true) }) (v := ?vwn_37) rfl (by kernel_rfl) (by kernel_rfl) (by kernel_rfl) (fun _ _ _ h => h) (Or.inl ⟨by rfl, ?ywn_37⟩) (by assumption) ?rwn_37
  case ywn_37 => (intro w hSw; (try dsimp only at hSw); go_simp; (try with_reducible rfl))
  (try simp only [Act.put, List.setIfInBounds_toArray, List.set_cons_zero, List.set_cons_succ])
  refine wpAnyH_take (i := 38) (oi := { dst := some 112, op := Go.Op.binOp Go.BinOp.sub 3 (Go.Operand.tmp 111) (Go.Operand.const (Go.Value.int Go.IntKind.i64 1)) 3, type := 3, pos := "more.go:28", after := #[{ on := 37, ground := Go.Ground.data }, { on := 32, ground := Go.Ground.guard }], guard := some (32, true) }) (v := ?vwn_38) rfl (by kernel_rfl) (by kernel_rfl) (by kernel_rfl) (fun _ _ _ h => h) (Or.inl ⟨by rfl, ?ywn_38⟩) (by assumption) ?rwn_38
  case ywn_38 => (intro w hSw; (try dsimp only at hSw); go_simp; (try with_reducible rfl))
  (try simp only [Act.put, List.setIfInBounds_toArray, List.set_cons_zero, List.set_cons_succ])
  refine wpAnyH_take (i := 39) (oi := { dst := some 113, op := Go.Op.move (Go.Operand.tmp 1), type := 3, pos := "more.go:28", after := #[{ on := 32, ground := Go.Ground.guard }], guard := some (32, true) }) (v := ?vwn_39) rfl (by kernel_rfl) (by kernel_rfl) (by kernel_rfl) (fun _ _ _ h => h) (Or.inl ⟨by rfl, ?ywn_39⟩) (by assumption) ?rwn_39
  case ywn_39 => (intro w hSw; (try dsimp only at hSw); go_simp; (try with_reducible rfl))
  (try simp only [Act.put, List.setIfInBounds_toArray, List.set_cons_zero, List.set_cons_succ])
  refine wpAnyH_take (i := 41) (oi := { dst := some 115, op := Go.Op.move (Go.Operand.tmp 12), type := 26, pos := "more.go:28", after := #[{ on := 32, ground := Go.Ground.guard }], guard := some (32, true) }) (v := ?vwn_41) rfl (by kernel_rfl) (by kernel_rfl) (by kernel_rfl) (fun _ _ _ h => h) (Or.inl ⟨by rfl, ?ywn_41⟩) (by assumption) ?rwn_41
  case ywn_41 => (intro w hSw; (try dsimp only at hSw); go_simp; (try with_reducible rfl))
  (try simp only [Act.put, List.setIfInBounds_toArray, List.set_cons_zero, List.set_cons_succ])
  refine wpAnyH_take (i := 42) (oi := { dst := some 116, op := Go.Op.move (Go.Operand.tmp 3), type := 3, pos := "more.go:28", after := #[{ on := 32, ground := Go.Ground.guard }], guard := some (32, true) }) (v := ?vwn_42) rfl (by kernel_rfl) (by kernel_rfl) (by kernel_rfl) (fun _ _ _ h => h) (Or.inl ⟨by rfl, ?ywn_42⟩) (by assumption) ?rwn_42
  case ywn_42 => (intro w hSw; (try dsimp only at hSw); go_simp; (try with_reducible rfl))
  (try simp only [Act.put, List.setIfInBounds_toArray, List.set_cons_zero, List.set_cons_succ])
  refine wpAnyH_take (i := 43) (oi := { dst := some 117, op := Go.Op.indexAddr 26 (Go.Operand.tmp 115) (Go.Operand.tmp 116), type := 0, pos := "more.go:28", after := #[{ on := 41, ground := Go.Ground.data }, { on := 42, ground := Go.Ground.data }, { on := 32, ground := Go.Ground.guard }], guard := some (32, true) }) (v := ?vwn_43) rfl (by kernel_rfl) (by kernel_rfl) (by kernel_rfl) (fun _ _ _ h => h) (Or.inl ⟨by rfl, ?ywn_43⟩) (by assumption) ?rwn_43
  case ywn_43 => (intro w hSw; (try dsimp only at hSw); go_simp; (try with_reducible rfl))
  (try simp only [Act.put, List.setIfInBounds_toArray, List.set_cons_zero, List.set_cons_succ])
  refine wpAnyH_take (i := 44) (oi := { dst := some 118, op := Go.Op.fieldAddr 25 (Go.Operand.tmp 117) 0, type := 0, pos := "more.go:28", after := #[{ on := 43, ground := Go.Ground.data }, { on := 32, ground := Go.Ground.guard }], guard := some (32, true) }) (v := ?vwn_44) rfl (by kernel_rfl) (by kernel_rfl) (by kernel_rfl) (fun _ _ _ h => h) (Or.inl ⟨by rfl, ?ywn_44⟩) (by assumption) ?rwn_44
  case ywn_44 => (intro w hSw; (try dsimp only at hSw); go_simp; (try with_reducible rfl))
  (try simp only [Act.put, List.setIfInBounds_toArray, List.set_cons_zero, List.set_cons_succ])
  refine wpAnyH_take (i := 45) (oi := { dst := some 119, op := Go.Op.load 3 (Go.Operand.tmp 118), type := 3, pos := "more.go:28", after := #[{ on := 44, ground := Go.Ground.data }, { on := 32, ground := Go.Ground.guard }], guard := some (32, true) }) (v := ?vwn_45) rfl (by kernel_rfl) (by kernel_rfl) (by kernel_rfl) (fun _ _ _ h => h) (Or.inl ⟨by rfl, ?ywn_45⟩) (by assumption) ?rwn_45
  case ywn_45 => (intro w hSw; (try dsimp only at hSw); go_simp; (try with_reducible rfl))
  (try simp only [Act.put, List.setIfInBounds_toArray, List.set_cons_zero, List.set_cons_succ])
  refine wpAnyH_take (i := 46) (oi := { dst := some 120, op := Go.Op.binOp Go.BinOp.neq 3 (Go.Operand.tmp 119) (Go.Operand.const (Go.Value.int Go.IntKind.i64 0)) 3, type := 4, pos := "more.go:28", after := #[{ on := 45, ground := Go.Ground.data }, { on := 32, ground := Go.Ground.guard }], guard := some (32, true) }) (v := ?vwn_46) rfl (by kernel_rfl) (by kernel_rfl) (by kernel_rfl) (fun _ _ _ h => h) (Or.inl ⟨by rfl, ?ywn_46⟩) (by assumption) ?rwn_46
  case ywn_46 => (intro w hSw; (try dsimp only at hSw); go_simp; (try with_reducible rfl))
  (try simp only [Act.put, List.setIfInBounds_toArray, List.set_cons_zero, List.set_cons_succ])
  refine wpAnyH_ready (rs := [40]) (by kernel_rfl) (by simp) ?_
  refine AllReadyH.cons (o := { dst := some 114, op := Go.Op.call { callee := Go.Callee.value (Go.Operand.func 20), args := #[Go.Operand.tmp 110, Go.Operand.tmp 112, Go.Operand.tmp 113], argTypes := #[25, 3, 3] }, type := 4, pos := "more.go:28", after := #[{ on := 36, ground := Go.Ground.data }, { on := 38, ground := Go.Ground.data }, { on := 39, ground := Go.Ground.data }, { on := 32, ground := Go.Ground.chain }, { on := 32, ground := Go.Ground.guard }], guard := some (32, true) }) rfl (fun K hK => ?_) AllReadyH.nil
  go_simp
  refine (Tells.of (fits_any (0, (i : Int), d) ((m : Int) - 1) q _) (v' := .bool bv) (by rw [F2.out])).mono ?_
  rintro e w' ⟨rfl, hb⟩
  go_wp2_with fail
  refine hK.out _ _ (held_call HK.out (fun _ h => h.2.2.2.2.2.2) hb hHeld) (fun hHeld2 => ?_)
  clear hK K hHeld
  have hHeld := hHeld2
  clear hHeld2
  (try simp only [Act.put, List.setIfInBounds_toArray, List.set_cons_zero, List.set_cons_succ])
  refine wpAnyH_take (i := 47) (oi := { dst := some 121, op := Go.Op.move (Go.Operand.tmp 120), type := 4, pos := "more.go:28", after := #[{ on := 46, ground := Go.Ground.data }, { on := 40, ground := Go.Ground.chain }, { on := 32, ground := Go.Ground.guard }], guard := some (32, true) }) (v := ?vwn_47) rfl (by kernel_rfl) (by kernel_rfl) (by kernel_rfl) (fun _ _ _ h => h) (Or.inl ⟨by rfl, ?ywn_47⟩) (by assumption) ?rwn_47
  case ywn_47 => (intro w hSw; (try dsimp only at hSw); go_simp; (try with_reducible rfl))
  (try simp only [Act.put, List.setIfInBounds_toArray, List.set_cons_zero, List.set_cons_succ])
  refine wpAnyH_take (i := 48) (oi := { dst := some 122, op := Go.Op.move (Go.Operand.tmp 12), type := 26, pos := "more.go:28", after := #[{ on := 47, ground := Go.Ground.guard }], guard := some (47, false) }) (v := ?vwn_48) rfl (by kernel_rfl) (by kernel_rfl) (by kernel_rfl) (fun _ _ _ h => h) (Or.inl ⟨by rfl, ?ywn_48⟩) (by assumption) ?rwn_48
  case ywn_48 => (intro w hSw; (try dsimp only at hSw); go_simp; (try with_reducible rfl))
  (try simp only [Act.put, List.setIfInBounds_toArray, List.set_cons_zero, List.set_cons_succ])
  refine wpAnyH_take (i := 49) (oi := { dst := some 123, op := Go.Op.move (Go.Operand.tmp 3), type := 3, pos := "more.go:28", after := #[{ on := 47, ground := Go.Ground.guard }], guard := some (47, false) }) (v := ?vwn_49) rfl (by kernel_rfl) (by kernel_rfl) (by kernel_rfl) (fun _ _ _ h => h) (Or.inl ⟨by rfl, ?ywn_49⟩) (by assumption) ?rwn_49
  case ywn_49 => (intro w hSw; (try dsimp only at hSw); go_simp; (try with_reducible rfl))
  (try simp only [Act.put, List.setIfInBounds_toArray, List.set_cons_zero, List.set_cons_succ])
  refine wpAnyH_take (i := 50) (oi := { dst := some 124, op := Go.Op.indexAddr 26 (Go.Operand.tmp 122) (Go.Operand.tmp 123), type := 0, pos := "more.go:28", after := #[{ on := 48, ground := Go.Ground.data }, { on := 49, ground := Go.Ground.data }, { on := 47, ground := Go.Ground.guard }], guard := some (47, false) }) (v := ?vwn_50) rfl (by kernel_rfl) (by kernel_rfl) (by kernel_rfl) (fun _ _ _ h => h) (Or.inl ⟨by rfl, ?ywn_50⟩) (by assumption) ?rwn_50
  case ywn_50 => (intro w hSw; (try dsimp only at hSw); go_simp; (try with_reducible rfl))
  (try simp only [Act.put, List.setIfInBounds_toArray, List.set_cons_zero, List.set_cons_succ])
  refine wpAnyH_take (i := 51) (oi := { dst := some 125, op := Go.Op.fieldAddr 25 (Go.Operand.tmp 124) 1, type := 0, pos := "more.go:28", after := #[{ on := 50, ground := Go.Ground.data }, { on := 47, ground := Go.Ground.guard }], guard := some (47, false) }) (v := ?vwn_51) rfl (by kernel_rfl) (by kernel_rfl) (by kernel_rfl) (fun _ _ _ h => h) (Or.inl ⟨by rfl, ?ywn_51⟩) (by assumption) ?rwn_51
  case ywn_51 => (intro w hSw; (try dsimp only at hSw); go_simp; (try with_reducible rfl))
  (try simp only [Act.put, List.setIfInBounds_toArray, List.set_cons_zero, List.set_cons_succ])
  refine wpAnyH_take (i := 52) (oi := { dst := some 126, op := Go.Op.load 3 (Go.Operand.tmp 125), type := 3, pos := "more.go:28", after := #[{ on := 51, ground := Go.Ground.data }, { on := 47, ground := Go.Ground.guard }], guard := some (47, false) }) (v := ?vwn_52) rfl (by kernel_rfl) (by kernel_rfl) (by kernel_rfl) (fun _ _ _ h => h) (Or.inl ⟨by rfl, ?ywn_52⟩) (by assumption) ?rwn_52
  case ywn_52 => (intro w hSw; (try dsimp only at hSw); go_simp; (try with_reducible rfl))
  (try simp only [Act.put, List.setIfInBounds_toArray, List.set_cons_zero, List.set_cons_succ])
  refine wpAnyH_take (i := 53) (oi := { dst := some 127, op := Go.Op.move (Go.Operand.tmp 0), type := 3, pos := "more.go:28", after := #[{ on := 47, ground := Go.Ground.guard }], guard := some (47, false) }) (v := ?vwn_53) rfl (by kernel_rfl) (by kernel_rfl) (by kernel_rfl) (fun _ _ _ h => h) (Or.inl ⟨by rfl, ?ywn_53⟩) (by assumption) ?rwn_53
  case ywn_53 => (intro w hSw; (try dsimp only at hSw); go_simp; (try with_reducible rfl))
  (try simp only [Act.put, List.setIfInBounds_toArray, List.set_cons_zero, List.set_cons_succ])
  refine wpAnyH_take (i := 54) (oi := { dst := some 128, op := Go.Op.binOp Go.BinOp.sub 3 (Go.Operand.tmp 127) (Go.Operand.const (Go.Value.int Go.IntKind.i64 1)) 3, type := 3, pos := "more.go:28", after := #[{ on := 53, ground := Go.Ground.data }, { on := 47, ground := Go.Ground.guard }], guard := some (47, false) }) (v := ?vwn_54) rfl (by kernel_rfl) (by kernel_rfl) (by kernel_rfl) (fun _ _ _ h => h) (Or.inl ⟨by rfl, ?ywn_54⟩) (by assumption) ?rwn_54
  case ywn_54 => (intro w hSw; (try dsimp only at hSw); go_simp; (try with_reducible rfl))
  (try simp only [Act.put, List.setIfInBounds_toArray, List.set_cons_zero, List.set_cons_succ])
  refine wpAnyH_take (i := 55) (oi := { dst := some 129, op := Go.Op.binOp Go.BinOp.neq 3 (Go.Operand.tmp 126) (Go.Operand.tmp 128) 3, type := 4, pos := "more.go:28", after := #[{ on := 52, ground := Go.Ground.data }, { on := 54, ground := Go.Ground.data }, { on := 47, ground := Go.Ground.guard }], guard := some (47, false) }) (v := ?vwn_55) rfl (by kernel_rfl) (by kernel_rfl) (by kernel_rfl) (fun _ _ _ h => h) (Or.inl ⟨by rfl, ?ywn_55⟩) (by assumption) ?rwn_55
  case ywn_55 => (intro w hSw; (try dsimp only at hSw); go_simp; (try with_reducible rfl))
  (try simp only [Act.put, List.setIfInBounds_toArray, List.set_cons_zero, List.set_cons_succ])
  refine wpAnyH_take (i := 56) (oi := { dst := some 130, op := Go.Op.pick (Go.Operand.tmp 121) (Go.Operand.const (Go.Value.bool true)) (Go.Operand.tmp 129), type := 4, pos := "more.go:28", after := #[{ on := 47, ground := Go.Ground.data }, { on := 55, ground := Go.Ground.data }, { on := 32, ground := Go.Ground.guard }], guard := some (32, true) }) (v := ?vwn_56) rfl (by kernel_rfl) (by kernel_rfl) (by kernel_rfl) (fun _ _ _ h => h) (Or.inl ⟨by rfl, ?ywn_56⟩) (by assumption) ?rwn_56
  case ywn_56 => (intro w hSw; (try dsimp only at hSw); go_simp; (try with_reducible rfl))
  (try simp only [Act.put, List.setIfInBounds_toArray, List.set_cons_zero, List.set_cons_succ])
  refine wpAnyH_take (i := 57) (oi := { dst := some 131, op := Go.Op.binOp Go.BinOp.eql 4 (Go.Operand.tmp 114) (Go.Operand.tmp 130) 4, type := 4, pos := "more.go:28", after := #[{ on := 40, ground := Go.Ground.data }, { on := 56, ground := Go.Ground.data }, { on := 32, ground := Go.Ground.guard }], guard := some (32, true) }) (v := ?vwn_57) rfl (by kernel_rfl) (by kernel_rfl) (by kernel_rfl) (fun _ _ _ h => h) (Or.inl ⟨by rfl, ?ywn_57⟩) (by assumption) ?rwn_57
  case ywn_57 => (intro w hSw; (try dsimp only at hSw); go_simp; (try with_reducible rfl))
  (try simp only [Act.put, List.setIfInBounds_toArray, List.set_cons_zero, List.set_cons_succ])
  refine wpAnyH_take (i := 58) (oi := { dst := some 132, op := Go.Op.pick (Go.Operand.tmp 106) (Go.Operand.tmp 131) (Go.Operand.const (Go.Value.bool false)), type := 4, pos := "more.go:28", after := #[{ on := 32, ground := Go.Ground.data }, { on := 57, ground := Go.Ground.data }], guard := none }) (v := ?vwn_58) rfl (by kernel_rfl) (by kernel_rfl) (by kernel_rfl) (fun _ _ _ h => h) (Or.inl ⟨by rfl, ?ywn_58⟩) (by assumption) ?rwn_58
  case ywn_58 => (intro w hSw; (try dsimp only at hSw); go_simp; (try with_reducible rfl))
  (try simp only [Act.put, List.setIfInBounds_toArray, List.set_cons_zero, List.set_cons_succ])
  refine wpAnyH_take (i := 59) (oi := { dst := some 10, op := Go.Op.assign (Go.Operand.tmp 132), type := 4, pos := "more.go:28", after := #[{ on := 58, ground := Go.Ground.data }, { on := 47, ground := Go.Ground.chain }, { on := 0, ground := Go.Ground.phase }, { on := 1, ground := Go.Ground.phase }, { on := 2, ground := Go.Ground.phase }, { on := 3, ground := Go.Ground.phase }, { on := 4, ground := Go.Ground.phase }, { on := 5, ground := Go.Ground.phase }, { on := 6, ground := Go.Ground.phase }, { on := 7, ground := Go.Ground.phase }, { on := 8, ground := Go.Ground.phase }, { on := 9, ground := Go.Ground.phase }, { on := 10, ground := Go.Ground.phase }, { on := 11, ground := Go.Ground.phase }, { on := 12, ground := Go.Ground.phase }, { on := 13, ground := Go.Ground.phase }, { on := 14, ground := Go.Ground.phase }, { on := 15, ground := Go.Ground.phase }, { on := 16, ground := Go.Ground.phase }, { on := 17, ground := Go.Ground.phase }, { on := 18, ground := Go.Ground.phase }, { on := 19, ground := Go.Ground.phase }, { on := 20, ground := Go.Ground.phase }, { on := 21, ground := Go.Ground.phase }, { on := 22, ground := Go.Ground.phase }, { on := 23, ground := Go.Ground.phase }, { on := 24, ground := Go.Ground.phase }, { on := 25, ground := Go.Ground.phase }, { on := 26, ground := Go.Ground.phase }, { on := 27, ground := Go.Ground.phase }, { on := 28, ground := Go.Ground.phase }, { on := 29, ground := Go.Ground.phase }, { on := 30, ground := Go.Ground.phase }, { on := 31, ground := Go.Ground.phase }, { on := 32, ground := Go.Ground.phase }, { on := 33, ground := Go.Ground.phase }, { on := 34, ground := Go.Ground.phase }, { on := 35, ground := Go.Ground.phase }, { on := 36, ground := Go.Ground.phase }, { on := 37, ground := Go.Ground.phase }, { on := 38, ground := Go.Ground.phase }, { on := 39, ground := Go.Ground.phase }, { on := 40, ground := Go.Ground.phase }, { on := 41, ground := Go.Ground.phase }, { on := 42, ground := Go.Ground.phase }, { on := 43, ground := Go.Ground.phase }, { on := 44, ground := Go.Ground.phase }, { on := 45, ground := Go.Ground.phase }, { on := 46, ground := Go.Ground.phase }, { on := 47, ground := Go.Ground.phase }, { on := 48, ground := Go.Ground.phase }, { on := 49, ground := Go.Ground.phase }, { on := 50, ground := Go.Ground.phase }, { on := 51, ground := Go.Ground.phase }, { on := 52, ground := Go.Ground.phase }, { on := 53, ground := Go.Ground.phase }, { on := 54, ground := Go.Ground.phase }, { on := 55, ground := Go.Ground.phase }, { on := 56, ground := Go.Ground.phase }, { on := 57, ground := Go.Ground.phase }, { on := 58, ground := Go.Ground.phase }], guard := none }) (v := ?vwn_59) rfl (by kernel_rfl) (by kernel_rfl) (by kernel_rfl) (fun _ _ _ h => h) (Or.inl ⟨by rfl, ?ywn_59⟩) (by assumption) ?rwn_59
  case ywn_59 => (intro w hSw; (try dsimp only at hSw); go_simp; (try with_reducible rfl))
  (try simp only [Act.put, List.setIfInBounds_toArray, List.set_cons_zero, List.set_cons_succ])
  refine wpAnyH_done (by kernel_rfl) ?_ _
  have HEND := Lib.hid (Z.out.trans ((hHeld.2.2.2.2.2.2).mono Z.out.size))
  clear hHeld
  go_wp2
  go_ret
  exact ⟨rfl, HEND.out⟩
set_option maxRecDepth 100000 in
set_option maxHeartbeats 8000000 in
theorem round_ss (m q i : Nat) (d : Int) (w : World) (hm : m ≤ 20) (hq : q ≤ 20) (hi : ¬ i < m) (hil : i < m + q) : Tells 8 #[.int .i64 m, .int .i64 q, .int .u64 d, .int .i64 (i : Int), .int .i64 (i : Int)] w (.bool true) := by
  have d0 : decide ((m : Int) < 0) = false := decide_eq_false (by omega)
  have d1 : decide ((q : Int) < 0) = false := decide_eq_false (by omega)
  have d2 : decide (20 < (m : Int)) = false := decide_eq_false (by omega)
  have d3 : decide (20 < (q : Int)) = false := decide_eq_false (by omega)
  obtain ⟨n, hn⟩ : ∃ n, n = m + q := ⟨_, rfl⟩
  have e1 : ((n : Int) != (m : Int) + (q : Int)) = false := by rw [hn]; simp
  have e2 : ((n : Int) == (m : Int) + (q : Int)) = true := by rw [hn]; simp
  have hn4 : n ≤ 40 := by omega
  have fi0 : decide ((i : Int) < 0) = false := decide_eq_false (by omega)
  have fi1 : decide ((n : Int) ≤ (i : Int)) = false := decide_eq_false (by omega)
  have fi2 : decide (n ≤ i) = false := decide_eq_false (by omega)
  have fi3 : i < n := by omega
  have RI := Lib.hid (show rn m d i = (1, (i : Int) - (m : Int), d) by unfold rn; rw [if_neg hi])
  have F1 := Lib.hid (show fit (1, (i : Int) - (m : Int), d) m q = true by have := fit_rn (d := d) hil; rw [RI.out] at this; exact this)
  have F2 := Lib.hid (fit_less_s (d := d) hi hil)
  have dd : (d == d) = true := by simp
  have wm : IntKind.i64.wrap ((m : Int) - 1) = (m : Int) - 1 := by rw [IntKind.wrap_i64]; omega
  have ik : ((i : Int) == (i : Int)) = true := by simp
  have ik2 : (i == i) = true := by simp
  have k0 : ((1 : Int) != 0) = true := by decide
  have RI2 := Lib.hid (rndN_at (m := m) (d := d) (j := n) fi3)
  go_enter Try.func8, Try.ntmps8
  go_wp2_with fail
  refine (awake_any _).mono ?_
  rintro _ w1 ⟨rfl, z1⟩
  have Z := Lib.hid z1
  clear z1
  go_wp2_with fail
  refine (round_yes m q d w1 hm hq).mono ?_
  rintro _ w2 ⟨X, c, rfl, ox, z2⟩
  replace Z := Lib.hid (Z.out.trans (z2.mono Z.out.size))
  rw [rndN_len, ← hn]
  rw [rndN_len, ← hn] at ox
  obtain ⟨xb, xo, rfl, xl, xc⟩ := ox.pr (by rw [rndN_len]; omega)
  obtain ⟨x0, x1, x2⟩ := xc i _ (RI2.out)
  rw [RI.out] at x0 x1 x2
  dsimp only at x0 x1 x2
  have Z2 := Lib.hid z2
  clear z2 ox xc hn
  go_wp2_with fail
  have K : ∀ w', Below w2.heap.size w2 w' → w'.cell? ⟨xb, xo + i * 3, none⟩ = some (.int .i64 1) ∧ w'.cell? ⟨xb, xo + i * 3 + 1, none⟩ = some (.int .i64 ((i : Int) - (m : Int))) ∧ w'.cell? ⟨xb, xo + i * 3 + 2, none⟩ = some (.int .u64 d) ∧ Below w2.heap.size w2 w' := fun w' hb => ⟨(hb.cell (p := ⟨xb, xo + i * 3, none⟩) xl).trans x0, (hb.cell (p := ⟨xb, xo + i * 3 + 1, none⟩) xl).trans x1, (hb.cell (p := ⟨xb, xo + i * 3 + 2, none⟩) xl).trans x2, hb⟩
  have HK := Lib.hid K
  clear K x0 x1 x2
  refine wp_region_held_drew (S := fun w' => w'.cell? ⟨xb, xo + i * 3, none⟩ = some (.int .i64 1) ∧ w'.cell? ⟨xb, xo + i * 3 + 1, none⟩ = some (.int .i64 ((i : Int) - (m : Int))) ∧ w'.cell? ⟨xb, xo + i * 3 + 2, none⟩ = some (.int .u64 d) ∧ Below w2.heap.size w2 w') (by kernel_rfl) (HK.out _ (keep_drew (Below.refl _ _))) (fun hHeld => ?_)
  refine wpAnyH_take (i := 0) (oi := { dst := some 74, op := Go.Op.move (Go.Operand.tmp 12), type := 26, pos := "more.go:28", after := #[], guard := none }) (v := ?vss_0) rfl (by kernel_rfl) (by kernel_rfl) (by kernel_rfl) (fun _ _ _ h => h) (Or.inl ⟨by rfl, ?yss_0⟩) (by assumption) ?rss_0
  case yss_0 => (intro w hSw; (try dsimp only at hSw); go_simp; (try with_reducible rfl))
  (try simp only [Act.put, List.setIfInBounds_toArray, List.set_cons_zero, List.set_cons_succ])
  refine wpAnyH_take (i := 1) (oi := { dst := some 75, op := Go.Op.move (Go.Operand.tmp 3), type := 3, pos := "more.go:28", after := #[], guard := none }) (v := ?vss_1) rfl (by kernel_rfl) (by kernel_rfl) (by kernel_rfl) (fun _ _ _ h => h) (Or.inl ⟨by rfl, ?yss_1⟩) (by assumption) ?rss_1
  case yss_1 => (intro w hSw; (try dsimp only at hSw); go_simp; (try with_reducible rfl))
  (try simp only [Act.put, List.setIfInBounds_toArray, List.set_cons_zero, List.set_cons_succ])
  refine wpAnyH_take (i := 2) (oi := { dst := some 76, op := Go.Op.indexAddr 26 (Go.Operand.tmp 74) (Go.Operand.tmp 75), type := 0, pos := "more.go:28", after := #[{ on := 0, ground := Go.Ground.data }, { on := 1, ground := Go.Ground.data }], guard := none }) (v := ?vss_2) rfl (by kernel_rfl) (by kernel_rfl) (by kernel_rfl) (fun _ _ _ h => h) (Or.inl ⟨by rfl, ?yss_2⟩) (by assumption) ?rss_2
  case yss_2 => (intro w hSw; (try dsimp only at hSw); go_simp; (try with_reducible rfl))
  (try simp only [Act.put, List.setIfInBounds_toArray, List.set_cons_zero, List.set_cons_succ])
  refine wpAnyH_take (i := 3) (oi := { dst := some 77, op := Go.Op.load 25 (Go.Operand.tmp 76), type := 25, pos := "more.go:28", after := #[{ on := 2, ground := Go.Ground.data }], guard := none }) (v := ?vss_3) rfl (by kernel_rfl) (by kernel_rfl) (by kernel_rfl) (fun _ _ _ h => h) (Or.inl ⟨by rfl, ?yss_3⟩) (by assumption) ?rss_3
  case yss_3 => (intro w hSw; (try dsimp only at hSw); go_simp; (try with_reducible rfl))
  (try simp only [Act.put, List.setIfInBounds_toArray, List.set_cons_zero, List.set_cons_succ])
  refine wpAnyH_take (i := 4) (oi := { dst := some 78, op := Go.Op.move (Go.Operand.tmp 0), type := 3, pos := "more.go:28", after := #[], guard := none }) (v := ?vss_4) rfl (by kernel_rfl) (by kernel_rfl) (by kernel_rfl) (fun _ _ _ h => h) (Or.inl ⟨by rfl, ?yss_4⟩) (by assumption) ?rss_4
  case yss_4 => (intro w hSw; (try dsimp only at hSw); go_simp; (try with_reducible rfl))
  (try simp only [Act.put, List.setIfInBounds_toArray, List.set_cons_zero, List.set_cons_succ])
  refine wpAnyH_take (i := 5) (oi := { dst := some 79, op := Go.Op.move (Go.Operand.tmp 1), type := 3, pos := "more.go:28", after := #[], guard := none }) (v := ?vss_5) rfl (by kernel_rfl) (by kernel_rfl) (by kernel_rfl) (fun _ _ _ h => h) (Or.inl ⟨by rfl, ?yss_5⟩) (by assumption) ?rss_5
  case yss_5 => (intro w hSw; (try dsimp only at hSw); go_simp; (try with_reducible rfl))
  (try simp only [Act.put, List.setIfInBounds_toArray, List.set_cons_zero, List.set_cons_succ])
  refine wpAnyH_ready (rs := [6]) (by kernel_rfl) (by simp) ?_
  refine AllReadyH.cons (o := { dst := some 80, op := Go.Op.call { callee := Go.Callee.value (Go.Operand.func 20), args := #[Go.Operand.tmp 77, Go.Operand.tmp 78, Go.Operand.tmp 79], argTypes := #[25, 3, 3] }, type := 4, pos := "more.go:28", after := #[{ on := 3, ground := Go.Ground.data }, { on := 4, ground := Go.Ground.data }, { on := 5, ground := Go.Ground.data }], guard := none }) rfl (fun K hK => ?_) AllReadyH.nil
  go_simp
  refine (Tells.of (fits_any (1, (i : Int) - (m : Int), d) m q _) (v' := .bool true) (by rw [F1.out])).mono ?_
  rintro e w' ⟨rfl, hb⟩
  go_wp2_with fail
  refine hK.out _ _ (held_call HK.out (fun _ h => h.2.2.2) hb hHeld) (fun hHeld2 => ?_)
  clear hK K hHeld
  have hHeld := hHeld2
  clear hHeld2
  (try simp only [Act.put, List.setIfInBounds_toArray, List.set_cons_zero, List.set_cons_succ])
  refine wpAnyH_take (i := 7) (oi := { dst := some 81, op := Go.Op.move (Go.Operand.tmp 80), type := 4, pos := "more.go:28", after := #[{ on := 6, ground := Go.Ground.data }, { on := 6, ground := Go.Ground.chain }], guard := none }) (v := ?vss_7) rfl (by kernel_rfl) (by kernel_rfl) (by kernel_rfl) (fun _ _ _ h => h) (Or.inl ⟨by rfl, ?yss_7⟩) (by assumption) ?rss_7
  case yss_7 => (intro w hSw; (try dsimp only at hSw); go_simp; (try with_reducible rfl))
  (try simp only [Act.put, List.setIfInBounds_toArray, List.set_cons_zero, List.set_cons_succ])
  refine wpAnyH_take (i := 8) (oi := { dst := some 82, op := Go.Op.move (Go.Operand.tmp 12), type := 26, pos := "more.go:28", after := #[{ on := 7, ground := Go.Ground.guard }], guard := some (7, true) }) (v := ?vss_8) rfl (by kernel_rfl) (by kernel_rfl) (by kernel_rfl) (fun _ _ _ h => h) (Or.inl ⟨by rfl, ?yss_8⟩) (by assumption) ?rss_8
  case yss_8 => (intro w hSw; (try dsimp only at hSw); go_simp; (try with_reducible rfl))
  (try simp only [Act.put, List.setIfInBounds_toArray, List.set_cons_zero, List.set_cons_succ])
  refine wpAnyH_take (i := 9) (oi := { dst := some 83, op := Go.Op.move (Go.Operand.tmp 3), type := 3, pos := "more.go:28", after := #[{ on := 7, ground := Go.Ground.guard }], guard := some (7, true) }) (v := ?vss_9) rfl (by kernel_rfl) (by kernel_rfl) (by kernel_rfl) (fun _ _ _ h => h) (Or.inl ⟨by rfl, ?yss_9⟩) (by assumption) ?rss_9
  case yss_9 => (intro w hSw; (try dsimp only at hSw); go_simp; (try with_reducible rfl))
  (try simp only [Act.put, List.setIfInBounds_toArray, List.set_cons_zero, List.set_cons_succ])
  refine wpAnyH_take (i := 10) (oi := { dst := some 84, op := Go.Op.indexAddr 26 (Go.Operand.tmp 82) (Go.Operand.tmp 83), type := 0, pos := "more.go:28", after := #[{ on := 8, ground := Go.Ground.data }, { on := 9, ground := Go.Ground.data }, { on := 7, ground := Go.Ground.guard }], guard := some (7, true) }) (v := ?vss_10) rfl (by kernel_rfl) (by kernel_rfl) (by kernel_rfl) (fun _ _ _ h => h) (Or.inl ⟨by rfl, ?yss_10⟩) (by assumption) ?rss_10
  case yss_10 => (intro w hSw; (try dsimp only at hSw); go_simp; (try with_reducible rfl))
  (try simp only [Act.put, List.setIfInBounds_toArray, List.set_cons_zero, List.set_cons_succ])
  refine wpAnyH_take (i := 11) (oi := { dst := some 85, op := Go.Op.fieldAddr 25 (Go.Operand.tmp 84) 2, type := 0, pos := "more.go:28", after := #[{ on := 10, ground := Go.Ground.data }, { on := 7, ground := Go.Ground.guard }], guard := some (7, true) }) (v := ?vss_11) rfl (by kernel_rfl) (by kernel_rfl) (by kernel_rfl) (fun _ _ _ h => h) (Or.inl ⟨by rfl, ?yss_11⟩) (by assumption) ?rss_11
  case yss_11 => (intro w hSw; (try dsimp only at hSw); go_simp; (try with_reducible rfl))
  (try simp only [Act.put, List.setIfInBounds_toArray, List.set_cons_zero, List.set_cons_succ])
  refine wpAnyH_take (i := 12) (oi := { dst := some 86, op := Go.Op.load 23 (Go.Operand.tmp 85), type := 23, pos := "more.go:28", after := #[{ on := 11, ground := Go.Ground.data }, { on := 7, ground := Go.Ground.guard }], guard := some (7, true) }) (v := ?vss_12) rfl (by kernel_rfl) (by kernel_rfl) (by kernel_rfl) (fun _ _ _ h => h) (Or.inl ⟨by rfl, ?yss_12⟩) (by assumption) ?rss_12
  case yss_12 => (intro w hSw; (try dsimp only at hSw); go_simp; (try with_reducible rfl))
  (try simp only [Act.put, List.setIfInBounds_toArray, List.set_cons_zero, List.set_cons_succ])
  refine wpAnyH_take (i := 13) (oi := { dst := some 87, op := Go.Op.move (Go.Operand.tmp 2), type := 23, pos := "more.go:28", after := #[{ on := 7, ground := Go.Ground.guard }], guard := some (7, true) }) (v := ?vss_13) rfl (by kernel_rfl) (by kernel_rfl) (by kernel_rfl) (fun _ _ _ h => h) (Or.inl ⟨by rfl, ?yss_13⟩) (by assumption) ?rss_13
  case yss_13 => (intro w hSw; (try dsimp only at hSw); go_simp; (try with_reducible rfl))
  (try simp only [Act.put, List.setIfInBounds_toArray, List.set_cons_zero, List.set_cons_succ])
  refine wpAnyH_take (i := 14) (oi := { dst := some 88, op := Go.Op.binOp Go.BinOp.eql 23 (Go.Operand.tmp 86) (Go.Operand.tmp 87) 23, type := 4, pos := "more.go:28", after := #[{ on := 12, ground := Go.Ground.data }, { on := 13, ground := Go.Ground.data }, { on := 7, ground := Go.Ground.guard }], guard := some (7, true) }) (v := ?vss_14) rfl (by kernel_rfl) (by kernel_rfl) (by kernel_rfl) (fun _ _ _ h => h) (Or.inl ⟨by rfl, ?yss_14⟩) (by assumption) ?rss_14
  case yss_14 => (intro w hSw; (try dsimp only at hSw); go_simp; (try with_reducible rfl))
  (try simp only [Act.put, List.setIfInBounds_toArray, List.set_cons_zero, List.set_cons_succ])
  refine wpAnyH_take (i := 15) (oi := { dst := some 89, op := Go.Op.pick (Go.Operand.tmp 81) (Go.Operand.tmp 88) (Go.Operand.const (Go.Value.bool false)), type := 4, pos := "more.go:28", after := #[{ on := 7, ground := Go.Ground.data }, { on := 14, ground := Go.Ground.data }], guard := none }) (v := ?vss_15) rfl (by kernel_rfl) (by kernel_rfl) (by kernel_rfl) (fun _ _ _ h => h) (Or.inl ⟨by rfl, ?yss_15⟩) (by assumption) ?rss_15
  case yss_15 => (intro w hSw; (try dsimp only at hSw); go_simp; (try with_reducible rfl))
  (try simp only [Act.put, List.setIfInBounds_toArray, List.set_cons_zero, List.set_cons_succ])
  refine wpAnyH_take (i := 16) (oi := { dst := some 90, op := Go.Op.move (Go.Operand.tmp 89), type := 4, pos := "more.go:28", after := #[{ on := 15, ground := Go.Ground.data }, { on := 7, ground := Go.Ground.chain }], guard := none }) (v := ?vss_16) rfl (by kernel_rfl) (by kernel_rfl) (by kernel_rfl) (fun _ _ _ h => h) (Or.inl ⟨by rfl, ?yss_16⟩) (by assumption) ?rss_16
  case yss_16 => (intro w hSw; (try dsimp only at hSw); go_simp; (try with_reducible rfl))
  (try simp only [Act.put, List.setIfInBounds_toArray, List.set_cons_zero, List.set_cons_succ])
  refine wpAnyH_take (i := 17) (oi := { dst := some 91, op := Go.Op.move (Go.Operand.tmp 3), type := 3, pos := "more.go:28", after := #[{ on := 16, ground := Go.Ground.guard }], guard := some (16, true) }) (v := ?vss_17) rfl (by kernel_rfl) (by kernel_rfl) (by kernel_rfl) (fun _ _ _ h => h) (Or.inl ⟨by rfl, ?yss_17⟩) (by assumption) ?rss_17
  case yss_17 => (intro w hSw; (try dsimp only at hSw); go_simp; (try with_reducible rfl))
  (try simp only [Act.put, List.setIfInBounds_toArray, List.set_cons_zero, List.set_cons_succ])
  refine wpAnyH_take (i := 18) (oi := { dst := some 92, op := Go.Op.move (Go.Operand.tmp 4), type := 3, pos := "more.go:28", after := #[{ on := 16, ground := Go.Ground.guard }], guard := some (16, true) }) (v := ?vss_18) rfl (by kernel_rfl) (by kernel_rfl) (by kernel_rfl) (fun _ _ _ h => h) (Or.inl ⟨by rfl, ?yss_18⟩) (by assumption) ?rss_18
  case yss_18 => (intro w hSw; (try dsimp only at hSw); go_simp; (try with_reducible rfl))
  (try simp only [Act.put, List.setIfInBounds_toArray, List.set_cons_zero, List.set_cons_succ])
  refine wpAnyH_take (i := 19) (oi := { dst := some 93, op := Go.Op.binOp Go.BinOp.eql 3 (Go.Operand.tmp 91) (Go.Operand.tmp 92) 3, type := 4, pos := "more.go:28", after := #[{ on := 17, ground := Go.Ground.data }, { on := 18, ground := Go.Ground.data }, { on := 16, ground := Go.Ground.guard }], guard := some (16, true) }) (v := ?vss_19) rfl (by kernel_rfl) (by kernel_rfl) (by kernel_rfl) (fun _ _ _ h => h) (Or.inl ⟨by rfl, ?yss_19⟩) (by assumption) ?rss_19
  case yss_19 => (intro w hSw; (try dsimp only at hSw); go_simp; (try with_reducible rfl))
  (try simp only [Act.put, List.setIfInBounds_toArray, List.set_cons_zero, List.set_cons_succ])
  refine wpAnyH_take (i := 20) (oi := { dst := some 94, op := Go.Op.move (Go.Operand.tmp 93), type := 4, pos := "more.go:28", after := #[{ on := 19, ground := Go.Ground.data }, { on := 16, ground := Go.Ground.chain }, { on := 16, ground := Go.Ground.guard }], guard := some (16, true) }) (v := ?vss_20) rfl (by kernel_rfl) (by kernel_rfl) (by kernel_rfl) (fun _ _ _ h => h) (Or.inl ⟨by rfl, ?yss_20⟩) (by assumption) ?rss_20
  case yss_20 => (intro w hSw; (try dsimp only at hSw); go_simp; (try with_reducible rfl))
  (try simp only [Act.put, List.setIfInBounds_toArray, List.set_cons_zero, List.set_cons_succ])
  refine wpAnyH_take (i := 21) (oi := { dst := some 95, op := Go.Op.move (Go.Operand.tmp 12), type := 26, pos := "more.go:28", after := #[{ on := 20, ground := Go.Ground.guard }], guard := some (20, false) }) (v := undef) rfl (by kernel_rfl) (by kernel_rfl) (by kernel_rfl) (fun _ _ _ h => h) (Or.inr ⟨by rfl, rfl⟩) (by assumption) ?_
  (try simp only [Act.put, List.setIfInBounds_toArray, List.set_cons_zero, List.set_cons_succ])
  refine wpAnyH_take (i := 22) (oi := { dst := some 96, op := Go.Op.move (Go.Operand.tmp 3), type := 3, pos := "more.go:28", after := #[{ on := 20, ground := Go.Ground.guard }], guard := some (20, false) }) (v := undef) rfl (by kernel_rfl) (by kernel_rfl) (by kernel_rfl) (fun _ _ _ h => h) (Or.inr ⟨by rfl, rfl⟩) (by assumption) ?_
  (try simp only [Act.put, List.setIfInBounds_toArray, List.set_cons_zero, List.set_cons_succ])
  refine wpAnyH_take (i := 23) (oi := { dst := some 97, op := Go.Op.indexAddr 26 (Go.Operand.tmp 95) (Go.Operand.tmp 96), type := 0, pos := "more.go:28", after := #[{ on := 21, ground := Go.Ground.data }, { on := 22, ground := Go.Ground.data }, { on := 20, ground := Go.Ground.guard }], guard := some (20, false) }) (v := undef) rfl (by kernel_rfl) (by kernel_rfl) (by kernel_rfl) (fun _ _ _ h => h) (Or.inr ⟨by rfl, rfl⟩) (by assumption) ?_
  (try simp only [Act.put, List.setIfInBounds_toArray, List.set_cons_zero, List.set_cons_succ])
  refine wpAnyH_take (i := 24) (oi := { dst := some 98, op := Go.Op.load 25 (Go.Operand.tmp 97), type := 25, pos := "more.go:28", after := #[{ on := 23, ground := Go.Ground.data }, { on := 20, ground := Go.Ground.guard }], guard := some (20, false) }) (v := undef) rfl (by kernel_rfl) (by kernel_rfl) (by kernel_rfl) (fun _ _ _ h => h) (Or.inr ⟨by rfl, rfl⟩) (by assumption) ?_
  (try simp only [Act.put, List.setIfInBounds_toArray, List.set_cons_zero, List.set_cons_succ])
  refine wpAnyH_take (i := 25) (oi := { dst := some 99, op := Go.Op.move (Go.Operand.tmp 12), type := 26, pos := "more.go:28", after := #[{ on := 20, ground := Go.Ground.guard }], guard := some (20, false) }) (v := undef) rfl (by kernel_rfl) (by kernel_rfl) (by kernel_rfl) (fun _ _ _ h => h) (Or.inr ⟨by rfl, rfl⟩) (by assumption) ?_
  (try simp only [Act.put, List.setIfInBounds_toArray, List.set_cons_zero, List.set_cons_succ])
  refine wpAnyH_take (i := 26) (oi := { dst := some 100, op := Go.Op.move (Go.Operand.tmp 4), type := 3, pos := "more.go:28", after := #[{ on := 20, ground := Go.Ground.guard }], guard := some (20, false) }) (v := undef) rfl (by kernel_rfl) (by kernel_rfl) (by kernel_rfl) (fun _ _ _ h => h) (Or.inr ⟨by rfl, rfl⟩) (by assumption) ?_
  (try simp only [Act.put, List.setIfInBounds_toArray, List.set_cons_zero, List.set_cons_succ])
  refine wpAnyH_take (i := 27) (oi := { dst := some 101, op := Go.Op.indexAddr 26 (Go.Operand.tmp 99) (Go.Operand.tmp 100), type := 0, pos := "more.go:28", after := #[{ on := 25, ground := Go.Ground.data }, { on := 26, ground := Go.Ground.data }, { on := 20, ground := Go.Ground.guard }], guard := some (20, false) }) (v := undef) rfl (by kernel_rfl) (by kernel_rfl) (by kernel_rfl) (fun _ _ _ h => h) (Or.inr ⟨by rfl, rfl⟩) (by assumption) ?_
  (try simp only [Act.put, List.setIfInBounds_toArray, List.set_cons_zero, List.set_cons_succ])
  refine wpAnyH_take (i := 28) (oi := { dst := some 102, op := Go.Op.load 25 (Go.Operand.tmp 101), type := 25, pos := "more.go:28", after := #[{ on := 27, ground := Go.Ground.data }, { on := 20, ground := Go.Ground.guard }], guard := some (20, false) }) (v := undef) rfl (by kernel_rfl) (by kernel_rfl) (by kernel_rfl) (fun _ _ _ h => h) (Or.inr ⟨by rfl, rfl⟩) (by assumption) ?_
  (try simp only [Act.put, List.setIfInBounds_toArray, List.set_cons_zero, List.set_cons_succ])
  refine wpAnyH_take (i := 29) (oi := { dst := some 103, op := Go.Op.binOp Go.BinOp.neq 25 (Go.Operand.tmp 98) (Go.Operand.tmp 102) 25, type := 4, pos := "more.go:28", after := #[{ on := 24, ground := Go.Ground.data }, { on := 28, ground := Go.Ground.data }, { on := 20, ground := Go.Ground.guard }], guard := some (20, false) }) (v := undef) rfl (by kernel_rfl) (by kernel_rfl) (by kernel_rfl) (fun _ _ _ h => h) (Or.inr ⟨by rfl, rfl⟩) (by assumption) ?_
  (try simp only [Act.put, List.setIfInBounds_toArray, List.set_cons_zero, List.set_cons_succ])
  refine wpAnyH_take (i := 30) (oi := { dst := some 104, op := Go.Op.pick (Go.Operand.tmp 94) (Go.Operand.const (Go.Value.bool true)) (Go.Operand.tmp 103), type := 4, pos := "more.go:28", after := #[{ on := 20, ground := Go.Ground.data }, { on := 29, ground := Go.Ground.data }, { on := 16, ground := Go.Ground.guard }], guard := some (16, true) }) (v := ?vss_30) rfl (by kernel_rfl) (by kernel_rfl) (by kernel_rfl) (fun _ _ _ h => h) (Or.inl ⟨by rfl, ?yss_30⟩) (by assumption) ?rss_30
  case yss_30 => (intro w hSw; (try dsimp only at hSw); go_simp; (try with_reducible rfl))
  (try simp only [Act.put, List.setIfInBounds_toArray, List.set_cons_zero, List.set_cons_succ])
  refine wpAnyH_take (i := 31) (oi := { dst := some 105, op := Go.Op.pick (Go.Operand.tmp 90) (Go.Operand.tmp 104) (Go.Operand.const (Go.Value.bool false)), type := 4, pos := "more.go:28", after := #[{ on := 16, ground := Go.Ground.data }, { on := 30, ground := Go.Ground.data }], guard := none }) (v := ?vss_31) rfl (by kernel_rfl) (by kernel_rfl) (by kernel_rfl) (fun _ _ _ h => h) (Or.inl ⟨by rfl, ?yss_31⟩) (by assumption) ?rss_31
  case yss_31 => (intro w hSw; (try dsimp only at hSw); go_simp; (try with_reducible rfl))
  (try simp only [Act.put, List.setIfInBounds_toArray, List.set_cons_zero, List.set_cons_succ])
  refine wpAnyH_take (i := 32) (oi := { dst := some 106, op := Go.Op.move (Go.Operand.tmp 105), type := 4, pos := "more.go:28", after := #[{ on := 31, ground := Go.Ground.data }, { on := 20, ground := Go.Ground.chain }], guard := none }) (v := ?vss_32) rfl (by kernel_rfl) (by kernel_rfl) (by kernel_rfl) (fun _ _ _ h => h) (Or.inl ⟨by rfl, ?yss_32⟩) (by assumption) ?rss_32
  case yss_32 => (intro w hSw; (try dsimp only at hSw); go_simp; (try with_reducible rfl))
  (try simp only [Act.put, List.setIfInBounds_toArray, List.set_cons_zero, List.set_cons_succ])
  refine wpAnyH_take (i := 33) (oi := { dst := some 107, op := Go.Op.move (Go.Operand.tmp 12), type := 26, pos := "more.go:28", after := #[{ on := 32, ground := Go.Ground.guard }], guard := some (32, true) }) (v := ?vss_33) rfl (by kernel_rfl) (by kernel_rfl) (by kernel_rfl) (fun _ _ _ h => h) (Or.inl ⟨by rfl, ?yss_33⟩) (by assumption) ?rss_33
  case yss_33 => (intro w hSw; (try dsimp only at hSw); go_simp; (try with_reducible rfl))
  (try simp only [Act.put, List.setIfInBounds_toArray, List.set_cons_zero, List.set_cons_succ])
  refine wpAnyH_take (i := 34) (oi := { dst := some 108, op := Go.Op.move (Go.Operand.tmp 3), type := 3, pos := "more.go:28", after := #[{ on := 32, ground := Go.Ground.guard }], guard := some (32, true) }) (v := ?vss_34) rfl (by kernel_rfl) (by kernel_rfl) (by kernel_rfl) (fun _ _ _ h => h) (Or.inl ⟨by rfl, ?yss_34⟩) (by assumption) ?rss_34
  case yss_34 => (intro w hSw; (try dsimp only at hSw); go_simp; (try with_reducible rfl))
  (try simp only [Act.put, List.setIfInBounds_toArray, List.set_cons_zero, List.set_cons_succ])
  refine wpAnyH_take (i := 35) (oi := { dst := some 109, op := Go.Op.indexAddr 26 (Go.Operand.tmp 107) (Go.Operand.tmp 108), type := 0, pos := "more.go:28", after := #[{ on := 33, ground := Go.Ground.data }, { on := 34, ground := Go.Ground.data }, { on := 32, ground := Go.Ground.guard }], guard := some (32, true) }) (v := ?vss_35) rfl (by kernel_rfl) (by kernel_rfl) (by kernel_rfl) (fun _ _ _ h => h) (Or.inl ⟨by rfl, ?yss_35⟩) (by assumption) ?rss_35
  case yss_35 => (intro w hSw; (try dsimp only at hSw); go_simp; (try with_reducible rfl))
  (try simp only [Act.put, List.setIfInBounds_toArray, List.set_cons_zero, List.set_cons_succ])
  refine wpAnyH_take (i := 36) (oi := { dst := some 110, op := Go.Op.load 25 (Go.Operand.tmp 109), type := 25, pos := "more.go:28", after := #[{ on := 35, ground := Go.Ground.data }, { on := 32, ground := Go.Ground.guard }], guard := some (32, true) }) (v := ?vss_36) rfl (by kernel_rfl) (by kernel_rfl) (by kernel_rfl) (fun _ _ _ h => h) (Or.inl ⟨by rfl, ?yss_36⟩) (by assumption) ?rss_36
  case yss_36 => (intro w hSw; (try dsimp only at hSw); go_simp; (try with_reducible rfl))
  (try simp only [Act.put, List.setIfInBounds_toArray, List.set_cons_zero, List.set_cons_succ])
  refine wpAnyH_take (i := 37) (oi := { dst := some 111, op := Go.Op.move (Go.Operand.tmp 0), type := 3, pos := "more.go:28", after := #[{ on := 32, ground := Go.Ground.guard }], guard := some (32, true) }) (v := ?vss_37) rfl (by kernel_rfl) (by kernel_rfl) (by kernel_rfl) (fun _ _ _ h => h) (Or.inl ⟨by rfl, ?yss_37⟩) (by assumption) ?rss_37
  case yss_37 => (intro w hSw; (try dsimp only at hSw); go_simp; (try with_reducible rfl))
  (try simp only [Act.put, List.setIfInBounds_toArray, List.set_cons_zero, List.set_cons_succ])
  refine wpAnyH_take (i := 38) (oi := { dst := some 112, op := Go.Op.binOp Go.BinOp.sub 3 (Go.Operand.tmp 111) (Go.Operand.const (Go.Value.int Go.IntKind.i64 1)) 3, type := 3, pos := "more.go:28", after := #[{ on := 37, ground := Go.Ground.data }, { on := 32, ground := Go.Ground.guard }], guard := some (32, true) }) (v := ?vss_38) rfl (by kernel_rfl) (by kernel_rfl) (by kernel_rfl) (fun _ _ _ h => h) (Or.inl ⟨by rfl, ?yss_38⟩) (by assumption) ?rss_38
  case yss_38 => (intro w hSw; (try dsimp only at hSw); go_simp; (try with_reducible rfl))
  (try simp only [Act.put, List.setIfInBounds_toArray, List.set_cons_zero, List.set_cons_succ])
  refine wpAnyH_take (i := 39) (oi := { dst := some 113, op := Go.Op.move (Go.Operand.tmp 1), type := 3, pos := "more.go:28", after := #[{ on := 32, ground := Go.Ground.guard }], guard := some (32, true) }) (v := ?vss_39) rfl (by kernel_rfl) (by kernel_rfl) (by kernel_rfl) (fun _ _ _ h => h) (Or.inl ⟨by rfl, ?yss_39⟩) (by assumption) ?rss_39
  case yss_39 => (intro w hSw; (try dsimp only at hSw); go_simp; (try with_reducible rfl))
  (try simp only [Act.put, List.setIfInBounds_toArray, List.set_cons_zero, List.set_cons_succ])
  refine wpAnyH_take (i := 41) (oi := { dst := some 115, op := Go.Op.move (Go.Operand.tmp 12), type := 26, pos := "more.go:28", after := #[{ on := 32, ground := Go.Ground.guard }], guard := some (32, true) }) (v := ?vss_41) rfl (by kernel_rfl) (by kernel_rfl) (by kernel_rfl) (fun _ _ _ h => h) (Or.inl ⟨by rfl, ?yss_41⟩) (by assumption) ?rss_41
  case yss_41 => (intro w hSw; (try dsimp only at hSw); go_simp; (try with_reducible rfl))
  (try simp only [Act.put, List.setIfInBounds_toArray, List.set_cons_zero, List.set_cons_succ])
  refine wpAnyH_take (i := 42) (oi := { dst := some 116, op := Go.Op.move (Go.Operand.tmp 3), type := 3, pos := "more.go:28", after := #[{ on := 32, ground := Go.Ground.guard }], guard := some (32, true) }) (v := ?vss_42) rfl (by kernel_rfl) (by kernel_rfl) (by kernel_rfl) (fun _ _ _ h => h) (Or.inl ⟨by rfl, ?yss_42⟩) (by assumption) ?rss_42
  case yss_42 => (intro w hSw; (try dsimp only at hSw); go_simp; (try with_reducible rfl))
  (try simp only [Act.put, List.setIfInBounds_toArray, List.set_cons_zero, List.set_cons_succ])
  refine wpAnyH_take (i := 43) (oi := { dst := some 117, op := Go.Op.indexAddr 26 (Go.Operand.tmp 115) (Go.Operand.tmp 116), type := 0, pos := "more.go:28", after := #[{ on := 41, ground := Go.Ground.data }, { on := 42, ground := Go.Ground.data }, { on := 32, ground := Go.Ground.guard }], guard := some (32, true) }) (v := ?vss_43) rfl (by kernel_rfl) (by kernel_rfl) (by kernel_rfl) (fun _ _ _ h => h) (Or.inl ⟨by rfl, ?yss_43⟩) (by assumption) ?rss_43
  case yss_43 => (intro w hSw; (try dsimp only at hSw); go_simp; (try with_reducible rfl))
  (try simp only [Act.put, List.setIfInBounds_toArray, List.set_cons_zero, List.set_cons_succ])
  refine wpAnyH_take (i := 44) (oi := { dst := some 118, op := Go.Op.fieldAddr 25 (Go.Operand.tmp 117) 0, type := 0, pos := "more.go:28", after := #[{ on := 43, ground := Go.Ground.data }, { on := 32, ground := Go.Ground.guard }], guard := some (32, true) }) (v := ?vss_44) rfl (by kernel_rfl) (by kernel_rfl) (by kernel_rfl) (fun _ _ _ h => h) (Or.inl ⟨by rfl, ?yss_44⟩) (by assumption) ?rss_44
  case yss_44 => (intro w hSw; (try dsimp only at hSw); go_simp; (try with_reducible rfl))
  (try simp only [Act.put, List.setIfInBounds_toArray, List.set_cons_zero, List.set_cons_succ])
  refine wpAnyH_take (i := 45) (oi := { dst := some 119, op := Go.Op.load 3 (Go.Operand.tmp 118), type := 3, pos := "more.go:28", after := #[{ on := 44, ground := Go.Ground.data }, { on := 32, ground := Go.Ground.guard }], guard := some (32, true) }) (v := ?vss_45) rfl (by kernel_rfl) (by kernel_rfl) (by kernel_rfl) (fun _ _ _ h => h) (Or.inl ⟨by rfl, ?yss_45⟩) (by assumption) ?rss_45
  case yss_45 => (intro w hSw; (try dsimp only at hSw); go_simp; (try with_reducible rfl))
  (try simp only [Act.put, List.setIfInBounds_toArray, List.set_cons_zero, List.set_cons_succ])
  refine wpAnyH_take (i := 46) (oi := { dst := some 120, op := Go.Op.binOp Go.BinOp.neq 3 (Go.Operand.tmp 119) (Go.Operand.const (Go.Value.int Go.IntKind.i64 0)) 3, type := 4, pos := "more.go:28", after := #[{ on := 45, ground := Go.Ground.data }, { on := 32, ground := Go.Ground.guard }], guard := some (32, true) }) (v := ?vss_46) rfl (by kernel_rfl) (by kernel_rfl) (by kernel_rfl) (fun _ _ _ h => h) (Or.inl ⟨by rfl, ?yss_46⟩) (by assumption) ?rss_46
  case yss_46 => (intro w hSw; (try dsimp only at hSw); go_simp; (try with_reducible rfl))
  (try simp only [Act.put, List.setIfInBounds_toArray, List.set_cons_zero, List.set_cons_succ])
  refine wpAnyH_ready (rs := [40]) (by kernel_rfl) (by simp) ?_
  refine AllReadyH.cons (o := { dst := some 114, op := Go.Op.call { callee := Go.Callee.value (Go.Operand.func 20), args := #[Go.Operand.tmp 110, Go.Operand.tmp 112, Go.Operand.tmp 113], argTypes := #[25, 3, 3] }, type := 4, pos := "more.go:28", after := #[{ on := 36, ground := Go.Ground.data }, { on := 38, ground := Go.Ground.data }, { on := 39, ground := Go.Ground.data }, { on := 32, ground := Go.Ground.chain }, { on := 32, ground := Go.Ground.guard }], guard := some (32, true) }) rfl (fun K hK => ?_) AllReadyH.nil
  go_simp
  refine (Tells.of (fits_any (1, (i : Int) - (m : Int), d) ((m : Int) - 1) q _) (v' := .bool true) (by rw [F2.out])).mono ?_
  rintro e w' ⟨rfl, hb⟩
  go_wp2_with fail
  refine hK.out _ _ (held_call HK.out (fun _ h => h.2.2.2) hb hHeld) (fun hHeld2 => ?_)
  clear hK K hHeld
  have hHeld := hHeld2
  clear hHeld2
  (try simp only [Act.put, List.setIfInBounds_toArray, List.set_cons_zero, List.set_cons_succ])
  refine wpAnyH_take (i := 47) (oi := { dst := some 121, op := Go.Op.move (Go.Operand.tmp 120), type := 4, pos := "more.go:28", after := #[{ on := 46, ground := Go.Ground.data }, { on := 40, ground := Go.Ground.chain }, { on := 32, ground := Go.Ground.guard }], guard := some (32, true) }) (v := ?vss_47) rfl (by kernel_rfl) (by kernel_rfl) (by kernel_rfl) (fun _ _ _ h => h) (Or.inl ⟨by rfl, ?yss_47⟩) (by assumption) ?rss_47
  case yss_47 => (intro w hSw; (try dsimp only at hSw); go_simp; (try with_reducible rfl))
  (try simp only [Act.put, List.setIfInBounds_toArray, List.set_cons_zero, List.set_cons_succ])
  refine wpAnyH_take (i := 48) (oi := { dst := some 122, op := Go.Op.move (Go.Operand.tmp 12), type := 26, pos := "more.go:28", after := #[{ on := 47, ground := Go.Ground.guard }], guard := some (47, false) }) (v := undef) rfl (by kernel_rfl) (by kernel_rfl) (by kernel_rfl) (fun _ _ _ h => h) (Or.inr ⟨by rfl, rfl⟩) (by assumption) ?_
  (try simp only [Act.put, List.setIfInBounds_toArray, List.set_cons_zero, List.set_cons_succ])
  refine wpAnyH_take (i := 49) (oi := { dst := some 123, op := Go.Op.move (Go.Operand.tmp 3), type := 3, pos := "more.go:28", after := #[{ on := 47, ground := Go.Ground.guard }], guard := some (47, false) }) (v := undef) rfl (by kernel_rfl) (by kernel_rfl) (by kernel_rfl) (fun _ _ _ h => h) (Or.inr ⟨by rfl, rfl⟩) (by assumption) ?_
  (try simp only [Act.put, List.setIfInBounds_toArray, List.set_cons_zero, List.set_cons_succ])
  refine wpAnyH_take (i := 50) (oi := { dst := some 124, op := Go.Op.indexAddr 26 (Go.Operand.tmp 122) (Go.Operand.tmp 123), type := 0, pos := "more.go:28", after := #[{ on := 48, ground := Go.Ground.data }, { on := 49, ground := Go.Ground.data }, { on := 47, ground := Go.Ground.guard }], guard := some (47, false) }) (v := undef) rfl (by kernel_rfl) (by kernel_rfl) (by kernel_rfl) (fun _ _ _ h => h) (Or.inr ⟨by rfl, rfl⟩) (by assumption) ?_
  (try simp only [Act.put, List.setIfInBounds_toArray, List.set_cons_zero, List.set_cons_succ])
  refine wpAnyH_take (i := 51) (oi := { dst := some 125, op := Go.Op.fieldAddr 25 (Go.Operand.tmp 124) 1, type := 0, pos := "more.go:28", after := #[{ on := 50, ground := Go.Ground.data }, { on := 47, ground := Go.Ground.guard }], guard := some (47, false) }) (v := undef) rfl (by kernel_rfl) (by kernel_rfl) (by kernel_rfl) (fun _ _ _ h => h) (Or.inr ⟨by rfl, rfl⟩) (by assumption) ?_
  (try simp only [Act.put, List.setIfInBounds_toArray, List.set_cons_zero, List.set_cons_succ])
  refine wpAnyH_take (i := 52) (oi := { dst := some 126, op := Go.Op.load 3 (Go.Operand.tmp 125), type := 3, pos := "more.go:28", after := #[{ on := 51, ground := Go.Ground.data }, { on := 47, ground := Go.Ground.guard }], guard := some (47, false) }) (v := undef) rfl (by kernel_rfl) (by kernel_rfl) (by kernel_rfl) (fun _ _ _ h => h) (Or.inr ⟨by rfl, rfl⟩) (by assumption) ?_
  (try simp only [Act.put, List.setIfInBounds_toArray, List.set_cons_zero, List.set_cons_succ])
  refine wpAnyH_take (i := 53) (oi := { dst := some 127, op := Go.Op.move (Go.Operand.tmp 0), type := 3, pos := "more.go:28", after := #[{ on := 47, ground := Go.Ground.guard }], guard := some (47, false) }) (v := undef) rfl (by kernel_rfl) (by kernel_rfl) (by kernel_rfl) (fun _ _ _ h => h) (Or.inr ⟨by rfl, rfl⟩) (by assumption) ?_
  (try simp only [Act.put, List.setIfInBounds_toArray, List.set_cons_zero, List.set_cons_succ])
  refine wpAnyH_take (i := 54) (oi := { dst := some 128, op := Go.Op.binOp Go.BinOp.sub 3 (Go.Operand.tmp 127) (Go.Operand.const (Go.Value.int Go.IntKind.i64 1)) 3, type := 3, pos := "more.go:28", after := #[{ on := 53, ground := Go.Ground.data }, { on := 47, ground := Go.Ground.guard }], guard := some (47, false) }) (v := undef) rfl (by kernel_rfl) (by kernel_rfl) (by kernel_rfl) (fun _ _ _ h => h) (Or.inr ⟨by rfl, rfl⟩) (by assumption) ?_
  (try simp only [Act.put, List.setIfInBounds_toArray, List.set_cons_zero, List.set_cons_succ])
  refine wpAnyH_take (i := 55) (oi := { dst := some 129, op := Go.Op.binOp Go.BinOp.neq 3 (Go.Operand.tmp 126) (Go.Operand.tmp 128) 3, type := 4, pos := "more.go:28", after := #[{ on := 52, ground := Go.Ground.data }, { on := 54, ground := Go.Ground.data }, { on := 47, ground := Go.Ground.guard }], guard := some (47, false) }) (v := undef) rfl (by kernel_rfl) (by kernel_rfl) (by kernel_rfl) (fun _ _ _ h => h) (Or.inr ⟨by rfl, rfl⟩) (by assumption) ?_
  (try simp only [Act.put, List.setIfInBounds_toArray, List.set_cons_zero, List.set_cons_succ])
  refine wpAnyH_take (i := 56) (oi := { dst := some 130, op := Go.Op.pick (Go.Operand.tmp 121) (Go.Operand.const (Go.Value.bool true)) (Go.Operand.tmp 129), type := 4, pos := "more.go:28", after := #[{ on := 47, ground := Go.Ground.data }, { on := 55, ground := Go.Ground.data }, { on := 32, ground := Go.Ground.guard }], guard := some (32, true) }) (v := ?vss_56) rfl (by kernel_rfl) (by kernel_rfl) (by kernel_rfl) (fun _ _ _ h => h) (Or.inl ⟨by rfl, ?yss_56⟩) (by assumption) ?rss_56
  case yss_56 => (intro w hSw; (try dsimp only at hSw); go_simp; (try with_reducible rfl))
  (try simp only [Act.put, List.setIfInBounds_toArray, List.set_cons_zero, List.set_cons_succ])
  refine wpAnyH_take (i := 57) (oi := { dst := some 131, op := Go.Op.binOp Go.BinOp.eql 4 (Go.Operand.tmp 114) (Go.Operand.tmp 130) 4, type := 4, pos := "more.go:28", after := #[{ on := 40, ground := Go.Ground.data }, { on := 56, ground := Go.Ground.data }, { on := 32, ground := Go.Ground.guard }], guard := some (32, true) }) (v := ?vss_57) rfl (by kernel_rfl) (by kernel_rfl) (by kernel_rfl) (fun _ _ _ h => h) (Or.inl ⟨by rfl, ?yss_57⟩) (by assumption) ?rss_57
  case yss_57 => (intro w hSw; (try dsimp only at hSw); go_simp; (try with_reducible rfl))
  (try simp only [Act.put, List.setIfInBounds_toArray, List.set_cons_zero, List.set_cons_succ])
  refine wpAnyH_take (i := 58) (oi := { dst := some 132, op := Go.Op.pick (Go.Operand.tmp 106) (Go.Operand.tmp 131) (Go.Operand.const (Go.Value.bool false)), type := 4, pos := "more.go:28", after := #[{ on := 32, ground := Go.Ground.data }, { on := 57, ground := Go.Ground.data }], guard := none }) (v := ?vss_58) rfl (by kernel_rfl) (by kernel_rfl) (by kernel_rfl) (fun _ _ _ h => h) (Or.inl ⟨by rfl, ?yss_58⟩) (by assumption) ?rss_58
  case yss_58 => (intro w hSw; (try dsimp only at hSw); go_simp; (try with_reducible rfl))
  (try simp only [Act.put, List.setIfInBounds_toArray, List.set_cons_zero, List.set_cons_succ])
  refine wpAnyH_take (i := 59) (oi := { dst := some 10, op := Go.Op.assign (Go.Operand.tmp 132), type := 4, pos := "more.go:28", after := #[{ on := 58, ground := Go.Ground.data }, { on := 47, ground := Go.Ground.chain }, { on := 0, ground := Go.Ground.phase }, { on := 1, ground := Go.Ground.phase }, { on := 2, ground := Go.Ground.phase }, { on := 3, ground := Go.Ground.phase }, { on := 4, ground := Go.Ground.phase }, { on := 5, ground := Go.Ground.phase }, { on := 6, ground := Go.Ground.phase }, { on := 7, ground := Go.Ground.phase }, { on := 8, ground := Go.Ground.phase }, { on := 9, ground := Go.Ground.phase }, { on := 10, ground := Go.Ground.phase }, { on := 11, ground := Go.Ground.phase }, { on := 12, ground := Go.Ground.phase }, { on := 13, ground := Go.Ground.phase }, { on := 14, ground := Go.Ground.phase }, { on := 15, ground := Go.Ground.phase }, { on := 16, ground := Go.Ground.phase }, { on := 17, ground := Go.Ground.phase }, { on := 18, ground := Go.Ground.phase }, { on := 19, ground := Go.Ground.phase }, { on := 20, ground := Go.Ground.phase }, { on := 21, ground := Go.Ground.phase }, { on := 22, ground := Go.Ground.phase }, { on := 23, ground := Go.Ground.phase }, { on := 24, ground := Go.Ground.phase }, { on := 25, ground := Go.Ground.phase }, { on := 26, ground := Go.Ground.phase }, { on := 27, ground := Go.Ground.phase }, { on := 28, ground := Go.Ground.phase }, { on := 29, ground := Go.Ground.phase }, { on := 30, ground := Go.Ground.phase }, { on := 31, ground := Go.Ground.phase }, { on := 32, ground := Go.Ground.phase }, { on := 33, ground := Go.Ground.phase }, { on := 34, ground := Go.Ground.phase }, { on := 35, ground := Go.Ground.phase }, { on := 36, ground := Go.Ground.phase }, { on := 37, ground := Go.Ground.phase }, { on := 38, ground := Go.Ground.phase }, { on := 39, ground := Go.Ground.phase }, { on := 40, ground := Go.Ground.phase }, { on := 41, ground := Go.Ground.phase }, { on := 42, ground := Go.Ground.phase }, { on := 43, ground := Go.Ground.phase }, { on := 44, ground := Go.Ground.phase }, { on := 45, ground := Go.Ground.phase }, { on := 46, ground := Go.Ground.phase }, { on := 47, ground := Go.Ground.phase }, { on := 48, ground := Go.Ground.phase }, { on := 49, ground := Go.Ground.phase }, { on := 50, ground := Go.Ground.phase }, { on := 51, ground := Go.Ground.phase }, { on := 52, ground := Go.Ground.phase }, { on := 53, ground := Go.Ground.phase }, { on := 54, ground := Go.Ground.phase }, { on := 55, ground := Go.Ground.phase }, { on := 56, ground := Go.Ground.phase }, { on := 57, ground := Go.Ground.phase }, { on := 58, ground := Go.Ground.phase }], guard := none }) (v := ?vss_59) rfl (by kernel_rfl) (by kernel_rfl) (by kernel_rfl) (fun _ _ _ h => h) (Or.inl ⟨by rfl, ?yss_59⟩) (by assumption) ?rss_59
  case yss_59 => (intro w hSw; (try dsimp only at hSw); go_simp; (try with_reducible rfl))
  (try simp only [Act.put, List.setIfInBounds_toArray, List.set_cons_zero, List.set_cons_succ])
  refine wpAnyH_done (by kernel_rfl) ?_ _
  have HEND := Lib.hid (Z.out.trans ((hHeld.2.2.2).mono Z.out.size))
  clear hHeld
  go_wp2
  go_ret
  exact ⟨rfl, HEND.out⟩
set_option maxRecDepth 100000 in
set_option maxHeartbeats 8000000 in
theorem round_sn (m q i k : Nat) (d : Int) (w : World) (hm : m ≤ 20) (hq : q ≤ 20) (hi : ¬ i < m) (hil : i < m + q) (hkl : k < m + q) (hik : ¬ i = k) : Tells 8 #[.int .i64 m, .int .i64 q, .int .u64 d, .int .i64 (i : Int), .int .i64 (k : Int)] w (.bool true) := by
  have d0 : decide ((m : Int) < 0) = false := decide_eq_false (by omega)
  have d1 : decide ((q : Int) < 0) = false := decide_eq_false (by omega)
  have d2 : decide (20 < (m : Int)) = false := decide_eq_false (by omega)
  have d3 : decide (20 < (q : Int)) = false := decide_eq_false (by omega)
  obtain ⟨n, hn⟩ : ∃ n, n = m + q := ⟨_, rfl⟩
  have e1 : ((n : Int) != (m : Int) + (q : Int)) = false := by rw [hn]; simp
  have e2 : ((n : Int) == (m : Int) + (q : Int)) = true := by rw [hn]; simp
  have hn4 : n ≤ 40 := by omega
  have fi0 : decide ((i : Int) < 0) = false := decide_eq_false (by omega)
  have fi1 : decide ((n : Int) ≤ (i : Int)) = false := decide_eq_false (by omega)
  have fi2 : decide (n ≤ i) = false := decide_eq_false (by omega)
  have fi3 : i < n := by omega
  have fk0 : decide ((k : Int) < 0) = false := decide_eq_false (by omega)
  have fk1 : decide ((n : Int) ≤ (k : Int)) = false := decide_eq_false (by omega)
  have fk2 : decide (n ≤ k) = false := decide_eq_false (by omega)
  have fk3 : k < n := by omega
  have RI := Lib.hid (show rn m d i = (1, (i : Int) - (m : Int), d) by unfold rn; rw [if_neg hi])
  have F1 := Lib.hid (show fit (1, (i : Int) - (m : Int), d) m q = true by have := fit_rn (d := d) hil; rw [RI.out] at this; exact this)
  have F2 := Lib.hid (fit_less_s (d := d) hi hil)
  have dd : (d == d) = true := by simp
  have wm : IntKind.i64.wrap ((m : Int) - 1) = (m : Int) - 1 := by rw [IntKind.wrap_i64]; omega
  have ik : ((i : Int) == (k : Int)) = false := by simp; omega
  have ik2 : (i == k) = false := by simp; exact hik
  have pk := pe_no (rn_ne (m := m) (d := d) hik)
  rw [RI.out] at pk
  have k0 : ((1 : Int) != 0) = true := by decide
  have RK := Lib.hid (rndN_at (m := m) (d := d) (j := n) fk3)
  generalize rn m d k = y at *
  have RI2 := Lib.hid (rndN_at (m := m) (d := d) (j := n) fi3)
  go_enter Try.func8, Try.ntmps8
  go_wp2_with fail
  refine (awake_any _).mono ?_
  rintro _ w1 ⟨rfl, z1⟩
  have Z := Lib.hid z1
  clear z1
  go_wp2_with fail
  refine (round_yes m q d w1 hm hq).mono ?_
  rintro _ w2 ⟨X, c, rfl, ox, z2⟩
  replace Z := Lib.hid (Z.out.trans (z2.mono Z.out.size))
  rw [rndN_len, ← hn]
  rw [rndN_len, ← hn] at ox
  obtain ⟨xb, xo, rfl, xl, xc⟩ := ox.pr (by rw [rndN_len]; omega)
  obtain ⟨x0, x1, x2⟩ := xc i _ (RI2.out)
  rw [RI.out] at x0 x1 x2
  obtain ⟨y0, y1, y2⟩ := xc k _ (RK.out)
  dsimp only at x0 x1 x2 pk
  have Z2 := Lib.hid z2
  clear z2 ox xc hn
  go_wp2_with fail
  have K : ∀ w', Below w2.heap.size w2 w' → w'.cell? ⟨xb, xo + i * 3, none⟩ = some (.int .i64 1) ∧ w'.cell? ⟨xb, xo + i * 3 + 1, none⟩ = some (.int .i64 ((i : Int) - (m : Int))) ∧ w'.cell? ⟨xb, xo + i * 3 + 2, none⟩ = some (.int .u64 d) ∧ w'.cell? ⟨xb, xo + k * 3, none⟩ = some (.int .i64 y.1) ∧ w'.cell? ⟨xb, xo + k * 3 + 1, none⟩ = some (.int .i64 y.2.1) ∧ w'.cell? ⟨xb, xo + k * 3 + 2, none⟩ = some (.int .u64 y.2.2) ∧ Below w2.heap.size w2 w' := fun w' hb => ⟨(hb.cell (p := ⟨xb, xo + i * 3, none⟩) xl).trans x0, (hb.cell (p := ⟨xb, xo + i * 3 + 1, none⟩) xl).trans x1, (hb.cell (p := ⟨xb, xo + i * 3 + 2, none⟩) xl).trans x2, (hb.cell (p := ⟨xb, xo + k * 3, none⟩) xl).trans y0, (hb.cell (p := ⟨xb, xo + k * 3 + 1, none⟩) xl).trans y1, (hb.cell (p := ⟨xb, xo + k * 3 + 2, none⟩) xl).trans y2, hb⟩
  have HK := Lib.hid K
  clear K x0 x1 x2 y0 y1 y2
  refine wp_region_held_drew (S := fun w' => w'.cell? ⟨xb, xo + i * 3, none⟩ = some (.int .i64 1) ∧ w'.cell? ⟨xb, xo + i * 3 + 1, none⟩ = some (.int .i64 ((i : Int) - (m : Int))) ∧ w'.cell? ⟨xb, xo + i * 3 + 2, none⟩ = some (.int .u64 d) ∧ w'.cell? ⟨xb, xo + k * 3, none⟩ = some (.int .i64 y.1) ∧ w'.cell? ⟨xb, xo + k * 3 + 1, none⟩ = some (.int .i64 y.2.1) ∧ w'.cell? ⟨xb, xo + k * 3 + 2, none⟩ = some (.int .u64 y.2.2) ∧ Below w2.heap.size w2 w') (by kernel_rfl) (HK.out _ (keep_drew (Below.refl _ _))) (fun hHeld => ?_)
  refine wpAnyH_take (i := 0) (oi := { dst := some 74, op := Go.Op.move (Go.Operand.tmp 12), type := 26, pos := "more.go:28", after := #[], guard := none }) (v := ?vsn_0) rfl (by kernel_rfl) (by kernel_rfl) (by kernel_rfl) (fun _ _ _ h => h) (Or.inl ⟨by rfl, ?ysn_0⟩) (by assumption) ?rsn_0
  case ysn_0 => (intro w hSw; (try dsimp only at hSw); go_simp; (try with_reducible rfl))
  (try simp only [Act.put, List.setIfInBounds_toArray, List.set_cons_zero, List.set_cons_succ])
  refine wpAnyH_take (i := 1) (oi := { dst := some 75, op := Go.Op.move (Go.Operand.tmp 3), type := 3, pos := "more.go:28", after := #[], guard := none }) (v := ?vsn_1) rfl (by kernel_rfl) (by kernel_rfl) (by kernel_rfl) (fun _ _ _ h => h) (Or.inl ⟨by rfl, ?ysn_1⟩) (by assumption) ?rsn_1
  case ysn_1 => (intro w hSw; (try dsimp only at hSw); go_simp; (try with_reducible rfl))
  (try simp only [Act.put, List.setIfInBounds_toArray, List.set_cons_zero, List.set_cons_succ])
  refine wpAnyH_take (i := 2) (oi := { dst := some 76, op := Go.Op.indexAddr 26 (Go.Operand.tmp 74) (Go.Operand.tmp 75), type := 0, pos := "more.go:28", after := #[{ on := 0, ground := Go.Ground.data }, { on := 1, ground := Go.Ground.data }], guard := none }) (v := ?vsn_2) rfl (by kernel_rfl) (by kernel_rfl) (by kernel_rfl) (fun _ _ _ h => h) (Or.inl ⟨by rfl, ?ysn_2⟩) (by assumption) ?rsn_2
  case ysn_2 => (intro w hSw; (try dsimp only at hSw); go_simp; (try with_reducible rfl))
  (try simp only [Act.put, List.setIfInBounds_toArray, List.set_cons_zero, List.set_cons_succ])
  refine wpAnyH_take (i := 3) (oi := { dst := some 77, op := Go.Op.load 25 (Go.Operand.tmp 76), type := 25, pos := "more.go:28", after := #[{ on := 2, ground := Go.Ground.data }], guard := none }) (v := ?vsn_3) rfl (by kernel_rfl) (by kernel_rfl) (by kernel_rfl) (fun _ _ _ h => h) (Or.inl ⟨by rfl, ?ysn_3⟩) (by assumption) ?rsn_3
  case ysn_3 => (intro w hSw; (try dsimp only at hSw); go_simp; (try with_reducible rfl))
  (try simp only [Act.put, List.setIfInBounds_toArray, List.set_cons_zero, List.set_cons_succ])
  refine wpAnyH_take (i := 4) (oi := { dst := some 78, op := Go.Op.move (Go.Operand.tmp 0), type := 3, pos := "more.go:28", after := #[], guard := none }) (v := ?vsn_4) rfl (by kernel_rfl) (by kernel_rfl) (by kernel_rfl) (fun _ _ _ h => h) (Or.inl ⟨by rfl, ?ysn_4⟩) (by assumption) ?rsn_4
  case ysn_4 => (intro w hSw; (try dsimp only at hSw); go_simp; (try with_reducible rfl))
  (try simp only [Act.put, List.setIfInBounds_toArray, List.set_cons_zero, List.set_cons_succ])
  refine wpAnyH_take (i := 5) (oi := { dst := some 79, op := Go.Op.move (Go.Operand.tmp 1), type := 3, pos := "more.go:28", after := #[], guard := none }) (v := ?vsn_5) rfl (by kernel_rfl) (by kernel_rfl) (by kernel_rfl) (fun _ _ _ h => h) (Or.inl ⟨by rfl, ?ysn_5⟩) (by assumption) ?rsn_5
  case ysn_5 => (intro w hSw; (try dsimp only at hSw); go_simp; (try with_reducible rfl))
  (try simp only [Act.put, List.setIfInBounds_toArray, List.set_cons_zero, List.set_cons_succ])
  refine wpAnyH_ready (rs := [6]) (by kernel_rfl) (by simp) ?_
  refine AllReadyH.cons (o := { dst := some 80, op := Go.Op.call { callee := Go.Callee.value (Go.Operand.func 20), args := #[Go.Operand.tmp 77, Go.Operand.tmp 78, Go.Operand.tmp 79], argTypes := #[25, 3, 3] }, type := 4, pos := "more.go:28", after := #[{ on := 3, ground := Go.Ground.data }, { on := 4, ground := Go.Ground.data }, { on := 5, ground := Go.Ground.data }], guard := none }) rfl (fun K hK => ?_) AllReadyH.nil
  go_simp
  refine (Tells.of (fits_any (1, (i : Int) - (m : Int), d) m q _) (v' := .bool true) (by rw [F1.out])).mono ?_
  rintro e w' ⟨rfl, hb⟩
  go_wp2_with fail
  refine hK.out _ _ (held_call HK.out (fun _ h => h.2.2.2.2.2.2) hb hHeld) (fun hHeld2 => ?_)
  clear hK K hHeld
  have hHeld := hHeld2
  clear hHeld2
  (try simp only [Act.put, List.setIfInBounds_toArray, List.set_cons_zero, List.set_cons_succ])
  refine wpAnyH_take (i := 7) (oi := { dst := some 81, op := Go.Op.move (Go.Operand.tmp 80), type := 4, pos := "more.go:28", after := #[{ on := 6, ground := Go.Ground.data }, { on := 6, ground := Go.Ground.chain }], guard := none }) (v := ?vsn_7) rfl (by kernel_rfl) (by kernel_rfl) (by kernel_rfl) (fun _ _ _ h => h) (Or.inl ⟨by rfl, ?ysn_7⟩) (by assumption) ?rsn_7
  case ysn_7 => (intro w hSw; (try dsimp only at hSw); go_simp; (try with_reducible rfl))
  (try simp only [Act.put, List.setIfInBounds_toArray, List.set_cons_zero, List.set_cons_succ])
  refine wpAnyH_take (i := 8) (oi := { dst := some 82, op := Go.Op.move (Go.Operand.tmp 12), type := 26, pos := "more.go:28", after := #[{ on := 7, ground := Go.Ground.guard }], guard := some (7, true) }) (v := ?vsn_8) rfl (by kernel_rfl) (by kernel_rfl) (by kernel_rfl) (fun _ _ _ h => h) (Or.inl ⟨by rfl, ?ysn_8⟩) (by assumption) ?rsn_8
  case ysn_8 => (intro w hSw; (try dsimp only at hSw); go_simp; (try with_reducible rfl))
  (try simp only [Act.put, List.setIfInBounds_toArray, List.set_cons_zero, List.set_cons_succ])
  refine wpAnyH_take (i := 9) (oi := { dst := some 83, op := Go.Op.move (Go.Operand.tmp 3), type := 3, pos := "more.go:28", after := #[{ on := 7, ground := Go.Ground.guard }], guard := some (7, true) }) (v := ?vsn_9) rfl (by kernel_rfl) (by kernel_rfl) (by kernel_rfl) (fun _ _ _ h => h) (Or.inl ⟨by rfl, ?ysn_9⟩) (by assumption) ?rsn_9
  case ysn_9 => (intro w hSw; (try dsimp only at hSw); go_simp; (try with_reducible rfl))
  (try simp only [Act.put, List.setIfInBounds_toArray, List.set_cons_zero, List.set_cons_succ])
  refine wpAnyH_take (i := 10) (oi := { dst := some 84, op := Go.Op.indexAddr 26 (Go.Operand.tmp 82) (Go.Operand.tmp 83), type := 0, pos := "more.go:28", after := #[{ on := 8, ground := Go.Ground.data }, { on := 9, ground := Go.Ground.data }, { on := 7, ground := Go.Ground.guard }], guard := some (7, true) }) (v := ?vsn_10) rfl (by kernel_rfl) (by kernel_rfl) (by kernel_rfl) (fun _ _ _ h => h) (Or.inl ⟨by rfl, ?ysn_10⟩) (by assumption) ?rsn_10
  case ysn_10 => (intro w hSw; (try dsimp only at hSw); go_simp; (try with_reducible rfl))
  (try simp only [Act.put, List.setIfInBounds_toArray, List.set_cons_zero, List.set_cons_succ])
  refine wpAnyH_take (i := 11) (oi := { dst := some 85, op := Go.Op.fieldAddr 25 (Go.Operand.tmp 84) 2, type := 0, pos := "more.go:28", after := #[{ on := 10, ground := Go.Ground.data }, { on := 7, ground := Go.Ground.guard }], guard := some (7, true) }) (v := ?vsn_11) rfl (by kernel_rfl) (by kernel_rfl) (by kernel_rfl) (fun _ _ _ h => h) (Or.inl ⟨by rfl, ?ysn_11⟩) (by assumption) ?rsn_11
  case ysn_11 => (intro w hSw; (try dsimp only at hSw); go_simp; (try with_reducible rfl))
  (try simp only [Act.put, List.setIfInBounds_toArray, List.set_cons_zero, List.set_cons_succ])
  refine wpAnyH_take (i := 12) (oi := { dst := some 86, op := Go.Op.load 23 (Go.Operand.tmp 85), type := 23, pos := "more.go:28", after := #[{ on := 11, ground := Go.Ground.data }, { on := 7, ground := Go.Ground.guard }], guard := some (7, true) }) (v := ?vsn_12) rfl (by kernel_rfl) (by kernel_rfl) (by kernel_rfl) (fun _ _ _ h => h) (Or.inl ⟨by rfl, ?ysn_12⟩) (by assumption) ?rsn_12
  case ysn_12 => (intro w hSw; (try dsimp only at hSw); go_simp; (try with_reducible rfl))
  (try simp only [Act.put, List.setIfInBounds_toArray, List.set_cons_zero, List.set_cons_succ])
  refine wpAnyH_take (i := 13) (oi := { dst := some 87, op := Go.Op.move (Go.Operand.tmp 2), type := 23, pos := "more.go:28", after := #[{ on := 7, ground := Go.Ground.guard }], guard := some (7, true) }) (v := ?vsn_13) rfl (by kernel_rfl) (by kernel_rfl) (by kernel_rfl) (fun _ _ _ h => h) (Or.inl ⟨by rfl, ?ysn_13⟩) (by assumption) ?rsn_13
  case ysn_13 => (intro w hSw; (try dsimp only at hSw); go_simp; (try with_reducible rfl))
  (try simp only [Act.put, List.setIfInBounds_toArray, List.set_cons_zero, List.set_cons_succ])
  refine wpAnyH_take (i := 14) (oi := { dst := some 88, op := Go.Op.binOp Go.BinOp.eql 23 (Go.Operand.tmp 86) (Go.Operand.tmp 87) 23, type := 4, pos := "more.go:28", after := #[{ on := 12, ground := Go.Ground.data }, { on := 13, ground := Go.Ground.data }, { on := 7, ground := Go.Ground.guard }], guard := some (7, true) }) (v := ?vsn_14) rfl (by kernel_rfl) (by kernel_rfl) (by kernel_rfl) (fun _ _ _ h => h) (Or.inl ⟨by rfl, ?ysn_14⟩) (by assumption) ?rsn_14
  case ysn_14 => (intro w hSw; (try dsimp only at hSw); go_simp; (try with_reducible rfl))
  (try simp only [Act.put, List.setIfInBounds_toArray, List.set_cons_zero, List.set_cons_succ])
  refine wpAnyH_take (i := 15) (oi := { dst := some 89, op := Go.Op.pick (Go.Operand.tmp 81) (Go.Operand.tmp 88) (Go.Operand.const (Go.Value.bool false)), type := 4, pos := "more.go:28", after := #[{ on := 7, ground := Go.Ground.data }, { on := 14, ground := Go.Ground.data }], guard := none }) (v := ?vsn_15) rfl (by kernel_rfl) (by kernel_rfl) (by kernel_rfl) (fun _ _ _ h => h) (Or.inl ⟨by rfl, ?ysn_15⟩) (by assumption) ?rsn_15
  case ysn_15 => (intro w hSw; (try dsimp only at hSw); go_simp; (try with_reducible rfl))
  (try simp only [Act.put, List.setIfInBounds_toArray, List.set_cons_zero, List.set_cons_succ])
  refine wpAnyH_take (i := 16) (oi := { dst := some 90, op := Go.Op.move (Go.Operand.tmp 89), type := 4, pos := "more.go:28", after := #[{ on := 15, ground := Go.Ground.data }, { on := 7, ground := Go.Ground.chain }], guard := none }) (v := ?vsn_16) rfl (by kernel_rfl) (by kernel_rfl) (by kernel_rfl) (fun _ _ _ h => h) (Or.inl ⟨by rfl, ?ysn_16⟩) (by assumption) ?rsn_16
  case ysn_16 => (intro w hSw; (try dsimp only at hSw); go_simp; (try with_reducible rfl))
  (try simp only [Act.put, List.setIfInBounds_toArray, List.set_cons_zero, List.set_cons_succ])
  refine wpAnyH_take (i := 17) (oi := { dst := some 91, op := Go.Op.move (Go.Operand.tmp 3), type := 3, pos := "more.go:28", after := #[{ on := 16, ground := Go.Ground.guard }], guard := some (16, true) }) (v := ?vsn_17) rfl (by kernel_rfl) (by kernel_rfl) (by kernel_rfl) (fun _ _ _ h => h) (Or.inl ⟨by rfl, ?ysn_17⟩) (by assumption) ?rsn_17
  case ysn_17 => (intro w hSw; (try dsimp only at hSw); go_simp; (try with_reducible rfl))
  (try simp only [Act.put, List.setIfInBounds_toArray, List.set_cons_zero, List.set_cons_succ])
  refine wpAnyH_take (i := 18) (oi := { dst := some 92, op := Go.Op.move (Go.Operand.tmp 4), type := 3, pos := "more.go:28", after := #[{ on := 16, ground := Go.Ground.guard }], guard := some (16, true) }) (v := ?vsn_18) rfl (by kernel_rfl) (by kernel_rfl) (by kernel_rfl) (fun _ _ _ h => h) (Or.inl ⟨by rfl, ?ysn_18⟩) (by assumption) ?rsn_18
  case ysn_18 => (intro w hSw; (try dsimp only at hSw); go_simp; (try with_reducible rfl))
  (try simp only [Act.put, List.setIfInBounds_toArray, List.set_cons_zero, List.set_cons_succ])
  refine wpAnyH_take (i := 19) (oi := { dst := some 93, op := Go.Op.binOp Go.BinOp.eql 3 (Go.Operand.tmp 91) (Go.Operand.tmp 92) 3, type := 4, pos := "more.go:28", after := #[{ on := 17, ground := Go.Ground.data }, { on := 18, ground := Go.Ground.data }, { on := 16, ground := Go.Ground.guard }], guard := some (16, true) }) (v := ?vsn_19) rfl (by kernel_rfl) (by kernel_rfl) (by kernel_rfl) (fun _ _ _ h => h) (Or.inl ⟨by rfl, ?ysn_19⟩) (by assumption) ?rsn_19
  case ysn_19 => (intro w hSw; (try dsimp only at hSw); go_simp; (try with_reducible rfl))
  (try simp only [Act.put, List.setIfInBounds_toArray, List.set_cons_zero, List.set_cons_succ])
  refine wpAnyH_take (i := 20) (oi := { dst := some 94, op := Go.Op.move (Go.Operand.tmp 93), type := 4, pos := "more.go:28", after := #[{ on := 19, ground := Go.Ground.data }, { on := 16, ground := Go.Ground.chain }, { on := 16, ground := Go.Ground.guard }], guard := some (16, true) }) (v := ?vsn_20) rfl (by kernel_rfl) (by kernel_rfl) (by kernel_rfl) (fun _ _ _ h => h) (Or.inl ⟨by rfl, ?ysn_20⟩) (by assumption) ?rsn_20
  case ysn_20 => (intro w hSw; (try dsimp only at hSw); go_simp; (try with_reducible rfl))
  (try simp only [Act.put, List.setIfInBounds_toArray, List.set_cons_zero, List.set_cons_succ])
  refine wpAnyH_take (i := 21) (oi := { dst := some 95, op := Go.Op.move (Go.Operand.tmp 12), type := 26, pos := "more.go:28", after := #[{ on := 20, ground := Go.Ground.guard }], guard := some (20, false) }) (v := ?vsn_21) rfl (by kernel_rfl) (by kernel_rfl) (by kernel_rfl) (fun _ _ _ h => h) (Or.inl ⟨by rfl, ?ysn_21⟩) (by assumption) ?rsn_21
  case ysn_21 => (intro w hSw; (try dsimp only at hSw); go_simp; (try with_reducible rfl))
  (try simp only [Act.put, List.setIfInBounds_toArray, List.set_cons_zero, List.set_cons_succ])
  refine wpAnyH_take (i := 22) (oi := { dst := some 96, op := Go.Op.move (Go.Operand.tmp 3), type := 3, pos := "more.go:28", after := #[{ on := 20, ground := Go.Ground.guard }], guard := some (20, false) }) (v := ?vsn_22) rfl (by kernel_rfl) (by kernel_rfl) (by kernel_rfl) (fun _ _ _ h => h) (Or.inl ⟨by rfl, ?ysn_22⟩) (by assumption) ?rsn_22
  case ysn_22 => (intro w hSw; (try dsimp only at hSw); go_simp; (try with_reducible rfl))
  (try simp only [Act.put, List.setIfInBounds_toArray, List.set_cons_zero, List.set_cons_succ])
  refine wpAnyH_take (i := 23) (oi := { dst := some 97, op := Go.Op.indexAddr 26 (Go.Operand.tmp 95) (Go.Operand.tmp 96), type := 0, pos := "more.go:28", after := #[{ on := 21, ground := Go.Ground.data }, { on := 22, ground := Go.Ground.data }, { on := 20, ground := Go.Ground.guard }], guard := some (20, false) }) (v := ?vsn_23) rfl (by kernel_rfl) (by kernel_rfl) (by kernel_rfl) (fun _ _ _ h => h) (Or.inl ⟨by rfl, ?ysn_23⟩) (by assumption) ?rsn_23
  case ysn_23 => (intro w hSw; (try dsimp only at hSw); go_simp; (try with_reducible rfl))
  (try simp only [Act.put, List.setIfInBounds_toArray, List.set_cons_zero, List.set_cons_succ])
  refine wpAnyH_take (i := 24) (oi := { dst := some 98, op := Go.Op.load 25 (Go.Operand.tmp 97), type := 25, pos := "more.go:28", after := #[{ on := 23, ground := Go.Ground.data }, { on := 20, ground := Go.Ground.guard }], guard := some (20, false) }) (v := ?vsn_24) rfl (by kernel_rfl) (by kernel_rfl) (by kernel_rfl) (fun _ _ _ h => h) (Or.inl ⟨by rfl, ?ysn_24⟩) (by assumption) ?rsn_24
  case ysn_24 => (intro w hSw; (try dsimp only at hSw); go_simp; (try with_reducible rfl))
  (try simp only [Act.put, List.setIfInBounds_toArray, List.set_cons_zero, List.set_cons_succ])
  refine wpAnyH_take (i := 25) (oi := { dst := some 99, op := Go.Op.move (Go.Operand.tmp 12), type := 26, pos := "more.go:28", after := #[{ on := 20, ground := Go.Ground.guard }], guard := some (20, false) }) (v := ?vsn_25) rfl (by kernel_rfl) (by kernel_rfl) (by kernel_rfl) (fun _ _ _ h => h) (Or.inl ⟨by rfl, ?ysn_25⟩) (by assumption) ?rsn_25
  case ysn_25 => (intro w hSw; (try dsimp only at hSw); go_simp; (try with_reducible rfl))
  (try simp only [Act.put, List.setIfInBounds_toArray, List.set_cons_zero, List.set_cons_succ])
  refine wpAnyH_take (i := 26) (oi := { dst := some 100, op := Go.Op.move (Go.Operand.tmp 4), type := 3, pos := "more.go:28", after := #[{ on := 20, ground := Go.Ground.guard }], guard := some (20, false) }) (v := ?vsn_26) rfl (by kernel_rfl) (by kernel_rfl) (by kernel_rfl) (fun _ _ _ h => h) (Or.inl ⟨by rfl, ?ysn_26⟩) (by assumption) ?rsn_26
  case ysn_26 => (intro w hSw; (try dsimp only at hSw); go_simp; (try with_reducible rfl))
  (try simp only [Act.put, List.setIfInBounds_toArray, List.set_cons_zero, List.set_cons_succ])
  refine wpAnyH_take (i := 27) (oi := { dst := some 101, op := Go.Op.indexAddr 26 (Go.Operand.tmp 99) (Go.Operand.tmp 100), type := 0, pos := "more.go:28", after := #[{ on := 25, ground := Go.Ground.data }, { on := 26, ground := Go.Ground.data }, { on := 20, ground := Go.Ground.guard }], guard := some (20, false) }) (v := ?vsn_27) rfl (by kernel_rfl) (by kernel_rfl) (by kernel_rfl) (fun _ _ _ h => h) (Or.inl ⟨by rfl, ?ysn_27⟩) (by assumption) ?rsn_27
  case ysn_27 => (intro w hSw; (try dsimp only at hSw); go_simp; (try with_reducible rfl))
  (try simp only [Act.put, List.setIfInBounds_toArray, List.set_cons_zero, List.set_cons_succ])
  refine wpAnyH_take (i := 28) (oi := { dst := some 102, op := Go.Op.load 25 (Go.Operand.tmp 101), type := 25, pos := "more.go:28", after := #[{ on := 27, ground := Go.Ground.data }, { on := 20, ground := Go.Ground.guard }], guard := some (20, false) }) (v := ?vsn_28) rfl (by kernel_rfl) (by kernel_rfl) (by kernel_rfl) (fun _ _ _ h => h) (Or.inl ⟨by rfl, ?ysn_28⟩) (by assumption) ?rsn_28
  case ysn_28 => (intro w hSw; (try dsimp only at hSw); go_simp; (try with_reducible rfl))
  (try simp only [Act.put, List.setIfInBounds_toArray, List.set_cons_zero, List.set_cons_succ])
  refine wpAnyH_take (i := 29) (oi := { dst := some 103, op := Go.Op.binOp Go.BinOp.neq 25 (Go.Operand.tmp 98) (Go.Operand.tmp 102) 25, type := 4, pos := "more.go:28", after := #[{ on := 24, ground := Go.Ground.data }, { on := 28, ground := Go.Ground.data }, { on := 20, ground := Go.Ground.guard }], guard := some (20, false) }) (v := ?vsn_29) rfl (by kernel_rfl) (by kernel_rfl) (by kernel_rfl) (fun _ _ _ h => h) (Or.inl ⟨by rfl, ?ysn_29⟩) (by assumption) ?rsn_29
  case ysn_29 => (intro w hSw; (try dsimp only at hSw); go_simp; (try with_reducible rfl))
  (try simp only [Act.put, List.setIfInBounds_toArray, List.set_cons_zero, List.set_cons_succ])
  refine wpAnyH_take (i := 30) (oi := { dst := some 104, op := Go.Op.pick (Go.Operand.tmp 94) (Go.Operand.const (Go.Value.bool true)) (Go.Operand.tmp 103), type := 4, pos := "more.go:28", after := #[{ on := 20, ground := Go.Ground.data }, { on := 29, ground := Go.Ground.data }, { on := 16, ground := Go.Ground.guard }], guard := some (16, true) }) (v := ?vsn_30) rfl (by kernel_rfl) (by kernel_rfl) (by kernel_rfl) (fun _ _ _ h => h) (Or.inl ⟨by rfl, ?ysn_30⟩) (by assumption) ?rsn_30
  case ysn_30 => (intro w hSw; (try dsimp only at hSw); go_simp; (try with_reducible rfl))
  (try simp only [Act.put, List.setIfInBounds_toArray, List.set_cons_zero, List.set_cons_succ])
  refine wpAnyH_take (i := 31) (oi := { dst := some 105, op := Go.Op.pick (Go.Operand.tmp 90) (Go.Operand.tmp 104) (Go.Operand.const (Go.Value.bool false)), type := 4, pos := "more.go:28", after := #[{ on := 16, ground := Go.Ground.data }, { on := 30, ground := Go.Ground.data }], guard := none }) (v := ?vsn_31) rfl (by kernel_rfl) (by kernel_rfl) (by kernel_rfl) (fun _ _ _ h => h) (Or.inl ⟨by rfl, ?ysn_31⟩) (by assumption) ?rsn_31
  case ysn_31 => (intro w hSw; (try dsimp only at hSw); go_simp; (try with_reducible rfl))
  (try simp only [Act.put, List.setIfInBounds_toArray, List.set_cons_zero, List.set_cons_succ])
  refine wpAnyH_take (i := 32) (oi := { dst := some 106, op := Go.Op.move (Go.Operand.tmp 105), type := 4, pos := "more.go:28", after := #[{ on := 31, ground := Go.Ground.data }, { on := 20, ground := Go.Ground.chain }], guard := none }) (v := ?vsn_32) rfl (by kernel_rfl) (by kernel_rfl) (by kernel_rfl) (fun _ _ _ h => h) (Or.inl ⟨by rfl, ?ysn_32⟩) (by assumption) ?rsn_32
  case ysn_32 => (intro w hSw; (try dsimp only at hSw); go_simp; (try with_reducible rfl))
  (try simp only [Act.put, List.setIfInBounds_toArray, List.set_cons_zero, List.set_cons_succ])
  refine wpAnyH_take (i := 33) (oi := { dst := some 107, op := Go.Op.move (Go.Operand.tmp 12), type := 26, pos := "more.go:28", after := #[{ on := 32, ground := Go.Ground.guard }], guard := some (32, true) }) (v := ?vsn_33) rfl (by kernel_rfl) (by kernel_rfl) (by kernel_rfl) (fun _ _ _ h => h) (Or.inl ⟨by rfl, ?ysn_33⟩) (by assumption) ?rsn_33
  case ysn_33 => (intro w hSw; (try dsimp only at hSw); go_simp; (try with_reducible rfl))
  (try simp only [Act.put, List.setIfInBounds_toArray, List.set_cons_zero, List.set_cons_succ])
  refine wpAnyH_take (i := 34) (oi := { dst := some 108, op := Go.Op.move (Go.Operand.tmp 3), type := 3, pos := "more.go:28", after := #[{ on := 32, ground := Go.Ground.guard }], guard := some (32, true) }) (v := ?vsn_34) rfl (by kernel_rfl) (by kernel_rfl) (by kernel_rfl) (fun _ _ _ h => h) (Or.inl ⟨by rfl, ?ysn_34⟩) (by assumption) ?rsn_34
  case ysn_34 => (intro w hSw; (try dsimp only at hSw); go_simp; (try with_reducible rfl))
  (try simp only [Act.put, List.setIfInBounds_toArray, List.set_cons_zero, List.set_cons_succ])
  refine wpAnyH_take (i := 35) (oi := { dst := some 109, op := Go.Op.indexAddr 26 (Go.Operand.tmp 107) (Go.Operand.tmp 108), type := 0, pos := "more.go:28", after := #[{ on := 33, ground := Go.Ground.data }, { on := 34, ground := Go.Ground.data }, { on := 32, ground := Go.Ground.guard }], guard := some (32, true) }) (v := ?vsn_35) rfl (by kernel_rfl) (by kernel_rfl) (by kernel_rfl) (fun _ _ _ h => h) (Or.inl ⟨by rfl, ?ysn_35⟩) (by assumption) ?rsn_35
  case ysn_35 => (intro w hSw; (try dsimp only at hSw); go_simp; (try with_reducible rfl))
  (try simp only [Act.put, List.setIfInBounds_toArray, List.set_cons_zero, List.set_cons_succ])
  refine wpAnyH_take (i := 36) (oi := { dst := some 110, op := Go.Op.load 25 (Go.Operand.tmp 109), type := 25, pos := "more.go:28", after := #[{ on := 35, ground := Go.Ground.data }, { on := 32, ground := Go.Ground.guard }], guard := some (32, true) }) (v := ?vsn_36) rfl (by kernel_rfl) (by kernel_rfl) (by kernel_rfl) (fun _ _ _ h => h) (Or.inl ⟨by rfl, ?ysn_36⟩) (by assumption) ?rsn_36
  case ysn_36 => (intro w hSw; (try dsimp only at hSw); go_simp; (try with_reducible rfl))
  (try simp only [Act.put, List.setIfInBounds_toArray, List.set_cons_zero, List.set_cons_succ])
  refine wpAnyH_take (i := 37) (oi := { dst := some 111, op := Go.Op.move (Go.Operand.tmp 0), type := 3, pos := "more.go:28", after := #[{ on := 32, ground := Go.Ground.guard }], guard := some (32, true) }) (v := ?vsn_37) rfl (by kernel_rfl) (by kernel_rfl) (by kernel_rfl) (fun _ _ _ h => h) (Or.inl ⟨by rfl, ?ysn_37⟩) (by assumption) ?rsn_37
  case ysn_37 => (intro w hSw; (try dsimp only at hSw); go_simp; (try with_reducible rfl))
  (try simp only [Act.put, List.setIfInBounds_toArray, List.set_cons_zero, List.set_cons_succ])
  refine wpAnyH_take (i := 38) (oi := { dst := some 112, op := Go.Op.binOp Go.BinOp.sub 3 (Go.Operand.tmp 111) (Go.Operand.const (Go.Value.int Go.IntKind.i64 1)) 3, type := 3, pos := "more.go:28", after := #[{ on := 37, ground := Go.Ground.data }, { on := 32, ground := Go.Ground.guard }], guard := some (32, true) }) (v := ?vsn_38) rfl (by kernel_rfl) (by kernel_rfl) (by kernel_rfl) (fun _ _ _ h => h) (Or.inl ⟨by rfl, ?ysn_38⟩) (by assumption) ?rsn_38
  case ysn_38 => (intro w hSw; (try dsimp only at hSw); go_simp; (try with_reducible rfl))
  (try simp only [Act.put, List.setIfInBounds_toArray, List.set_cons_zero, List.set_cons_succ])
  refine wpAnyH_take (i := 39) (oi := { dst := some 113, op := Go.Op.move (Go.Operand.tmp 1), type := 3, pos := "more.go:28", after := #[{ on := 32, ground := Go.Ground.guard }], guard := some (32, true) }) (v := ?vsn_39) rfl (by kernel_rfl) (by kernel_rfl) (by kernel_rfl) (fun _ _ _ h => h) (Or.inl ⟨by rfl, ?ysn_39⟩) (by assumption) ?rsn_39
  case ysn_39 => (intro w hSw; (try dsimp only at hSw); go_simp; (try with_reducible rfl))
  (try simp only [Act.put, List.setIfInBounds_toArray, List.set_cons_zero, List.set_cons_succ])
  refine wpAnyH_take (i := 41) (oi := { dst := some 115, op := Go.Op.move (Go.Operand.tmp 12), type := 26, pos := "more.go:28", after := #[{ on := 32, ground := Go.Ground.guard }], guard := some (32, true) }) (v := ?vsn_41) rfl (by kernel_rfl) (by kernel_rfl) (by kernel_rfl) (fun _ _ _ h => h) (Or.inl ⟨by rfl, ?ysn_41⟩) (by assumption) ?rsn_41
  case ysn_41 => (intro w hSw; (try dsimp only at hSw); go_simp; (try with_reducible rfl))
  (try simp only [Act.put, List.setIfInBounds_toArray, List.set_cons_zero, List.set_cons_succ])
  refine wpAnyH_take (i := 42) (oi := { dst := some 116, op := Go.Op.move (Go.Operand.tmp 3), type := 3, pos := "more.go:28", after := #[{ on := 32, ground := Go.Ground.guard }], guard := some (32, true) }) (v := ?vsn_42) rfl (by kernel_rfl) (by kernel_rfl) (by kernel_rfl) (fun _ _ _ h => h) (Or.inl ⟨by rfl, ?ysn_42⟩) (by assumption) ?rsn_42
  case ysn_42 => (intro w hSw; (try dsimp only at hSw); go_simp; (try with_reducible rfl))
  (try simp only [Act.put, List.setIfInBounds_toArray, List.set_cons_zero, List.set_cons_succ])
  refine wpAnyH_take (i := 43) (oi := { dst := some 117, op := Go.Op.indexAddr 26 (Go.Operand.tmp 115) (Go.Operand.tmp 116), type := 0, pos := "more.go:28", after := #[{ on := 41, ground := Go.Ground.data }, { on := 42, ground := Go.Ground.data }, { on := 32, ground := Go.Ground.guard }], guard := some (32, true) }) (v := ?vsn_43) rfl (by kernel_rfl) (by kernel_rfl) (by kernel_rfl) (fun _ _ _ h => h) (Or.inl ⟨by rfl, ?ysn_43⟩) (by assumption) ?rsn_43
  case ysn_43 => (intro w hSw; (try dsimp only at hSw); go_simp; (try with_reducible rfl))
  (try simp only [Act.put, List.setIfInBounds_toArray, List.set_cons_zero, List.set_cons_succ])
  refine wpAnyH_take (i := 44) (oi := { dst := some 118, op := Go.Op.fieldAddr 25 (Go.Operand.tmp 117) 0, type := 0, pos := "more.go:28", after := #[{ on := 43, ground := Go.Ground.data }, { on := 32, ground := Go.Ground.guard }], guard := some (32, true) }) (v := ?vsn_44) rfl (by kernel_rfl) (by kernel_rfl) (by kernel_rfl) (fun _ _ _ h => h) (Or.inl ⟨by rfl, ?ysn_44⟩) (by assumption) ?rsn_44
  case ysn_44 => (intro w hSw; (try dsimp only at hSw); go_simp; (try with_reducible rfl))
  (try simp only [Act.put, List.setIfInBounds_toArray, List.set_cons_zero, List.set_cons_succ])
  refine wpAnyH_take (i := 45) (oi := { dst := some 119, op := Go.Op.load 3 (Go.Operand.tmp 118), type := 3, pos := "more.go:28", after := #[{ on := 44, ground := Go.Ground.data }, { on := 32, ground := Go.Ground.guard }], guard := some (32, true) }) (v := ?vsn_45) rfl (by kernel_rfl) (by kernel_rfl) (by kernel_rfl) (fun _ _ _ h => h) (Or.inl ⟨by rfl, ?ysn_45⟩) (by assumption) ?rsn_45
  case ysn_45 => (intro w hSw; (try dsimp only at hSw); go_simp; (try with_reducible rfl))
  (try simp only [Act.put, List.setIfInBounds_toArray, List.set_cons_zero, List.set_cons_succ])
  refine wpAnyH_take (i := 46) (oi := { dst := some 120, op := Go.Op.binOp Go.BinOp.neq 3 (Go.Operand.tmp 119) (Go.Operand.const (Go.Value.int Go.IntKind.i64 0)) 3, type := 4, pos := "more.go:28", after := #[{ on := 45, ground := Go.Ground.data }, { on := 32, ground := Go.Ground.guard }], guard := some (32, true) }) (v := ?vsn_46) rfl (by kernel_rfl) (by kernel_rfl) (by kernel_rfl) (fun _ _ _ h => h) (Or.inl ⟨by rfl, ?ysn_46⟩) (by assumption) ?rsn_46
  case ysn_46 => (intro w hSw; (try dsimp only at hSw); go_simp; (try with_reducible rfl))
  (try simp only [Act.put, List.setIfInBounds_toArray, List.set_cons_zero, List.set_cons_succ])
  refine wpAnyH_ready (rs := [40]) (by kernel_rfl) (by simp) ?_
  refine AllReadyH.cons (o := { dst := some 114, op := Go.Op.call { callee := Go.Callee.value (Go.Operand.func 20), args := #[Go.Operand.tmp 110, Go.Operand.tmp 112, Go.Operand.tmp 113], argTypes := #[25, 3, 3] }, type := 4, pos := "more.go:28", after := #[{ on := 36, ground := Go.Ground.data }, { on := 38, ground := Go.Ground.data }, { on := 39, ground := Go.Ground.data }, { on := 32, ground := Go.Ground.chain }, { on := 32, ground := Go.Ground.guard }], guard := some (32, true) }) rfl (fun K hK => ?_) AllReadyH.nil
  go_simp
  refine (Tells.of (fits_any (1, (i : Int) - (m : Int), d) ((m : Int) - 1) q _) (v' := .bool true) (by rw [F2.out])).mono ?_
  rintro e w' ⟨rfl, hb⟩
  go_wp2_with fail
  refine hK.out _ _ (held_call HK.out (fun _ h => h.2.2.2.2.2.2) hb hHeld) (fun hHeld2 => ?_)
  clear hK K hHeld
  have hHeld := hHeld2
  clear hHeld2
  (try simp only [Act.put, List.setIfInBounds_toArray, List.set_cons_zero, List.set_cons_succ])
  refine wpAnyH_take (i := 47) (oi := { dst := some 121, op := Go.Op.move (Go.Operand.tmp 120), type := 4, pos := "more.go:28", after := #[{ on := 46, ground := Go.Ground.data }, { on := 40, ground := Go.Ground.chain }, { on := 32, ground := Go.Ground.guard }], guard := some (32, true) }) (v := ?vsn_47) rfl (by kernel_rfl) (by kernel_rfl) (by kernel_rfl) (fun _ _ _ h => h) (Or.inl ⟨by rfl, ?ysn_47⟩) (by assumption) ?rsn_47
  case ysn_47 => (intro w hSw; (try dsimp only at hSw); go_simp; (try with_reducible rfl))
  (try simp only [Act.put, List.setIfInBounds_toArray, List.set_cons_zero, List.set_cons_succ])
  refine wpAnyH_take (i := 48) (oi := { dst := some 122, op := Go.Op.move (Go.Operand.tmp 12), type := 26, pos := "more.go:28", after := #[{ on := 47, ground := Go.Ground.guard }], guard := some (47, false) }) (v := undef) rfl (by kernel_rfl) (by kernel_rfl) (by kernel_rfl) (fun _ _ _ h => h) (Or.inr ⟨by rfl, rfl⟩) (by assumption) ?_
  (try simp only [Act.put, List.setIfInBounds_toArray, List.set_cons_zero, List.set_cons_succ])
  refine wpAnyH_take (i := 49) (oi := { dst := some 123, op := Go.Op.move (Go.Operand.tmp 3), type := 3, pos := "more.go:28", after := #[{ on := 47, ground := Go.Ground.guard }], guard := some (47, false) }) (v := undef) rfl (by kernel_rfl) (by kernel_rfl) (by kernel_rfl) (fun _ _ _ h => h) (Or.inr ⟨by rfl, rfl⟩) (by assumption) ?_
  (try simp only [Act.put, List.setIfInBounds_toArray, List.set_cons_zero, List.set_cons_succ])
  refine wpAnyH_take (i := 50) (oi := { dst := some 124, op := Go.Op.indexAddr 26 (Go.Operand.tmp 122) (Go.Operand.tmp 123), type := 0, pos := "more.go:28", after := #[{ on := 48, ground := Go.Ground.data }, { on := 49, ground := Go.Ground.data }, { on := 47, ground := Go.Ground.guard }], guard := some (47, false) }) (v := undef) rfl (by kernel_rfl) (by kernel_rfl) (by kernel_rfl) (fun _ _ _ h => h) (Or.inr ⟨by rfl, rfl⟩) (by assumption) ?_
  (try simp only [Act.put, List.setIfInBounds_toArray, List.set_cons_zero, List.set_cons_succ])
  refine wpAnyH_take (i := 51) (oi := { dst := some 125, op := Go.Op.fieldAddr 25 (Go.Operand.tmp 124) 1, type := 0, pos := "more.go:28", after := #[{ on := 50, ground := Go.Ground.data }, { on := 47, ground := Go.Ground.guard }], guard := some (47, false) }) (v := undef) rfl (by kernel_rfl) (by kernel_rfl) (by kernel_rfl) (fun _ _ _ h => h) (Or.inr ⟨by rfl, rfl⟩) (by assumption) ?_
  (try simp only [Act.put, List.setIfInBounds_toArray, List.set_cons_zero, List.set_cons_succ])
  refine wpAnyH_take (i := 52) (oi := { dst := some 126, op := Go.Op.load 3 (Go.Operand.tmp 125), type := 3, pos := "more.go:28", after := #[{ on := 51, ground := Go.Ground.data }, { on := 47, ground := Go.Ground.guard }], guard := some (47, false) }) (v := undef) rfl (by kernel_rfl) (by kernel_rfl) (by kernel_rfl) (fun _ _ _ h => h) (Or.inr ⟨by rfl, rfl⟩) (by assumption) ?_
  (try simp only [Act.put, List.setIfInBounds_toArray, List.set_cons_zero, List.set_cons_succ])
  refine wpAnyH_take (i := 53) (oi := { dst := some 127, op := Go.Op.move (Go.Operand.tmp 0), type := 3, pos := "more.go:28", after := #[{ on := 47, ground := Go.Ground.guard }], guard := some (47, false) }) (v := undef) rfl (by kernel_rfl) (by kernel_rfl) (by kernel_rfl) (fun _ _ _ h => h) (Or.inr ⟨by rfl, rfl⟩) (by assumption) ?_
  (try simp only [Act.put, List.setIfInBounds_toArray, List.set_cons_zero, List.set_cons_succ])
  refine wpAnyH_take (i := 54) (oi := { dst := some 128, op := Go.Op.binOp Go.BinOp.sub 3 (Go.Operand.tmp 127) (Go.Operand.const (Go.Value.int Go.IntKind.i64 1)) 3, type := 3, pos := "more.go:28", after := #[{ on := 53, ground := Go.Ground.data }, { on := 47, ground := Go.Ground.guard }], guard := some (47, false) }) (v := undef) rfl (by kernel_rfl) (by kernel_rfl) (by kernel_rfl) (fun _ _ _ h => h) (Or.inr ⟨by rfl, rfl⟩) (by assumption) ?_
  (try simp only [Act.put, List.setIfInBounds_toArray, List.set_cons_zero, List.set_cons_succ])
  refine wpAnyH_take (i := 55) (oi := { dst := some 129, op := Go.Op.binOp Go.BinOp.neq 3 (Go.Operand.tmp 126) (Go.Operand.tmp 128) 3, type := 4, pos := "more.go:28", after := #[{ on := 52, ground := Go.Ground.data }, { on := 54, ground := Go.Ground.data }, { on := 47, ground := Go.Ground.guard }], guard := some (47, false) }) (v := undef) rfl (by kernel_rfl) (by kernel_rfl) (by kernel_rfl) (fun _ _ _ h => h) (Or.inr ⟨by rfl, rfl⟩) (by assumption) ?_
  (try simp only [Act.put, List.setIfInBounds_toArray, List.set_cons_zero, List.set_cons_succ])
  refine wpAnyH_take (i := 56) (oi := { dst := some 130, op := Go.Op.pick (Go.Operand.tmp 121) (Go.Operand.const (Go.Value.bool true)) (Go.Operand.tmp 129), type := 4, pos := "more.go:28", after := #[{ on := 47, ground := Go.Ground.data }, { on := 55, ground := Go.Ground.data }, { on := 32, ground := Go.Ground.guard }], guard := some (32, true) }) (v := ?vsn_56) rfl (by kernel_rfl) (by kernel_rfl) (by kernel_rfl) (fun _ _ _ h => h) (Or.inl ⟨by rfl, ?ysn_56⟩) (by assumption) ?rsn_56
  case ysn_56 => (intro w hSw; (try dsimp only at hSw); go_simp; (try with_reducible rfl))
  (try simp only [Act.put, List.setIfInBounds_toArray, List.set_cons_zero, List.set_cons_succ])
  refine wpAnyH_take (i := 57) (oi := { dst := some 131, op := Go.Op.binOp Go.BinOp.eql 4 (Go.Operand.tmp 114) (Go.Operand.tmp 130) 4, type := 4, pos := "more.go:28", after := #[{ on := 40, ground := Go.Ground.data }, { on := 56, ground := Go.Ground.data }, { on := 32, ground := Go.Ground.guard }], guard := some (32, true) }) (v := ?vsn_57) rfl (by kernel_rfl) (by kernel_rfl) (by kernel_rfl) (fun _ _ _ h => h) (Or.inl ⟨by rfl, ?ysn_57⟩) (by assumption) ?rsn_57
  case ysn_57 => (intro w hSw; (try dsimp only at hSw); go_simp; (try with_reducible rfl))
  (try simp only [Act.put, List.setIfInBounds_toArray, List.set_cons_zero, List.set_cons_succ])
  refine wpAnyH_take (i := 58) (oi := { dst := some 132, op := Go.Op.pick (Go.Operand.tmp 106) (Go.Operand.tmp 131) (Go.Operand.const (Go.Value.bool false)), type := 4, pos := "more.go:28", after := #[{ on := 32, ground := Go.Ground.data }, { on := 57, ground := Go.Ground.data }], guard := none }) (v := ?vsn_58) rfl (by kernel_rfl) (by kernel_rfl) (by kernel_rfl) (fun _ _ _ h => h) (Or.inl ⟨by rfl, ?ysn_58⟩) (by assumption) ?rsn_58
  case ysn_58 => (intro w hSw; (try dsimp only at hSw); go_simp; (try with_reducible rfl))
  (try simp only [Act.put, List.setIfInBounds_toArray, List.set_cons_zero, List.set_cons_succ])
  refine wpAnyH_take (i := 59) (oi := { dst := some 10, op := Go.Op.assign (Go.Operand.tmp 132), type := 4, pos := "more.go:28", after := #[{ on := 58, ground := Go.Ground.data }, { on := 47, ground := Go.Ground.chain }, { on := 0, ground := Go.Ground.phase }, { on := 1, ground := Go.Ground.phase }, { on := 2, ground := Go.Ground.phase }, { on := 3, ground := Go.Ground.phase }, { on := 4, ground := Go.Ground.phase }, { on := 5, ground := Go.Ground.phase }, { on := 6, ground := Go.Ground.phase }, { on := 7, ground := Go.Ground.phase }, { on := 8, ground := Go.Ground.phase }, { on := 9, ground := Go.Ground.phase }, { on := 10, ground := Go.Ground.phase }, { on := 11, ground := Go.Ground.phase }, { on := 12, ground := Go.Ground.phase }, { on := 13, ground := Go.Ground.phase }, { on := 14, ground := Go.Ground.phase }, { on := 15, ground := Go.Ground.phase }, { on := 16, ground := Go.Ground.phase }, { on := 17, ground := Go.Ground.phase }, { on := 18, ground := Go.Ground.phase }, { on := 19, ground := Go.Ground.phase }, { on := 20, ground := Go.Ground.phase }, { on := 21, ground := Go.Ground.phase }, { on := 22, ground := Go.Ground.phase }, { on := 23, ground := Go.Ground.phase }, { on := 24, ground := Go.Ground.phase }, { on := 25, ground := Go.Ground.phase }, { on := 26, ground := Go.Ground.phase }, { on := 27, ground := Go.Ground.phase }, { on := 28, ground := Go.Ground.phase }, { on := 29, ground := Go.Ground.phase }, { on := 30, ground := Go.Ground.phase }, { on := 31, ground := Go.Ground.phase }, { on := 32, ground := Go.Ground.phase }, { on := 33, ground := Go.Ground.phase }, { on := 34, ground := Go.Ground.phase }, { on := 35, ground := Go.Ground.phase }, { on := 36, ground := Go.Ground.phase }, { on := 37, ground := Go.Ground.phase }, { on := 38, ground := Go.Ground.phase }, { on := 39, ground := Go.Ground.phase }, { on := 40, ground := Go.Ground.phase }, { on := 41, ground := Go.Ground.phase }, { on := 42, ground := Go.Ground.phase }, { on := 43, ground := Go.Ground.phase }, { on := 44, ground := Go.Ground.phase }, { on := 45, ground := Go.Ground.phase }, { on := 46, ground := Go.Ground.phase }, { on := 47, ground := Go.Ground.phase }, { on := 48, ground := Go.Ground.phase }, { on := 49, ground := Go.Ground.phase }, { on := 50, ground := Go.Ground.phase }, { on := 51, ground := Go.Ground.phase }, { on := 52, ground := Go.Ground.phase }, { on := 53, ground := Go.Ground.phase }, { on := 54, ground := Go.Ground.phase }, { on := 55, ground := Go.Ground.phase }, { on := 56, ground := Go.Ground.phase }, { on := 57, ground := Go.Ground.phase }, { on := 58, ground := Go.Ground.phase }], guard := none }) (v := ?vsn_59) rfl (by kernel_rfl) (by kernel_rfl) (by kernel_rfl) (fun _ _ _ h => h) (Or.inl ⟨by rfl, ?ysn_59⟩) (by assumption) ?rsn_59
  case ysn_59 => (intro w hSw; (try dsimp only at hSw); go_simp; (try with_reducible rfl))
  (try simp only [Act.put, List.setIfInBounds_toArray, List.set_cons_zero, List.set_cons_succ])
  refine wpAnyH_done (by kernel_rfl) ?_ _
  have HEND := Lib.hid (Z.out.trans ((hHeld.2.2.2.2.2.2).mono Z.out.size))
  clear hHeld
  go_wp2
  go_ret
  exact ⟨rfl, HEND.out⟩
theorem drawRound_walk (nw ns d i k : Int) (w : World) : Tells 8 #[.int .i64 nw, .int .i64 ns, .int .u64 d, .int .i64 i, .int .i64 k] w (.bool true) := by
  cases h : mt nw ns
  · exact round_off nw ns d i k w h
  · have hr := mt_iff.1 h
    obtain ⟨m, rfl⟩ : ∃ m : Nat, nw = m := ⟨nw.toNat, by omega⟩
    obtain ⟨q, rfl⟩ : ∃ q : Nat, ns = q := ⟨ns.toNat, by omega⟩
    by_cases h0 : i < 0
    · exact round_ilo m q d i k w (by omega) (by omega) h0
    · by_cases h1 : k < 0
      · exact round_klo m q d i k w (by omega) (by omega) h0 h1
      · by_cases h2 : ((m + q : Nat) : Int) ≤ i
        · exact round_ihi m q d i k w (by omega) (by omega) h0 h1 h2
        · by_cases h3 : ((m + q : Nat) : Int) ≤ k
          · exact round_khi m q d i k w (by omega) (by omega) h0 h1 h2 h3
          · obtain ⟨a, rfl⟩ : ∃ a : Nat, i = a := ⟨i.toNat, by omega⟩
            obtain ⟨b, rfl⟩ : ∃ b : Nat, k = b := ⟨k.toNat, by omega⟩
            by_cases hw : a < m
            · by_cases e : a = b
              · subst e; exact round_ws m q a d w (by omega) (by omega) hw (by omega)
              · exact round_wn m q a b d w (by omega) (by omega) hw (by omega) (by omega) e
            · by_cases e : a = b
              · subst e; exact round_ss m q a d w (by omega) (by omega) hw (by omega)
              · exact round_sn m q a b d w (by omega) (by omega) hw (by omega) (by omega) e
end Go.Proofs.Ytnabomdadhgeeaa
