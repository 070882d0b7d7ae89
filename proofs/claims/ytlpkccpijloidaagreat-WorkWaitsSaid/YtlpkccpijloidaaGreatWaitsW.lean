/- The walk of WorkWaits. -/
import Derived.Test.YtlpkccpijloidaaGreatWkL
import Derived.Deep.QuietTactic
import Derived.BigQuiet
namespace Go.Proofs.YtlpkccpijloidaaGreat
set_option linter.unusedSimpArgs false
set_option maxRecDepth 100000
open Go.RowKit Go.Deep
attribute [local go_sem ↓] eql_fr guard_fr
theorem at0_zero (n : Nat) (i : Int) : at0 (List.replicate n 0) i = 0 := by
  unfold at0
  split
  · rw [List.getD_eq_getElem?_getD, List.getElem?_replicate]
    split <;> rfl
  · rfl
theorem wtW_lo {W me q k : Int} (h : k ≤ 1 + 2 * W) : wtW W me q k = ⟨7, [], ⟨5, 1, me, 0, 0, 0, 0⟩, q, k⟩ := by unfold wtW; rw [if_pos h]; rfl
theorem wtW_hi {W me q k : Int} (h : ¬ k ≤ 1 + 2 * W) : wtW W me q k = ⟨8, [], ⟨5, 1, me, 0, 0, 0, 0⟩, q, 0⟩ := by unfold wtW; rw [if_neg h]; rfl
theorem wtW_stk {W me q k : Int} : (wtW W me q k).stk = [] := by unfold wtW; split <;> rfl
set_option maxHeartbeats 8000000 in
theorem waits_few {W D J S me : Int} {AT : Option Addr} {ct : Nat} {T : List Fo.Tsk} {w : World} (hT : Fo.Tk w.heap.size w AT T) (hTl : T.length ≤ maxLen) (hTk : ∀ y ∈ T, y.2.length ≤ maxLen) (hme : I me) (hq : (Fo.few T && decide (((⟨7, [], ⟨5, 1, me, 0, 0, 0, 0⟩, 0, 0⟩ : WkS).stk.length : Int) ≤ 40)) = false) : Tells 7 #[cf W D J S, .slice AT T.length ct, .int .i64 me] w (.bool true) := by
  have HT := Lib.hid hT
  have HTL := Lib.hid hTl
  have HTK := Lib.hid hTk
  have HME := Lib.hid hme
  have H_hq := Lib.hid hq
  clear hT hTl hTk hme hq
  have Z := Lib.hid (bel_alloc w (.cells #[.int .i64 W, .int .i64 D, .int .i64 J, .int .i64 S] 23))
  have BX := Lib.hid (Bx.mk w W D J S 23)
  go_enter Tryz.func7, Tryz.ntmps7
  go_wp2_with fail
  refine (wawake_any _).mono ?_
  rintro _ w1 ⟨rfl, zz⟩
  replace BX := Lib.hid (BX.out.below zz)
  replace Z := Lib.hid (Z.out.trans (zz.mono Z.out.size))
  clear zz
  go_wp2_with fail
  refine (wnew_any me _).mono ?_
  rintro _ w2 ⟨rfl, zz⟩
  replace BX := Lib.hid (BX.out.below zz)
  replace Z := Lib.hid (Z.out.trans (zz.mono Z.out.size))
  clear zz
  go_upto_region 5 with fail
  have hg2 := BX.out.1
  have zz := bel_alloc w2 (.cells #[.int .i64 7, .slice none 0 0, .int .i64 5, .int .i64 1, .int .i64 me, .int .u64 0, .int .u64 0, .int .u64 0, .int .i64 0, .int .i64 0, .int .i64 0] 32)
  replace BX := Lib.hid (BX.out.below zz)
  replace Z := Lib.hid (Z.out.trans (zz.mono Z.out.size))
  have BV := Lib.hid (Wvb.new w2 ⟨7, [], ⟨5, 1, me, 0, 0, 0, 0⟩, 0, 0⟩ (.slice none 0 0))
  clear zz
  generalize w2.alloc (.cells #[.int .i64 7, .slice none 0 0, .int .i64 5, .int .i64 1, .int .i64 me, .int .u64 0, .int .u64 0, .int .u64 0, .int .i64 0, .int .i64 0, .int .i64 0] 32) = v at *
  generalize w2.heap.size = gx at *
  obtain ⟨f0, f1, f2, f3, f4, f5, f6, f7, f8, f9, f10⟩ := BV.out.cells
  have fz := BV.out.free
  simp only at f0 f1 f2 f3 f4 f5 f6 f7 f8 f9 f10
  go_wp2_with fail
  refine (wfew_any (x := ⟨7, [], ⟨5, 1, me, 0, 0, 0, 0⟩, 0, 0⟩) (HT.out.later Z.out) HTL.out HTK.out (q := false) H_hq.out).mono ?_
  rintro _ w3 ⟨rfl, zz⟩
  replace BX := Lib.hid (BX.out.below zz)
  replace BV := Lib.hid (BV.out.after zz)
  replace Z := Lib.hid (Z.out.trans (zz.mono Z.out.size))
  clear zz
  clear f0 f1 f2 f3 f4 f5 f6 f7 f8 f9 f10 fz
  obtain ⟨f0, f1, f2, f3, f4, f5, f6, f7, f8, f9, f10⟩ := BV.out.cells
  have fz := BV.out.free
  simp only at f0 f1 f2 f3 f4 f5 f6 f7 f8 f9 f10
  go_wp2_with fail
  go_quiet (fail)
  go_wp2
  go_ret
  exact ⟨rfl, Z.out.trans ((below_drewN _ _).mono Z.out.size)⟩
set_option maxHeartbeats 8000000 in
theorem waits_not {W D J S me : Int} {AT : Option Addr} {ct : Nat} {T : List Fo.Tsk} {w : World} (hT : Fo.Tk w.heap.size w AT T) (hTl : T.length ≤ maxLen) (hTk : ∀ y ∈ T, y.2.length ≤ maxLen) (hme : I me) (hq : (Fo.few T && decide (((⟨7, [], ⟨5, 1, me, 0, 0, 0, 0⟩, 0, 0⟩ : WkS).stk.length : Int) ≤ 40)) = true) (hsm : Fo.Sm T) (hm : mayW W D J S T (List.replicate (sz W D J S).toNat 0) me ⟨7, [], ⟨5, 1, me, 0, 0, 0, 0⟩, 0, 0⟩ = false) : Tells 7 #[cf W D J S, .slice AT T.length ct, .int .i64 me] w (.bool true) := by
  have HT := Lib.hid hT
  have HTL := Lib.hid hTl
  have HTK := Lib.hid hTk
  have HME := Lib.hid hme
  have H_hq := Lib.hid hq
  have H_hsm := Lib.hid hsm
  have H_hm := Lib.hid hm
  clear hT hTl hTk hme hq hsm hm
  have Z := Lib.hid (bel_alloc w (.cells #[.int .i64 W, .int .i64 D, .int .i64 J, .int .i64 S] 23))
  have BX := Lib.hid (Bx.mk w W D J S 23)
  go_enter Tryz.func7, Tryz.ntmps7
  go_wp2_with fail
  refine (wawake_any _).mono ?_
  rintro _ w1 ⟨rfl, zz⟩
  replace BX := Lib.hid (BX.out.below zz)
  replace Z := Lib.hid (Z.out.trans (zz.mono Z.out.size))
  clear zz
  go_wp2_with fail
  refine (wnew_any me _).mono ?_
  rintro _ w2 ⟨rfl, zz⟩
  replace BX := Lib.hid (BX.out.below zz)
  replace Z := Lib.hid (Z.out.trans (zz.mono Z.out.size))
  clear zz
  go_upto_region 5 with fail
  have hg2 := BX.out.1
  have zz := bel_alloc w2 (.cells #[.int .i64 7, .slice none 0 0, .int .i64 5, .int .i64 1, .int .i64 me, .int .u64 0, .int .u64 0, .int .u64 0, .int .i64 0, .int .i64 0, .int .i64 0] 32)
  replace BX := Lib.hid (BX.out.below zz)
  replace Z := Lib.hid (Z.out.trans (zz.mono Z.out.size))
  have BV := Lib.hid (Wvb.new w2 ⟨7, [], ⟨5, 1, me, 0, 0, 0, 0⟩, 0, 0⟩ (.slice none 0 0))
  clear zz
  generalize w2.alloc (.cells #[.int .i64 7, .slice none 0 0, .int .i64 5, .int .i64 1, .int .i64 me, .int .u64 0, .int .u64 0, .int .u64 0, .int .i64 0, .int .i64 0, .int .i64 0] 32) = v at *
  generalize w2.heap.size = gx at *
  obtain ⟨f0, f1, f2, f3, f4, f5, f6, f7, f8, f9, f10⟩ := BV.out.cells
  have fz := BV.out.free
  simp only at f0 f1 f2 f3 f4 f5 f6 f7 f8 f9 f10
  go_wp2_with fail
  refine (wfew_any (x := ⟨7, [], ⟨5, 1, me, 0, 0, 0, 0⟩, 0, 0⟩) (HT.out.later Z.out) HTL.out HTK.out (q := true) H_hq.out).mono ?_
  rintro _ w3 ⟨rfl, zz⟩
  replace BX := Lib.hid (BX.out.below zz)
  replace BV := Lib.hid (BV.out.after zz)
  replace Z := Lib.hid (Z.out.trans (zz.mono Z.out.size))
  clear zz
  clear f0 f1 f2 f3 f4 f5 f6 f7 f8 f9 f10 fz
  obtain ⟨f0, f1, f2, f3, f4, f5, f6, f7, f8, f9, f10⟩ := BV.out.cells
  have fz := BV.out.free
  simp only at f0 f1 f2 f3 f4 f5 f6 f7 f8 f9 f10
  have HK := Lib.hid (show ∀ x', Below w3.heap.size w3 x' → (fun w' => w'.cell? ⟨w.heap.size, 0, none⟩ = some (.int .i64 W) ∧ w'.cell? ⟨w.heap.size, 1, none⟩ = some (.int .i64 D) ∧ w'.cell? ⟨w.heap.size, 2, none⟩ = some (.int .i64 J) ∧ w'.cell? ⟨w.heap.size, 3, none⟩ = some (.int .i64 S) ∧ w'.cell? ⟨gx, 0, none⟩ = some (.int .i64 7) ∧ w'.cell? ⟨gx, 1, none⟩ = some (.slice none 0 0) ∧ w'.cell? ⟨gx, 2, none⟩ = some (.int .i64 5) ∧ w'.cell? ⟨gx, 3, none⟩ = some (.int .i64 1) ∧ w'.cell? ⟨gx, 4, none⟩ = some (.int .i64 me) ∧ w'.cell? ⟨gx, 5, none⟩ = some (.int .u64 0) ∧ w'.cell? ⟨gx, 6, none⟩ = some (.int .u64 0) ∧ w'.cell? ⟨gx, 7, none⟩ = some (.int .u64 0) ∧ w'.cell? ⟨gx, 8, none⟩ = some (.int .i64 0) ∧ w'.cell? ⟨gx, 9, none⟩ = some (.int .i64 0) ∧ w'.cell? ⟨gx, 10, none⟩ = some (.int .i64 0) ∧ Below w3.heap.size w3 w') x' from fun x' hx => by
    obtain ⟨_, e0, e1, e2, e3⟩ := BX.out.below hx
    obtain ⟨f0, f1, f2, f3, f4, f5, f6, f7, f8, f9, f10⟩ := (BV.out.after hx).cells
    exact ⟨e0, e1, e2, e3, f0, f1, f2, f3, f4, f5, f6, f7, f8, f9, f10, hx⟩)
  have hHeld0 := HK.out _ (Below.refl _ _)
  have hn0 : w3.heap.size ≤ w3.heap.size := Nat.le_refl _
  have ZC := Lib.hid (Below.refl w3.heap.size w3).drew
  go_upto_region 6 with fail
  refine wp_region_held_drew (S := fun w' => w'.cell? ⟨w.heap.size, 0, none⟩ = some (.int .i64 W) ∧ w'.cell? ⟨w.heap.size, 1, none⟩ = some (.int .i64 D) ∧ w'.cell? ⟨w.heap.size, 2, none⟩ = some (.int .i64 J) ∧ w'.cell? ⟨w.heap.size, 3, none⟩ = some (.int .i64 S) ∧ w'.cell? ⟨gx, 0, none⟩ = some (.int .i64 7) ∧ w'.cell? ⟨gx, 1, none⟩ = some (.slice none 0 0) ∧ w'.cell? ⟨gx, 2, none⟩ = some (.int .i64 5) ∧ w'.cell? ⟨gx, 3, none⟩ = some (.int .i64 1) ∧ w'.cell? ⟨gx, 4, none⟩ = some (.int .i64 me) ∧ w'.cell? ⟨gx, 5, none⟩ = some (.int .u64 0) ∧ w'.cell? ⟨gx, 6, none⟩ = some (.int .u64 0) ∧ w'.cell? ⟨gx, 7, none⟩ = some (.int .u64 0) ∧ w'.cell? ⟨gx, 8, none⟩ = some (.int .i64 0) ∧ w'.cell? ⟨gx, 9, none⟩ = some (.int .i64 0) ∧ w'.cell? ⟨gx, 10, none⟩ = some (.int .i64 0) ∧ Below w3.heap.size w3 w') (by kernel_rfl) (hd_drew HK.out (fun _ h => h.2.2.2.2.2.2.2.2.2.2.2.2.2.2.2) hHeld0) (fun hHeld => ?_)
  refine tkH 0 (v := ?vq1) rfl ?yq1 ?rq1
  case yq1 => (intro w hSw; (try dsimp only at hSw); go_simp; (try with_reducible rfl))
  (try simp only [Act.put, jA, jB, jC])
  refine tkH 1 (v := ?vq2) rfl ?yq2 ?rq2
  case yq2 => (intro w hSw; (try dsimp only at hSw); go_simp; (try with_reducible rfl))
  (try simp only [Act.put, jA, jB, jC])
  refine tkH 2 (v := ?vq3) rfl ?yq3 ?rq3
  case yq3 => (intro w hSw; (try dsimp only at hSw); go_simp; (try with_reducible rfl))
  (try simp only [Act.put, jA, jB, jC])
  refine tkH 3 (v := ?vq4) rfl ?yq4 ?rq4
  case yq4 => (intro w hSw; (try dsimp only at hSw); go_simp; (try with_reducible rfl))
  (try simp only [Act.put, jA, jB, jC])
  refine tkH 4 (v := ?vq5) rfl ?yq5 ?rq5
  case yq5 => (intro w hSw; (try dsimp only at hSw); go_simp; (try with_reducible rfl))
  (try simp only [Act.put, jA, jB, jC])
  refine tkH 5 (v := ?vq6) rfl ?yq6 ?rq6
  case yq6 => (intro w hSw; (try dsimp only at hSw); go_simp; (try with_reducible rfl))
  (try simp only [Act.put, jA, jB, jC])
  refine tkH 6 (v := ?vq7) rfl ?yq7 ?rq7
  case yq7 => (intro w hSw; (try dsimp only at hSw); go_simp; (try with_reducible rfl))
  (try simp only [Act.put, jA, jB, jC])
  refine tkH 7 (v := ?vq8) rfl ?yq8 ?rq8
  case yq8 => (intro w hSw; (try dsimp only at hSw); go_simp; (try with_reducible rfl))
  (try simp only [Act.put, jA, jB, jC])
  refine tkH 8 (v := ?vq9) rfl ?yq9 ?rq9
  case yq9 => (intro w hSw; (try dsimp only at hSw); go_simp; (try with_reducible rfl))
  (try simp only [Act.put, jA, jB, jC])
  refine tkH 9 (v := ?vq10) rfl ?yq10 ?rq10
  case yq10 => (intro w hSw; (try dsimp only at hSw); go_simp; (try with_reducible rfl))
  (try simp only [Act.put, jA, jB, jC])
  refine tkH 11 (v := ?vq11) rfl ?yq11 ?rq11
  case yq11 => (intro w hSw; (try dsimp only at hSw); go_simp; (try with_reducible rfl))
  (try simp only [Act.put, jA, jB, jC])
  refine tkH 12 (v := ?vq12) rfl ?yq12 ?rq12
  case yq12 => (intro w hSw; (try dsimp only at hSw); go_simp; (try with_reducible rfl))
  (try simp only [Act.put, jA, jB, jC])
  refine wpAnyH_ready (rs := [10]) (by kernel_rfl) (by simp) ?_
  refine (AllReadyH.cons rfl (fun K hK => ?_) AllReadyH.nil)
  go_simp
  refine (new_any W D J S _).mono ?_
  rintro e w6 ⟨A6, c6, rfl, h6, hb⟩
  go_wp2_with fail
  replace ZC := Lib.hid (ZC.out.trans (hb.mono ZC.out.size))
  clear h6
  refine hK.out _ _ (hd_call HK.out (fun _ h => h.2.2.2.2.2.2.2.2.2.2.2.2.2.2.2) hb hHeld hn0) (fun hHeld2 => ?_)
  clear hK K hHeld
  have hHeld := hHeld2
  clear hHeld2
  (try simp only [Act.put, jA, jB, jC])
  refine wpAnyH_ready (rs := [13]) (by kernel_rfl) (by simp) ?_
  refine (AllReadyH.cons rfl (fun K hK => ?_) AllReadyH.nil)
  go_simp
  refine (Tells.of (wmay_any (n₀ := _) (x := ⟨7, [], ⟨5, 1, me, 0, 0, 0, 0⟩, 0, 0⟩) (m := List.replicate (sz W D J S).toNat 0) (SA := none) (cs := 0) (HT.out.later (Z.out.trans (ZC.out.mono Z.out.size))) (Fo.Ir.nil _ _ _) (Nat.le_refl _) H_hsm.out (by show 0 ≤ 1000; omega) (by simp)) (v' := .bool false) (by rw [H_hm.out])).mono ?_
  rintro e w7 ⟨rfl, hb⟩
  go_wp2_with fail
  replace ZC := Lib.hid (ZC.out.trans (hb.mono ZC.out.size))
  refine hK.out _ _ (hd_call HK.out (fun _ h => h.2.2.2.2.2.2.2.2.2.2.2.2.2.2.2) hb hHeld hn0) (fun hHeld2 => ?_)
  clear hK K hHeld
  have hHeld := hHeld2
  clear hHeld2
  (try simp only [Act.put, jA, jB, jC])
  refine tkH 14 (v := ?vq13) rfl ?yq13 ?rq13
  case yq13 => (intro w hSw; (try dsimp only at hSw); go_simp; (try with_reducible rfl))
  (try simp only [Act.put, jA, jB, jC])
  refine tkH 15 (v := ?vq14) rfl ?yq14 ?rq14
  case yq14 => (intro w hSw; (try dsimp only at hSw); go_simp; (try with_reducible rfl))
  (try simp only [Act.put, jA, jB, jC])
  refine wpAnyH_done (by kernel_rfl) ?_ _
  clear hHeld
  go_wp2
  go_ret
  exact ⟨rfl, Z.out.trans (ZC.out.mono Z.out.size)⟩
set_option maxHeartbeats 8000000 in
theorem waits_yes {W D J S me : Int} {AT : Option Addr} {ct : Nat} {T : List Fo.Tsk} {w : World} (hT : Fo.Tk w.heap.size w AT T) (hTl : T.length ≤ maxLen) (hTk : ∀ y ∈ T, y.2.length ≤ maxLen) (hme : I me) (hq : (Fo.few T && decide (((⟨7, [], ⟨5, 1, me, 0, 0, 0, 0⟩, 0, 0⟩ : WkS).stk.length : Int) ≤ 40)) = true) (hsm : Fo.Sm T) (hm : mayW W D J S T (List.replicate (sz W D J S).toNat 0) me ⟨7, [], ⟨5, 1, me, 0, 0, 0, 0⟩, 0, 0⟩ = true) : Tells 7 #[cf W D J S, .slice AT T.length ct, .int .i64 me] w (.bool true) := by
  have HT := Lib.hid hT
  have HTL := Lib.hid hTl
  have HTK := Lib.hid hTk
  have HME := Lib.hid hme
  have H_hq := Lib.hid hq
  have H_hsm := Lib.hid hsm
  have H_hm := Lib.hid hm
  clear hT hTl hTk hme hq hsm hm
  have Z := Lib.hid (bel_alloc w (.cells #[.int .i64 W, .int .i64 D, .int .i64 J, .int .i64 S] 23))
  have BX := Lib.hid (Bx.mk w W D J S 23)
  go_enter Tryz.func7, Tryz.ntmps7
  go_wp2_with fail
  refine (wawake_any _).mono ?_
  rintro _ w1 ⟨rfl, zz⟩
  replace BX := Lib.hid (BX.out.below zz)
  replace Z := Lib.hid (Z.out.trans (zz.mono Z.out.size))
  clear zz
  go_wp2_with fail
  refine (wnew_any me _).mono ?_
  rintro _ w2 ⟨rfl, zz⟩
  replace BX := Lib.hid (BX.out.below zz)
  replace Z := Lib.hid (Z.out.trans (zz.mono Z.out.size))
  clear zz
  go_upto_region 5 with fail
  have hg2 := BX.out.1
  have zz := bel_alloc w2 (.cells #[.int .i64 7, .slice none 0 0, .int .i64 5, .int .i64 1, .int .i64 me, .int .u64 0, .int .u64 0, .int .u64 0, .int .i64 0, .int .i64 0, .int .i64 0] 32)
  replace BX := Lib.hid (BX.out.below zz)
  replace Z := Lib.hid (Z.out.trans (zz.mono Z.out.size))
  have BV := Lib.hid (Wvb.new w2 ⟨7, [], ⟨5, 1, me, 0, 0, 0, 0⟩, 0, 0⟩ (.slice none 0 0))
  clear zz
  generalize w2.alloc (.cells #[.int .i64 7, .slice none 0 0, .int .i64 5, .int .i64 1, .int .i64 me, .int .u64 0, .int .u64 0, .int .u64 0, .int .i64 0, .int .i64 0, .int .i64 0] 32) = v at *
  generalize w2.heap.size = gx at *
  obtain ⟨f0, f1, f2, f3, f4, f5, f6, f7, f8, f9, f10⟩ := BV.out.cells
  have fz := BV.out.free
  simp only at f0 f1 f2 f3 f4 f5 f6 f7 f8 f9 f10
  go_wp2_with fail
  refine (wfew_any (x := ⟨7, [], ⟨5, 1, me, 0, 0, 0, 0⟩, 0, 0⟩) (HT.out.later Z.out) HTL.out HTK.out (q := true) H_hq.out).mono ?_
  rintro _ w3 ⟨rfl, zz⟩
  replace BX := Lib.hid (BX.out.below zz)
  replace BV := Lib.hid (BV.out.after zz)
  replace Z := Lib.hid (Z.out.trans (zz.mono Z.out.size))
  clear zz
  clear f0 f1 f2 f3 f4 f5 f6 f7 f8 f9 f10 fz
  obtain ⟨f0, f1, f2, f3, f4, f5, f6, f7, f8, f9, f10⟩ := BV.out.cells
  have fz := BV.out.free
  simp only at f0 f1 f2 f3 f4 f5 f6 f7 f8 f9 f10
  have HK := Lib.hid (show ∀ x', Below w3.heap.size w3 x' → (fun w' => w'.cell? ⟨w.heap.size, 0, none⟩ = some (.int .i64 W) ∧ w'.cell? ⟨w.heap.size, 1, none⟩ = some (.int .i64 D) ∧ w'.cell? ⟨w.heap.size, 2, none⟩ = some (.int .i64 J) ∧ w'.cell? ⟨w.heap.size, 3, none⟩ = some (.int .i64 S) ∧ w'.cell? ⟨gx, 0, none⟩ = some (.int .i64 7) ∧ w'.cell? ⟨gx, 1, none⟩ = some (.slice none 0 0) ∧ w'.cell? ⟨gx, 2, none⟩ = some (.int .i64 5) ∧ w'.cell? ⟨gx, 3, none⟩ = some (.int .i64 1) ∧ w'.cell? ⟨gx, 4, none⟩ = some (.int .i64 me) ∧ w'.cell? ⟨gx, 5, none⟩ = some (.int .u64 0) ∧ w'.cell? ⟨gx, 6, none⟩ = some (.int .u64 0) ∧ w'.cell? ⟨gx, 7, none⟩ = some (.int .u64 0) ∧ w'.cell? ⟨gx, 8, none⟩ = some (.int .i64 0) ∧ w'.cell? ⟨gx, 9, none⟩ = some (.int .i64 0) ∧ w'.cell? ⟨gx, 10, none⟩ = some (.int .i64 0) ∧ Below w3.heap.size w3 w') x' from fun x' hx => by
    obtain ⟨_, e0, e1, e2, e3⟩ := BX.out.below hx
    obtain ⟨f0, f1, f2, f3, f4, f5, f6, f7, f8, f9, f10⟩ := (BV.out.after hx).cells
    exact ⟨e0, e1, e2, e3, f0, f1, f2, f3, f4, f5, f6, f7, f8, f9, f10, hx⟩)
  have hHeld0 := HK.out _ (Below.refl _ _)
  have hn0 : w3.heap.size ≤ w3.heap.size := Nat.le_refl _
  have ZC := Lib.hid (Below.refl w3.heap.size w3).drew
  go_upto_region 6 with fail
  refine wp_region_held_drew (S := fun w' => w'.cell? ⟨w.heap.size, 0, none⟩ = some (.int .i64 W) ∧ w'.cell? ⟨w.heap.size, 1, none⟩ = some (.int .i64 D) ∧ w'.cell? ⟨w.heap.size, 2, none⟩ = some (.int .i64 J) ∧ w'.cell? ⟨w.heap.size, 3, none⟩ = some (.int .i64 S) ∧ w'.cell? ⟨gx, 0, none⟩ = some (.int .i64 7) ∧ w'.cell? ⟨gx, 1, none⟩ = some (.slice none 0 0) ∧ w'.cell? ⟨gx, 2, none⟩ = some (.int .i64 5) ∧ w'.cell? ⟨gx, 3, none⟩ = some (.int .i64 1) ∧ w'.cell? ⟨gx, 4, none⟩ = some (.int .i64 me) ∧ w'.cell? ⟨gx, 5, none⟩ = some (.int .u64 0) ∧ w'.cell? ⟨gx, 6, none⟩ = some (.int .u64 0) ∧ w'.cell? ⟨gx, 7, none⟩ = some (.int .u64 0) ∧ w'.cell? ⟨gx, 8, none⟩ = some (.int .i64 0) ∧ w'.cell? ⟨gx, 9, none⟩ = some (.int .i64 0) ∧ w'.cell? ⟨gx, 10, none⟩ = some (.int .i64 0) ∧ Below w3.heap.size w3 w') (by kernel_rfl) (hd_drew HK.out (fun _ h => h.2.2.2.2.2.2.2.2.2.2.2.2.2.2.2) hHeld0) (fun hHeld => ?_)
  refine tkH 0 (v := ?vq1) rfl ?yq1 ?rq1
  case yq1 => (intro w hSw; (try dsimp only at hSw); go_simp; (try with_reducible rfl))
  (try simp only [Act.put, jA, jB, jC])
  refine tkH 1 (v := ?vq2) rfl ?yq2 ?rq2
  case yq2 => (intro w hSw; (try dsimp only at hSw); go_simp; (try with_reducible rfl))
  (try simp only [Act.put, jA, jB, jC])
  refine tkH 2 (v := ?vq3) rfl ?yq3 ?rq3
  case yq3 => (intro w hSw; (try dsimp only at hSw); go_simp; (try with_reducible rfl))
  (try simp only [Act.put, jA, jB, jC])
  refine tkH 3 (v := ?vq4) rfl ?yq4 ?rq4
  case yq4 => (intro w hSw; (try dsimp only at hSw); go_simp; (try with_reducible rfl))
  (try simp only [Act.put, jA, jB, jC])
  refine tkH 4 (v := ?vq5) rfl ?yq5 ?rq5
  case yq5 => (intro w hSw; (try dsimp only at hSw); go_simp; (try with_reducible rfl))
  (try simp only [Act.put, jA, jB, jC])
  refine tkH 5 (v := ?vq6) rfl ?yq6 ?rq6
  case yq6 => (intro w hSw; (try dsimp only at hSw); go_simp; (try with_reducible rfl))
  (try simp only [Act.put, jA, jB, jC])
  refine tkH 6 (v := ?vq7) rfl ?yq7 ?rq7
  case yq7 => (intro w hSw; (try dsimp only at hSw); go_simp; (try with_reducible rfl))
  (try simp only [Act.put, jA, jB, jC])
  refine tkH 7 (v := ?vq8) rfl ?yq8 ?rq8
  case yq8 => (intro w hSw; (try dsimp only at hSw); go_simp; (try with_reducible rfl))
  (try simp only [Act.put, jA, jB, jC])
  refine tkH 8 (v := ?vq9) rfl ?yq9 ?rq9
  case yq9 => (intro w hSw; (try dsimp only at hSw); go_simp; (try with_reducible rfl))
  (try simp only [Act.put, jA, jB, jC])
  refine tkH 9 (v := ?vq10) rfl ?yq10 ?rq10
  case yq10 => (intro w hSw; (try dsimp only at hSw); go_simp; (try with_reducible rfl))
  (try simp only [Act.put, jA, jB, jC])
  refine tkH 11 (v := ?vq11) rfl ?yq11 ?rq11
  case yq11 => (intro w hSw; (try dsimp only at hSw); go_simp; (try with_reducible rfl))
  (try simp only [Act.put, jA, jB, jC])
  refine tkH 12 (v := ?vq12) rfl ?yq12 ?rq12
  case yq12 => (intro w hSw; (try dsimp only at hSw); go_simp; (try with_reducible rfl))
  (try simp only [Act.put, jA, jB, jC])
  refine wpAnyH_ready (rs := [10]) (by kernel_rfl) (by simp) ?_
  refine (AllReadyH.cons rfl (fun K hK => ?_) AllReadyH.nil)
  go_simp
  refine (new_any W D J S _).mono ?_
  rintro e w6 ⟨A6, c6, rfl, h6, hb⟩
  go_wp2_with fail
  replace ZC := Lib.hid (ZC.out.trans (hb.mono ZC.out.size))
  clear h6
  refine hK.out _ _ (hd_call HK.out (fun _ h => h.2.2.2.2.2.2.2.2.2.2.2.2.2.2.2) hb hHeld hn0) (fun hHeld2 => ?_)
  clear hK K hHeld
  have hHeld := hHeld2
  clear hHeld2
  (try simp only [Act.put, jA, jB, jC])
  refine wpAnyH_ready (rs := [13]) (by kernel_rfl) (by simp) ?_
  refine (AllReadyH.cons rfl (fun K hK => ?_) AllReadyH.nil)
  go_simp
  refine (Tells.of (wmay_any (n₀ := _) (x := ⟨7, [], ⟨5, 1, me, 0, 0, 0, 0⟩, 0, 0⟩) (m := List.replicate (sz W D J S).toNat 0) (SA := none) (cs := 0) (HT.out.later (Z.out.trans (ZC.out.mono Z.out.size))) (Fo.Ir.nil _ _ _) (Nat.le_refl _) H_hsm.out (by show 0 ≤ 1000; omega) (by simp)) (v' := .bool true) (by rw [H_hm.out])).mono ?_
  rintro e w7 ⟨rfl, hb⟩
  go_wp2_with fail
  replace ZC := Lib.hid (ZC.out.trans (hb.mono ZC.out.size))
  refine hK.out _ _ (hd_call HK.out (fun _ h => h.2.2.2.2.2.2.2.2.2.2.2.2.2.2.2) hb hHeld hn0) (fun hHeld2 => ?_)
  clear hK K hHeld
  have hHeld := hHeld2
  clear hHeld2
  (try simp only [Act.put, jA, jB, jC])
  refine tkH 14 (v := ?vq13) rfl ?yq13 ?rq13
  case yq13 => (intro w hSw; (try dsimp only at hSw); go_simp; (try with_reducible rfl))
  (try simp only [Act.put, jA, jB, jC])
  refine tkH 15 (v := ?vq14) rfl ?yq14 ?rq14
  case yq14 => (intro w hSw; (try dsimp only at hSw); go_simp; (try with_reducible rfl))
  (try simp only [Act.put, jA, jB, jC])
  refine wpAnyH_done (by kernel_rfl) ?_ _
  clear hHeld hHeld0 HK f0 f1 f2 f3 f4 f5 f6 f7 f8 f9 f10 fz
  have zz := ZC.out
  replace BX := Lib.hid (BX.out.below zz)
  replace BV := Lib.hid (BV.out.after zz)
  replace Z := Lib.hid (Z.out.trans (zz.mono Z.out.size))
  clear zz ZC
  obtain ⟨_, e0, e1, e2, e3⟩ := BX.out
  go_wp2_with fail
  refine (new_any W D J S _).mono ?_
  rintro _ w8 ⟨A8, c8, rfl, h8, zz⟩
  have HM8 := Lib.hid h8
  replace BX := Lib.hid (BX.out.below zz)
  replace BV := Lib.hid (BV.out.after zz)
  replace Z := Lib.hid (Z.out.trans (zz.mono Z.out.size))
  clear zz h8 e0 e1 e2 e3
  have hok := (mayW_iff.1 H_hm.out).1
  have hmt : Fo.may T = true := by have h := (mayW_iff.1 H_hm.out).2.1; rwa [Fo.mayS_nil] at h
  obtain ⟨hmy, hlen, hw0, hw1⟩ := okw_iff.1 hok
  have hW := (may_lim hmy).1
  have hn10 := okw_long hok
  have hsz := sz_lim W D J S
  have HN10 := Lib.hid hn10
  have HOK := Lib.hid hok
  have HMT := Lib.hid hmt
  have hn5 : (sz W D J S).toNat ≤ 500 := by omega
  obtain ⟨n, hn⟩ : ∃ n, (sz W D J S).toNat = n := ⟨_, rfl⟩
  rw [hn] at HM8 hn5 HOK HN10 ⊢
  have HLN := Lib.hid (show (List.replicate n (0 : Int)).length = n by simp)
  clear hok hmt hmy hlen hn10 hsz hn H_hm
  have BV0 := Lib.hid (show Wvb w8 gx (wtW W me 0 0) (.slice none 0 0) by rw [wtW_lo (by omega)]; exact BV.out)
  go_wp2
  go_loopw [10, 11] (fun m i wr => ∃ (k : Nat) (A : Option Addr) (c' : Nat) (SA : Option Addr) (cs : Nat), m = .slice A n c' ∧ i = .int .i64 k ∧ (k : Int) ≤ 2 + 2 * W ∧ Hid (Rd wr A (List.replicate n 0)) ∧ Hid (Wvb wr gx (wtW W me 0 k) (.slice SA 0 cs)) ∧ Hid (Bx wr w.heap.size W D J S) ∧ Hid (Below w.heap.size w wr)) (fun _ i _ => 30 - (intOf i).toNat)
  case atStart => exact ⟨0, A8, c8, none, 0, rfl, rfl, by omega, HM8, BV0, BX, Z⟩
  case round =>
    obtain ⟨k, A', c', SA, cs, rfl, rfl, hk, HM, HV, HC, HZ⟩ := hrel
    clear HM8 BV0 BV BX Z
    have hd30 : decide ((k : Int) < 30) = true := decide_eq_true (by omega)
    obtain ⟨_, e0, e1, e2, e3⟩ := HC.out
    by_cases hlt : (k : Int) ≤ 1 + 2 * W
    · have HV2 := Lib.hid (show Wvb wr gx ⟨7, [], ⟨5, 1, me, 0, 0, 0, 0⟩, 0, (k : Int)⟩ (.slice SA 0 cs) by have h := HV.out; rw [wtW_lo hlt] at h; exact h)
      obtain ⟨f0, f1, f2, f3, f4, f5, f6, f7, f8, f9, f10⟩ := HV2.out.cells
      have fz := HV2.out.free
      simp only at f0 f1 f2 f3 f4 f5 f6 f7 f8 f9 f10
      have HSTEP := Lib.hid (waits_W (d := 0) (q := 0) (k := (k : Int)) HOK.out HMT.out (at0_zero n) (by omega) hlt)
      rw [wtW_lo hlt] at HSTEP
      go_wp2_with fail
      refine (wstep_n (x := ⟨7, [], ⟨5, 1, me, 0, 0, 0, 0⟩, 0, (k : Int)⟩) (m := List.replicate n 0) (SA := SA) (cs := cs) (HT.out.later HZ.out) HM.out (Fo.Ir.nil _ _ _) H_hsm.out ⟨by rw [HLN.out]; omega, by show 0 ≤ 900; omega⟩ (fun u hu => by rw [List.eq_of_mem_replicate hu]; exact U0) ⟨U0, U0, U0⟩ (by show I 0; unfold I; omega) (by show I (k : Int); unfold I; omega) U0 HME.out HLN.out HSTEP.out).mono ?_
      rintro _ w5 ⟨A5, c5, SA5, cs5, E5, ce5, rfl, h5, _, _, z5⟩
      rw [wtW_stk]
      have HM5 := Lib.hid h5
      have HV5 := Lib.hid (HV2.out.after z5)
      have HC5 := Lib.hid (HC.out.below z5)
      have HZ5 := Lib.hid (HZ.out.trans (z5.mono HZ.out.size))
      clear h5 z5 e0 e1 e2 e3 f0 f1 f2 f3 f4 f5 f6 f7 f8 f9 f10 fz
      obtain ⟨f0, f1, f2, f3, f4, f5, f6, f7, f8, f9, f10⟩ := HV5.out.cells
      have fz := HV5.out.free
      have hgl := HV5.out.lt
      simp only at f0 f1 f2 f3 f4 f5 f6 f7 f8 f9 f10
      go_wp2
      go_roundw
      case rel => exact ⟨k + 1, A5, c5, SA5, cs5, rfl, by go_num, by omega, Lib.hid ((rd_pvk HM5.out HV5.out HN10.out (wtW W me 0 ((k : Int) + 1)) (.slice SA5 0 cs5)).below (bel_alloc _ _)), Lib.hid ((HV5.out.pvk (wtW W me 0 ((k : Int) + 1)) (.slice SA5 0 cs5)).alloc _), Lib.hid ((HC5.out.kb (kb_pvk gx w5 (wtW W me 0 ((k : Int) + 1)) (.slice SA5 0 cs5)) (by omega)).below (bel_alloc _ _)), Lib.hid ((below_pvk HZ5.out (Nat.le_of_lt hg2) (wtW W me 0 ((k : Int) + 1)) (.slice SA5 0 cs5)).trans ((bel_alloc _ _).mono (below_pvk HZ5.out (Nat.le_of_lt hg2) (wtW W me 0 ((k : Int) + 1)) (.slice SA5 0 cs5)).size))⟩
      case measure => simp [intOf]; omega
    · have HV2 := Lib.hid (show Wvb wr gx ⟨8, [], ⟨5, 1, me, 0, 0, 0, 0⟩, 0, 0⟩ (.slice SA 0 cs) by have h := HV.out; rw [wtW_hi hlt] at h; exact h)
      obtain ⟨f0, f1, f2, f3, f4, f5, f6, f7, f8, f9, f10⟩ := HV2.out.cells
      simp only at f0 f1 f2 f3 f4 f5 f6 f7 f8 f9 f10
      have hkk : ((k : Int) == 2 + 2 * W) = true := by simp; omega
      have qa : wrap64 (2 * W) = 2 * W := by unfold wrap64; omega
      have qb : wrap64 (2 + 2 * W) = 2 + 2 * W := by unfold wrap64; omega
      have hkk2 : (k : Int) = 2 + 2 * W := by omega
      have HKK := Lib.hid hkk2
      clear hkk2 hlt hk
      go_wp2
      go_ret
      exact ⟨rfl, HZ.out⟩
set_option maxHeartbeats 8000000 in
theorem waits_all {W D J S me : Int} {AT : Option Addr} {ct : Nat} {T : List Fo.Tsk} {w : World} (hT : Fo.Tk w.heap.size w AT T) (hTl : T.length ≤ maxLen) (hTk : ∀ y ∈ T, y.2.length ≤ maxLen) (hme : I me) : Tells 7 #[cf W D J S, .slice AT T.length ct, .int .i64 me] w (.bool true) := by
  cases hq : (Fo.few T && decide (((⟨7, [], ⟨5, 1, me, 0, 0, 0, 0⟩, 0, 0⟩ : WkS).stk.length : Int) ≤ 40))
  · exact waits_few hT hTl hTk hme hq
  have hq1 : Fo.few T = true := by simpa using hq
  have hsm := Fo.few_sm hq1
  cases hm : mayW W D J S T (List.replicate (sz W D J S).toNat 0) me ⟨7, [], ⟨5, 1, me, 0, 0, 0, 0⟩, 0, 0⟩
  · exact waits_not hT hTl hTk hme hq hsm hm
  · exact waits_yes hT hTl hTk hme hq hsm hm
end Go.Proofs.YtlpkccpijloidaaGreat
