/- Merged: PoC, PoD, PoE. -/
import Derived.Test.YtlpkccpijloidaaGreatPoX
import Derived.Deep.DeepCutAuto
import Derived.Test.YtlpkccpijloidaaGreatNxA
import Derived.Test.YtlpkccpijloidaaGreatDqB2
namespace Go.Proofs.YtlpkccpijloidaaGreat
set_option maxRecDepth 100000
open Go.RowKit Go.Deep
attribute [local go_sem] exTo_normal exTo_exit exTo_ret exTo_goto run_makeFunc run_store_func
set_option maxHeartbeats 4000000 in
theorem next_0 (lo : Nat) (W D J S o q v x y s : Int) (A : Option Addr) (n c : Nat) (l : List Int) (w : World) (h : Rn lo w A l) (hn : l.length = n) (hs : n ≤ 500) (hlo : lo ≤ w.heap.size) :
    Calls Tryz.prog 105 #[cf W D J S, .slice A n c, fv ⟨o, 0, q, v, x, y, s⟩] w (RetQ lo w n l ⟨o, 1, q, v, (at0 l (ow W D J S q 1) - 1) % 18446744073709551616, y, s⟩) := by
  have NX := Lib.hid (boxes4 (W := W) (D := D) (J := J) (S := S) (c := c) (⟨o, 0, q, v, x, y, s⟩ : Fr) h hn)
  have HS := Lib.hid hs
  have HLO := Lib.hid hlo
  clear h hs hn hlo
  go_enter Tryz.func105, Tryz.ntmps105
  go_wp2
  change Code.wp _ _ _ _ (bx4 w W D J S (.slice A n c) ⟨o, 0, q, v, x, y, s⟩)
  generalize bx4 w W D J S (.slice A n c) ⟨o, 0, q, v, x, y, s⟩ = w0 at NX ⊢
  refine wp_scope_to _ (fun _ _ _ h => h) ?_
  generalize hJ : (fun (l : Nat) (a : Act) (w : World) => ∃ rest, findLabel _ l = some rest ∧ rest.wp _ _ a w) = JJ
  have HJ := Lib.hid hJ
  clear hJ
  obtain ⟨_, b0, b1, b2, b3⟩ := NX.out.bx
  obtain ⟨d0, d1, d2, d3, d4, d5, d6⟩ := NX.out.bf.cells
  obtain ⟨lx, lm, lf, lr⟩ := NX.out.facts
  have m0 := NX.out.bm.cell
  have fzf := NX.out.bf.free
  have fzr := NX.out.br.free
  obtain ⟨r0, r1, r2, r3, r4, r5, r6⟩ := NX.out.br.cells
  simp only at d0 d1 d2 d3 d4 d5 d6
  go_wp2_with fail
  refine (bottom_any W D J S q _).mono ?_
  rintro _ w1 ⟨rfl, z⟩
  clear b0 b1 b2 b3 d0 d1 d2 d3 d4 d5 d6 lx lm lf lr m0 fzf fzr r0 r1 r2 r3 r4 r5 r6
  have NY := Lib.hid (NX.out.call z)
  clear NX
  have NX := Lib.hid NY.out
  clear NY
  clear z
  obtain ⟨_, b0, b1, b2, b3⟩ := NX.out.bx
  obtain ⟨d0, d1, d2, d3, d4, d5, d6⟩ := NX.out.bf.cells
  obtain ⟨lx, lm, lf, lr⟩ := NX.out.facts
  have m0 := NX.out.bm.cell
  have fzf := NX.out.bf.free
  have fzr := NX.out.br.free
  obtain ⟨r0, r1, r2, r3, r4, r5, r6⟩ := NX.out.br.cells
  simp only at d0 d1 d2 d3 d4 d5 d6
  go_wp2_with fail
  refine (nload_n NX.out.bm NX.out.ry.rd NX.out.nl HS.out).mono ?_
  rintro _ w2 ⟨rfl, z⟩
  clear b0 b1 b2 b3 d0 d1 d2 d3 d4 d5 d6 lx lm lf lr m0 fzf fzr r0 r1 r2 r3 r4 r5 r6
  have NY := Lib.hid (NX.out.call z)
  clear NX
  have NX := Lib.hid NY.out
  clear NY
  clear z
  obtain ⟨_, b0, b1, b2, b3⟩ := NX.out.bx
  obtain ⟨d0, d1, d2, d3, d4, d5, d6⟩ := NX.out.bf.cells
  obtain ⟨lx, lm, lf, lr⟩ := NX.out.facts
  have m0 := NX.out.bm.cell
  have fzf := NX.out.bf.free
  have fzr := NX.out.br.free
  obtain ⟨r0, r1, r2, r3, r4, r5, r6⟩ := NX.out.br.cells
  simp only at d0 d1 d2 d3 d4 d5 d6
  go_wp2
  clear b0 b1 b2 b3 d0 d1 d2 d3 d4 d5 d6 lx lm lf lr m0 fzf fzr r0 r1 r2 r3 r4 r5 r6
  have NY := Lib.hid (NX.out.setX ((at0 l (ow W D J S q 1) - 1) % 18446744073709551616))
  clear NX
  have NX := Lib.hid NY.out
  clear NY
  change Code.wp _ _ _ _ (w2.setCell ⟨w.heap.size + 1 + 1, 4, none⟩ (.int .u64 ((at0 l (ow W D J S q 1) - 1) % 18446744073709551616)))
  generalize w2.setCell ⟨w.heap.size + 1 + 1, 4, none⟩ (.int .u64 ((at0 l (ow W D J S q 1) - 1) % 18446744073709551616)) = w3 at NX ⊢
  obtain ⟨_, b0, b1, b2, b3⟩ := NX.out.bx
  obtain ⟨d0, d1, d2, d3, d4, d5, d6⟩ := NX.out.bf.cells
  obtain ⟨lx, lm, lf, lr⟩ := NX.out.facts
  have m0 := NX.out.bm.cell
  have fzf := NX.out.bf.free
  have fzr := NX.out.br.free
  obtain ⟨r0, r1, r2, r3, r4, r5, r6⟩ := NX.out.br.cells
  simp only at d0 d1 d2 d3 d4 d5 d6
  go_step3
  change JJ 0 _ _
  rw [← HJ.out]
  refine ⟨_, rfl, ?_⟩
  clear HJ
  go_wp2
  clear b0 b1 b2 b3 d0 d1 d2 d3 d4 d5 d6 lx lm lf lr m0 fzf fzr r0 r1 r2 r3 r4 r5 r6
  have NY := Lib.hid (NX.out.setPc (1))
  clear NX
  have NX := Lib.hid NY.out
  clear NY
  change Code.wp _ _ _ _ (w3.setCell ⟨w.heap.size + 1 + 1, 1, none⟩ (.int .i64 (1)))
  generalize w3.setCell ⟨w.heap.size + 1 + 1, 1, none⟩ (.int .i64 (1)) = w4 at NX ⊢
  obtain ⟨_, b0, b1, b2, b3⟩ := NX.out.bx
  obtain ⟨d0, d1, d2, d3, d4, d5, d6⟩ := NX.out.bf.cells
  obtain ⟨lx, lm, lf, lr⟩ := NX.out.facts
  have m0 := NX.out.bm.cell
  have fzf := NX.out.bf.free
  have fzr := NX.out.br.free
  obtain ⟨r0, r1, r2, r3, r4, r5, r6⟩ := NX.out.br.cells
  simp only at d0 d1 d2 d3 d4 d5 d6
  go_region
  all_goals
    go_wp2
    change bodyPost _ _ _ _ _ (pf w4 (w.heap.size + 1 + 1 + 1) ⟨o, 1, q, v, (at0 l (ow W D J S q 1) - 1) % 18446744073709551616, y, s⟩).drew
    have NB := NX.out.back ⟨o, 1, q, v, (at0 l (ow W D J S q 1) - 1) % 18446744073709551616, y, s⟩
    exact bodyPost_ret (results_fr Tryz.results105 _ rfl NB.1) rfl NB.2
set_option maxHeartbeats 4000000 in
theorem next_1 (lo : Nat) (W D J S o q v x y s : Int) (A : Option Addr) (n c : Nat) (l : List Int) (w : World) (h : Rn lo w A l) (hn : l.length = n) (hs : n ≤ 500) (hlo : lo ≤ w.heap.size) :
    Calls Tryz.prog 105 #[cf W D J S, .slice A n c, fv ⟨o, 1, q, v, x, y, s⟩] w (RetQ lo w n (put l (ow W D J S q 1) x) ⟨o, 2, q, v, x, y, s⟩) := by
  have NX := Lib.hid (boxes4 (W := W) (D := D) (J := J) (S := S) (c := c) (⟨o, 1, q, v, x, y, s⟩ : Fr) h hn)
  have HS := Lib.hid hs
  have HLO := Lib.hid hlo
  clear h hs hn hlo
  go_enter Tryz.func105, Tryz.ntmps105
  go_wp2
  change Code.wp _ _ _ _ (bx4 w W D J S (.slice A n c) ⟨o, 1, q, v, x, y, s⟩)
  generalize bx4 w W D J S (.slice A n c) ⟨o, 1, q, v, x, y, s⟩ = w0 at NX ⊢
  refine wp_scope_to _ (fun _ _ _ h => h) ?_
  generalize hJ : (fun (l : Nat) (a : Act) (w : World) => ∃ rest, findLabel _ l = some rest ∧ rest.wp _ _ a w) = JJ
  have HJ := Lib.hid hJ
  clear hJ
  obtain ⟨_, b0, b1, b2, b3⟩ := NX.out.bx
  obtain ⟨d0, d1, d2, d3, d4, d5, d6⟩ := NX.out.bf.cells
  obtain ⟨lx, lm, lf, lr⟩ := NX.out.facts
  have m0 := NX.out.bm.cell
  have fzf := NX.out.bf.free
  have fzr := NX.out.br.free
  obtain ⟨r0, r1, r2, r3, r4, r5, r6⟩ := NX.out.br.cells
  simp only at d0 d1 d2 d3 d4 d5 d6
  go_wp2_with fail
  refine (nset_n (x) NX.out.bm NX.out.bx NX.out.bf NX.out.ry.rd NX.out.nl (by omega) (by omega) HS.out).mono ?_
  rintro _ w1 ⟨k, rfl, hk, hB, hM, hK⟩
  clear b0 b1 b2 b3 d0 d1 d2 d3 d4 d5 d6 lx lm lf lr m0 fzf fzr r0 r1 r2 r3 r4 r5 r6
  have NY := Lib.hid (NX.out.stored hk hB hM hK (len_put _ _ _) HLO.out)
  clear hk hB hM hK
  clear NX
  have NX := Lib.hid NY.out
  clear NY
  skip
  obtain ⟨_, b0, b1, b2, b3⟩ := NX.out.bx
  obtain ⟨d0, d1, d2, d3, d4, d5, d6⟩ := NX.out.bf.cells
  obtain ⟨lx, lm, lf, lr⟩ := NX.out.facts
  have m0 := NX.out.bm.cell
  have fzf := NX.out.bf.free
  have fzr := NX.out.br.free
  obtain ⟨r0, r1, r2, r3, r4, r5, r6⟩ := NX.out.br.cells
  simp only at d0 d1 d2 d3 d4 d5 d6
  go_wp2
  go_step3
  change JJ 0 _ _
  rw [← HJ.out]
  refine ⟨_, rfl, ?_⟩
  clear HJ
  go_wp2
  clear b0 b1 b2 b3 d0 d1 d2 d3 d4 d5 d6 lx lm lf lr m0 fzf fzr r0 r1 r2 r3 r4 r5 r6
  have NY := Lib.hid (NX.out.setPc (2))
  clear NX
  have NX := Lib.hid NY.out
  clear NY
  change Code.wp _ _ _ _ (w1.setCell ⟨w.heap.size + 1 + 1, 1, none⟩ (.int .i64 (2)))
  generalize w1.setCell ⟨w.heap.size + 1 + 1, 1, none⟩ (.int .i64 (2)) = w2 at NX ⊢
  obtain ⟨_, b0, b1, b2, b3⟩ := NX.out.bx
  obtain ⟨d0, d1, d2, d3, d4, d5, d6⟩ := NX.out.bf.cells
  obtain ⟨lx, lm, lf, lr⟩ := NX.out.facts
  have m0 := NX.out.bm.cell
  have fzf := NX.out.bf.free
  have fzr := NX.out.br.free
  obtain ⟨r0, r1, r2, r3, r4, r5, r6⟩ := NX.out.br.cells
  simp only at d0 d1 d2 d3 d4 d5 d6
  go_region
  all_goals
    go_wp2
    change bodyPost _ _ _ _ _ (pf w2 (w.heap.size + 1 + 1 + 1) ⟨o, 2, q, v, x, y, s⟩).drew
    have NB := NX.out.back ⟨o, 2, q, v, x, y, s⟩
    exact bodyPost_ret (results_fr Tryz.results105 _ rfl NB.1) rfl NB.2
set_option maxHeartbeats 4000000 in
theorem next_2n (lo : Nat) (W D J S o q v x y s : Int) (A : Option Addr) (n c : Nat) (l : List Int) (w : World) (h : Rn lo w A l) (hn : l.length = n) (hs : n ≤ 500) (hlo : lo ≤ w.heap.size) (d : decide (far x (at0 l (ow W D J S q 0)) < 0) = true) :
    Calls Tryz.prog 105 #[cf W D J S, .slice A n c, fv ⟨o, 2, q, v, x, y, s⟩] w (RetQ lo w n l ⟨o, 6, q, v, x, at0 l (ow W D J S q 0), s⟩) := by
  have NX := Lib.hid (boxes4 (W := W) (D := D) (J := J) (S := S) (c := c) (⟨o, 2, q, v, x, y, s⟩ : Fr) h hn)
  have HS := Lib.hid hs
  have HLO := Lib.hid hlo
  have Hd := Lib.hid d
  clear h hs hn hlo d
  go_enter Tryz.func105, Tryz.ntmps105
  go_wp2
  change Code.wp _ _ _ _ (bx4 w W D J S (.slice A n c) ⟨o, 2, q, v, x, y, s⟩)
  generalize bx4 w W D J S (.slice A n c) ⟨o, 2, q, v, x, y, s⟩ = w0 at NX ⊢
  refine wp_scope_to _ (fun _ _ _ h => h) ?_
  generalize hJ : (fun (l : Nat) (a : Act) (w : World) => ∃ rest, findLabel _ l = some rest ∧ rest.wp _ _ a w) = JJ
  have HJ := Lib.hid hJ
  clear hJ
  obtain ⟨_, b0, b1, b2, b3⟩ := NX.out.bx
  obtain ⟨d0, d1, d2, d3, d4, d5, d6⟩ := NX.out.bf.cells
  obtain ⟨lx, lm, lf, lr⟩ := NX.out.facts
  have m0 := NX.out.bm.cell
  have fzf := NX.out.bf.free
  have fzr := NX.out.br.free
  obtain ⟨r0, r1, r2, r3, r4, r5, r6⟩ := NX.out.br.cells
  simp only at d0 d1 d2 d3 d4 d5 d6
  have hd := Hd.out
  go_wp2_with fail
  refine (top_any W D J S q _).mono ?_
  rintro _ w1 ⟨rfl, z⟩
  clear b0 b1 b2 b3 d0 d1 d2 d3 d4 d5 d6 lx lm lf lr m0 fzf fzr r0 r1 r2 r3 r4 r5 r6
  have NY := Lib.hid (NX.out.call z)
  clear NX
  have NX := Lib.hid NY.out
  clear NY
  clear z
  obtain ⟨_, b0, b1, b2, b3⟩ := NX.out.bx
  obtain ⟨d0, d1, d2, d3, d4, d5, d6⟩ := NX.out.bf.cells
  obtain ⟨lx, lm, lf, lr⟩ := NX.out.facts
  have m0 := NX.out.bm.cell
  have fzf := NX.out.bf.free
  have fzr := NX.out.br.free
  obtain ⟨r0, r1, r2, r3, r4, r5, r6⟩ := NX.out.br.cells
  simp only at d0 d1 d2 d3 d4 d5 d6
  go_wp2_with fail
  refine (nload_n NX.out.bm NX.out.ry.rd NX.out.nl HS.out).mono ?_
  rintro _ w2 ⟨rfl, z⟩
  clear b0 b1 b2 b3 d0 d1 d2 d3 d4 d5 d6 lx lm lf lr m0 fzf fzr r0 r1 r2 r3 r4 r5 r6
  have NY := Lib.hid (NX.out.call z)
  clear NX
  have NX := Lib.hid NY.out
  clear NY
  clear z
  obtain ⟨_, b0, b1, b2, b3⟩ := NX.out.bx
  obtain ⟨d0, d1, d2, d3, d4, d5, d6⟩ := NX.out.bf.cells
  obtain ⟨lx, lm, lf, lr⟩ := NX.out.facts
  have m0 := NX.out.bm.cell
  have fzf := NX.out.bf.free
  have fzr := NX.out.br.free
  obtain ⟨r0, r1, r2, r3, r4, r5, r6⟩ := NX.out.br.cells
  simp only at d0 d1 d2 d3 d4 d5 d6
  go_wp2_with fail
  refine (far_any _ _ _).mono ?_
  rintro _ _ ⟨rfl, rfl⟩
  go_wp2
  clear b0 b1 b2 b3 d0 d1 d2 d3 d4 d5 d6 lx lm lf lr m0 fzf fzr r0 r1 r2 r3 r4 r5 r6
  have NY := Lib.hid (NX.out.setY (at0 l (ow W D J S q 0)))
  clear NX
  have NX := Lib.hid NY.out
  clear NY
  change Code.wp _ _ _ _ (w2.setCell ⟨w.heap.size + 1 + 1, 5, none⟩ (.int .u64 (at0 l (ow W D J S q 0))))
  generalize w2.setCell ⟨w.heap.size + 1 + 1, 5, none⟩ (.int .u64 (at0 l (ow W D J S q 0))) = w3 at NX ⊢
  obtain ⟨_, b0, b1, b2, b3⟩ := NX.out.bx
  obtain ⟨d0, d1, d2, d3, d4, d5, d6⟩ := NX.out.bf.cells
  obtain ⟨lx, lm, lf, lr⟩ := NX.out.facts
  have m0 := NX.out.bm.cell
  have fzf := NX.out.bf.free
  have fzr := NX.out.br.free
  obtain ⟨r0, r1, r2, r3, r4, r5, r6⟩ := NX.out.br.cells
  simp only at d0 d1 d2 d3 d4 d5 d6
  go_step3
  change JJ 1 _ _
  rw [← HJ.out]
  refine ⟨_, rfl, ?_⟩
  clear HJ
  go_wp2
  clear b0 b1 b2 b3 d0 d1 d2 d3 d4 d5 d6 lx lm lf lr m0 fzf fzr r0 r1 r2 r3 r4 r5 r6
  have NY := Lib.hid (NX.out.setPc 6)
  clear NX
  have NX := Lib.hid NY.out
  clear NY
  change Code.wp _ _ _ _ (w3.setCell ⟨w.heap.size + 1 + 1, 1, none⟩ (.int .i64 6))
  generalize w3.setCell ⟨w.heap.size + 1 + 1, 1, none⟩ (.int .i64 6) = w4 at NX ⊢
  obtain ⟨_, b0, b1, b2, b3⟩ := NX.out.bx
  obtain ⟨d0, d1, d2, d3, d4, d5, d6⟩ := NX.out.bf.cells
  obtain ⟨lx, lm, lf, lr⟩ := NX.out.facts
  have m0 := NX.out.bm.cell
  have fzf := NX.out.bf.free
  have fzr := NX.out.br.free
  obtain ⟨r0, r1, r2, r3, r4, r5, r6⟩ := NX.out.br.cells
  simp only at d0 d1 d2 d3 d4 d5 d6
  go_region
  all_goals
    go_wp2
    change bodyPost _ _ _ _ _ (pf w4 (w.heap.size + 1 + 1 + 1) ⟨o, 6, q, v, x, at0 l (ow W D J S q 0), s⟩).drew
    have NB := NX.out.back ⟨o, 6, q, v, x, at0 l (ow W D J S q 0), s⟩
    exact bodyPost_ret (results_fr Tryz.results105 _ rfl NB.1) rfl NB.2
set_option maxHeartbeats 4000000 in
theorem next_2f (lo : Nat) (W D J S o q v x y s : Int) (A : Option Addr) (n c : Nat) (l : List Int) (w : World) (h : Rn lo w A l) (hn : l.length = n) (hs : n ≤ 500) (hlo : lo ≤ w.heap.size) (d : decide (far x (at0 l (ow W D J S q 0)) < 0) = false) :
    Calls Tryz.prog 105 #[cf W D J S, .slice A n c, fv ⟨o, 2, q, v, x, y, s⟩] w (RetQ lo w n l ⟨o, 3, q, v, x, at0 l (ow W D J S q 0), s⟩) := by
  have NX := Lib.hid (boxes4 (W := W) (D := D) (J := J) (S := S) (c := c) (⟨o, 2, q, v, x, y, s⟩ : Fr) h hn)
  have HS := Lib.hid hs
  have HLO := Lib.hid hlo
  have Hd := Lib.hid d
  clear h hs hn hlo d
  go_enter Tryz.func105, Tryz.ntmps105
  go_wp2
  change Code.wp _ _ _ _ (bx4 w W D J S (.slice A n c) ⟨o, 2, q, v, x, y, s⟩)
  generalize bx4 w W D J S (.slice A n c) ⟨o, 2, q, v, x, y, s⟩ = w0 at NX ⊢
  refine wp_scope_to _ (fun _ _ _ h => h) ?_
  generalize hJ : (fun (l : Nat) (a : Act) (w : World) => ∃ rest, findLabel _ l = some rest ∧ rest.wp _ _ a w) = JJ
  have HJ := Lib.hid hJ
  clear hJ
  obtain ⟨_, b0, b1, b2, b3⟩ := NX.out.bx
  obtain ⟨d0, d1, d2, d3, d4, d5, d6⟩ := NX.out.bf.cells
  obtain ⟨lx, lm, lf, lr⟩ := NX.out.facts
  have m0 := NX.out.bm.cell
  have fzf := NX.out.bf.free
  have fzr := NX.out.br.free
  obtain ⟨r0, r1, r2, r3, r4, r5, r6⟩ := NX.out.br.cells
  simp only at d0 d1 d2 d3 d4 d5 d6
  have hd := Hd.out
  go_wp2_with fail
  refine (top_any W D J S q _).mono ?_
  rintro _ w1 ⟨rfl, z⟩
  clear b0 b1 b2 b3 d0 d1 d2 d3 d4 d5 d6 lx lm lf lr m0 fzf fzr r0 r1 r2 r3 r4 r5 r6
  have NY := Lib.hid (NX.out.call z)
  clear NX
  have NX := Lib.hid NY.out
  clear NY
  clear z
  obtain ⟨_, b0, b1, b2, b3⟩ := NX.out.bx
  obtain ⟨d0, d1, d2, d3, d4, d5, d6⟩ := NX.out.bf.cells
  obtain ⟨lx, lm, lf, lr⟩ := NX.out.facts
  have m0 := NX.out.bm.cell
  have fzf := NX.out.bf.free
  have fzr := NX.out.br.free
  obtain ⟨r0, r1, r2, r3, r4, r5, r6⟩ := NX.out.br.cells
  simp only at d0 d1 d2 d3 d4 d5 d6
  go_wp2_with fail
  refine (nload_n NX.out.bm NX.out.ry.rd NX.out.nl HS.out).mono ?_
  rintro _ w2 ⟨rfl, z⟩
  clear b0 b1 b2 b3 d0 d1 d2 d3 d4 d5 d6 lx lm lf lr m0 fzf fzr r0 r1 r2 r3 r4 r5 r6
  have NY := Lib.hid (NX.out.call z)
  clear NX
  have NX := Lib.hid NY.out
  clear NY
  clear z
  obtain ⟨_, b0, b1, b2, b3⟩ := NX.out.bx
  obtain ⟨d0, d1, d2, d3, d4, d5, d6⟩ := NX.out.bf.cells
  obtain ⟨lx, lm, lf, lr⟩ := NX.out.facts
  have m0 := NX.out.bm.cell
  have fzf := NX.out.bf.free
  have fzr := NX.out.br.free
  obtain ⟨r0, r1, r2, r3, r4, r5, r6⟩ := NX.out.br.cells
  simp only at d0 d1 d2 d3 d4 d5 d6
  go_wp2_with fail
  refine (far_any _ _ _).mono ?_
  rintro _ _ ⟨rfl, rfl⟩
  go_wp2
  clear b0 b1 b2 b3 d0 d1 d2 d3 d4 d5 d6 lx lm lf lr m0 fzf fzr r0 r1 r2 r3 r4 r5 r6
  have NY := Lib.hid (NX.out.setY (at0 l (ow W D J S q 0)))
  clear NX
  have NX := Lib.hid NY.out
  clear NY
  change Code.wp _ _ _ _ (w2.setCell ⟨w.heap.size + 1 + 1, 5, none⟩ (.int .u64 (at0 l (ow W D J S q 0))))
  generalize w2.setCell ⟨w.heap.size + 1 + 1, 5, none⟩ (.int .u64 (at0 l (ow W D J S q 0))) = w3 at NX ⊢
  obtain ⟨_, b0, b1, b2, b3⟩ := NX.out.bx
  obtain ⟨d0, d1, d2, d3, d4, d5, d6⟩ := NX.out.bf.cells
  obtain ⟨lx, lm, lf, lr⟩ := NX.out.facts
  have m0 := NX.out.bm.cell
  have fzf := NX.out.bf.free
  have fzr := NX.out.br.free
  obtain ⟨r0, r1, r2, r3, r4, r5, r6⟩ := NX.out.br.cells
  simp only at d0 d1 d2 d3 d4 d5 d6
  go_step3
  change JJ 0 _ _
  rw [← HJ.out]
  refine ⟨_, rfl, ?_⟩
  clear HJ
  go_wp2
  clear b0 b1 b2 b3 d0 d1 d2 d3 d4 d5 d6 lx lm lf lr m0 fzf fzr r0 r1 r2 r3 r4 r5 r6
  have NY := Lib.hid (NX.out.setPc (3))
  clear NX
  have NX := Lib.hid NY.out
  clear NY
  change Code.wp _ _ _ _ (w3.setCell ⟨w.heap.size + 1 + 1, 1, none⟩ (.int .i64 (3)))
  generalize w3.setCell ⟨w.heap.size + 1 + 1, 1, none⟩ (.int .i64 (3)) = w4 at NX ⊢
  obtain ⟨_, b0, b1, b2, b3⟩ := NX.out.bx
  obtain ⟨d0, d1, d2, d3, d4, d5, d6⟩ := NX.out.bf.cells
  obtain ⟨lx, lm, lf, lr⟩ := NX.out.facts
  have m0 := NX.out.bm.cell
  have fzf := NX.out.bf.free
  have fzr := NX.out.br.free
  obtain ⟨r0, r1, r2, r3, r4, r5, r6⟩ := NX.out.br.cells
  simp only at d0 d1 d2 d3 d4 d5 d6
  go_region
  all_goals
    go_wp2
    change bodyPost _ _ _ _ _ (pf w4 (w.heap.size + 1 + 1 + 1) ⟨o, 3, q, v, x, at0 l (ow W D J S q 0), s⟩).drew
    have NB := NX.out.back ⟨o, 3, q, v, x, at0 l (ow W D J S q 0), s⟩
    exact bodyPost_ret (results_fr Tryz.results105 _ rfl NB.1) rfl NB.2
set_option maxHeartbeats 4000000 in
theorem next_3e (lo : Nat) (W D J S o q v x s : Int) (A : Option Addr) (n c : Nat) (l : List Int) (w : World) (h : Rn lo w A l) (hn : l.length = n) (hs : n ≤ 500) (hlo : lo ≤ w.heap.size) (ux : U x) :
    Calls Tryz.prog 105 #[cf W D J S, .slice A n c, fv ⟨o, 3, q, v, x, x, s⟩] w (RetQ lo w n l ⟨o, 4, q, at0 l (sl W D J S q x), x, x, s⟩) := by
  have NX := Lib.hid (boxes4 (W := W) (D := D) (J := J) (S := S) (c := c) (⟨o, 3, q, v, x, x, s⟩ : Fr) h hn)
  have HS := Lib.hid hs
  have HLO := Lib.hid hlo
  have Hux := Lib.hid ux
  clear h hs hn hlo ux
  go_enter Tryz.func105, Tryz.ntmps105
  go_wp2
  change Code.wp _ _ _ _ (bx4 w W D J S (.slice A n c) ⟨o, 3, q, v, x, x, s⟩)
  generalize bx4 w W D J S (.slice A n c) ⟨o, 3, q, v, x, x, s⟩ = w0 at NX ⊢
  refine wp_scope_to _ (fun _ _ _ h => h) ?_
  generalize hJ : (fun (l : Nat) (a : Act) (w : World) => ∃ rest, findLabel _ l = some rest ∧ rest.wp _ _ a w) = JJ
  have HJ := Lib.hid hJ
  clear hJ
  obtain ⟨_, b0, b1, b2, b3⟩ := NX.out.bx
  obtain ⟨d0, d1, d2, d3, d4, d5, d6⟩ := NX.out.bf.cells
  obtain ⟨lx, lm, lf, lr⟩ := NX.out.facts
  have m0 := NX.out.bm.cell
  have fzf := NX.out.bf.free
  have fzr := NX.out.br.free
  obtain ⟨r0, r1, r2, r3, r4, r5, r6⟩ := NX.out.br.cells
  simp only at d0 d1 d2 d3 d4 d5 d6
  go_wp2_with fail
  refine (slot_any W D J S q x _ Hux.out).mono ?_
  rintro _ w1 ⟨rfl, z⟩
  clear b0 b1 b2 b3 d0 d1 d2 d3 d4 d5 d6 lx lm lf lr m0 fzf fzr r0 r1 r2 r3 r4 r5 r6
  have NY := Lib.hid (NX.out.call z)
  clear NX
  have NX := Lib.hid NY.out
  clear NY
  clear z
  obtain ⟨_, b0, b1, b2, b3⟩ := NX.out.bx
  obtain ⟨d0, d1, d2, d3, d4, d5, d6⟩ := NX.out.bf.cells
  obtain ⟨lx, lm, lf, lr⟩ := NX.out.facts
  have m0 := NX.out.bm.cell
  have fzf := NX.out.bf.free
  have fzr := NX.out.br.free
  obtain ⟨r0, r1, r2, r3, r4, r5, r6⟩ := NX.out.br.cells
  simp only at d0 d1 d2 d3 d4 d5 d6
  go_wp2_with fail
  refine (nload_n NX.out.bm NX.out.ry.rd NX.out.nl HS.out).mono ?_
  rintro _ w2 ⟨rfl, z⟩
  clear b0 b1 b2 b3 d0 d1 d2 d3 d4 d5 d6 lx lm lf lr m0 fzf fzr r0 r1 r2 r3 r4 r5 r6
  have NY := Lib.hid (NX.out.call z)
  clear NX
  have NX := Lib.hid NY.out
  clear NY
  clear z
  obtain ⟨_, b0, b1, b2, b3⟩ := NX.out.bx
  obtain ⟨d0, d1, d2, d3, d4, d5, d6⟩ := NX.out.bf.cells
  obtain ⟨lx, lm, lf, lr⟩ := NX.out.facts
  have m0 := NX.out.bm.cell
  have fzf := NX.out.bf.free
  have fzr := NX.out.br.free
  obtain ⟨r0, r1, r2, r3, r4, r5, r6⟩ := NX.out.br.cells
  simp only at d0 d1 d2 d3 d4 d5 d6
  go_wp2
  clear b0 b1 b2 b3 d0 d1 d2 d3 d4 d5 d6 lx lm lf lr m0 fzf fzr r0 r1 r2 r3 r4 r5 r6
  have NY := Lib.hid (NX.out.setVal (at0 l (sl W D J S q x)))
  clear NX
  have NX := Lib.hid NY.out
  clear NY
  change Code.wp _ _ _ _ (w2.setCell ⟨w.heap.size + 1 + 1, 3, none⟩ (.int .u64 (at0 l (sl W D J S q x))))
  generalize w2.setCell ⟨w.heap.size + 1 + 1, 3, none⟩ (.int .u64 (at0 l (sl W D J S q x))) = w3 at NX ⊢
  obtain ⟨_, b0, b1, b2, b3⟩ := NX.out.bx
  obtain ⟨d0, d1, d2, d3, d4, d5, d6⟩ := NX.out.bf.cells
  obtain ⟨lx, lm, lf, lr⟩ := NX.out.facts
  have m0 := NX.out.bm.cell
  have fzf := NX.out.bf.free
  have fzr := NX.out.br.free
  obtain ⟨r0, r1, r2, r3, r4, r5, r6⟩ := NX.out.br.cells
  simp only at d0 d1 d2 d3 d4 d5 d6
  go_step3
  change JJ 0 _ _
  rw [← HJ.out]
  refine ⟨_, rfl, ?_⟩
  clear HJ
  go_wp2
  clear b0 b1 b2 b3 d0 d1 d2 d3 d4 d5 d6 lx lm lf lr m0 fzf fzr r0 r1 r2 r3 r4 r5 r6
  have NY := Lib.hid (NX.out.setPc (4))
  clear NX
  have NX := Lib.hid NY.out
  clear NY
  change Code.wp _ _ _ _ (w3.setCell ⟨w.heap.size + 1 + 1, 1, none⟩ (.int .i64 (4)))
  generalize w3.setCell ⟨w.heap.size + 1 + 1, 1, none⟩ (.int .i64 (4)) = w4 at NX ⊢
  obtain ⟨_, b0, b1, b2, b3⟩ := NX.out.bx
  obtain ⟨d0, d1, d2, d3, d4, d5, d6⟩ := NX.out.bf.cells
  obtain ⟨lx, lm, lf, lr⟩ := NX.out.facts
  have m0 := NX.out.bm.cell
  have fzf := NX.out.bf.free
  have fzr := NX.out.br.free
  obtain ⟨r0, r1, r2, r3, r4, r5, r6⟩ := NX.out.br.cells
  simp only at d0 d1 d2 d3 d4 d5 d6
  go_region
  all_goals
    go_wp2
    change bodyPost _ _ _ _ _ (pf w4 (w.heap.size + 1 + 1 + 1) ⟨o, 4, q, at0 l (sl W D J S q x), x, x, s⟩).drew
    have NB := NX.out.back ⟨o, 4, q, at0 l (sl W D J S q x), x, x, s⟩
    exact bodyPost_ret (results_fr Tryz.results105 _ rfl NB.1) rfl NB.2
set_option maxHeartbeats 4000000 in
theorem next_4y (lo : Nat) (W D J S o q v x y s : Int) (A : Option Addr) (n c : Nat) (l : List Int) (w : World) (h : Rn lo w A l) (hn : l.length = n) (hs : n ≤ 500) (hlo : lo ≤ w.heap.size) (T0 : List Int) (b : isAt l (ow W D J S q 0) y = true) (T : (if isAt l (ow W D J S q 0) y = true then put l (ow W D J S q 0) ((y + 1) % 18446744073709551616) else l) = T0) (L : T0.length = l.length) :
    Calls Tryz.prog 105 #[cf W D J S, .slice A n c, fv ⟨o, 4, q, v, x, y, s⟩] w (RetQ lo w n T0 ⟨o, 5, q, v, x, y, s⟩) := by
  have NX := Lib.hid (boxes4 (W := W) (D := D) (J := J) (S := S) (c := c) (⟨o, 4, q, v, x, y, s⟩ : Fr) h hn)
  have HS := Lib.hid hs
  have HLO := Lib.hid hlo
  have Hb := Lib.hid b
  have HT := Lib.hid T
  have HL := Lib.hid L
  clear h hs hn hlo b T L
  go_enter Tryz.func105, Tryz.ntmps105
  go_wp2
  change Code.wp _ _ _ _ (bx4 w W D J S (.slice A n c) ⟨o, 4, q, v, x, y, s⟩)
  generalize bx4 w W D J S (.slice A n c) ⟨o, 4, q, v, x, y, s⟩ = w0 at NX ⊢
  refine wp_scope_to _ (fun _ _ _ h => h) ?_
  generalize hJ : (fun (l : Nat) (a : Act) (w : World) => ∃ rest, findLabel _ l = some rest ∧ rest.wp _ _ a w) = JJ
  have HJ := Lib.hid hJ
  clear hJ
  obtain ⟨_, b0, b1, b2, b3⟩ := NX.out.bx
  obtain ⟨d0, d1, d2, d3, d4, d5, d6⟩ := NX.out.bf.cells
  obtain ⟨lx, lm, lf, lr⟩ := NX.out.facts
  have m0 := NX.out.bm.cell
  have fzf := NX.out.bf.free
  have fzr := NX.out.br.free
  obtain ⟨r0, r1, r2, r3, r4, r5, r6⟩ := NX.out.br.cells
  simp only at d0 d1 d2 d3 d4 d5 d6
  go_wp2_with fail
  refine (ntake_n NX.out.bm NX.out.bx NX.out.bf NX.out.ry.rd NX.out.nl (by omega) (by omega) HS.out Hb.out HT.out).mono ?_
  rintro _ w1 ⟨k, rfl, hk, hB, hM, hK⟩
  clear b0 b1 b2 b3 d0 d1 d2 d3 d4 d5 d6 lx lm lf lr m0 fzf fzr r0 r1 r2 r3 r4 r5 r6
  have NY := Lib.hid (NX.out.stored hk hB hM hK HL.out HLO.out)
  clear hk hB hM hK
  clear NX
  have NX := Lib.hid NY.out
  clear NY
  skip
  obtain ⟨_, b0, b1, b2, b3⟩ := NX.out.bx
  obtain ⟨d0, d1, d2, d3, d4, d5, d6⟩ := NX.out.bf.cells
  obtain ⟨lx, lm, lf, lr⟩ := NX.out.facts
  have m0 := NX.out.bm.cell
  have fzf := NX.out.bf.free
  have fzr := NX.out.br.free
  obtain ⟨r0, r1, r2, r3, r4, r5, r6⟩ := NX.out.br.cells
  simp only at d0 d1 d2 d3 d4 d5 d6
  go_wp2
  go_step3
  change JJ 0 _ _
  rw [← HJ.out]
  refine ⟨_, rfl, ?_⟩
  clear HJ
  go_wp2
  clear b0 b1 b2 b3 d0 d1 d2 d3 d4 d5 d6 lx lm lf lr m0 fzf fzr r0 r1 r2 r3 r4 r5 r6
  have NY := Lib.hid (NX.out.setPc (5))
  clear NX
  have NX := Lib.hid NY.out
  clear NY
  change Code.wp _ _ _ _ (w1.setCell ⟨w.heap.size + 1 + 1, 1, none⟩ (.int .i64 (5)))
  generalize w1.setCell ⟨w.heap.size + 1 + 1, 1, none⟩ (.int .i64 (5)) = w2 at NX ⊢
  obtain ⟨_, b0, b1, b2, b3⟩ := NX.out.bx
  obtain ⟨d0, d1, d2, d3, d4, d5, d6⟩ := NX.out.bf.cells
  obtain ⟨lx, lm, lf, lr⟩ := NX.out.facts
  have m0 := NX.out.bm.cell
  have fzf := NX.out.bf.free
  have fzr := NX.out.br.free
  obtain ⟨r0, r1, r2, r3, r4, r5, r6⟩ := NX.out.br.cells
  simp only at d0 d1 d2 d3 d4 d5 d6
  go_region
  all_goals
    go_wp2
    change bodyPost _ _ _ _ _ (pf w2 (w.heap.size + 1 + 1 + 1) ⟨o, 5, q, v, x, y, s⟩).drew
    have NB := NX.out.back ⟨o, 5, q, v, x, y, s⟩
    exact bodyPost_ret (results_fr Tryz.results105 _ rfl NB.1) rfl NB.2
set_option maxHeartbeats 4000000 in
theorem next_4n (lo : Nat) (W D J S o q v x y s : Int) (A : Option Addr) (n c : Nat) (l : List Int) (w : World) (h : Rn lo w A l) (hn : l.length = n) (hs : n ≤ 500) (hlo : lo ≤ w.heap.size) (T0 : List Int) (b : isAt l (ow W D J S q 0) y = false) (T : (if isAt l (ow W D J S q 0) y = true then put l (ow W D J S q 0) ((y + 1) % 18446744073709551616) else l) = T0) (L : T0.length = l.length) :
    Calls Tryz.prog 105 #[cf W D J S, .slice A n c, fv ⟨o, 4, q, v, x, y, s⟩] w (RetQ lo w n T0 ⟨o, 6, q, v, x, y, s⟩) := by
  have NX := Lib.hid (boxes4 (W := W) (D := D) (J := J) (S := S) (c := c) (⟨o, 4, q, v, x, y, s⟩ : Fr) h hn)
  have HS := Lib.hid hs
  have HLO := Lib.hid hlo
  have Hb := Lib.hid b
  have HT := Lib.hid T
  have HL := Lib.hid L
  clear h hs hn hlo b T L
  go_enter Tryz.func105, Tryz.ntmps105
  go_wp2
  change Code.wp _ _ _ _ (bx4 w W D J S (.slice A n c) ⟨o, 4, q, v, x, y, s⟩)
  generalize bx4 w W D J S (.slice A n c) ⟨o, 4, q, v, x, y, s⟩ = w0 at NX ⊢
  refine wp_scope_to _ (fun _ _ _ h => h) ?_
  generalize hJ : (fun (l : Nat) (a : Act) (w : World) => ∃ rest, findLabel _ l = some rest ∧ rest.wp _ _ a w) = JJ
  have HJ := Lib.hid hJ
  clear hJ
  obtain ⟨_, b0, b1, b2, b3⟩ := NX.out.bx
  obtain ⟨d0, d1, d2, d3, d4, d5, d6⟩ := NX.out.bf.cells
  obtain ⟨lx, lm, lf, lr⟩ := NX.out.facts
  have m0 := NX.out.bm.cell
  have fzf := NX.out.bf.free
  have fzr := NX.out.br.free
  obtain ⟨r0, r1, r2, r3, r4, r5, r6⟩ := NX.out.br.cells
  simp only at d0 d1 d2 d3 d4 d5 d6
  go_wp2_with fail
  refine (ntake_n NX.out.bm NX.out.bx NX.out.bf NX.out.ry.rd NX.out.nl (by omega) (by omega) HS.out Hb.out HT.out).mono ?_
  rintro _ w1 ⟨k, rfl, hk, hB, hM, hK⟩
  clear b0 b1 b2 b3 d0 d1 d2 d3 d4 d5 d6 lx lm lf lr m0 fzf fzr r0 r1 r2 r3 r4 r5 r6
  have NY := Lib.hid (NX.out.stored hk hB hM hK HL.out HLO.out)
  clear hk hB hM hK
  clear NX
  have NX := Lib.hid NY.out
  clear NY
  skip
  obtain ⟨_, b0, b1, b2, b3⟩ := NX.out.bx
  obtain ⟨d0, d1, d2, d3, d4, d5, d6⟩ := NX.out.bf.cells
  obtain ⟨lx, lm, lf, lr⟩ := NX.out.facts
  have m0 := NX.out.bm.cell
  have fzf := NX.out.bf.free
  have fzr := NX.out.br.free
  obtain ⟨r0, r1, r2, r3, r4, r5, r6⟩ := NX.out.br.cells
  simp only at d0 d1 d2 d3 d4 d5 d6
  go_wp2
  go_step3
  change JJ 1 _ _
  rw [← HJ.out]
  refine ⟨_, rfl, ?_⟩
  clear HJ
  go_wp2
  clear b0 b1 b2 b3 d0 d1 d2 d3 d4 d5 d6 lx lm lf lr m0 fzf fzr r0 r1 r2 r3 r4 r5 r6
  have NY := Lib.hid (NX.out.setPc 6)
  clear NX
  have NX := Lib.hid NY.out
  clear NY
  change Code.wp _ _ _ _ (w1.setCell ⟨w.heap.size + 1 + 1, 1, none⟩ (.int .i64 6))
  generalize w1.setCell ⟨w.heap.size + 1 + 1, 1, none⟩ (.int .i64 6) = w2 at NX ⊢
  obtain ⟨_, b0, b1, b2, b3⟩ := NX.out.bx
  obtain ⟨d0, d1, d2, d3, d4, d5, d6⟩ := NX.out.bf.cells
  obtain ⟨lx, lm, lf, lr⟩ := NX.out.facts
  have m0 := NX.out.bm.cell
  have fzf := NX.out.bf.free
  have fzr := NX.out.br.free
  obtain ⟨r0, r1, r2, r3, r4, r5, r6⟩ := NX.out.br.cells
  simp only at d0 d1 d2 d3 d4 d5 d6
  go_region
  all_goals
    go_wp2
    change bodyPost _ _ _ _ _ (pf w2 (w.heap.size + 1 + 1 + 1) ⟨o, 6, q, v, x, y, s⟩).drew
    have NB := NX.out.back ⟨o, 6, q, v, x, y, s⟩
    exact bodyPost_ret (results_fr Tryz.results105 _ rfl NB.1) rfl NB.2
end Go.Proofs.YtlpkccpijloidaaGreat
namespace Go.Proofs.YtlpkccpijloidaaGreat
set_option maxRecDepth 100000
open Go.RowKit Go.Deep
attribute [local go_sem] exTo_normal exTo_exit exTo_ret exTo_goto run_makeFunc run_store_func
set_option maxHeartbeats 4000000 in
theorem next_3t (lo : Nat) (W D J S o q v x y s : Int) (A : Option Addr) (n c : Nat) (l : List Int) (w : World) (h : Rn lo w A l) (hn : l.length = n) (hs : n ≤ 500) (hlo : lo ≤ w.heap.size) (ux : U x) (d : (x != y) = true) :
    Calls Tryz.prog 105 #[cf W D J S, .slice A n c, fv ⟨o, 3, q, v, x, y, s⟩] w (RetQ lo w n l (ed ⟨o, 3, q, at0 l (sl W D J S q x), x, y, s⟩ 1 (at0 l (sl W D J S q x)))) := by
  have NX := Lib.hid (boxes4 (W := W) (D := D) (J := J) (S := S) (c := c) (⟨o, 3, q, v, x, y, s⟩ : Fr) h hn)
  have HS := Lib.hid hs
  have HLO := Lib.hid hlo
  have Hux := Lib.hid ux
  have Hd := Lib.hid d
  clear h hs hn hlo ux d
  go_enter Tryz.func105, Tryz.ntmps105
  go_wp2
  change Code.wp _ _ _ _ (bx4 w W D J S (.slice A n c) ⟨o, 3, q, v, x, y, s⟩)
  generalize bx4 w W D J S (.slice A n c) ⟨o, 3, q, v, x, y, s⟩ = w0 at NX ⊢
  refine wp_scope_to _ (fun _ _ _ h => h) ?_
  generalize hJ : (fun (l : Nat) (a : Act) (w : World) => ∃ rest, findLabel _ l = some rest ∧ rest.wp _ _ a w) = JJ
  have HJ := Lib.hid hJ
  clear hJ
  obtain ⟨_, b0, b1, b2, b3⟩ := NX.out.bx
  obtain ⟨d0, d1, d2, d3, d4, d5, d6⟩ := NX.out.bf.cells
  obtain ⟨lx, lm, lf, lr⟩ := NX.out.facts
  have m0 := NX.out.bm.cell
  have fzf := NX.out.bf.free
  have fzr := NX.out.br.free
  obtain ⟨r0, r1, r2, r3, r4, r5, r6⟩ := NX.out.br.cells
  simp only at d0 d1 d2 d3 d4 d5 d6
  have hd := Hd.out
  go_wp2_with fail
  refine (slot_any W D J S q x _ Hux.out).mono ?_
  rintro _ w1 ⟨rfl, z⟩
  clear b0 b1 b2 b3 d0 d1 d2 d3 d4 d5 d6 lx lm lf lr m0 fzf fzr r0 r1 r2 r3 r4 r5 r6
  have NY := Lib.hid (NX.out.call z)
  clear NX
  have NX := Lib.hid NY.out
  clear NY
  clear z
  obtain ⟨_, b0, b1, b2, b3⟩ := NX.out.bx
  obtain ⟨d0, d1, d2, d3, d4, d5, d6⟩ := NX.out.bf.cells
  obtain ⟨lx, lm, lf, lr⟩ := NX.out.facts
  have m0 := NX.out.bm.cell
  have fzf := NX.out.bf.free
  have fzr := NX.out.br.free
  obtain ⟨r0, r1, r2, r3, r4, r5, r6⟩ := NX.out.br.cells
  simp only at d0 d1 d2 d3 d4 d5 d6
  go_wp2_with fail
  refine (nload_n NX.out.bm NX.out.ry.rd NX.out.nl HS.out).mono ?_
  rintro _ w2 ⟨rfl, z⟩
  clear b0 b1 b2 b3 d0 d1 d2 d3 d4 d5 d6 lx lm lf lr m0 fzf fzr r0 r1 r2 r3 r4 r5 r6
  have NY := Lib.hid (NX.out.call z)
  clear NX
  have NX := Lib.hid NY.out
  clear NY
  clear z
  obtain ⟨_, b0, b1, b2, b3⟩ := NX.out.bx
  obtain ⟨d0, d1, d2, d3, d4, d5, d6⟩ := NX.out.bf.cells
  obtain ⟨lx, lm, lf, lr⟩ := NX.out.facts
  have m0 := NX.out.bm.cell
  have fzf := NX.out.bf.free
  have fzr := NX.out.br.free
  obtain ⟨r0, r1, r2, r3, r4, r5, r6⟩ := NX.out.br.cells
  simp only at d0 d1 d2 d3 d4 d5 d6
  go_wp2
  clear b0 b1 b2 b3 d0 d1 d2 d3 d4 d5 d6 lx lm lf lr m0 fzf fzr r0 r1 r2 r3 r4 r5 r6
  have NY := Lib.hid (NX.out.setVal (at0 l (sl W D J S q x)))
  clear NX
  have NX := Lib.hid NY.out
  clear NY
  change Code.wp _ _ _ _ (w2.setCell ⟨w.heap.size + 1 + 1, 3, none⟩ (.int .u64 (at0 l (sl W D J S q x))))
  generalize w2.setCell ⟨w.heap.size + 1 + 1, 3, none⟩ (.int .u64 (at0 l (sl W D J S q x))) = w3 at NX ⊢
  obtain ⟨_, b0, b1, b2, b3⟩ := NX.out.bx
  obtain ⟨d0, d1, d2, d3, d4, d5, d6⟩ := NX.out.bf.cells
  obtain ⟨lx, lm, lf, lr⟩ := NX.out.facts
  have m0 := NX.out.bm.cell
  have fzf := NX.out.bf.free
  have fzr := NX.out.br.free
  obtain ⟨r0, r1, r2, r3, r4, r5, r6⟩ := NX.out.br.cells
  simp only at d0 d1 d2 d3 d4 d5 d6
  go_step3
  change JJ 2 _ _
  rw [← HJ.out]
  refine ⟨_, rfl, ?_⟩
  clear HJ
  go_wp2
  go_region_with (go_at_call 133; (refine (end_any ⟨o, 3, q, at0 l (sl W D J S q x), x, y, s⟩ _ _ _).mono ?_); rintro _ w9 ⟨rfl, z⟩; have NY := Lib.hid (NX.out.drew.call z); clear z b0 b1 b2 b3 d0 d1 d2 d3 d4 d5 d6 lx lm lf lr m0 fzf fzr r0 r1 r2 r3 r4 r5 r6; obtain ⟨_, b0, b1, b2, b3⟩ := NY.out.bx; obtain ⟨d0, d1, d2, d3, d4, d5, d6⟩ := NY.out.bf.cells; obtain ⟨lx, lm, lf, lr⟩ := NY.out.facts; have m0 := NY.out.bm.cell; have fzf := NY.out.bf.free; have fzr := NY.out.br.free; obtain ⟨r0, r1, r2, r3, r4, r5, r6⟩ := NY.out.br.cells; simp only at d0 d1 d2 d3 d4 d5 d6)
  all_goals
    go_wp2
    rw [Exit.noGoto_ret]
    change bodyPost _ _ _ _ _ (pf w9 (w.heap.size + 1 + 1 + 1) (ed ⟨o, 3, q, at0 l (sl W D J S q x), x, y, s⟩ 1 (at0 l (sl W D J S q x))))
    have NB := NY.out.back2 (ed ⟨o, 3, q, at0 l (sl W D J S q x), x, y, s⟩ 1 (at0 l (sl W D J S q x)))
    exact bodyPost_ret (results_fr Tryz.results105 _ rfl NB.1) rfl NB.2
set_option maxHeartbeats 4000000 in
theorem next_5 (lo : Nat) (W D J S o q v x y s : Int) (A : Option Addr) (n c : Nat) (l : List Int) (w : World) (h : Rn lo w A l) (hn : l.length = n) (hs : n ≤ 500) (hlo : lo ≤ w.heap.size) :
    Calls Tryz.prog 105 #[cf W D J S, .slice A n c, fv ⟨o, 5, q, v, x, y, s⟩] w (RetQ lo w n (put l (ow W D J S q 1) ((x + 1) % 18446744073709551616)) (ed ⟨o, 5, q, v, x, y, s⟩ 1 v)) := by
  have NX := Lib.hid (boxes4 (W := W) (D := D) (J := J) (S := S) (c := c) (⟨o, 5, q, v, x, y, s⟩ : Fr) h hn)
  have HS := Lib.hid hs
  have HLO := Lib.hid hlo
  clear h hs hn hlo
  go_enter Tryz.func105, Tryz.ntmps105
  go_wp2
  change Code.wp _ _ _ _ (bx4 w W D J S (.slice A n c) ⟨o, 5, q, v, x, y, s⟩)
  generalize bx4 w W D J S (.slice A n c) ⟨o, 5, q, v, x, y, s⟩ = w0 at NX ⊢
  refine wp_scope_to _ (fun _ _ _ h => h) ?_
  generalize hJ : (fun (l : Nat) (a : Act) (w : World) => ∃ rest, findLabel _ l = some rest ∧ rest.wp _ _ a w) = JJ
  have HJ := Lib.hid hJ
  clear hJ
  obtain ⟨_, b0, b1, b2, b3⟩ := NX.out.bx
  obtain ⟨d0, d1, d2, d3, d4, d5, d6⟩ := NX.out.bf.cells
  obtain ⟨lx, lm, lf, lr⟩ := NX.out.facts
  have m0 := NX.out.bm.cell
  have fzf := NX.out.bf.free
  have fzr := NX.out.br.free
  obtain ⟨r0, r1, r2, r3, r4, r5, r6⟩ := NX.out.br.cells
  simp only at d0 d1 d2 d3 d4 d5 d6
  go_wp2_with fail
  refine (nset_n ((x + 1) % 18446744073709551616) NX.out.bm NX.out.bx NX.out.bf NX.out.ry.rd NX.out.nl (by omega) (by omega) HS.out).mono ?_
  rintro _ w1 ⟨k, rfl, hk, hB, hM, hK⟩
  clear b0 b1 b2 b3 d0 d1 d2 d3 d4 d5 d6 lx lm lf lr m0 fzf fzr r0 r1 r2 r3 r4 r5 r6
  have NY := Lib.hid (NX.out.stored hk hB hM hK (len_put _ _ _) HLO.out)
  clear hk hB hM hK
  clear NX
  have NX := Lib.hid NY.out
  clear NY
  skip
  obtain ⟨_, b0, b1, b2, b3⟩ := NX.out.bx
  obtain ⟨d0, d1, d2, d3, d4, d5, d6⟩ := NX.out.bf.cells
  obtain ⟨lx, lm, lf, lr⟩ := NX.out.facts
  have m0 := NX.out.bm.cell
  have fzf := NX.out.bf.free
  have fzr := NX.out.br.free
  obtain ⟨r0, r1, r2, r3, r4, r5, r6⟩ := NX.out.br.cells
  simp only at d0 d1 d2 d3 d4 d5 d6
  go_wp2
  go_step3
  change JJ 2 _ _
  rw [← HJ.out]
  refine ⟨_, rfl, ?_⟩
  clear HJ
  go_wp2
  go_region_with (go_at_call 133; (refine (end_any ⟨o, 5, q, v, x, y, s⟩ _ _ _).mono ?_); rintro _ w9 ⟨rfl, z⟩; have NY := Lib.hid (NX.out.drew.call z); clear z b0 b1 b2 b3 d0 d1 d2 d3 d4 d5 d6 lx lm lf lr m0 fzf fzr r0 r1 r2 r3 r4 r5 r6; obtain ⟨_, b0, b1, b2, b3⟩ := NY.out.bx; obtain ⟨d0, d1, d2, d3, d4, d5, d6⟩ := NY.out.bf.cells; obtain ⟨lx, lm, lf, lr⟩ := NY.out.facts; have m0 := NY.out.bm.cell; have fzf := NY.out.bf.free; have fzr := NY.out.br.free; obtain ⟨r0, r1, r2, r3, r4, r5, r6⟩ := NY.out.br.cells; simp only at d0 d1 d2 d3 d4 d5 d6)
  all_goals
    go_wp2
    rw [Exit.noGoto_ret]
    change bodyPost _ _ _ _ _ (pf w9 (w.heap.size + 1 + 1 + 1) (ed ⟨o, 5, q, v, x, y, s⟩ 1 v))
    have NB := NY.out.back2 (ed ⟨o, 5, q, v, x, y, s⟩ 1 v)
    exact bodyPost_ret (results_fr Tryz.results105 _ rfl NB.1) rfl NB.2
set_option maxHeartbeats 4000000 in
theorem next_6 (lo : Nat) (W D J S o q v x y s : Int) (A : Option Addr) (n c : Nat) (l : List Int) (w : World) (h : Rn lo w A l) (hn : l.length = n) (hs : n ≤ 500) (hlo : lo ≤ w.heap.size) :
    Calls Tryz.prog 105 #[cf W D J S, .slice A n c, fv ⟨o, 6, q, v, x, y, s⟩] w (RetQ lo w n (put l (ow W D J S q 1) ((x + 1) % 18446744073709551616)) (ed ⟨o, 6, q, v, x, y, s⟩ 3 0)) := by
  have NX := Lib.hid (boxes4 (W := W) (D := D) (J := J) (S := S) (c := c) (⟨o, 6, q, v, x, y, s⟩ : Fr) h hn)
  have HS := Lib.hid hs
  have HLO := Lib.hid hlo
  clear h hs hn hlo
  go_enter Tryz.func105, Tryz.ntmps105
  go_wp2
  change Code.wp _ _ _ _ (bx4 w W D J S (.slice A n c) ⟨o, 6, q, v, x, y, s⟩)
  generalize bx4 w W D J S (.slice A n c) ⟨o, 6, q, v, x, y, s⟩ = w0 at NX ⊢
  refine wp_scope_to _ (fun _ _ _ h => h) ?_
  generalize hJ : (fun (l : Nat) (a : Act) (w : World) => ∃ rest, findLabel _ l = some rest ∧ rest.wp _ _ a w) = JJ
  have HJ := Lib.hid hJ
  clear hJ
  obtain ⟨_, b0, b1, b2, b3⟩ := NX.out.bx
  obtain ⟨d0, d1, d2, d3, d4, d5, d6⟩ := NX.out.bf.cells
  obtain ⟨lx, lm, lf, lr⟩ := NX.out.facts
  have m0 := NX.out.bm.cell
  have fzf := NX.out.bf.free
  have fzr := NX.out.br.free
  obtain ⟨r0, r1, r2, r3, r4, r5, r6⟩ := NX.out.br.cells
  simp only at d0 d1 d2 d3 d4 d5 d6
  go_wp2_with fail
  refine (nset_n ((x + 1) % 18446744073709551616) NX.out.bm NX.out.bx NX.out.bf NX.out.ry.rd NX.out.nl (by omega) (by omega) HS.out).mono ?_
  rintro _ w1 ⟨k, rfl, hk, hB, hM, hK⟩
  clear b0 b1 b2 b3 d0 d1 d2 d3 d4 d5 d6 lx lm lf lr m0 fzf fzr r0 r1 r2 r3 r4 r5 r6
  have NY := Lib.hid (NX.out.stored hk hB hM hK (len_put _ _ _) HLO.out)
  clear hk hB hM hK
  clear NX
  have NX := Lib.hid NY.out
  clear NY
  skip
  obtain ⟨_, b0, b1, b2, b3⟩ := NX.out.bx
  obtain ⟨d0, d1, d2, d3, d4, d5, d6⟩ := NX.out.bf.cells
  obtain ⟨lx, lm, lf, lr⟩ := NX.out.facts
  have m0 := NX.out.bm.cell
  have fzf := NX.out.bf.free
  have fzr := NX.out.br.free
  obtain ⟨r0, r1, r2, r3, r4, r5, r6⟩ := NX.out.br.cells
  simp only at d0 d1 d2 d3 d4 d5 d6
  go_wp2
  go_step3
  change JJ 3 _ _
  rw [← HJ.out]
  refine ⟨_, rfl, ?_⟩
  clear HJ
  go_wp2
  go_region_with (go_at_call 133; (refine (end_any ⟨o, 6, q, v, x, y, s⟩ _ _ _).mono ?_); rintro _ w9 ⟨rfl, z⟩; have NY := Lib.hid (NX.out.drew.call z); clear z b0 b1 b2 b3 d0 d1 d2 d3 d4 d5 d6 lx lm lf lr m0 fzf fzr r0 r1 r2 r3 r4 r5 r6; obtain ⟨_, b0, b1, b2, b3⟩ := NY.out.bx; obtain ⟨d0, d1, d2, d3, d4, d5, d6⟩ := NY.out.bf.cells; obtain ⟨lx, lm, lf, lr⟩ := NY.out.facts; have m0 := NY.out.bm.cell; have fzf := NY.out.bf.free; have fzr := NY.out.br.free; obtain ⟨r0, r1, r2, r3, r4, r5, r6⟩ := NY.out.br.cells; simp only at d0 d1 d2 d3 d4 d5 d6)
  all_goals
    go_wp2
    rw [Exit.noGoto_ret]
    change bodyPost _ _ _ _ _ (pf w9 (w.heap.size + 1 + 1 + 1) (ed ⟨o, 6, q, v, x, y, s⟩ 3 0))
    have NB := NY.out.back2 (ed ⟨o, 6, q, v, x, y, s⟩ 3 0)
    exact bodyPost_ret (results_fr Tryz.results105 _ rfl NB.1) rfl NB.2
end Go.Proofs.YtlpkccpijloidaaGreat
namespace Go.Proofs.YtlpkccpijloidaaGreat
set_option maxRecDepth 100000
open Go.RowKit Go.Deep
theorem next_any {lo : Nat} {W D J S : Int} {A : Option Addr} {n c : Nat} {l : List Int} {f : Fr} {w : World} (h : Rn lo w A l) (hn : l.length = n) (hs : n ≤ 500) (hlo : lo ≤ w.heap.size) (hg : goes W D J S l f 1 7 = true) (hf : UF f) :
    Calls Tryz.prog 105 #[cf W D J S, .slice A n c, fv f] w (RetQ lo w n (popS W D J S l f).1 (popS W D J S l f).2) := by
  obtain ⟨hk, hr, ho, h0, h7⟩ := goes_iff.1 hg
  obtain ⟨hm, hlen, hq0, hqW⟩ := okw_iff.1 hk
  obtain ⟨hW, hD, hJ, hS⟩ := may_lim hm
  have hge := bg_ge (J := J) hD.1 hJ.1 hq0
  have hst := bg_step (J := J) hD.1 hqW
  have e0 : ow W D J S f.who 0 = bg D J f.who := by rw [ow_ok hk, Int.add_zero]
  have e1 := ow_ok hk 1
  have e3 := sl_ok hk f.x
  obtain ⟨o, p, q, v, x, y, s⟩ := f
  simp only at *
  unfold popS
  rw [if_pos hg]
  simp only
  have hp : p = 0 ∨ p = 1 ∨ p = 2 ∨ p = 3 ∨ p = 4 ∨ p = 5 ∨ p = 6 := by omega
  rcases hp with rfl | rfl | rfl | rfl | rfl | rfl | rfl
  · rw [if_pos rfl]
    exact RetQ.of (next_0 lo W D J S o q v x y s A n c l w h hn hs hlo) rfl (by rw [e1])
  · rw [if_neg (by decide), if_pos rfl]
    exact RetQ.of (next_1 lo W D J S o q v x y s A n c l w h hn hs hlo) (by rw [e1]) rfl
  · rw [if_neg (by decide), if_neg (by decide), if_pos rfl]
    by_cases hd : far x (at0 l (bg D J q)) < 0
    · rw [if_pos hd]
      exact RetQ.of (next_2n lo W D J S o q v x y s A n c l w h hn hs hlo (by rw [e0]; exact decide_eq_true hd)) rfl (by rw [e0])
    · rw [if_neg hd]
      exact RetQ.of (next_2f lo W D J S o q v x y s A n c l w h hn hs hlo (by rw [e0]; exact decide_eq_false hd)) rfl (by rw [e0])
  · rw [if_neg (by decide), if_neg (by decide), if_neg (by decide), if_pos rfl]
    by_cases hd : x = y
    · subst hd
      rw [if_pos rfl]
      exact RetQ.of (next_3e lo W D J S o q v x s A n c l w h hn hs hlo hf.2.1) rfl (by rw [e3])
    · rw [if_neg hd]
      exact RetQ.of (next_3t lo W D J S o q v x y s A n c l w h hn hs hlo hf.2.1 (by simpa using hd)) rfl (by rw [e3]; rfl)
  · rw [if_neg (by decide), if_neg (by decide), if_neg (by decide), if_neg (by decide), if_pos rfl]
    have ei : isAt l (ow W D J S q 0) y = decide (at0 l (bg D J q) = y) := by rw [e0]; exact isAt_at0 (by omega) (by omega)
    by_cases hd : at0 l (bg D J q) = y
    · rw [if_pos hd]
      rw [decide_eq_true hd] at ei
      exact RetQ.of (next_4y lo W D J S o q v x y s A n c l w h hn hs hlo _ ei (by rw [if_pos ei, e0]) (len_put _ _ _)) rfl rfl
    · rw [if_neg hd]
      rw [decide_eq_false hd] at ei
      exact RetQ.of (next_4n lo W D J S o q v x y s A n c l w h hn hs hlo _ ei (by rw [if_neg (by simp [ei])]) rfl) rfl rfl
  · rw [if_neg (by decide), if_neg (by decide), if_neg (by decide), if_neg (by decide), if_neg (by decide), if_pos rfl]
    exact RetQ.of (next_5 lo W D J S o q v x y s A n c l w h hn hs hlo) (by rw [e1]) rfl
  · rw [if_neg (by decide), if_neg (by decide), if_neg (by decide), if_neg (by decide), if_neg (by decide), if_neg (by decide)]
    exact RetQ.of (next_6 lo W D J S o q v x y s A n c l w h hn hs hlo) (by rw [e1]) rfl
/-- Where the outcome is known by letters. -/
theorem next_n {lo : Nat} {W D J S : Int} {A : Option Addr} {n c : Nat} {l : List Int} {f : Fr} {w : World} (h : Rn lo w A l) (hn : l.length = n) (hs : n ≤ 500) (hlo : lo ≤ w.heap.size) (hg : goes W D J S l f 1 7 = true) (hf : UF f) {l' : List Int} {f' : Fr} (e : popS W D J S l f = (l', f')) :
    Calls Tryz.prog 105 #[cf W D J S, .slice A n c, fv f] w (RetQ lo w n l' f') := by
  have h2 := next_any (c := c) h hn hs hlo hg hf
  rw [e] at h2
  exact h2
set_option maxHeartbeats 4000000 in
theorem pop_leave (W D J S : Int) (A : Option Addr) (n c : Nat) (l : List Int) (f : Fr) (w : World) (h : Rd w A l) (hn : l.length = n) (hs : n ≤ 500) (hg : goes W D J S l f 1 7 = false) :
    Calls Tryz.prog 90 #[cf W D J S, .slice A n c, fv f] w (RetQ w.heap.size w n l f) := by
  obtain ⟨BX, BF, B0, Z, hz⟩ := boxes3 w W D J S f
  have H := Lib.hid (h.below Z); clear h
  have HN := Lib.hid hn; clear hn
  have HS := Lib.hid hs; clear hs
  have HG := Lib.hid hg; clear hg
  obtain ⟨o, p, q, v, x, y, s⟩ := f
  go_enter Tryz.func90, Tryz.ntmps90
  go_upto_region 1 with fail
  change Code.wp _ _ _ _ (bx3 w W D J S ⟨o, p, q, v, x, y, s⟩)
  generalize bx3 w W D J S ⟨o, p, q, v, x, y, s⟩ = w0 at BX BF B0 Z hz H ⊢
  go_wp2_with fail
  refine (clone_any A n c l w0 H.out HN.out HS.out).mono ?_
  rintro _ w1 ⟨A1, c1, rfl, hr1, z1⟩
  have HR1 := Lib.hid hr1
  have HZ1 := Lib.hid z1
  have B1 := Lib.hid (B0.after z1)
  obtain ⟨_, b0, b1, b2, b3⟩ := BX.below z1
  obtain ⟨a0, a1, a2, a3, a4, a5, a6⟩ := (BF.after z1).cells
  have la := (BF.after z1).lt
  clear hr1
  go_wp2_with fail
  refine (Tells.of (goes_any W D J S 1 7 A1 n c1 l ⟨o, p, q, v, x, y, s⟩ _ HN.out) (v' := .bool false) (by rw [HG.out])).mono ?_
  rintro _ w3 ⟨rfl, z3⟩
  have HR3 := Lib.hid (HR1.out.below z3)
  have z30 := keep_call z3 HZ1.out
  have B03 := B0.after z30
  clear a0 a1 a2 a3 a4 a5 a6 la b0 b1 b2 b3 z1
  obtain ⟨a0, a1, a2, a3, a4, a5, a6⟩ := (BF.after z30).cells
  have la := (BF.after z30).lt
  obtain ⟨d0, d1, d2, d3, d4, d5, d6⟩ := B03.cells
  have lb := B03.lt
  have fz := B03.free
  have HZ3 := Lib.hid (Z.trans (z30.mono (by omega)))
  have hl2 : w.heap.size ≤ w.heap.size + 1 + 1 := by omega
  have HH2 := Lib.hid (show w.heap.size + 1 + 1 < w0.heap.size by omega)
  have HHZ := Lib.hid (show w.heap.size ≤ w0.heap.size by omega)
  clear hz z3 z30
  go_wp2_with fail
  go_region
  all_goals
    go_wp2
    change bodyPost _ _ _ _ _ (pf w3 (w.heap.size + 1 + 1) ⟨o, p, q, v, x, y, s⟩).drew
    refine bodyPost_ret (results_fr Tryz.results90 _ rfl ((B03.pf _).drew)) rfl ?_
    exact ⟨A1, c1, rfl, ((HR3.out.pf HH2.out _).drew).mono HHZ.out, (below_pf HZ3.out hl2 _).drew⟩
set_option maxHeartbeats 4000000 in
theorem pop_goes (W D J S : Int) (A : Option Addr) (n c : Nat) (l : List Int) (f : Fr) (l' : List Int) (f' : Fr) (w : World) (h : Rd w A l) (hn : l.length = n) (hs : n ≤ 500) (hg : goes W D J S l f 1 7 = true) (hf : UF f) (e : popS W D J S l f = (l', f')) :
    Calls Tryz.prog 90 #[cf W D J S, .slice A n c, fv f] w (RetQ w.heap.size w n l' f') := by
  obtain ⟨BX, BF, B0, Z, hz⟩ := boxes3 w W D J S f
  have H := Lib.hid (h.below Z); clear h
  have HN := Lib.hid hn; clear hn
  have HS := Lib.hid hs; clear hs
  have HG := Lib.hid hg; clear hg
  have HF := Lib.hid hf; clear hf
  have HE := Lib.hid e; clear e
  obtain ⟨o, p, q, v, x, y, s⟩ := f
  go_enter Tryz.func90, Tryz.ntmps90
  go_upto_region 1 with fail
  change Code.wp _ _ _ _ (bx3 w W D J S ⟨o, p, q, v, x, y, s⟩)
  generalize bx3 w W D J S ⟨o, p, q, v, x, y, s⟩ = w0 at BX BF B0 Z hz H ⊢
  go_wp2_with fail
  refine (clone_any A n c l w0 H.out HN.out HS.out).mono ?_
  rintro _ w1 ⟨A1, c1, rfl, hr1, z1⟩
  have HR1 := Lib.hid hr1
  have HZ1 := Lib.hid z1
  obtain ⟨_, b0, b1, b2, b3⟩ := BX.below z1
  have lb := (BX.below z1).1
  obtain ⟨a0, a1, a2, a3, a4, a5, a6⟩ := (BF.after z1).cells
  have la := (BF.after z1).lt
  clear hr1
  go_wp2_with fail
  refine (Tells.of (goes_any W D J S 1 7 A1 n c1 l ⟨o, p, q, v, x, y, s⟩ _ HN.out) (v' := .bool true) (by rw [HG.out])).mono ?_
  rintro _ w3 ⟨rfl, z3⟩
  have HR3 := Lib.hid (HR1.out.below z3)
  have HZ3 := Lib.hid (keep_call z3 HZ1.out)
  clear a0 a1 a2 a3 a4 a5 a6 la b0 b1 b2 b3 lb z1 z3 HR1 HZ1
  obtain ⟨_, b0, b1, b2, b3⟩ := BX.below HZ3.out
  have lb := (BX.below HZ3.out).1
  obtain ⟨a0, a1, a2, a3, a4, a5, a6⟩ := (BF.after HZ3.out).cells
  have la := (BF.after HZ3.out).lt
  go_wp2_with fail
  refine (next_n (lo := w0.heap.size) HR3.out HN.out HS.out HZ3.out.size HG.out HF.out HE.out).mono ?_
  rintro _ w5 ⟨A5, c5, rfl, hr5, z5⟩
  have HR5 := Lib.hid hr5
  have z50 := keep_call z5 HZ3.out
  have B05 := B0.after z50
  clear a0 a1 a2 a3 a4 a5 a6 la b0 b1 b2 b3 lb hr5 z5
  obtain ⟨d0, d1, d2, d3, d4, d5, d6⟩ := B05.cells
  have ld := B05.lt
  have fz := B05.free
  have HZ5 := Lib.hid (Z.trans (z50.mono (by omega)))
  have hl2 : w.heap.size ≤ w.heap.size + 1 + 1 := by omega
  have HH2 := Lib.hid (show w.heap.size + 1 + 1 < w0.heap.size by omega)
  have HHZ := Lib.hid (show w.heap.size ≤ w0.heap.size by omega)
  clear hz z50
  go_wp2
  change bodyPost _ _ _ _ _ (pf w5 (w.heap.size + 1 + 1) f')
  refine bodyPost_ret (results_fr Tryz.results90 _ rfl (B05.pf _)) rfl ?_
  exact ⟨A5, c5, rfl, (HR5.out.pf HH2.out _).mono HHZ.out, below_pf HZ5.out hl2 _⟩
/-- A step, where the outcome is known. -/
theorem pop_n {W D J S : Int} {A : Option Addr} {n c : Nat} {l : List Int} {f : Fr} {w : World} (h : Rd w A l) (hn : l.length = n) (hs : n ≤ 500) (hf : UF f) {l' : List Int} {f' : Fr} (e : popS W D J S l f = (l', f')) :
    Calls Tryz.prog 90 #[cf W D J S, .slice A n c, fv f] w fun e w' => ∃ A' c', e = .returned (.tuple #[.slice A' n c', fv f']) ∧ Rn w.heap.size w' A' l' ∧ Below w.heap.size w w' := by
  cases hg : goes W D J S l f 1 7
  · have e2 : popS W D J S l f = (l, f) := by unfold popS; rw [hg]; rfl
    rw [e2] at e
    injection e with e1 e2
    rw [← e1, ← e2]
    exact pop_leave W D J S A n c l f w h hn hs hg
  · exact pop_goes W D J S A n c l f l' f' w h hn hs hg hf e
end Go.Proofs.YtlpkccpijloidaaGreat
