/- A pop's next, path by path. -/
import Derived.Test.YtpeaahihjeplmaaPoB
import Derived.Deep.DeepCutAuto
namespace Go.Proofs.Ytpeaahihjeplmaa
open Go.RowKit Go.Deep
attribute [local go_sem] exTo_normal exTo_exit exTo_ret exTo_goto run_makeFunc run_store_func
set_option maxRecDepth 100000 in
set_option maxHeartbeats 4000000 in
theorem next_0 (lo : Nat) (W D J S o q v x y s : Int) (A : Option Addr) (n c : Nat) (l : List Int) (w : World) (h : Rn lo w A l) (hn : l.length = n) (hs : n ≤ 500) (hlo : lo ≤ w.heap.size) :
    Calls Try.prog 57 #[cf W D J S, .slice A n c, fv ⟨o, 0, q, v, x, y, s⟩] w (RetQ lo w n l ⟨o, 1, q, v, (at0 l (ow W D J S q 1) - 1) % 18446744073709551616, y, s⟩) := by
  have NX := Lib.hid (boxes4 (W := W) (D := D) (J := J) (S := S) (c := c) (⟨o, 0, q, v, x, y, s⟩ : Fr) h hn)
  have HS := Lib.hid hs
  have HLO := Lib.hid hlo
  clear h hs hn hlo
  go_enter Try.func57, Try.ntmps57
  go_wp2
  change Code.wp _ _ _ _ (bx4 w W D J S (.slice A n c) ⟨o, 0, q, v, x, y, s⟩)
  generalize bx4 w W D J S (.slice A n c) ⟨o, 0, q, v, x, y, s⟩ = w0 at NX ⊢
  refine wp_scope_to _ (fun _ _ _ h => h) ?_
  generalize hJ : (fun (l : Nat) (a : Act) (w : World) => ∃ rest, findLabel _ l = some rest ∧ rest.wp _ _ a w) = JJ
  have HJ := Lib.hid hJ
  clear hJ
  obtain ⟨_, b0, b1, b2, b3⟩ := NX.out.bx
  obtain ⟨d0, d1, d2, d3, d4, d5, d6⟩ := NX.out.bf.cells
  obtain ⟨lx, lm, lf, lr⟩ := NX.out.facts
  have m0 := NX.out.bm.cell
  have fzf := NX.out.bf.free
  have fzr := NX.out.br.free
  obtain ⟨r0, r1, r2, r3, r4, r5, r6⟩ := NX.out.br.cells
  simp only at d0 d1 d2 d3 d4 d5 d6
  go_wp2_with fail
  refine (bottom_any W D J S q _).mono ?_
  rintro _ w1 ⟨rfl, z⟩
  clear b0 b1 b2 b3 d0 d1 d2 d3 d4 d5 d6 lx lm lf lr m0 fzf fzr r0 r1 r2 r3 r4 r5 r6
  have NY := Lib.hid (NX.out.call z)
  clear NX
  have NX := Lib.hid NY.out
  clear NY
  clear z
  obtain ⟨_, b0, b1, b2, b3⟩ := NX.out.bx
  obtain ⟨d0, d1, d2, d3, d4, d5, d6⟩ := NX.out.bf.cells
  obtain ⟨lx, lm, lf, lr⟩ := NX.out.facts
  have m0 := NX.out.bm.cell
  have fzf := NX.out.bf.free
  have fzr := NX.out.br.free
  obtain ⟨r0, r1, r2, r3, r4, r5, r6⟩ := NX.out.br.cells
  simp only at d0 d1 d2 d3 d4 d5 d6
  go_wp2_with fail
  refine (nload_n NX.out.bm NX.out.ry.rd NX.out.nl HS.out).mono ?_
  rintro _ w2 ⟨rfl, z⟩
  clear b0 b1 b2 b3 d0 d1 d2 d3 d4 d5 d6 lx lm lf lr m0 fzf fzr r0 r1 r2 r3 r4 r5 r6
  have NY := Lib.hid (NX.out.call z)
  clear NX
  have NX := Lib.hid NY.out
  clear NY
  clear z
  obtain ⟨_, b0, b1, b2, b3⟩ := NX.out.bx
  obtain ⟨d0, d1, d2, d3, d4, d5, d6⟩ := NX.out.bf.cells
  obtain ⟨lx, lm, lf, lr⟩ := NX.out.facts
  have m0 := NX.out.bm.cell
  have fzf := NX.out.bf.free
  have fzr := NX.out.br.free
  obtain ⟨r0, r1, r2, r3, r4, r5, r6⟩ := NX.out.br.cells
  simp only at d0 d1 d2 d3 d4 d5 d6
  go_wp2
  clear b0 b1 b2 b3 d0 d1 d2 d3 d4 d5 d6 lx lm lf lr m0 fzf fzr r0 r1 r2 r3 r4 r5 r6
  have NY := Lib.hid (NX.out.setX ((at0 l (ow W D J S q 1) - 1) % 18446744073709551616))
  clear NX
  have NX := Lib.hid NY.out
  clear NY
  change Code.wp _ _ _ _ (w2.setCell ⟨w.heap.size + 1 + 1, 4, none⟩ (.int .u64 ((at0 l (ow W D J S q 1) - 1) % 18446744073709551616)))
  generalize w2.setCell ⟨w.heap.size + 1 + 1, 4, none⟩ (.int .u64 ((at0 l (ow W D J S q 1) - 1) % 18446744073709551616)) = w3 at NX ⊢
  obtain ⟨_, b0, b1, b2, b3⟩ := NX.out.bx
  obtain ⟨d0, d1, d2, d3, d4, d5, d6⟩ := NX.out.bf.cells
  obtain ⟨lx, lm, lf, lr⟩ := NX.out.facts
  have m0 := NX.out.bm.cell
  have fzf := NX.out.bf.free
  have fzr := NX.out.br.free
  obtain ⟨r0, r1, r2, r3, r4, r5, r6⟩ := NX.out.br.cells
  simp only at d0 d1 d2 d3 d4 d5 d6
  go_step3
  change JJ 0 _ _
  rw [← HJ.out]
  refine ⟨_, rfl, ?_⟩
  clear HJ
  go_wp2
  clear b0 b1 b2 b3 d0 d1 d2 d3 d4 d5 d6 lx lm lf lr m0 fzf fzr r0 r1 r2 r3 r4 r5 r6
  have NY := Lib.hid (NX.out.setPc (1))
  clear NX
  have NX := Lib.hid NY.out
  clear NY
  change Code.wp _ _ _ _ (w3.setCell ⟨w.heap.size + 1 + 1, 1, none⟩ (.int .i64 (1)))
  generalize w3.setCell ⟨w.heap.size + 1 + 1, 1, none⟩ (.int .i64 (1)) = w4 at NX ⊢
  obtain ⟨_, b0, b1, b2, b3⟩ := NX.out.bx
  obtain ⟨d0, d1, d2, d3, d4, d5, d6⟩ := NX.out.bf.cells
  obtain ⟨lx, lm, lf, lr⟩ := NX.out.facts
  have m0 := NX.out.bm.cell
  have fzf := NX.out.bf.free
  have fzr := NX.out.br.free
  obtain ⟨r0, r1, r2, r3, r4, r5, r6⟩ := NX.out.br.cells
  simp only at d0 d1 d2 d3 d4 d5 d6
  go_region
  all_goals
    go_wp2
    change bodyPost _ _ _ _ _ (pf w4 (w.heap.size + 1 + 1 + 1) ⟨o, 1, q, v, (at0 l (ow W D J S q 1) - 1) % 18446744073709551616, y, s⟩).drew
    have NB := NX.out.back ⟨o, 1, q, v, (at0 l (ow W D J S q 1) - 1) % 18446744073709551616, y, s⟩
    exact bodyPost_ret (results_fr Try.results57 _ rfl NB.1) rfl NB.2
set_option maxRecDepth 100000 in
set_option maxHeartbeats 4000000 in
theorem next_1 (lo : Nat) (W D J S o q v x y s : Int) (A : Option Addr) (n c : Nat) (l : List Int) (w : World) (h : Rn lo w A l) (hn : l.length = n) (hs : n ≤ 500) (hlo : lo ≤ w.heap.size) :
    Calls Try.prog 57 #[cf W D J S, .slice A n c, fv ⟨o, 1, q, v, x, y, s⟩] w (RetQ lo w n (put l (ow W D J S q 1) x) ⟨o, 2, q, v, x, y, s⟩) := by
  have NX := Lib.hid (boxes4 (W := W) (D := D) (J := J) (S := S) (c := c) (⟨o, 1, q, v, x, y, s⟩ : Fr) h hn)
  have HS := Lib.hid hs
  have HLO := Lib.hid hlo
  clear h hs hn hlo
  go_enter Try.func57, Try.ntmps57
  go_wp2
  change Code.wp _ _ _ _ (bx4 w W D J S (.slice A n c) ⟨o, 1, q, v, x, y, s⟩)
  generalize bx4 w W D J S (.slice A n c) ⟨o, 1, q, v, x, y, s⟩ = w0 at NX ⊢
  refine wp_scope_to _ (fun _ _ _ h => h) ?_
  generalize hJ : (fun (l : Nat) (a : Act) (w : World) => ∃ rest, findLabel _ l = some rest ∧ rest.wp _ _ a w) = JJ
  have HJ := Lib.hid hJ
  clear hJ
  obtain ⟨_, b0, b1, b2, b3⟩ := NX.out.bx
  obtain ⟨d0, d1, d2, d3, d4, d5, d6⟩ := NX.out.bf.cells
  obtain ⟨lx, lm, lf, lr⟩ := NX.out.facts
  have m0 := NX.out.bm.cell
  have fzf := NX.out.bf.free
  have fzr := NX.out.br.free
  obtain ⟨r0, r1, r2, r3, r4, r5, r6⟩ := NX.out.br.cells
  simp only at d0 d1 d2 d3 d4 d5 d6
  go_wp2_with fail
  refine (nset_n (x) NX.out.bm NX.out.bx NX.out.bf NX.out.ry.rd NX.out.nl (by omega) (by omega) HS.out).mono ?_
  rintro _ w1 ⟨k, rfl, hk, hB, hM, hK⟩
  clear b0 b1 b2 b3 d0 d1 d2 d3 d4 d5 d6 lx lm lf lr m0 fzf fzr r0 r1 r2 r3 r4 r5 r6
  have NY := Lib.hid (NX.out.stored hk hB hM hK (len_put _ _ _) HLO.out)
  clear hk hB hM hK
  clear NX
  have NX := Lib.hid NY.out
  clear NY
  skip
  obtain ⟨_, b0, b1, b2, b3⟩ := NX.out.bx
  obtain ⟨d0, d1, d2, d3, d4, d5, d6⟩ := NX.out.bf.cells
  obtain ⟨lx, lm, lf, lr⟩ := NX.out.facts
  have m0 := NX.out.bm.cell
  have fzf := NX.out.bf.free
  have fzr := NX.out.br.free
  obtain ⟨r0, r1, r2, r3, r4, r5, r6⟩ := NX.out.br.cells
  simp only at d0 d1 d2 d3 d4 d5 d6
  go_wp2
  go_step3
  change JJ 0 _ _
  rw [← HJ.out]
  refine ⟨_, rfl, ?_⟩
  clear HJ
  go_wp2
  clear b0 b1 b2 b3 d0 d1 d2 d3 d4 d5 d6 lx lm lf lr m0 fzf fzr r0 r1 r2 r3 r4 r5 r6
  have NY := Lib.hid (NX.out.setPc (2))
  clear NX
  have NX := Lib.hid NY.out
  clear NY
  change Code.wp _ _ _ _ (w1.setCell ⟨w.heap.size + 1 + 1, 1, none⟩ (.int .i64 (2)))
  generalize w1.setCell ⟨w.heap.size + 1 + 1, 1, none⟩ (.int .i64 (2)) = w2 at NX ⊢
  obtain ⟨_, b0, b1, b2, b3⟩ := NX.out.bx
  obtain ⟨d0, d1, d2, d3, d4, d5, d6⟩ := NX.out.bf.cells
  obtain ⟨lx, lm, lf, lr⟩ := NX.out.facts
  have m0 := NX.out.bm.cell
  have fzf := NX.out.bf.free
  have fzr := NX.out.br.free
  obtain ⟨r0, r1, r2, r3, r4, r5, r6⟩ := NX.out.br.cells
  simp only at d0 d1 d2 d3 d4 d5 d6
  go_region
  all_goals
    go_wp2
    change bodyPost _ _ _ _ _ (pf w2 (w.heap.size + 1 + 1 + 1) ⟨o, 2, q, v, x, y, s⟩).drew
    have NB := NX.out.back ⟨o, 2, q, v, x, y, s⟩
    exact bodyPost_ret (results_fr Try.results57 _ rfl NB.1) rfl NB.2
set_option maxRecDepth 100000 in
set_option maxHeartbeats 4000000 in
theorem next_2n (lo : Nat) (W D J S o q v x y s : Int) (A : Option Addr) (n c : Nat) (l : List Int) (w : World) (h : Rn lo w A l) (hn : l.length = n) (hs : n ≤ 500) (hlo : lo ≤ w.heap.size) (d : decide (far x (at0 l (ow W D J S q 0)) < 0) = true) :
    Calls Try.prog 57 #[cf W D J S, .slice A n c, fv ⟨o, 2, q, v, x, y, s⟩] w (RetQ lo w n l ⟨o, 6, q, v, x, at0 l (ow W D J S q 0), s⟩) := by
  have NX := Lib.hid (boxes4 (W := W) (D := D) (J := J) (S := S) (c := c) (⟨o, 2, q, v, x, y, s⟩ : Fr) h hn)
  have HS := Lib.hid hs
  have HLO := Lib.hid hlo
  have Hd := Lib.hid d
  clear h hs hn hlo d
  go_enter Try.func57, Try.ntmps57
  go_wp2
  change Code.wp _ _ _ _ (bx4 w W D J S (.slice A n c) ⟨o, 2, q, v, x, y, s⟩)
  generalize bx4 w W D J S (.slice A n c) ⟨o, 2, q, v, x, y, s⟩ = w0 at NX ⊢
  refine wp_scope_to _ (fun _ _ _ h => h) ?_
  generalize hJ : (fun (l : Nat) (a : Act) (w : World) => ∃ rest, findLabel _ l = some rest ∧ rest.wp _ _ a w) = JJ
  have HJ := Lib.hid hJ
  clear hJ
  obtain ⟨_, b0, b1, b2, b3⟩ := NX.out.bx
  obtain ⟨d0, d1, d2, d3, d4, d5, d6⟩ := NX.out.bf.cells
  obtain ⟨lx, lm, lf, lr⟩ := NX.out.facts
  have m0 := NX.out.bm.cell
  have fzf := NX.out.bf.free
  have fzr := NX.out.br.free
  obtain ⟨r0, r1, r2, r3, r4, r5, r6⟩ := NX.out.br.cells
  simp only at d0 d1 d2 d3 d4 d5 d6
  have hd := Hd.out
  go_wp2_with fail
  refine (top_any W D J S q _).mono ?_
  rintro _ w1 ⟨rfl, z⟩
  clear b0 b1 b2 b3 d0 d1 d2 d3 d4 d5 d6 lx lm lf lr m0 fzf fzr r0 r1 r2 r3 r4 r5 r6
  have NY := Lib.hid (NX.out.call z)
  clear NX
  have NX := Lib.hid NY.out
  clear NY
  clear z
  obtain ⟨_, b0, b1, b2, b3⟩ := NX.out.bx
  obtain ⟨d0, d1, d2, d3, d4, d5, d6⟩ := NX.out.bf.cells
  obtain ⟨lx, lm, lf, lr⟩ := NX.out.facts
  have m0 := NX.out.bm.cell
  have fzf := NX.out.bf.free
  have fzr := NX.out.br.free
  obtain ⟨r0, r1, r2, r3, r4, r5, r6⟩ := NX.out.br.cells
  simp only at d0 d1 d2 d3 d4 d5 d6
  go_wp2_with fail
  refine (nload_n NX.out.bm NX.out.ry.rd NX.out.nl HS.out).mono ?_
  rintro _ w2 ⟨rfl, z⟩
  clear b0 b1 b2 b3 d0 d1 d2 d3 d4 d5 d6 lx lm lf lr m0 fzf fzr r0 r1 r2 r3 r4 r5 r6
  have NY := Lib.hid (NX.out.call z)
  clear NX
  have NX := Lib.hid NY.out
  clear NY
  clear z
  obtain ⟨_, b0, b1, b2, b3⟩ := NX.out.bx
  obtain ⟨d0, d1, d2, d3, d4, d5, d6⟩ := NX.out.bf.cells
  obtain ⟨lx, lm, lf, lr⟩ := NX.out.facts
  have m0 := NX.out.bm.cell
  have fzf := NX.out.bf.free
  have fzr := NX.out.br.free
  obtain ⟨r0, r1, r2, r3, r4, r5, r6⟩ := NX.out.br.cells
  simp only at d0 d1 d2 d3 d4 d5 d6
  go_wp2_with fail
  refine (far_any _ _ _).mono ?_
  rintro _ _ ⟨rfl, rfl⟩
  go_wp2
  clear b0 b1 b2 b3 d0 d1 d2 d3 d4 d5 d6 lx lm lf lr m0 fzf fzr r0 r1 r2 r3 r4 r5 r6
  have NY := Lib.hid (NX.out.setY (at0 l (ow W D J S q 0)))
  clear NX
  have NX := Lib.hid NY.out
  clear NY
  change Code.wp _ _ _ _ (w2.setCell ⟨w.heap.size + 1 + 1, 5, none⟩ (.int .u64 (at0 l (ow W D J S q 0))))
  generalize w2.setCell ⟨w.heap.size + 1 + 1, 5, none⟩ (.int .u64 (at0 l (ow W D J S q 0))) = w3 at NX ⊢
  obtain ⟨_, b0, b1, b2, b3⟩ := NX.out.bx
  obtain ⟨d0, d1, d2, d3, d4, d5, d6⟩ := NX.out.bf.cells
  obtain ⟨lx, lm, lf, lr⟩ := NX.out.facts
  have m0 := NX.out.bm.cell
  have fzf := NX.out.bf.free
  have fzr := NX.out.br.free
  obtain ⟨r0, r1, r2, r3, r4, r5, r6⟩ := NX.out.br.cells
  simp only at d0 d1 d2 d3 d4 d5 d6
  go_step3
  change JJ 1 _ _
  rw [← HJ.out]
  refine ⟨_, rfl, ?_⟩
  clear HJ
  go_wp2
  clear b0 b1 b2 b3 d0 d1 d2 d3 d4 d5 d6 lx lm lf lr m0 fzf fzr r0 r1 r2 r3 r4 r5 r6
  have NY := Lib.hid (NX.out.setPc 6)
  clear NX
  have NX := Lib.hid NY.out
  clear NY
  change Code.wp _ _ _ _ (w3.setCell ⟨w.heap.size + 1 + 1, 1, none⟩ (.int .i64 6))
  generalize w3.setCell ⟨w.heap.size + 1 + 1, 1, none⟩ (.int .i64 6) = w4 at NX ⊢
  obtain ⟨_, b0, b1, b2, b3⟩ := NX.out.bx
  obtain ⟨d0, d1, d2, d3, d4, d5, d6⟩ := NX.out.bf.cells
  obtain ⟨lx, lm, lf, lr⟩ := NX.out.facts
  have m0 := NX.out.bm.cell
  have fzf := NX.out.bf.free
  have fzr := NX.out.br.free
  obtain ⟨r0, r1, r2, r3, r4, r5, r6⟩ := NX.out.br.cells
  simp only at d0 d1 d2 d3 d4 d5 d6
  go_region
  all_goals
    go_wp2
    change bodyPost _ _ _ _ _ (pf w4 (w.heap.size + 1 + 1 + 1) ⟨o, 6, q, v, x, at0 l (ow W D J S q 0), s⟩).drew
    have NB := NX.out.back ⟨o, 6, q, v, x, at0 l (ow W D J S q 0), s⟩
    exact bodyPost_ret (results_fr Try.results57 _ rfl NB.1) rfl NB.2
set_option maxRecDepth 100000 in
set_option maxHeartbeats 4000000 in
theorem next_2f (lo : Nat) (W D J S o q v x y s : Int) (A : Option Addr) (n c : Nat) (l : List Int) (w : World) (h : Rn lo w A l) (hn : l.length = n) (hs : n ≤ 500) (hlo : lo ≤ w.heap.size) (d : decide (far x (at0 l (ow W D J S q 0)) < 0) = false) :
    Calls Try.prog 57 #[cf W D J S, .slice A n c, fv ⟨o, 2, q, v, x, y, s⟩] w (RetQ lo w n l ⟨o, 3, q, v, x, at0 l (ow W D J S q 0), s⟩) := by
  have NX := Lib.hid (boxes4 (W := W) (D := D) (J := J) (S := S) (c := c) (⟨o, 2, q, v, x, y, s⟩ : Fr) h hn)
  have HS := Lib.hid hs
  have HLO := Lib.hid hlo
  have Hd := Lib.hid d
  clear h hs hn hlo d
  go_enter Try.func57, Try.ntmps57
  go_wp2
  change Code.wp _ _ _ _ (bx4 w W D J S (.slice A n c) ⟨o, 2, q, v, x, y, s⟩)
  generalize bx4 w W D J S (.slice A n c) ⟨o, 2, q, v, x, y, s⟩ = w0 at NX ⊢
  refine wp_scope_to _ (fun _ _ _ h => h) ?_
  generalize hJ : (fun (l : Nat) (a : Act) (w : World) => ∃ rest, findLabel _ l = some rest ∧ rest.wp _ _ a w) = JJ
  have HJ := Lib.hid hJ
  clear hJ
  obtain ⟨_, b0, b1, b2, b3⟩ := NX.out.bx
  obtain ⟨d0, d1, d2, d3, d4, d5, d6⟩ := NX.out.bf.cells
  obtain ⟨lx, lm, lf, lr⟩ := NX.out.facts
  have m0 := NX.out.bm.cell
  have fzf := NX.out.bf.free
  have fzr := NX.out.br.free
  obtain ⟨r0, r1, r2, r3, r4, r5, r6⟩ := NX.out.br.cells
  simp only at d0 d1 d2 d3 d4 d5 d6
  have hd := Hd.out
  go_wp2_with fail
  refine (top_any W D J S q _).mono ?_
  rintro _ w1 ⟨rfl, z⟩
  clear b0 b1 b2 b3 d0 d1 d2 d3 d4 d5 d6 lx lm lf lr m0 fzf fzr r0 r1 r2 r3 r4 r5 r6
  have NY := Lib.hid (NX.out.call z)
  clear NX
  have NX := Lib.hid NY.out
  clear NY
  clear z
  obtain ⟨_, b0, b1, b2, b3⟩ := NX.out.bx
  obtain ⟨d0, d1, d2, d3, d4, d5, d6⟩ := NX.out.bf.cells
  obtain ⟨lx, lm, lf, lr⟩ := NX.out.facts
  have m0 := NX.out.bm.cell
  have fzf := NX.out.bf.free
  have fzr := NX.out.br.free
  obtain ⟨r0, r1, r2, r3, r4, r5, r6⟩ := NX.out.br.cells
  simp only at d0 d1 d2 d3 d4 d5 d6
  go_wp2_with fail
  refine (nload_n NX.out.bm NX.out.ry.rd NX.out.nl HS.out).mono ?_
  rintro _ w2 ⟨rfl, z⟩
  clear b0 b1 b2 b3 d0 d1 d2 d3 d4 d5 d6 lx lm lf lr m0 fzf fzr r0 r1 r2 r3 r4 r5 r6
  have NY := Lib.hid (NX.out.call z)
  clear NX
  have NX := Lib.hid NY.out
  clear NY
  clear z
  obtain ⟨_, b0, b1, b2, b3⟩ := NX.out.bx
  obtain ⟨d0, d1, d2, d3, d4, d5, d6⟩ := NX.out.bf.cells
  obtain ⟨lx, lm, lf, lr⟩ := NX.out.facts
  have m0 := NX.out.bm.cell
  have fzf := NX.out.bf.free
  have fzr := NX.out.br.free
  obtain ⟨r0, r1, r2, r3, r4, r5, r6⟩ := NX.out.br.cells
  simp only at d0 d1 d2 d3 d4 d5 d6
  go_wp2_with fail
  refine (far_any _ _ _).mono ?_
  rintro _ _ ⟨rfl, rfl⟩
  go_wp2
  clear b0 b1 b2 b3 d0 d1 d2 d3 d4 d5 d6 lx lm lf lr m0 fzf fzr r0 r1 r2 r3 r4 r5 r6
  have NY := Lib.hid (NX.out.setY (at0 l (ow W D J S q 0)))
  clear NX
  have NX := Lib.hid NY.out
  clear NY
  change Code.wp _ _ _ _ (w2.setCell ⟨w.heap.size + 1 + 1, 5, none⟩ (.int .u64 (at0 l (ow W D J S q 0))))
  generalize w2.setCell ⟨w.heap.size + 1 + 1, 5, none⟩ (.int .u64 (at0 l (ow W D J S q 0))) = w3 at NX ⊢
  obtain ⟨_, b0, b1, b2, b3⟩ := NX.out.bx
  obtain ⟨d0, d1, d2, d3, d4, d5, d6⟩ := NX.out.bf.cells
  obtain ⟨lx, lm, lf, lr⟩ := NX.out.facts
  have m0 := NX.out.bm.cell
  have fzf := NX.out.bf.free
  have fzr := NX.out.br.free
  obtain ⟨r0, r1, r2, r3, r4, r5, r6⟩ := NX.out.br.cells
  simp only at d0 d1 d2 d3 d4 d5 d6
  go_step3
  change JJ 0 _ _
  rw [← HJ.out]
  refine ⟨_, rfl, ?_⟩
  clear HJ
  go_wp2
  clear b0 b1 b2 b3 d0 d1 d2 d3 d4 d5 d6 lx lm lf lr m0 fzf fzr r0 r1 r2 r3 r4 r5 r6
  have NY := Lib.hid (NX.out.setPc (3))
  clear NX
  have NX := Lib.hid NY.out
  clear NY
  change Code.wp _ _ _ _ (w3.setCell ⟨w.heap.size + 1 + 1, 1, none⟩ (.int .i64 (3)))
  generalize w3.setCell ⟨w.heap.size + 1 + 1, 1, none⟩ (.int .i64 (3)) = w4 at NX ⊢
  obtain ⟨_, b0, b1, b2, b3⟩ := NX.out.bx
  obtain ⟨d0, d1, d2, d3, d4, d5, d6⟩ := NX.out.bf.cells
  obtain ⟨lx, lm, lf, lr⟩ := NX.out.facts
  have m0 := NX.out.bm.cell
  have fzf := NX.out.bf.free
  have fzr := NX.out.br.free
  obtain ⟨r0, r1, r2, r3, r4, r5, r6⟩ := NX.out.br.cells
  simp only at d0 d1 d2 d3 d4 d5 d6
  go_region
  all_goals
    go_wp2
    change bodyPost _ _ _ _ _ (pf w4 (w.heap.size + 1 + 1 + 1) ⟨o, 3, q, v, x, at0 l (ow W D J S q 0), s⟩).drew
    have NB := NX.out.back ⟨o, 3, q, v, x, at0 l (ow W D J S q 0), s⟩
    exact bodyPost_ret (results_fr Try.results57 _ rfl NB.1) rfl NB.2
set_option maxRecDepth 100000 in
set_option maxHeartbeats 4000000 in
theorem next_3e (lo : Nat) (W D J S o q v x s : Int) (A : Option Addr) (n c : Nat) (l : List Int) (w : World) (h : Rn lo w A l) (hn : l.length = n) (hs : n ≤ 500) (hlo : lo ≤ w.heap.size) (ux : U x) :
    Calls Try.prog 57 #[cf W D J S, .slice A n c, fv ⟨o, 3, q, v, x, x, s⟩] w (RetQ lo w n l ⟨o, 4, q, at0 l (sl W D J S q x), x, x, s⟩) := by
  have NX := Lib.hid (boxes4 (W := W) (D := D) (J := J) (S := S) (c := c) (⟨o, 3, q, v, x, x, s⟩ : Fr) h hn)
  have HS := Lib.hid hs
  have HLO := Lib.hid hlo
  have Hux := Lib.hid ux
  clear h hs hn hlo ux
  go_enter Try.func57, Try.ntmps57
  go_wp2
  change Code.wp _ _ _ _ (bx4 w W D J S (.slice A n c) ⟨o, 3, q, v, x, x, s⟩)
  generalize bx4 w W D J S (.slice A n c) ⟨o, 3, q, v, x, x, s⟩ = w0 at NX ⊢
  refine wp_scope_to _ (fun _ _ _ h => h) ?_
  generalize hJ : (fun (l : Nat) (a : Act) (w : World) => ∃ rest, findLabel _ l = some rest ∧ rest.wp _ _ a w) = JJ
  have HJ := Lib.hid hJ
  clear hJ
  obtain ⟨_, b0, b1, b2, b3⟩ := NX.out.bx
  obtain ⟨d0, d1, d2, d3, d4, d5, d6⟩ := NX.out.bf.cells
  obtain ⟨lx, lm, lf, lr⟩ := NX.out.facts
  have m0 := NX.out.bm.cell
  have fzf := NX.out.bf.free
  have fzr := NX.out.br.free
  obtain ⟨r0, r1, r2, r3, r4, r5, r6⟩ := NX.out.br.cells
  simp only at d0 d1 d2 d3 d4 d5 d6
  go_wp2_with fail
  refine (slot_any W D J S q x _ Hux.out).mono ?_
  rintro _ w1 ⟨rfl, z⟩
  clear b0 b1 b2 b3 d0 d1 d2 d3 d4 d5 d6 lx lm lf lr m0 fzf fzr r0 r1 r2 r3 r4 r5 r6
  have NY := Lib.hid (NX.out.call z)
  clear NX
  have NX := Lib.hid NY.out
  clear NY
  clear z
  obtain ⟨_, b0, b1, b2, b3⟩ := NX.out.bx
  obtain ⟨d0, d1, d2, d3, d4, d5, d6⟩ := NX.out.bf.cells
  obtain ⟨lx, lm, lf, lr⟩ := NX.out.facts
  have m0 := NX.out.bm.cell
  have fzf := NX.out.bf.free
  have fzr := NX.out.br.free
  obtain ⟨r0, r1, r2, r3, r4, r5, r6⟩ := NX.out.br.cells
  simp only at d0 d1 d2 d3 d4 d5 d6
  go_wp2_with fail
  refine (nload_n NX.out.bm NX.out.ry.rd NX.out.nl HS.out).mono ?_
  rintro _ w2 ⟨rfl, z⟩
  clear b0 b1 b2 b3 d0 d1 d2 d3 d4 d5 d6 lx lm lf lr m0 fzf fzr r0 r1 r2 r3 r4 r5 r6
  have NY := Lib.hid (NX.out.call z)
  clear NX
  have NX := Lib.hid NY.out
  clear NY
  clear z
  obtain ⟨_, b0, b1, b2, b3⟩ := NX.out.bx
  obtain ⟨d0, d1, d2, d3, d4, d5, d6⟩ := NX.out.bf.cells
  obtain ⟨lx, lm, lf, lr⟩ := NX.out.facts
  have m0 := NX.out.bm.cell
  have fzf := NX.out.bf.free
  have fzr := NX.out.br.free
  obtain ⟨r0, r1, r2, r3, r4, r5, r6⟩ := NX.out.br.cells
  simp only at d0 d1 d2 d3 d4 d5 d6
  go_wp2
  clear b0 b1 b2 b3 d0 d1 d2 d3 d4 d5 d6 lx lm lf lr m0 fzf fzr r0 r1 r2 r3 r4 r5 r6
  have NY := Lib.hid (NX.out.setVal (at0 l (sl W D J S q x)))
  clear NX
  have NX := Lib.hid NY.out
  clear NY
  change Code.wp _ _ _ _ (w2.setCell ⟨w.heap.size + 1 + 1, 3, none⟩ (.int .u64 (at0 l (sl W D J S q x))))
  generalize w2.setCell ⟨w.heap.size + 1 + 1, 3, none⟩ (.int .u64 (at0 l (sl W D J S q x))) = w3 at NX ⊢
  obtain ⟨_, b0, b1, b2, b3⟩ := NX.out.bx
  obtain ⟨d0, d1, d2, d3, d4, d5, d6⟩ := NX.out.bf.cells
  obtain ⟨lx, lm, lf, lr⟩ := NX.out.facts
  have m0 := NX.out.bm.cell
  have fzf := NX.out.bf.free
  have fzr := NX.out.br.free
  obtain ⟨r0, r1, r2, r3, r4, r5, r6⟩ := NX.out.br.cells
  simp only at d0 d1 d2 d3 d4 d5 d6
  go_step3
  change JJ 0 _ _
  rw [← HJ.out]
  refine ⟨_, rfl, ?_⟩
  clear HJ
  go_wp2
  clear b0 b1 b2 b3 d0 d1 d2 d3 d4 d5 d6 lx lm lf lr m0 fzf fzr r0 r1 r2 r3 r4 r5 r6
  have NY := Lib.hid (NX.out.setPc (4))
  clear NX
  have NX := Lib.hid NY.out
  clear NY
  change Code.wp _ _ _ _ (w3.setCell ⟨w.heap.size + 1 + 1, 1, none⟩ (.int .i64 (4)))
  generalize w3.setCell ⟨w.heap.size + 1 + 1, 1, none⟩ (.int .i64 (4)) = w4 at NX ⊢
  obtain ⟨_, b0, b1, b2, b3⟩ := NX.out.bx
  obtain ⟨d0, d1, d2, d3, d4, d5, d6⟩ := NX.out.bf.cells
  obtain ⟨lx, lm, lf, lr⟩ := NX.out.facts
  have m0 := NX.out.bm.cell
  have fzf := NX.out.bf.free
  have fzr := NX.out.br.free
  obtain ⟨r0, r1, r2, r3, r4, r5, r6⟩ := NX.out.br.cells
  simp only at d0 d1 d2 d3 d4 d5 d6
  go_region
  all_goals
    go_wp2
    change bodyPost _ _ _ _ _ (pf w4 (w.heap.size + 1 + 1 + 1) ⟨o, 4, q, at0 l (sl W D J S q x), x, x, s⟩).drew
    have NB := NX.out.back ⟨o, 4, q, at0 l (sl W D J S q x), x, x, s⟩
    exact bodyPost_ret (results_fr Try.results57 _ rfl NB.1) rfl NB.2
set_option maxRecDepth 100000 in
set_option maxHeartbeats 4000000 in
theorem next_4y (lo : Nat) (W D J S o q v x y s : Int) (A : Option Addr) (n c : Nat) (l : List Int) (w : World) (h : Rn lo w A l) (hn : l.length = n) (hs : n ≤ 500) (hlo : lo ≤ w.heap.size) (T0 : List Int) (b : isAt l (ow W D J S q 0) y = true) (T : (if isAt l (ow W D J S q 0) y = true then put l (ow W D J S q 0) ((y + 1) % 18446744073709551616) else l) = T0) (L : T0.length = l.length) :
    Calls Try.prog 57 #[cf W D J S, .slice A n c, fv ⟨o, 4, q, v, x, y, s⟩] w (RetQ lo w n T0 ⟨o, 5, q, v, x, y, s⟩) := by
  have NX := Lib.hid (boxes4 (W := W) (D := D) (J := J) (S := S) (c := c) (⟨o, 4, q, v, x, y, s⟩ : Fr) h hn)
  have HS := Lib.hid hs
  have HLO := Lib.hid hlo
  have Hb := Lib.hid b
  have HT := Lib.hid T
  have HL := Lib.hid L
  clear h hs hn hlo b T L
  go_enter Try.func57, Try.ntmps57
  go_wp2
  change Code.wp _ _ _ _ (bx4 w W D J S (.slice A n c) ⟨o, 4, q, v, x, y, s⟩)
  generalize bx4 w W D J S (.slice A n c) ⟨o, 4, q, v, x, y, s⟩ = w0 at NX ⊢
  refine wp_scope_to _ (fun _ _ _ h => h) ?_
  generalize hJ : (fun (l : Nat) (a : Act) (w : World) => ∃ rest, findLabel _ l = some rest ∧ rest.wp _ _ a w) = JJ
  have HJ := Lib.hid hJ
  clear hJ
  obtain ⟨_, b0, b1, b2, b3⟩ := NX.out.bx
  obtain ⟨d0, d1, d2, d3, d4, d5, d6⟩ := NX.out.bf.cells
  obtain ⟨lx, lm, lf, lr⟩ := NX.out.facts
  have m0 := NX.out.bm.cell
  have fzf := NX.out.bf.free
  have fzr := NX.out.br.free
  obtain ⟨r0, r1, r2, r3, r4, r5, r6⟩ := NX.out.br.cells
  simp only at d0 d1 d2 d3 d4 d5 d6
  go_wp2_with fail
  refine (ntake_n NX.out.bm NX.out.bx NX.out.bf NX.out.ry.rd NX.out.nl (by omega) (by omega) HS.out Hb.out HT.out).mono ?_
  rintro _ w1 ⟨k, rfl, hk, hB, hM, hK⟩
  clear b0 b1 b2 b3 d0 d1 d2 d3 d4 d5 d6 lx lm lf lr m0 fzf fzr r0 r1 r2 r3 r4 r5 r6
  have NY := Lib.hid (NX.out.stored hk hB hM hK HL.out HLO.out)
  clear hk hB hM hK
  clear NX
  have NX := Lib.hid NY.out
  clear NY
  skip
  obtain ⟨_, b0, b1, b2, b3⟩ := NX.out.bx
  obtain ⟨d0, d1, d2, d3, d4, d5, d6⟩ := NX.out.bf.cells
  obtain ⟨lx, lm, lf, lr⟩ := NX.out.facts
  have m0 := NX.out.bm.cell
  have fzf := NX.out.bf.free
  have fzr := NX.out.br.free
  obtain ⟨r0, r1, r2, r3, r4, r5, r6⟩ := NX.out.br.cells
  simp only at d0 d1 d2 d3 d4 d5 d6
  go_wp2
  go_step3
  change JJ 0 _ _
  rw [← HJ.out]
  refine ⟨_, rfl, ?_⟩
  clear HJ
  go_wp2
  clear b0 b1 b2 b3 d0 d1 d2 d3 d4 d5 d6 lx lm lf lr m0 fzf fzr r0 r1 r2 r3 r4 r5 r6
  have NY := Lib.hid (NX.out.setPc (5))
  clear NX
  have NX := Lib.hid NY.out
  clear NY
  change Code.wp _ _ _ _ (w1.setCell ⟨w.heap.size + 1 + 1, 1, none⟩ (.int .i64 (5)))
  generalize w1.setCell ⟨w.heap.size + 1 + 1, 1, none⟩ (.int .i64 (5)) = w2 at NX ⊢
  obtain ⟨_, b0, b1, b2, b3⟩ := NX.out.bx
  obtain ⟨d0, d1, d2, d3, d4, d5, d6⟩ := NX.out.bf.cells
  obtain ⟨lx, lm, lf, lr⟩ := NX.out.facts
  have m0 := NX.out.bm.cell
  have fzf := NX.out.bf.free
  have fzr := NX.out.br.free
  obtain ⟨r0, r1, r2, r3, r4, r5, r6⟩ := NX.out.br.cells
  simp only at d0 d1 d2 d3 d4 d5 d6
  go_region
  all_goals
    go_wp2
    change bodyPost _ _ _ _ _ (pf w2 (w.heap.size + 1 + 1 + 1) ⟨o, 5, q, v, x, y, s⟩).drew
    have NB := NX.out.back ⟨o, 5, q, v, x, y, s⟩
    exact bodyPost_ret (results_fr Try.results57 _ rfl NB.1) rfl NB.2
set_option maxRecDepth 100000 in
set_option maxHeartbeats 4000000 in
theorem next_4n (lo : Nat) (W D J S o q v x y s : Int) (A : Option Addr) (n c : Nat) (l : List Int) (w : World) (h : Rn lo w A l) (hn : l.length = n) (hs : n ≤ 500) (hlo : lo ≤ w.heap.size) (T0 : List Int) (b : isAt l (ow W D J S q 0) y = false) (T : (if isAt l (ow W D J S q 0) y = true then put l (ow W D J S q 0) ((y + 1) % 18446744073709551616) else l) = T0) (L : T0.length = l.length) :
    Calls Try.prog 57 #[cf W D J S, .slice A n c, fv ⟨o, 4, q, v, x, y, s⟩] w (RetQ lo w n T0 ⟨o, 6, q, v, x, y, s⟩) := by
  have NX := Lib.hid (boxes4 (W := W) (D := D) (J := J) (S := S) (c := c) (⟨o, 4, q, v, x, y, s⟩ : Fr) h hn)
  have HS := Lib.hid hs
  have HLO := Lib.hid hlo
  have Hb := Lib.hid b
  have HT := Lib.hid T
  have HL := Lib.hid L
  clear h hs hn hlo b T L
  go_enter Try.func57, Try.ntmps57
  go_wp2
  change Code.wp _ _ _ _ (bx4 w W D J S (.slice A n c) ⟨o, 4, q, v, x, y, s⟩)
  generalize bx4 w W D J S (.slice A n c) ⟨o, 4, q, v, x, y, s⟩ = w0 at NX ⊢
  refine wp_scope_to _ (fun _ _ _ h => h) ?_
  generalize hJ : (fun (l : Nat) (a : Act) (w : World) => ∃ rest, findLabel _ l = some rest ∧ rest.wp _ _ a w) = JJ
  have HJ := Lib.hid hJ
  clear hJ
  obtain ⟨_, b0, b1, b2, b3⟩ := NX.out.bx
  obtain ⟨d0, d1, d2, d3, d4, d5, d6⟩ := NX.out.bf.cells
  obtain ⟨lx, lm, lf, lr⟩ := NX.out.facts
  have m0 := NX.out.bm.cell
  have fzf := NX.out.bf.free
  have fzr := NX.out.br.free
  obtain ⟨r0, r1, r2, r3, r4, r5, r6⟩ := NX.out.br.cells
  simp only at d0 d1 d2 d3 d4 d5 d6
  go_wp2_with fail
  refine (ntake_n NX.out.bm NX.out.bx NX.out.bf NX.out.ry.rd NX.out.nl (by omega) (by omega) HS.out Hb.out HT.out).mono ?_
  rintro _ w1 ⟨k, rfl, hk, hB, hM, hK⟩
  clear b0 b1 b2 b3 d0 d1 d2 d3 d4 d5 d6 lx lm lf lr m0 fzf fzr r0 r1 r2 r3 r4 r5 r6
  have NY := Lib.hid (NX.out.stored hk hB hM hK HL.out HLO.out)
  clear hk hB hM hK
  clear NX
  have NX := Lib.hid NY.out
  clear NY
  skip
  obtain ⟨_, b0, b1, b2, b3⟩ := NX.out.bx
  obtain ⟨d0, d1, d2, d3, d4, d5, d6⟩ := NX.out.bf.cells
  obtain ⟨lx, lm, lf, lr⟩ := NX.out.facts
  have m0 := NX.out.bm.cell
  have fzf := NX.out.bf.free
  have fzr := NX.out.br.free
  obtain ⟨r0, r1, r2, r3, r4, r5, r6⟩ := NX.out.br.cells
  simp only at d0 d1 d2 d3 d4 d5 d6
  go_wp2
  go_step3
  change JJ 1 _ _
  rw [← HJ.out]
  refine ⟨_, rfl, ?_⟩
  clear HJ
  go_wp2
  clear b0 b1 b2 b3 d0 d1 d2 d3 d4 d5 d6 lx lm lf lr m0 fzf fzr r0 r1 r2 r3 r4 r5 r6
  have NY := Lib.hid (NX.out.setPc 6)
  clear NX
  have NX := Lib.hid NY.out
  clear NY
  change Code.wp _ _ _ _ (w1.setCell ⟨w.heap.size + 1 + 1, 1, none⟩ (.int .i64 6))
  generalize w1.setCell ⟨w.heap.size + 1 + 1, 1, none⟩ (.int .i64 6) = w2 at NX ⊢
  obtain ⟨_, b0, b1, b2, b3⟩ := NX.out.bx
  obtain ⟨d0, d1, d2, d3, d4, d5, d6⟩ := NX.out.bf.cells
  obtain ⟨lx, lm, lf, lr⟩ := NX.out.facts
  have m0 := NX.out.bm.cell
  have fzf := NX.out.bf.free
  have fzr := NX.out.br.free
  obtain ⟨r0, r1, r2, r3, r4, r5, r6⟩ := NX.out.br.cells
  simp only at d0 d1 d2 d3 d4 d5 d6
  go_region
  all_goals
    go_wp2
    change bodyPost _ _ _ _ _ (pf w2 (w.heap.size + 1 + 1 + 1) ⟨o, 6, q, v, x, y, s⟩).drew
    have NB := NX.out.back ⟨o, 6, q, v, x, y, s⟩
    exact bodyPost_ret (results_fr Try.results57 _ rfl NB.1) rfl NB.2
end Go.Proofs.Ytpeaahihjeplmaa
