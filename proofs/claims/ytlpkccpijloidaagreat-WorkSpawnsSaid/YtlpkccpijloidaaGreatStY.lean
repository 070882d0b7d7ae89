/- Merged: StC, StE. -/
import Derived.Test.YtlpkccpijloidaaGreatStX
import Derived.LoopN
import Derived.Deep.DeepCutAuto
import Derived.Test.YtlpkccpijloidaaGreatDqB2
namespace Go.Proofs.YtlpkccpijloidaaGreat
set_option maxRecDepth 100000
open Go.RowKit Go.Deep
attribute [local go_sem] run_makeFunc run_store_func index_fn0 index_fn1 index_fn2 index_fn3
set_option maxHeartbeats 4000000 in
theorem snext_0 (lo : Nat) (W D J S o q v x y s : Int) (A : Option Addr) (n c : Nat) (l : List Int) (w : World) (h : Rn lo w A l) (hn : l.length = n) (hs : n ≤ 500) (hlo : lo ≤ w.heap.size) :
    Calls Tryz.prog 106 #[cf W D J S, .slice A n c, fv ⟨o, 0, q, v, x, y, s⟩] w (RetQ lo w n l ⟨o, 1, q, v, x, at0 l (ow W D J S q 0), s⟩) := by
  have NX := Lib.hid (boxes8 (W := W) (D := D) (J := J) (S := S) (c := c) (⟨o, 0, q, v, x, y, s⟩ : Fr) h hn)
  have HS := Lib.hid hs
  have HLO := Lib.hid hlo
  clear h hs hn hlo
  go_enter Tryz.func106, Tryz.ntmps106
  go_wp2
  go_step3
  go_wp2
  go_step3
  go_wp2
  change Code.wp _ _ _ _ (bx8 w W D J S (.slice A n c) ⟨o, 0, q, v, x, y, s⟩)
  generalize bx8 w W D J S (.slice A n c) ⟨o, 0, q, v, x, y, s⟩ = w0 at NX ⊢
  obtain ⟨_, b0, b1, b2, b3⟩ := NX.out.bx
  obtain ⟨d0, d1, d2, d3, d4, d5, d6⟩ := NX.out.bf.cells
  obtain ⟨lx, lm, lf, lr⟩ := NX.out.facts
  have m0 := NX.out.bm.cell
  have fzf := NX.out.bf.free
  have fzr := NX.out.br.free
  obtain ⟨r0, r1, r2, r3, r4, r5, r6⟩ := NX.out.br.cells
  try simp only at d0 d1 d2 d3 d4 d5 d6
  refine wp_loop_rounds 1 ?_
  rw [rounds_succ]
  go_upto_region 10 with fail
  clear b0 b1 b2 b3 d0 d1 d2 d3 d4 d5 d6 lx lm lf lr m0 fzf fzr r0 r1 r2 r3 r4 r5 r6
  have NY := Lib.hid (NX.out.setPc 1)
  clear NX
  have NX := Lib.hid NY.out
  clear NY
  change Code.wp _ _ _ _ (w0.setCell ⟨w.heap.size + 1 + 1, 1, none⟩ (.int .i64 1))
  generalize w0.setCell ⟨w.heap.size + 1 + 1, 1, none⟩ (.int .i64 1) = w1 at NX ⊢
  obtain ⟨_, b0, b1, b2, b3⟩ := NX.out.bx
  obtain ⟨d0, d1, d2, d3, d4, d5, d6⟩ := NX.out.bf.cells
  obtain ⟨lx, lm, lf, lr⟩ := NX.out.facts
  have m0 := NX.out.bm.cell
  have fzf := NX.out.bf.free
  have fzr := NX.out.br.free
  obtain ⟨r0, r1, r2, r3, r4, r5, r6⟩ := NX.out.br.cells
  try simp only at d0 d1 d2 d3 d4 d5 d6
  go_wp2_with fail
  refine (deed_top _ _ _ _ ⟨o, 1, q, v, x, y, s⟩ W D J S A n c l _ NX.out.c4 NX.out.bm NX.out.bx NX.out.bf NX.out.rz.rd NX.out.nl (by omega) (by omega) HS.out).mono ?_
  rintro _ w2 ⟨rfl, hb, hk⟩
  clear b0 b1 b2 b3 d0 d1 d2 d3 d4 d5 d6 lx lm lf lr m0 fzf fzr r0 r1 r2 r3 r4 r5 r6
  have NY := Lib.hid (NX.out.kf hb hk)
  clear NX
  have NX := Lib.hid NY.out
  clear NY
  obtain ⟨_, b0, b1, b2, b3⟩ := NX.out.bx
  obtain ⟨d0, d1, d2, d3, d4, d5, d6⟩ := NX.out.bf.cells
  obtain ⟨lx, lm, lf, lr⟩ := NX.out.facts
  have m0 := NX.out.bm.cell
  have fzf := NX.out.bf.free
  have fzr := NX.out.br.free
  obtain ⟨r0, r1, r2, r3, r4, r5, r6⟩ := NX.out.br.cells
  try simp only at d0 d1 d2 d3 d4 d5 d6
  go_wp2
  go_region
  all_goals
    go_wp2
    rw [Exit.noGoto_ret]
    change bodyPost _ _ _ _ _ (pf w2 (w.heap.size + 1 + 1 + 1) ⟨o, 1, q, v, x, at0 l (ow W D J S q 0), s⟩).drew
    have NB := NX.out.back ⟨o, 1, q, v, x, at0 l (ow W D J S q 0), s⟩
    refine bodyPost_ret (results_fr Tryz.results106 _ rfl NB.1) rfl ?_
    exact ⟨A, c, rfl, NB.2.1, NB.2.2⟩
set_option maxHeartbeats 4000000 in
theorem snext_1t (lo : Nat) (W D J S o q v x y s : Int) (A : Option Addr) (n c : Nat) (l : List Int) (w : World) (h : Rn lo w A l) (hn : l.length = n) (hs : n ≤ 500) (hlo : lo ≤ w.heap.size) (d : decide (far (at0 l (ow W D J S q 1)) y ≤ 0) = true) :
    Calls Tryz.prog 106 #[cf W D J S, .slice A n c, fv ⟨o, 1, q, v, x, y, s⟩] w (RetQ lo w n l (ed ⟨o, 2, q, v, at0 l (ow W D J S q 1), y, s⟩ 3 0)) := by
  have NX := Lib.hid (boxes8 (W := W) (D := D) (J := J) (S := S) (c := c) (⟨o, 1, q, v, x, y, s⟩ : Fr) h hn)
  have HS := Lib.hid hs
  have HLO := Lib.hid hlo
  have Hd := Lib.hid d
  clear h hs hn hlo d
  go_enter Tryz.func106, Tryz.ntmps106
  go_wp2
  go_step3
  go_wp2
  go_step3
  go_wp2
  change Code.wp _ _ _ _ (bx8 w W D J S (.slice A n c) ⟨o, 1, q, v, x, y, s⟩)
  generalize bx8 w W D J S (.slice A n c) ⟨o, 1, q, v, x, y, s⟩ = w0 at NX ⊢
  obtain ⟨_, b0, b1, b2, b3⟩ := NX.out.bx
  obtain ⟨d0, d1, d2, d3, d4, d5, d6⟩ := NX.out.bf.cells
  obtain ⟨lx, lm, lf, lr⟩ := NX.out.facts
  have m0 := NX.out.bm.cell
  have fzf := NX.out.bf.free
  have fzr := NX.out.br.free
  obtain ⟨r0, r1, r2, r3, r4, r5, r6⟩ := NX.out.br.cells
  try simp only at d0 d1 d2 d3 d4 d5 d6
  refine wp_loop_rounds 2 ?_
  rw [rounds_succ]
  go_wp2
  rw [rounds_succ]
  go_upto_region 10 with fail
  clear b0 b1 b2 b3 d0 d1 d2 d3 d4 d5 d6 lx lm lf lr m0 fzf fzr r0 r1 r2 r3 r4 r5 r6
  have NY := Lib.hid (NX.out.setPc 2)
  clear NX
  have NX := Lib.hid NY.out
  clear NY
  change Code.wp _ _ _ _ (w0.setCell ⟨w.heap.size + 1 + 1, 1, none⟩ (.int .i64 2))
  generalize w0.setCell ⟨w.heap.size + 1 + 1, 1, none⟩ (.int .i64 2) = w1 at NX ⊢
  obtain ⟨_, b0, b1, b2, b3⟩ := NX.out.bx
  obtain ⟨d0, d1, d2, d3, d4, d5, d6⟩ := NX.out.bf.cells
  obtain ⟨lx, lm, lf, lr⟩ := NX.out.facts
  have m0 := NX.out.bm.cell
  have fzf := NX.out.bf.free
  have fzr := NX.out.br.free
  obtain ⟨r0, r1, r2, r3, r4, r5, r6⟩ := NX.out.br.cells
  try simp only at d0 d1 d2 d3 d4 d5 d6
  go_wp2_with fail
  refine (deed_bott _ _ _ _ _ ⟨o, 2, q, v, x, y, s⟩ W D J S A n c l Hd.out _ NX.out.c4 NX.out.bm NX.out.bx NX.out.bf NX.out.rz.rd NX.out.nl NX.out.c5 (by omega) (by omega) (by omega) HS.out).mono ?_
  rintro _ w2 ⟨rfl, hb, hk⟩
  clear b0 b1 b2 b3 d0 d1 d2 d3 d4 d5 d6 lx lm lf lr m0 fzf fzr r0 r1 r2 r3 r4 r5 r6
  have NY := Lib.hid (NX.out.kf hb hk)
  clear NX
  have NX := Lib.hid NY.out
  clear NY
  obtain ⟨_, b0, b1, b2, b3⟩ := NX.out.bx
  obtain ⟨d0, d1, d2, d3, d4, d5, d6⟩ := NX.out.bf.cells
  obtain ⟨lx, lm, lf, lr⟩ := NX.out.facts
  have m0 := NX.out.bm.cell
  have fzf := NX.out.bf.free
  have fzr := NX.out.br.free
  obtain ⟨r0, r1, r2, r3, r4, r5, r6⟩ := NX.out.br.cells
  try simp only at d0 d1 d2 d3 d4 d5 d6
  go_wp2
  go_region
  all_goals
    go_wp2
    rw [Exit.noGoto_ret]
    change bodyPost _ _ _ _ _ (pf w2 (w.heap.size + 1 + 1 + 1) (ed ⟨o, 2, q, v, at0 l (ow W D J S q 1), y, s⟩ 3 0)).drew
    have NB := NX.out.back (ed ⟨o, 2, q, v, at0 l (ow W D J S q 1), y, s⟩ 3 0)
    refine bodyPost_ret (results_fr Tryz.results106 _ rfl NB.1) rfl ?_
    exact ⟨A, c, rfl, NB.2.1, NB.2.2⟩
set_option maxHeartbeats 4000000 in
theorem snext_1f (lo : Nat) (W D J S o q v x y s : Int) (A : Option Addr) (n c : Nat) (l : List Int) (w : World) (h : Rn lo w A l) (hn : l.length = n) (hs : n ≤ 500) (hlo : lo ≤ w.heap.size) (d : decide (far (at0 l (ow W D J S q 1)) y ≤ 0) = false) :
    Calls Tryz.prog 106 #[cf W D J S, .slice A n c, fv ⟨o, 1, q, v, x, y, s⟩] w (RetQ lo w n l ⟨o, 2, q, v, at0 l (ow W D J S q 1), y, s⟩) := by
  have NX := Lib.hid (boxes8 (W := W) (D := D) (J := J) (S := S) (c := c) (⟨o, 1, q, v, x, y, s⟩ : Fr) h hn)
  have HS := Lib.hid hs
  have HLO := Lib.hid hlo
  have Hd := Lib.hid d
  clear h hs hn hlo d
  go_enter Tryz.func106, Tryz.ntmps106
  go_wp2
  go_step3
  go_wp2
  go_step3
  go_wp2
  change Code.wp _ _ _ _ (bx8 w W D J S (.slice A n c) ⟨o, 1, q, v, x, y, s⟩)
  generalize bx8 w W D J S (.slice A n c) ⟨o, 1, q, v, x, y, s⟩ = w0 at NX ⊢
  obtain ⟨_, b0, b1, b2, b3⟩ := NX.out.bx
  obtain ⟨d0, d1, d2, d3, d4, d5, d6⟩ := NX.out.bf.cells
  obtain ⟨lx, lm, lf, lr⟩ := NX.out.facts
  have m0 := NX.out.bm.cell
  have fzf := NX.out.bf.free
  have fzr := NX.out.br.free
  obtain ⟨r0, r1, r2, r3, r4, r5, r6⟩ := NX.out.br.cells
  try simp only at d0 d1 d2 d3 d4 d5 d6
  refine wp_loop_rounds 2 ?_
  rw [rounds_succ]
  go_wp2
  rw [rounds_succ]
  go_upto_region 10 with fail
  clear b0 b1 b2 b3 d0 d1 d2 d3 d4 d5 d6 lx lm lf lr m0 fzf fzr r0 r1 r2 r3 r4 r5 r6
  have NY := Lib.hid (NX.out.setPc 2)
  clear NX
  have NX := Lib.hid NY.out
  clear NY
  change Code.wp _ _ _ _ (w0.setCell ⟨w.heap.size + 1 + 1, 1, none⟩ (.int .i64 2))
  generalize w0.setCell ⟨w.heap.size + 1 + 1, 1, none⟩ (.int .i64 2) = w1 at NX ⊢
  obtain ⟨_, b0, b1, b2, b3⟩ := NX.out.bx
  obtain ⟨d0, d1, d2, d3, d4, d5, d6⟩ := NX.out.bf.cells
  obtain ⟨lx, lm, lf, lr⟩ := NX.out.facts
  have m0 := NX.out.bm.cell
  have fzf := NX.out.bf.free
  have fzr := NX.out.br.free
  obtain ⟨r0, r1, r2, r3, r4, r5, r6⟩ := NX.out.br.cells
  try simp only at d0 d1 d2 d3 d4 d5 d6
  go_wp2_with fail
  refine (deed_botf _ _ _ _ _ ⟨o, 2, q, v, x, y, s⟩ W D J S A n c l Hd.out _ NX.out.c4 NX.out.bm NX.out.bx NX.out.bf NX.out.rz.rd NX.out.nl NX.out.c5 (by omega) (by omega) (by omega) HS.out).mono ?_
  rintro _ w2 ⟨rfl, hb, hk⟩
  clear b0 b1 b2 b3 d0 d1 d2 d3 d4 d5 d6 lx lm lf lr m0 fzf fzr r0 r1 r2 r3 r4 r5 r6
  have NY := Lib.hid (NX.out.kf hb hk)
  clear NX
  have NX := Lib.hid NY.out
  clear NY
  obtain ⟨_, b0, b1, b2, b3⟩ := NX.out.bx
  obtain ⟨d0, d1, d2, d3, d4, d5, d6⟩ := NX.out.bf.cells
  obtain ⟨lx, lm, lf, lr⟩ := NX.out.facts
  have m0 := NX.out.bm.cell
  have fzf := NX.out.bf.free
  have fzr := NX.out.br.free
  obtain ⟨r0, r1, r2, r3, r4, r5, r6⟩ := NX.out.br.cells
  try simp only at d0 d1 d2 d3 d4 d5 d6
  go_wp2
  go_region
  all_goals
    go_wp2
    rw [Exit.noGoto_ret]
    change bodyPost _ _ _ _ _ (pf w2 (w.heap.size + 1 + 1 + 1) ⟨o, 2, q, v, at0 l (ow W D J S q 1), y, s⟩).drew
    have NB := NX.out.back ⟨o, 2, q, v, at0 l (ow W D J S q 1), y, s⟩
    refine bodyPost_ret (results_fr Tryz.results106 _ rfl NB.1) rfl ?_
    exact ⟨A, c, rfl, NB.2.1, NB.2.2⟩
set_option maxHeartbeats 4000000 in
theorem snext_2 (lo : Nat) (W D J S o q v x y s : Int) (A : Option Addr) (n c : Nat) (l : List Int) (w : World) (h : Rn lo w A l) (hn : l.length = n) (hs : n ≤ 500) (hlo : lo ≤ w.heap.size) (uy : U y) :
    Calls Tryz.prog 106 #[cf W D J S, .slice A n c, fv ⟨o, 2, q, v, x, y, s⟩] w (RetQ lo w n l ⟨o, 3, q, at0 l (sl W D J S q y), x, y, s⟩) := by
  have NX := Lib.hid (boxes8 (W := W) (D := D) (J := J) (S := S) (c := c) (⟨o, 2, q, v, x, y, s⟩ : Fr) h hn)
  have HS := Lib.hid hs
  have HLO := Lib.hid hlo
  have Huy := Lib.hid uy
  clear h hs hn hlo uy
  go_enter Tryz.func106, Tryz.ntmps106
  go_wp2
  go_step3
  go_wp2
  go_step3
  go_wp2
  change Code.wp _ _ _ _ (bx8 w W D J S (.slice A n c) ⟨o, 2, q, v, x, y, s⟩)
  generalize bx8 w W D J S (.slice A n c) ⟨o, 2, q, v, x, y, s⟩ = w0 at NX ⊢
  obtain ⟨_, b0, b1, b2, b3⟩ := NX.out.bx
  obtain ⟨d0, d1, d2, d3, d4, d5, d6⟩ := NX.out.bf.cells
  obtain ⟨lx, lm, lf, lr⟩ := NX.out.facts
  have m0 := NX.out.bm.cell
  have fzf := NX.out.bf.free
  have fzr := NX.out.br.free
  obtain ⟨r0, r1, r2, r3, r4, r5, r6⟩ := NX.out.br.cells
  try simp only at d0 d1 d2 d3 d4 d5 d6
  refine wp_loop_rounds 3 ?_
  rw [rounds_succ]
  go_wp2
  rw [rounds_succ]
  go_wp2
  rw [rounds_succ]
  go_upto_region 10 with fail
  clear b0 b1 b2 b3 d0 d1 d2 d3 d4 d5 d6 lx lm lf lr m0 fzf fzr r0 r1 r2 r3 r4 r5 r6
  have NY := Lib.hid (NX.out.setPc 3)
  clear NX
  have NX := Lib.hid NY.out
  clear NY
  change Code.wp _ _ _ _ (w0.setCell ⟨w.heap.size + 1 + 1, 1, none⟩ (.int .i64 3))
  generalize w0.setCell ⟨w.heap.size + 1 + 1, 1, none⟩ (.int .i64 3) = w1 at NX ⊢
  obtain ⟨_, b0, b1, b2, b3⟩ := NX.out.bx
  obtain ⟨d0, d1, d2, d3, d4, d5, d6⟩ := NX.out.bf.cells
  obtain ⟨lx, lm, lf, lr⟩ := NX.out.facts
  have m0 := NX.out.bm.cell
  have fzf := NX.out.bf.free
  have fzr := NX.out.br.free
  obtain ⟨r0, r1, r2, r3, r4, r5, r6⟩ := NX.out.br.cells
  try simp only at d0 d1 d2 d3 d4 d5 d6
  go_wp2_with fail
  refine (deed_val _ _ _ _ ⟨o, 3, q, v, x, y, s⟩ W D J S A n c l Huy.out _ NX.out.c4 NX.out.bm NX.out.bx NX.out.bf NX.out.rz.rd NX.out.nl (by omega) (by omega) HS.out).mono ?_
  rintro _ w2 ⟨rfl, hb, hk⟩
  clear b0 b1 b2 b3 d0 d1 d2 d3 d4 d5 d6 lx lm lf lr m0 fzf fzr r0 r1 r2 r3 r4 r5 r6
  have NY := Lib.hid (NX.out.kf hb hk)
  clear NX
  have NX := Lib.hid NY.out
  clear NY
  obtain ⟨_, b0, b1, b2, b3⟩ := NX.out.bx
  obtain ⟨d0, d1, d2, d3, d4, d5, d6⟩ := NX.out.bf.cells
  obtain ⟨lx, lm, lf, lr⟩ := NX.out.facts
  have m0 := NX.out.bm.cell
  have fzf := NX.out.bf.free
  have fzr := NX.out.br.free
  obtain ⟨r0, r1, r2, r3, r4, r5, r6⟩ := NX.out.br.cells
  try simp only at d0 d1 d2 d3 d4 d5 d6
  go_wp2
  go_region
  all_goals
    go_wp2
    rw [Exit.noGoto_ret]
    change bodyPost _ _ _ _ _ (pf w2 (w.heap.size + 1 + 1 + 1) ⟨o, 3, q, at0 l (sl W D J S q y), x, y, s⟩).drew
    have NB := NX.out.back ⟨o, 3, q, at0 l (sl W D J S q y), x, y, s⟩
    refine bodyPost_ret (results_fr Tryz.results106 _ rfl NB.1) rfl ?_
    exact ⟨A, c, rfl, NB.2.1, NB.2.2⟩
set_option maxHeartbeats 4000000 in
theorem snext_3y (lo : Nat) (W D J S o q v x y s : Int) (A : Option Addr) (n c : Nat) (l : List Int) (w : World) (h : Rn lo w A l) (hn : l.length = n) (hs : n ≤ 500) (hlo : lo ≤ w.heap.size) (T0 : List Int) (b : isAt l (ow W D J S q 0) y = true) (T : (if isAt l (ow W D J S q 0) y = true then put l (ow W D J S q 0) ((y + 1) % 18446744073709551616) else l) = T0) (L : T0.length = l.length) :
    Calls Tryz.prog 106 #[cf W D J S, .slice A n c, fv ⟨o, 3, q, v, x, y, s⟩] w (RetQ lo w n T0 (ed ⟨o, 4, q, v, x, y, s⟩ 1 v)) := by
  have NX := Lib.hid (boxes8 (W := W) (D := D) (J := J) (S := S) (c := c) (⟨o, 3, q, v, x, y, s⟩ : Fr) h hn)
  have HS := Lib.hid hs
  have HLO := Lib.hid hlo
  have Hb := Lib.hid b
  have HT := Lib.hid T
  have HL := Lib.hid L
  clear h hs hn hlo b T L
  go_enter Tryz.func106, Tryz.ntmps106
  go_wp2
  go_step3
  go_wp2
  go_step3
  go_wp2
  change Code.wp _ _ _ _ (bx8 w W D J S (.slice A n c) ⟨o, 3, q, v, x, y, s⟩)
  generalize bx8 w W D J S (.slice A n c) ⟨o, 3, q, v, x, y, s⟩ = w0 at NX ⊢
  obtain ⟨_, b0, b1, b2, b3⟩ := NX.out.bx
  obtain ⟨d0, d1, d2, d3, d4, d5, d6⟩ := NX.out.bf.cells
  obtain ⟨lx, lm, lf, lr⟩ := NX.out.facts
  have m0 := NX.out.bm.cell
  have fzf := NX.out.bf.free
  have fzr := NX.out.br.free
  obtain ⟨r0, r1, r2, r3, r4, r5, r6⟩ := NX.out.br.cells
  try simp only at d0 d1 d2 d3 d4 d5 d6
  refine wp_loop_rounds 4 ?_
  rw [rounds_succ]
  go_wp2
  rw [rounds_succ]
  go_wp2
  rw [rounds_succ]
  go_wp2
  rw [rounds_succ]
  go_upto_region 10 with fail
  clear b0 b1 b2 b3 d0 d1 d2 d3 d4 d5 d6 lx lm lf lr m0 fzf fzr r0 r1 r2 r3 r4 r5 r6
  have NY := Lib.hid (NX.out.setPc 4)
  clear NX
  have NX := Lib.hid NY.out
  clear NY
  change Code.wp _ _ _ _ (w0.setCell ⟨w.heap.size + 1 + 1, 1, none⟩ (.int .i64 4))
  generalize w0.setCell ⟨w.heap.size + 1 + 1, 1, none⟩ (.int .i64 4) = w1 at NX ⊢
  obtain ⟨_, b0, b1, b2, b3⟩ := NX.out.bx
  obtain ⟨d0, d1, d2, d3, d4, d5, d6⟩ := NX.out.bf.cells
  obtain ⟨lx, lm, lf, lr⟩ := NX.out.facts
  have m0 := NX.out.bm.cell
  have fzf := NX.out.bf.free
  have fzr := NX.out.br.free
  obtain ⟨r0, r1, r2, r3, r4, r5, r6⟩ := NX.out.br.cells
  try simp only at d0 d1 d2 d3 d4 d5 d6
  go_wp2_with fail
  refine (deed_raisey _ _ _ _ _ ⟨o, 4, q, v, x, y, s⟩ W D J S A n c l _ _ NX.out.c6 NX.out.c5 NX.out.bm NX.out.bx NX.out.bf NX.out.rz.rd NX.out.nl (by omega) (by omega) (by omega) HS.out Hb.out HT.out).mono ?_
  rintro _ w2 ⟨wm, k, rfl, hk, hB, hM, hK, hb, hk2⟩
  clear b0 b1 b2 b3 d0 d1 d2 d3 d4 d5 d6 lx lm lf lr m0 fzf fzr r0 r1 r2 r3 r4 r5 r6
  have NY := Lib.hid ((NX.out.stored hk hB hM hK HL.out HLO.out).kf hb hk2)
  clear NX
  have NX := Lib.hid NY.out
  clear NY
  obtain ⟨_, b0, b1, b2, b3⟩ := NX.out.bx
  obtain ⟨d0, d1, d2, d3, d4, d5, d6⟩ := NX.out.bf.cells
  obtain ⟨lx, lm, lf, lr⟩ := NX.out.facts
  have m0 := NX.out.bm.cell
  have fzf := NX.out.bf.free
  have fzr := NX.out.br.free
  obtain ⟨r0, r1, r2, r3, r4, r5, r6⟩ := NX.out.br.cells
  try simp only at d0 d1 d2 d3 d4 d5 d6
  go_wp2
  go_region
  all_goals
    go_wp2
    rw [Exit.noGoto_ret]
    change bodyPost _ _ _ _ _ (pf w2 (w.heap.size + 1 + 1 + 1) (ed ⟨o, 4, q, v, x, y, s⟩ 1 v)).drew
    have NB := NX.out.back (ed ⟨o, 4, q, v, x, y, s⟩ 1 v)
    refine bodyPost_ret (results_fr Tryz.results106 _ rfl NB.1) rfl ?_
    exact ⟨_, n, rfl, NB.2.1, NB.2.2⟩
set_option maxHeartbeats 4000000 in
theorem snext_3n (lo : Nat) (W D J S o q v x y s : Int) (A : Option Addr) (n c : Nat) (l : List Int) (w : World) (h : Rn lo w A l) (hn : l.length = n) (hs : n ≤ 500) (hlo : lo ≤ w.heap.size) (T0 : List Int) (b : isAt l (ow W D J S q 0) y = false) (T : (if isAt l (ow W D J S q 0) y = true then put l (ow W D J S q 0) ((y + 1) % 18446744073709551616) else l) = T0) (L : T0.length = l.length) :
    Calls Tryz.prog 106 #[cf W D J S, .slice A n c, fv ⟨o, 3, q, v, x, y, s⟩] w (RetQ lo w n T0 (ed ⟨o, 4, q, v, x, y, s⟩ 4 0)) := by
  have NX := Lib.hid (boxes8 (W := W) (D := D) (J := J) (S := S) (c := c) (⟨o, 3, q, v, x, y, s⟩ : Fr) h hn)
  have HS := Lib.hid hs
  have HLO := Lib.hid hlo
  have Hb := Lib.hid b
  have HT := Lib.hid T
  have HL := Lib.hid L
  clear h hs hn hlo b T L
  go_enter Tryz.func106, Tryz.ntmps106
  go_wp2
  go_step3
  go_wp2
  go_step3
  go_wp2
  change Code.wp _ _ _ _ (bx8 w W D J S (.slice A n c) ⟨o, 3, q, v, x, y, s⟩)
  generalize bx8 w W D J S (.slice A n c) ⟨o, 3, q, v, x, y, s⟩ = w0 at NX ⊢
  obtain ⟨_, b0, b1, b2, b3⟩ := NX.out.bx
  obtain ⟨d0, d1, d2, d3, d4, d5, d6⟩ := NX.out.bf.cells
  obtain ⟨lx, lm, lf, lr⟩ := NX.out.facts
  have m0 := NX.out.bm.cell
  have fzf := NX.out.bf.free
  have fzr := NX.out.br.free
  obtain ⟨r0, r1, r2, r3, r4, r5, r6⟩ := NX.out.br.cells
  try simp only at d0 d1 d2 d3 d4 d5 d6
  refine wp_loop_rounds 4 ?_
  rw [rounds_succ]
  go_wp2
  rw [rounds_succ]
  go_wp2
  rw [rounds_succ]
  go_wp2
  rw [rounds_succ]
  go_upto_region 10 with fail
  clear b0 b1 b2 b3 d0 d1 d2 d3 d4 d5 d6 lx lm lf lr m0 fzf fzr r0 r1 r2 r3 r4 r5 r6
  have NY := Lib.hid (NX.out.setPc 4)
  clear NX
  have NX := Lib.hid NY.out
  clear NY
  change Code.wp _ _ _ _ (w0.setCell ⟨w.heap.size + 1 + 1, 1, none⟩ (.int .i64 4))
  generalize w0.setCell ⟨w.heap.size + 1 + 1, 1, none⟩ (.int .i64 4) = w1 at NX ⊢
  obtain ⟨_, b0, b1, b2, b3⟩ := NX.out.bx
  obtain ⟨d0, d1, d2, d3, d4, d5, d6⟩ := NX.out.bf.cells
  obtain ⟨lx, lm, lf, lr⟩ := NX.out.facts
  have m0 := NX.out.bm.cell
  have fzf := NX.out.bf.free
  have fzr := NX.out.br.free
  obtain ⟨r0, r1, r2, r3, r4, r5, r6⟩ := NX.out.br.cells
  try simp only at d0 d1 d2 d3 d4 d5 d6
  go_wp2_with fail
  refine (deed_raisen _ _ _ _ _ ⟨o, 4, q, v, x, y, s⟩ W D J S A n c l _ _ NX.out.c6 NX.out.c5 NX.out.bm NX.out.bx NX.out.bf NX.out.rz.rd NX.out.nl (by omega) (by omega) (by omega) HS.out Hb.out HT.out).mono ?_
  rintro _ w2 ⟨wm, k, rfl, hk, hB, hM, hK, hb, hk2⟩
  clear b0 b1 b2 b3 d0 d1 d2 d3 d4 d5 d6 lx lm lf lr m0 fzf fzr r0 r1 r2 r3 r4 r5 r6
  have NY := Lib.hid ((NX.out.stored hk hB hM hK HL.out HLO.out).kf hb hk2)
  clear NX
  have NX := Lib.hid NY.out
  clear NY
  obtain ⟨_, b0, b1, b2, b3⟩ := NX.out.bx
  obtain ⟨d0, d1, d2, d3, d4, d5, d6⟩ := NX.out.bf.cells
  obtain ⟨lx, lm, lf, lr⟩ := NX.out.facts
  have m0 := NX.out.bm.cell
  have fzf := NX.out.bf.free
  have fzr := NX.out.br.free
  obtain ⟨r0, r1, r2, r3, r4, r5, r6⟩ := NX.out.br.cells
  try simp only at d0 d1 d2 d3 d4 d5 d6
  go_wp2
  go_region
  all_goals
    go_wp2
    rw [Exit.noGoto_ret]
    change bodyPost _ _ _ _ _ (pf w2 (w.heap.size + 1 + 1 + 1) (ed ⟨o, 4, q, v, x, y, s⟩ 4 0)).drew
    have NB := NX.out.back (ed ⟨o, 4, q, v, x, y, s⟩ 4 0)
    refine bodyPost_ret (results_fr Tryz.results106 _ rfl NB.1) rfl ?_
    exact ⟨_, n, rfl, NB.2.1, NB.2.2⟩
end Go.Proofs.YtlpkccpijloidaaGreat
namespace Go.Proofs.YtlpkccpijloidaaGreat
set_option maxRecDepth 100000
open Go.RowKit Go.Deep
theorem snext_any {lo : Nat} {W D J S : Int} {A : Option Addr} {n c : Nat} {l : List Int} {f : Fr} {w : World} (h : Rn lo w A l) (hn : l.length = n) (hs : n ≤ 500) (hlo : lo ≤ w.heap.size) (hg : goes W D J S l f 2 4 = true) (hf : UF f) :
    Calls Tryz.prog 106 #[cf W D J S, .slice A n c, fv f] w (RetQ lo w n (stealS W D J S l f).1 (stealS W D J S l f).2) := by
  obtain ⟨hk, hr, ho, h0, h7⟩ := goes_iff.1 hg
  obtain ⟨hm, hlen, hq0, hqW⟩ := okw_iff.1 hk
  obtain ⟨hW, hD, hJ, hS⟩ := may_lim hm
  have hge := bg_ge (J := J) hD.1 hJ.1 hq0
  have hst := bg_step (J := J) hD.1 hqW
  have e0 : ow W D J S f.who 0 = bg D J f.who := by rw [ow_ok hk, Int.add_zero]
  have e1 := ow_ok hk 1
  have e3 := sl_ok hk f.y
  obtain ⟨o, p, q, v, x, y, s⟩ := f
  simp only at *
  unfold stealS
  rw [if_pos hg]
  simp only
  have hp : p = 0 ∨ p = 1 ∨ p = 2 ∨ p = 3 := by omega
  rcases hp with rfl | rfl | rfl | rfl
  · rw [if_pos rfl]
    exact RetQ.of (snext_0 lo W D J S o q v x y s A n c l w h hn hs hlo) rfl (by rw [e0])
  · rw [if_neg (by decide), if_pos rfl]
    by_cases hd : far (at0 l (bg D J q + 1)) y ≤ 0
    · rw [if_pos hd]
      exact RetQ.of (snext_1t lo W D J S o q v x y s A n c l w h hn hs hlo (by rw [e1]; exact decide_eq_true hd)) rfl rfl
    · rw [if_neg hd]
      exact RetQ.of (snext_1f lo W D J S o q v x y s A n c l w h hn hs hlo (by rw [e1]; exact decide_eq_false hd)) rfl (by rw [e1])
  · rw [if_neg (by decide), if_neg (by decide), if_pos rfl]
    exact RetQ.of (snext_2 lo W D J S o q v x y s A n c l w h hn hs hlo hf.2.2) rfl (by rw [e3])
  · rw [if_neg (by decide), if_neg (by decide), if_neg (by decide)]
    have ei : isAt l (ow W D J S q 0) y = decide (at0 l (bg D J q) = y) := by rw [e0]; exact isAt_at0 (by omega) (by omega)
    by_cases hd : at0 l (bg D J q) = y
    · rw [if_pos hd]
      rw [decide_eq_true hd] at ei
      exact RetQ.of (snext_3y lo W D J S o q v x y s A n c l w h hn hs hlo _ ei (by rw [if_pos ei, e0]) (len_put _ _ _)) rfl rfl
    · rw [if_neg hd]
      rw [decide_eq_false hd] at ei
      exact RetQ.of (snext_3n lo W D J S o q v x y s A n c l w h hn hs hlo _ ei (by rw [if_neg (by simp [ei])]) rfl) rfl rfl
/-- Where the outcome is known by letters. -/
theorem snext_n {lo : Nat} {W D J S : Int} {A : Option Addr} {n c : Nat} {l : List Int} {f : Fr} {w : World} (h : Rn lo w A l) (hn : l.length = n) (hs : n ≤ 500) (hlo : lo ≤ w.heap.size) (hg : goes W D J S l f 2 4 = true) (hf : UF f) {l' : List Int} {f' : Fr} (e : stealS W D J S l f = (l', f')) :
    Calls Tryz.prog 106 #[cf W D J S, .slice A n c, fv f] w (RetQ lo w n l' f') := by
  have h2 := snext_any (c := c) h hn hs hlo hg hf
  rw [e] at h2
  exact h2
set_option maxHeartbeats 4000000 in
theorem stealc_leave (W D J S : Int) (A : Option Addr) (n c : Nat) (l : List Int) (f : Fr) (w : World) (h : Rd w A l) (hn : l.length = n) (hs : n ≤ 500) (hg : goes W D J S l f 2 4 = false) :
    Calls Tryz.prog 91 #[cf W D J S, .slice A n c, fv f] w (RetQ w.heap.size w n l f) := by
  obtain ⟨BX, BF, B0, Z, hz⟩ := boxes3 w W D J S f
  have H := Lib.hid (h.below Z); clear h
  have HN := Lib.hid hn; clear hn
  have HS := Lib.hid hs; clear hs
  have HG := Lib.hid hg; clear hg
  obtain ⟨o, p, q, v, x, y, s⟩ := f
  go_enter Tryz.func91, Tryz.ntmps91
  go_upto_region 1 with fail
  change Code.wp _ _ _ _ (bx3 w W D J S ⟨o, p, q, v, x, y, s⟩)
  generalize bx3 w W D J S ⟨o, p, q, v, x, y, s⟩ = w0 at BX BF B0 Z hz H ⊢
  go_wp2_with fail
  refine (clone_any A n c l w0 H.out HN.out HS.out).mono ?_
  rintro _ w1 ⟨A1, c1, rfl, hr1, z1⟩
  have HR1 := Lib.hid hr1
  have HZ1 := Lib.hid z1
  have B1 := Lib.hid (B0.after z1)
  obtain ⟨_, b0, b1, b2, b3⟩ := BX.below z1
  obtain ⟨a0, a1, a2, a3, a4, a5, a6⟩ := (BF.after z1).cells
  have la := (BF.after z1).lt
  clear hr1
  go_wp2_with fail
  refine (Tells.of (goes_any W D J S 2 4 A1 n c1 l ⟨o, p, q, v, x, y, s⟩ _ HN.out) (v' := .bool false) (by rw [HG.out])).mono ?_
  rintro _ w3 ⟨rfl, z3⟩
  have HR3 := Lib.hid (HR1.out.below z3)
  have z30 := keep_call z3 HZ1.out
  have B03 := B0.after z30
  clear a0 a1 a2 a3 a4 a5 a6 la b0 b1 b2 b3 z1
  obtain ⟨a0, a1, a2, a3, a4, a5, a6⟩ := (BF.after z30).cells
  have la := (BF.after z30).lt
  obtain ⟨d0, d1, d2, d3, d4, d5, d6⟩ := B03.cells
  have lb := B03.lt
  have fz := B03.free
  have HZ3 := Lib.hid (Z.trans (z30.mono (by omega)))
  have hl2 : w.heap.size ≤ w.heap.size + 1 + 1 := by omega
  have HH2 := Lib.hid (show w.heap.size + 1 + 1 < w0.heap.size by omega)
  have HHZ := Lib.hid (show w.heap.size ≤ w0.heap.size by omega)
  clear hz z3 z30
  go_wp2_with fail
  go_region
  all_goals
    go_wp2
    change bodyPost _ _ _ _ _ (pf w3 (w.heap.size + 1 + 1) ⟨o, p, q, v, x, y, s⟩).drew
    refine bodyPost_ret (results_fr Tryz.results91 _ rfl ((B03.pf _).drew)) rfl ?_
    exact ⟨A1, c1, rfl, ((HR3.out.pf HH2.out _).drew).mono HHZ.out, (below_pf HZ3.out hl2 _).drew⟩
set_option maxHeartbeats 4000000 in
theorem stealc_goes (W D J S : Int) (A : Option Addr) (n c : Nat) (l : List Int) (f : Fr) (l' : List Int) (f' : Fr) (w : World) (h : Rd w A l) (hn : l.length = n) (hs : n ≤ 500) (hg : goes W D J S l f 2 4 = true) (hf : UF f) (e : stealS W D J S l f = (l', f')) :
    Calls Tryz.prog 91 #[cf W D J S, .slice A n c, fv f] w (RetQ w.heap.size w n l' f') := by
  obtain ⟨BX, BF, B0, Z, hz⟩ := boxes3 w W D J S f
  have H := Lib.hid (h.below Z); clear h
  have HN := Lib.hid hn; clear hn
  have HS := Lib.hid hs; clear hs
  have HG := Lib.hid hg; clear hg
  have HF := Lib.hid hf; clear hf
  have HE := Lib.hid e; clear e
  obtain ⟨o, p, q, v, x, y, s⟩ := f
  go_enter Tryz.func91, Tryz.ntmps91
  go_upto_region 1 with fail
  change Code.wp _ _ _ _ (bx3 w W D J S ⟨o, p, q, v, x, y, s⟩)
  generalize bx3 w W D J S ⟨o, p, q, v, x, y, s⟩ = w0 at BX BF B0 Z hz H ⊢
  go_wp2_with fail
  refine (clone_any A n c l w0 H.out HN.out HS.out).mono ?_
  rintro _ w1 ⟨A1, c1, rfl, hr1, z1⟩
  have HR1 := Lib.hid hr1
  have HZ1 := Lib.hid z1
  obtain ⟨_, b0, b1, b2, b3⟩ := BX.below z1
  have lb := (BX.below z1).1
  obtain ⟨a0, a1, a2, a3, a4, a5, a6⟩ := (BF.after z1).cells
  have la := (BF.after z1).lt
  clear hr1
  go_wp2_with fail
  refine (Tells.of (goes_any W D J S 2 4 A1 n c1 l ⟨o, p, q, v, x, y, s⟩ _ HN.out) (v' := .bool true) (by rw [HG.out])).mono ?_
  rintro _ w3 ⟨rfl, z3⟩
  have HR3 := Lib.hid (HR1.out.below z3)
  have HZ3 := Lib.hid (keep_call z3 HZ1.out)
  clear a0 a1 a2 a3 a4 a5 a6 la b0 b1 b2 b3 lb z1 z3 HR1 HZ1
  obtain ⟨_, b0, b1, b2, b3⟩ := BX.below HZ3.out
  have lb := (BX.below HZ3.out).1
  obtain ⟨a0, a1, a2, a3, a4, a5, a6⟩ := (BF.after HZ3.out).cells
  have la := (BF.after HZ3.out).lt
  go_wp2_with fail
  refine (snext_n (lo := w0.heap.size) HR3.out HN.out HS.out HZ3.out.size HG.out HF.out HE.out).mono ?_
  rintro _ w5 ⟨A5, c5, rfl, hr5, z5⟩
  have HR5 := Lib.hid hr5
  have z50 := keep_call z5 HZ3.out
  have B05 := B0.after z50
  clear a0 a1 a2 a3 a4 a5 a6 la b0 b1 b2 b3 lb hr5 z5
  obtain ⟨d0, d1, d2, d3, d4, d5, d6⟩ := B05.cells
  have ld := B05.lt
  have fz := B05.free
  have HZ5 := Lib.hid (Z.trans (z50.mono (by omega)))
  have hl2 : w.heap.size ≤ w.heap.size + 1 + 1 := by omega
  have HH2 := Lib.hid (show w.heap.size + 1 + 1 < w0.heap.size by omega)
  have HHZ := Lib.hid (show w.heap.size ≤ w0.heap.size by omega)
  clear hz z50
  go_wp2
  change bodyPost _ _ _ _ _ (pf w5 (w.heap.size + 1 + 1) f')
  refine bodyPost_ret (results_fr Tryz.results91 _ rfl (B05.pf _)) rfl ?_
  exact ⟨A5, c5, rfl, (HR5.out.pf HH2.out _).mono HHZ.out, below_pf HZ5.out hl2 _⟩
/-- A step, where the outcome is known. -/
theorem steal_n {W D J S : Int} {A : Option Addr} {n c : Nat} {l : List Int} {f : Fr} {w : World} (h : Rd w A l) (hn : l.length = n) (hs : n ≤ 500) (hf : UF f) {l' : List Int} {f' : Fr} (e : stealS W D J S l f = (l', f')) :
    Calls Tryz.prog 91 #[cf W D J S, .slice A n c, fv f] w fun e w' => ∃ A' c', e = .returned (.tuple #[.slice A' n c', fv f']) ∧ Rn w.heap.size w' A' l' ∧ Below w.heap.size w w' := by
  cases hg : goes W D J S l f 2 4
  · have e2 : stealS W D J S l f = (l, f) := by unfold stealS; rw [hg]; rfl
    rw [e2] at e
    injection e with e1 e2
    rw [← e1, ← e2]
    exact stealc_leave W D J S A n c l f w h hn hs hg
  · exact stealc_goes W D J S A n c l f l' f' w h hn hs hg hf e
end Go.Proofs.YtlpkccpijloidaaGreat
