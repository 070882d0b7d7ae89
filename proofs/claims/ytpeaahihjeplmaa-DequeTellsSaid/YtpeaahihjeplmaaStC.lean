/- A steal's next, path by path. -/
import Derived.Test.YtpeaahihjeplmaaStB
import Derived.LoopN
import Derived.Deep.DeepCutAuto
namespace Go.Proofs.Ytpeaahihjeplmaa
open Go.RowKit Go.Deep
attribute [local go_sem] run_makeFunc run_store_func index_fn0 index_fn1 index_fn2 index_fn3
set_option maxRecDepth 100000 in
set_option maxHeartbeats 4000000 in
theorem snext_0 (lo : Nat) (W D J S o q v x y s : Int) (A : Option Addr) (n c : Nat) (l : List Int) (w : World) (h : Rn lo w A l) (hn : l.length = n) (hs : n ≤ 500) (hlo : lo ≤ w.heap.size) :
    Calls Try.prog 58 #[cf W D J S, .slice A n c, fv ⟨o, 0, q, v, x, y, s⟩] w (RetQ lo w n l ⟨o, 1, q, v, x, at0 l (ow W D J S q 0), s⟩) := by
  have NX := Lib.hid (boxes8 (W := W) (D := D) (J := J) (S := S) (c := c) (⟨o, 0, q, v, x, y, s⟩ : Fr) h hn)
  have HS := Lib.hid hs
  have HLO := Lib.hid hlo
  clear h hs hn hlo
  go_enter Try.func58, Try.ntmps58
  go_wp2
  go_step3
  go_wp2
  go_step3
  go_wp2
  change Code.wp _ _ _ _ (bx8 w W D J S (.slice A n c) ⟨o, 0, q, v, x, y, s⟩)
  generalize bx8 w W D J S (.slice A n c) ⟨o, 0, q, v, x, y, s⟩ = w0 at NX ⊢
  obtain ⟨_, b0, b1, b2, b3⟩ := NX.out.bx
  obtain ⟨d0, d1, d2, d3, d4, d5, d6⟩ := NX.out.bf.cells
  obtain ⟨lx, lm, lf, lr⟩ := NX.out.facts
  have m0 := NX.out.bm.cell
  have fzf := NX.out.bf.free
  have fzr := NX.out.br.free
  obtain ⟨r0, r1, r2, r3, r4, r5, r6⟩ := NX.out.br.cells
  try simp only at d0 d1 d2 d3 d4 d5 d6
  refine wp_loop_rounds 1 ?_
  rw [rounds_succ]
  go_upto_region 10 with fail
  clear b0 b1 b2 b3 d0 d1 d2 d3 d4 d5 d6 lx lm lf lr m0 fzf fzr r0 r1 r2 r3 r4 r5 r6
  have NY := Lib.hid (NX.out.setPc 1)
  clear NX
  have NX := Lib.hid NY.out
  clear NY
  change Code.wp _ _ _ _ (w0.setCell ⟨w.heap.size + 1 + 1, 1, none⟩ (.int .i64 1))
  generalize w0.setCell ⟨w.heap.size + 1 + 1, 1, none⟩ (.int .i64 1) = w1 at NX ⊢
  obtain ⟨_, b0, b1, b2, b3⟩ := NX.out.bx
  obtain ⟨d0, d1, d2, d3, d4, d5, d6⟩ := NX.out.bf.cells
  obtain ⟨lx, lm, lf, lr⟩ := NX.out.facts
  have m0 := NX.out.bm.cell
  have fzf := NX.out.bf.free
  have fzr := NX.out.br.free
  obtain ⟨r0, r1, r2, r3, r4, r5, r6⟩ := NX.out.br.cells
  try simp only at d0 d1 d2 d3 d4 d5 d6
  go_wp2_with fail
  refine (deed_top _ _ _ _ ⟨o, 1, q, v, x, y, s⟩ W D J S A n c l _ NX.out.c4 NX.out.bm NX.out.bx NX.out.bf NX.out.rz.rd NX.out.nl (by omega) (by omega) HS.out).mono ?_
  rintro _ w2 ⟨rfl, hb, hk⟩
  clear b0 b1 b2 b3 d0 d1 d2 d3 d4 d5 d6 lx lm lf lr m0 fzf fzr r0 r1 r2 r3 r4 r5 r6
  have NY := Lib.hid (NX.out.kf hb hk)
  clear NX
  have NX := Lib.hid NY.out
  clear NY
  obtain ⟨_, b0, b1, b2, b3⟩ := NX.out.bx
  obtain ⟨d0, d1, d2, d3, d4, d5, d6⟩ := NX.out.bf.cells
  obtain ⟨lx, lm, lf, lr⟩ := NX.out.facts
  have m0 := NX.out.bm.cell
  have fzf := NX.out.bf.free
  have fzr := NX.out.br.free
  obtain ⟨r0, r1, r2, r3, r4, r5, r6⟩ := NX.out.br.cells
  try simp only at d0 d1 d2 d3 d4 d5 d6
  go_wp2
  go_region
  all_goals
    go_wp2
    rw [Exit.noGoto_ret]
    change bodyPost _ _ _ _ _ (pf w2 (w.heap.size + 1 + 1 + 1) ⟨o, 1, q, v, x, at0 l (ow W D J S q 0), s⟩).drew
    have NB := NX.out.back ⟨o, 1, q, v, x, at0 l (ow W D J S q 0), s⟩
    refine bodyPost_ret (results_fr Try.results58 _ rfl NB.1) rfl ?_
    exact ⟨A, c, rfl, NB.2.1, NB.2.2⟩
set_option maxRecDepth 100000 in
set_option maxHeartbeats 4000000 in
theorem snext_1t (lo : Nat) (W D J S o q v x y s : Int) (A : Option Addr) (n c : Nat) (l : List Int) (w : World) (h : Rn lo w A l) (hn : l.length = n) (hs : n ≤ 500) (hlo : lo ≤ w.heap.size) (d : decide (far (at0 l (ow W D J S q 1)) y ≤ 0) = true) :
    Calls Try.prog 58 #[cf W D J S, .slice A n c, fv ⟨o, 1, q, v, x, y, s⟩] w (RetQ lo w n l (ed ⟨o, 2, q, v, at0 l (ow W D J S q 1), y, s⟩ 3 0)) := by
  have NX := Lib.hid (boxes8 (W := W) (D := D) (J := J) (S := S) (c := c) (⟨o, 1, q, v, x, y, s⟩ : Fr) h hn)
  have HS := Lib.hid hs
  have HLO := Lib.hid hlo
  have Hd := Lib.hid d
  clear h hs hn hlo d
  go_enter Try.func58, Try.ntmps58
  go_wp2
  go_step3
  go_wp2
  go_step3
  go_wp2
  change Code.wp _ _ _ _ (bx8 w W D J S (.slice A n c) ⟨o, 1, q, v, x, y, s⟩)
  generalize bx8 w W D J S (.slice A n c) ⟨o, 1, q, v, x, y, s⟩ = w0 at NX ⊢
  obtain ⟨_, b0, b1, b2, b3⟩ := NX.out.bx
  obtain ⟨d0, d1, d2, d3, d4, d5, d6⟩ := NX.out.bf.cells
  obtain ⟨lx, lm, lf, lr⟩ := NX.out.facts
  have m0 := NX.out.bm.cell
  have fzf := NX.out.bf.free
  have fzr := NX.out.br.free
  obtain ⟨r0, r1, r2, r3, r4, r5, r6⟩ := NX.out.br.cells
  try simp only at d0 d1 d2 d3 d4 d5 d6
  refine wp_loop_rounds 2 ?_
  rw [rounds_succ]
  go_wp2
  rw [rounds_succ]
  go_upto_region 10 with fail
  clear b0 b1 b2 b3 d0 d1 d2 d3 d4 d5 d6 lx lm lf lr m0 fzf fzr r0 r1 r2 r3 r4 r5 r6
  have NY := Lib.hid (NX.out.setPc 2)
  clear NX
  have NX := Lib.hid NY.out
  clear NY
  change Code.wp _ _ _ _ (w0.setCell ⟨w.heap.size + 1 + 1, 1, none⟩ (.int .i64 2))
  generalize w0.setCell ⟨w.heap.size + 1 + 1, 1, none⟩ (.int .i64 2) = w1 at NX ⊢
  obtain ⟨_, b0, b1, b2, b3⟩ := NX.out.bx
  obtain ⟨d0, d1, d2, d3, d4, d5, d6⟩ := NX.out.bf.cells
  obtain ⟨lx, lm, lf, lr⟩ := NX.out.facts
  have m0 := NX.out.bm.cell
  have fzf := NX.out.bf.free
  have fzr := NX.out.br.free
  obtain ⟨r0, r1, r2, r3, r4, r5, r6⟩ := NX.out.br.cells
  try simp only at d0 d1 d2 d3 d4 d5 d6
  go_wp2_with fail
  refine (deed_bott _ _ _ _ _ ⟨o, 2, q, v, x, y, s⟩ W D J S A n c l Hd.out _ NX.out.c4 NX.out.bm NX.out.bx NX.out.bf NX.out.rz.rd NX.out.nl NX.out.c5 (by omega) (by omega) (by omega) HS.out).mono ?_
  rintro _ w2 ⟨rfl, hb, hk⟩
  clear b0 b1 b2 b3 d0 d1 d2 d3 d4 d5 d6 lx lm lf lr m0 fzf fzr r0 r1 r2 r3 r4 r5 r6
  have NY := Lib.hid (NX.out.kf hb hk)
  clear NX
  have NX := Lib.hid NY.out
  clear NY
  obtain ⟨_, b0, b1, b2, b3⟩ := NX.out.bx
  obtain ⟨d0, d1, d2, d3, d4, d5, d6⟩ := NX.out.bf.cells
  obtain ⟨lx, lm, lf, lr⟩ := NX.out.facts
  have m0 := NX.out.bm.cell
  have fzf := NX.out.bf.free
  have fzr := NX.out.br.free
  obtain ⟨r0, r1, r2, r3, r4, r5, r6⟩ := NX.out.br.cells
  try simp only at d0 d1 d2 d3 d4 d5 d6
  go_wp2
  go_region
  all_goals
    go_wp2
    rw [Exit.noGoto_ret]
    change bodyPost _ _ _ _ _ (pf w2 (w.heap.size + 1 + 1 + 1) (ed ⟨o, 2, q, v, at0 l (ow W D J S q 1), y, s⟩ 3 0)).drew
    have NB := NX.out.back (ed ⟨o, 2, q, v, at0 l (ow W D J S q 1), y, s⟩ 3 0)
    refine bodyPost_ret (results_fr Try.results58 _ rfl NB.1) rfl ?_
    exact ⟨A, c, rfl, NB.2.1, NB.2.2⟩
set_option maxRecDepth 100000 in
set_option maxHeartbeats 4000000 in
theorem snext_1f (lo : Nat) (W D J S o q v x y s : Int) (A : Option Addr) (n c : Nat) (l : List Int) (w : World) (h : Rn lo w A l) (hn : l.length = n) (hs : n ≤ 500) (hlo : lo ≤ w.heap.size) (d : decide (far (at0 l (ow W D J S q 1)) y ≤ 0) = false) :
    Calls Try.prog 58 #[cf W D J S, .slice A n c, fv ⟨o, 1, q, v, x, y, s⟩] w (RetQ lo w n l ⟨o, 2, q, v, at0 l (ow W D J S q 1), y, s⟩) := by
  have NX := Lib.hid (boxes8 (W := W) (D := D) (J := J) (S := S) (c := c) (⟨o, 1, q, v, x, y, s⟩ : Fr) h hn)
  have HS := Lib.hid hs
  have HLO := Lib.hid hlo
  have Hd := Lib.hid d
  clear h hs hn hlo d
  go_enter Try.func58, Try.ntmps58
  go_wp2
  go_step3
  go_wp2
  go_step3
  go_wp2
  change Code.wp _ _ _ _ (bx8 w W D J S (.slice A n c) ⟨o, 1, q, v, x, y, s⟩)
  generalize bx8 w W D J S (.slice A n c) ⟨o, 1, q, v, x, y, s⟩ = w0 at NX ⊢
  obtain ⟨_, b0, b1, b2, b3⟩ := NX.out.bx
  obtain ⟨d0, d1, d2, d3, d4, d5, d6⟩ := NX.out.bf.cells
  obtain ⟨lx, lm, lf, lr⟩ := NX.out.facts
  have m0 := NX.out.bm.cell
  have fzf := NX.out.bf.free
  have fzr := NX.out.br.free
  obtain ⟨r0, r1, r2, r3, r4, r5, r6⟩ := NX.out.br.cells
  try simp only at d0 d1 d2 d3 d4 d5 d6
  refine wp_loop_rounds 2 ?_
  rw [rounds_succ]
  go_wp2
  rw [rounds_succ]
  go_upto_region 10 with fail
  clear b0 b1 b2 b3 d0 d1 d2 d3 d4 d5 d6 lx lm lf lr m0 fzf fzr r0 r1 r2 r3 r4 r5 r6
  have NY := Lib.hid (NX.out.setPc 2)
  clear NX
  have NX := Lib.hid NY.out
  clear NY
  change Code.wp _ _ _ _ (w0.setCell ⟨w.heap.size + 1 + 1, 1, none⟩ (.int .i64 2))
  generalize w0.setCell ⟨w.heap.size + 1 + 1, 1, none⟩ (.int .i64 2) = w1 at NX ⊢
  obtain ⟨_, b0, b1, b2, b3⟩ := NX.out.bx
  obtain ⟨d0, d1, d2, d3, d4, d5, d6⟩ := NX.out.bf.cells
  obtain ⟨lx, lm, lf, lr⟩ := NX.out.facts
  have m0 := NX.out.bm.cell
  have fzf := NX.out.bf.free
  have fzr := NX.out.br.free
  obtain ⟨r0, r1, r2, r3, r4, r5, r6⟩ := NX.out.br.cells
  try simp only at d0 d1 d2 d3 d4 d5 d6
  go_wp2_with fail
  refine (deed_botf _ _ _ _ _ ⟨o, 2, q, v, x, y, s⟩ W D J S A n c l Hd.out _ NX.out.c4 NX.out.bm NX.out.bx NX.out.bf NX.out.rz.rd NX.out.nl NX.out.c5 (by omega) (by omega) (by omega) HS.out).mono ?_
  rintro _ w2 ⟨rfl, hb, hk⟩
  clear b0 b1 b2 b3 d0 d1 d2 d3 d4 d5 d6 lx lm lf lr m0 fzf fzr r0 r1 r2 r3 r4 r5 r6
  have NY := Lib.hid (NX.out.kf hb hk)
  clear NX
  have NX := Lib.hid NY.out
  clear NY
  obtain ⟨_, b0, b1, b2, b3⟩ := NX.out.bx
  obtain ⟨d0, d1, d2, d3, d4, d5, d6⟩ := NX.out.bf.cells
  obtain ⟨lx, lm, lf, lr⟩ := NX.out.facts
  have m0 := NX.out.bm.cell
  have fzf := NX.out.bf.free
  have fzr := NX.out.br.free
  obtain ⟨r0, r1, r2, r3, r4, r5, r6⟩ := NX.out.br.cells
  try simp only at d0 d1 d2 d3 d4 d5 d6
  go_wp2
  go_region
  all_goals
    go_wp2
    rw [Exit.noGoto_ret]
    change bodyPost _ _ _ _ _ (pf w2 (w.heap.size + 1 + 1 + 1) ⟨o, 2, q, v, at0 l (ow W D J S q 1), y, s⟩).drew
    have NB := NX.out.back ⟨o, 2, q, v, at0 l (ow W D J S q 1), y, s⟩
    refine bodyPost_ret (results_fr Try.results58 _ rfl NB.1) rfl ?_
    exact ⟨A, c, rfl, NB.2.1, NB.2.2⟩
set_option maxRecDepth 100000 in
set_option maxHeartbeats 4000000 in
theorem snext_2 (lo : Nat) (W D J S o q v x y s : Int) (A : Option Addr) (n c : Nat) (l : List Int) (w : World) (h : Rn lo w A l) (hn : l.length = n) (hs : n ≤ 500) (hlo : lo ≤ w.heap.size) (uy : U y) :
    Calls Try.prog 58 #[cf W D J S, .slice A n c, fv ⟨o, 2, q, v, x, y, s⟩] w (RetQ lo w n l ⟨o, 3, q, at0 l (sl W D J S q y), x, y, s⟩) := by
  have NX := Lib.hid (boxes8 (W := W) (D := D) (J := J) (S := S) (c := c) (⟨o, 2, q, v, x, y, s⟩ : Fr) h hn)
  have HS := Lib.hid hs
  have HLO := Lib.hid hlo
  have Huy := Lib.hid uy
  clear h hs hn hlo uy
  go_enter Try.func58, Try.ntmps58
  go_wp2
  go_step3
  go_wp2
  go_step3
  go_wp2
  change Code.wp _ _ _ _ (bx8 w W D J S (.slice A n c) ⟨o, 2, q, v, x, y, s⟩)
  generalize bx8 w W D J S (.slice A n c) ⟨o, 2, q, v, x, y, s⟩ = w0 at NX ⊢
  obtain ⟨_, b0, b1, b2, b3⟩ := NX.out.bx
  obtain ⟨d0, d1, d2, d3, d4, d5, d6⟩ := NX.out.bf.cells
  obtain ⟨lx, lm, lf, lr⟩ := NX.out.facts
  have m0 := NX.out.bm.cell
  have fzf := NX.out.bf.free
  have fzr := NX.out.br.free
  obtain ⟨r0, r1, r2, r3, r4, r5, r6⟩ := NX.out.br.cells
  try simp only at d0 d1 d2 d3 d4 d5 d6
  refine wp_loop_rounds 3 ?_
  rw [rounds_succ]
  go_wp2
  rw [rounds_succ]
  go_wp2
  rw [rounds_succ]
  go_upto_region 10 with fail
  clear b0 b1 b2 b3 d0 d1 d2 d3 d4 d5 d6 lx lm lf lr m0 fzf fzr r0 r1 r2 r3 r4 r5 r6
  have NY := Lib.hid (NX.out.setPc 3)
  clear NX
  have NX := Lib.hid NY.out
  clear NY
  change Code.wp _ _ _ _ (w0.setCell ⟨w.heap.size + 1 + 1, 1, none⟩ (.int .i64 3))
  generalize w0.setCell ⟨w.heap.size + 1 + 1, 1, none⟩ (.int .i64 3) = w1 at NX ⊢
  obtain ⟨_, b0, b1, b2, b3⟩ := NX.out.bx
  obtain ⟨d0, d1, d2, d3, d4, d5, d6⟩ := NX.out.bf.cells
  obtain ⟨lx, lm, lf, lr⟩ := NX.out.facts
  have m0 := NX.out.bm.cell
  have fzf := NX.out.bf.free
  have fzr := NX.out.br.free
  obtain ⟨r0, r1, r2, r3, r4, r5, r6⟩ := NX.out.br.cells
  try simp only at d0 d1 d2 d3 d4 d5 d6
  go_wp2_with fail
  refine (deed_val _ _ _ _ ⟨o, 3, q, v, x, y, s⟩ W D J S A n c l Huy.out _ NX.out.c4 NX.out.bm NX.out.bx NX.out.bf NX.out.rz.rd NX.out.nl (by omega) (by omega) HS.out).mono ?_
  rintro _ w2 ⟨rfl, hb, hk⟩
  clear b0 b1 b2 b3 d0 d1 d2 d3 d4 d5 d6 lx lm lf lr m0 fzf fzr r0 r1 r2 r3 r4 r5 r6
  have NY := Lib.hid (NX.out.kf hb hk)
  clear NX
  have NX := Lib.hid NY.out
  clear NY
  obtain ⟨_, b0, b1, b2, b3⟩ := NX.out.bx
  obtain ⟨d0, d1, d2, d3, d4, d5, d6⟩ := NX.out.bf.cells
  obtain ⟨lx, lm, lf, lr⟩ := NX.out.facts
  have m0 := NX.out.bm.cell
  have fzf := NX.out.bf.free
  have fzr := NX.out.br.free
  obtain ⟨r0, r1, r2, r3, r4, r5, r6⟩ := NX.out.br.cells
  try simp only at d0 d1 d2 d3 d4 d5 d6
  go_wp2
  go_region
  all_goals
    go_wp2
    rw [Exit.noGoto_ret]
    change bodyPost _ _ _ _ _ (pf w2 (w.heap.size + 1 + 1 + 1) ⟨o, 3, q, at0 l (sl W D J S q y), x, y, s⟩).drew
    have NB := NX.out.back ⟨o, 3, q, at0 l (sl W D J S q y), x, y, s⟩
    refine bodyPost_ret (results_fr Try.results58 _ rfl NB.1) rfl ?_
    exact ⟨A, c, rfl, NB.2.1, NB.2.2⟩
set_option maxRecDepth 100000 in
set_option maxHeartbeats 4000000 in
theorem snext_3y (lo : Nat) (W D J S o q v x y s : Int) (A : Option Addr) (n c : Nat) (l : List Int) (w : World) (h : Rn lo w A l) (hn : l.length = n) (hs : n ≤ 500) (hlo : lo ≤ w.heap.size) (T0 : List Int) (b : isAt l (ow W D J S q 0) y = true) (T : (if isAt l (ow W D J S q 0) y = true then put l (ow W D J S q 0) ((y + 1) % 18446744073709551616) else l) = T0) (L : T0.length = l.length) :
    Calls Try.prog 58 #[cf W D J S, .slice A n c, fv ⟨o, 3, q, v, x, y, s⟩] w (RetQ lo w n T0 (ed ⟨o, 4, q, v, x, y, s⟩ 1 v)) := by
  have NX := Lib.hid (boxes8 (W := W) (D := D) (J := J) (S := S) (c := c) (⟨o, 3, q, v, x, y, s⟩ : Fr) h hn)
  have HS := Lib.hid hs
  have HLO := Lib.hid hlo
  have Hb := Lib.hid b
  have HT := Lib.hid T
  have HL := Lib.hid L
  clear h hs hn hlo b T L
  go_enter Try.func58, Try.ntmps58
  go_wp2
  go_step3
  go_wp2
  go_step3
  go_wp2
  change Code.wp _ _ _ _ (bx8 w W D J S (.slice A n c) ⟨o, 3, q, v, x, y, s⟩)
  generalize bx8 w W D J S (.slice A n c) ⟨o, 3, q, v, x, y, s⟩ = w0 at NX ⊢
  obtain ⟨_, b0, b1, b2, b3⟩ := NX.out.bx
  obtain ⟨d0, d1, d2, d3, d4, d5, d6⟩ := NX.out.bf.cells
  obtain ⟨lx, lm, lf, lr⟩ := NX.out.facts
  have m0 := NX.out.bm.cell
  have fzf := NX.out.bf.free
  have fzr := NX.out.br.free
  obtain ⟨r0, r1, r2, r3, r4, r5, r6⟩ := NX.out.br.cells
  try simp only at d0 d1 d2 d3 d4 d5 d6
  refine wp_loop_rounds 4 ?_
  rw [rounds_succ]
  go_wp2
  rw [rounds_succ]
  go_wp2
  rw [rounds_succ]
  go_wp2
  rw [rounds_succ]
  go_upto_region 10 with fail
  clear b0 b1 b2 b3 d0 d1 d2 d3 d4 d5 d6 lx lm lf lr m0 fzf fzr r0 r1 r2 r3 r4 r5 r6
  have NY := Lib.hid (NX.out.setPc 4)
  clear NX
  have NX := Lib.hid NY.out
  clear NY
  change Code.wp _ _ _ _ (w0.setCell ⟨w.heap.size + 1 + 1, 1, none⟩ (.int .i64 4))
  generalize w0.setCell ⟨w.heap.size + 1 + 1, 1, none⟩ (.int .i64 4) = w1 at NX ⊢
  obtain ⟨_, b0, b1, b2, b3⟩ := NX.out.bx
  obtain ⟨d0, d1, d2, d3, d4, d5, d6⟩ := NX.out.bf.cells
  obtain ⟨lx, lm, lf, lr⟩ := NX.out.facts
  have m0 := NX.out.bm.cell
  have fzf := NX.out.bf.free
  have fzr := NX.out.br.free
  obtain ⟨r0, r1, r2, r3, r4, r5, r6⟩ := NX.out.br.cells
  try simp only at d0 d1 d2 d3 d4 d5 d6
  go_wp2_with fail
  refine (deed_raisey _ _ _ _ _ ⟨o, 4, q, v, x, y, s⟩ W D J S A n c l _ _ NX.out.c6 NX.out.c5 NX.out.bm NX.out.bx NX.out.bf NX.out.rz.rd NX.out.nl (by omega) (by omega) (by omega) HS.out Hb.out HT.out).mono ?_
  rintro _ w2 ⟨wm, k, rfl, hk, hB, hM, hK, hb, hk2⟩
  clear b0 b1 b2 b3 d0 d1 d2 d3 d4 d5 d6 lx lm lf lr m0 fzf fzr r0 r1 r2 r3 r4 r5 r6
  have NY := Lib.hid ((NX.out.stored hk hB hM hK HL.out HLO.out).kf hb hk2)
  clear NX
  have NX := Lib.hid NY.out
  clear NY
  obtain ⟨_, b0, b1, b2, b3⟩ := NX.out.bx
  obtain ⟨d0, d1, d2, d3, d4, d5, d6⟩ := NX.out.bf.cells
  obtain ⟨lx, lm, lf, lr⟩ := NX.out.facts
  have m0 := NX.out.bm.cell
  have fzf := NX.out.bf.free
  have fzr := NX.out.br.free
  obtain ⟨r0, r1, r2, r3, r4, r5, r6⟩ := NX.out.br.cells
  try simp only at d0 d1 d2 d3 d4 d5 d6
  go_wp2
  go_region
  all_goals
    go_wp2
    rw [Exit.noGoto_ret]
    change bodyPost _ _ _ _ _ (pf w2 (w.heap.size + 1 + 1 + 1) (ed ⟨o, 4, q, v, x, y, s⟩ 1 v)).drew
    have NB := NX.out.back (ed ⟨o, 4, q, v, x, y, s⟩ 1 v)
    refine bodyPost_ret (results_fr Try.results58 _ rfl NB.1) rfl ?_
    exact ⟨_, n, rfl, NB.2.1, NB.2.2⟩
set_option maxRecDepth 100000 in
set_option maxHeartbeats 4000000 in
theorem snext_3n (lo : Nat) (W D J S o q v x y s : Int) (A : Option Addr) (n c : Nat) (l : List Int) (w : World) (h : Rn lo w A l) (hn : l.length = n) (hs : n ≤ 500) (hlo : lo ≤ w.heap.size) (T0 : List Int) (b : isAt l (ow W D J S q 0) y = false) (T : (if isAt l (ow W D J S q 0) y = true then put l (ow W D J S q 0) ((y + 1) % 18446744073709551616) else l) = T0) (L : T0.length = l.length) :
    Calls Try.prog 58 #[cf W D J S, .slice A n c, fv ⟨o, 3, q, v, x, y, s⟩] w (RetQ lo w n T0 (ed ⟨o, 4, q, v, x, y, s⟩ 4 0)) := by
  have NX := Lib.hid (boxes8 (W := W) (D := D) (J := J) (S := S) (c := c) (⟨o, 3, q, v, x, y, s⟩ : Fr) h hn)
  have HS := Lib.hid hs
  have HLO := Lib.hid hlo
  have Hb := Lib.hid b
  have HT := Lib.hid T
  have HL := Lib.hid L
  clear h hs hn hlo b T L
  go_enter Try.func58, Try.ntmps58
  go_wp2
  go_step3
  go_wp2
  go_step3
  go_wp2
  change Code.wp _ _ _ _ (bx8 w W D J S (.slice A n c) ⟨o, 3, q, v, x, y, s⟩)
  generalize bx8 w W D J S (.slice A n c) ⟨o, 3, q, v, x, y, s⟩ = w0 at NX ⊢
  obtain ⟨_, b0, b1, b2, b3⟩ := NX.out.bx
  obtain ⟨d0, d1, d2, d3, d4, d5, d6⟩ := NX.out.bf.cells
  obtain ⟨lx, lm, lf, lr⟩ := NX.out.facts
  have m0 := NX.out.bm.cell
  have fzf := NX.out.bf.free
  have fzr := NX.out.br.free
  obtain ⟨r0, r1, r2, r3, r4, r5, r6⟩ := NX.out.br.cells
  try simp only at d0 d1 d2 d3 d4 d5 d6
  refine wp_loop_rounds 4 ?_
  rw [rounds_succ]
  go_wp2
  rw [rounds_succ]
  go_wp2
  rw [rounds_succ]
  go_wp2
  rw [rounds_succ]
  go_upto_region 10 with fail
  clear b0 b1 b2 b3 d0 d1 d2 d3 d4 d5 d6 lx lm lf lr m0 fzf fzr r0 r1 r2 r3 r4 r5 r6
  have NY := Lib.hid (NX.out.setPc 4)
  clear NX
  have NX := Lib.hid NY.out
  clear NY
  change Code.wp _ _ _ _ (w0.setCell ⟨w.heap.size + 1 + 1, 1, none⟩ (.int .i64 4))
  generalize w0.setCell ⟨w.heap.size + 1 + 1, 1, none⟩ (.int .i64 4) = w1 at NX ⊢
  obtain ⟨_, b0, b1, b2, b3⟩ := NX.out.bx
  obtain ⟨d0, d1, d2, d3, d4, d5, d6⟩ := NX.out.bf.cells
  obtain ⟨lx, lm, lf, lr⟩ := NX.out.facts
  have m0 := NX.out.bm.cell
  have fzf := NX.out.bf.free
  have fzr := NX.out.br.free
  obtain ⟨r0, r1, r2, r3, r4, r5, r6⟩ := NX.out.br.cells
  try simp only at d0 d1 d2 d3 d4 d5 d6
  go_wp2_with fail
  refine (deed_raisen _ _ _ _ _ ⟨o, 4, q, v, x, y, s⟩ W D J S A n c l _ _ NX.out.c6 NX.out.c5 NX.out.bm NX.out.bx NX.out.bf NX.out.rz.rd NX.out.nl (by omega) (by omega) (by omega) HS.out Hb.out HT.out).mono ?_
  rintro _ w2 ⟨wm, k, rfl, hk, hB, hM, hK, hb, hk2⟩
  clear b0 b1 b2 b3 d0 d1 d2 d3 d4 d5 d6 lx lm lf lr m0 fzf fzr r0 r1 r2 r3 r4 r5 r6
  have NY := Lib.hid ((NX.out.stored hk hB hM hK HL.out HLO.out).kf hb hk2)
  clear NX
  have NX := Lib.hid NY.out
  clear NY
  obtain ⟨_, b0, b1, b2, b3⟩ := NX.out.bx
  obtain ⟨d0, d1, d2, d3, d4, d5, d6⟩ := NX.out.bf.cells
  obtain ⟨lx, lm, lf, lr⟩ := NX.out.facts
  have m0 := NX.out.bm.cell
  have fzf := NX.out.bf.free
  have fzr := NX.out.br.free
  obtain ⟨r0, r1, r2, r3, r4, r5, r6⟩ := NX.out.br.cells
  try simp only at d0 d1 d2 d3 d4 d5 d6
  go_wp2
  go_region
  all_goals
    go_wp2
    rw [Exit.noGoto_ret]
    change bodyPost _ _ _ _ _ (pf w2 (w.heap.size + 1 + 1 + 1) (ed ⟨o, 4, q, v, x, y, s⟩ 4 0)).drew
    have NB := NX.out.back (ed ⟨o, 4, q, v, x, y, s⟩ 4 0)
    refine bodyPost_ret (results_fr Try.results58 _ rfl NB.1) rfl ?_
    exact ⟨_, n, rfl, NB.2.1, NB.2.2⟩
end Go.Proofs.Ytpeaahihjeplmaa
