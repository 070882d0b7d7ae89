/- A pop's next, the paths on which a call ends. -/
import Derived.Test.YtpeaahihjeplmaaPoB
import Derived.Deep.DeepCutAuto
namespace Go.Proofs.Ytpeaahihjeplmaa
open Go.RowKit Go.Deep
attribute [local go_sem] exTo_normal exTo_exit exTo_ret exTo_goto run_makeFunc run_store_func
set_option maxRecDepth 100000 in
set_option maxHeartbeats 4000000 in
theorem next_3t (lo : Nat) (W D J S o q v x y s : Int) (A : Option Addr) (n c : Nat) (l : List Int) (w : World) (h : Rn lo w A l) (hn : l.length = n) (hs : n ≤ 500) (hlo : lo ≤ w.heap.size) (ux : U x) (d : (x != y) = true) :
    Calls Try.prog 57 #[cf W D J S, .slice A n c, fv ⟨o, 3, q, v, x, y, s⟩] w (RetQ lo w n l (ed ⟨o, 3, q, at0 l (sl W D J S q x), x, y, s⟩ 1 (at0 l (sl W D J S q x)))) := by
  have NX := Lib.hid (boxes4 (W := W) (D := D) (J := J) (S := S) (c := c) (⟨o, 3, q, v, x, y, s⟩ : Fr) h hn)
  have HS := Lib.hid hs
  have HLO := Lib.hid hlo
  have Hux := Lib.hid ux
  have Hd := Lib.hid d
  clear h hs hn hlo ux d
  go_enter Try.func57, Try.ntmps57
  go_wp2
  change Code.wp _ _ _ _ (bx4 w W D J S (.slice A n c) ⟨o, 3, q, v, x, y, s⟩)
  generalize bx4 w W D J S (.slice A n c) ⟨o, 3, q, v, x, y, s⟩ = w0 at NX ⊢
  refine wp_scope_to _ (fun _ _ _ h => h) ?_
  generalize hJ : (fun (l : Nat) (a : Act) (w : World) => ∃ rest, findLabel _ l = some rest ∧ rest.wp _ _ a w) = JJ
  have HJ := Lib.hid hJ
  clear hJ
  obtain ⟨_, b0, b1, b2, b3⟩ := NX.out.bx
  obtain ⟨d0, d1, d2, d3, d4, d5, d6⟩ := NX.out.bf.cells
  obtain ⟨lx, lm, lf, lr⟩ := NX.out.facts
  have m0 := NX.out.bm.cell
  have fzf := NX.out.bf.free
  have fzr := NX.out.br.free
  obtain ⟨r0, r1, r2, r3, r4, r5, r6⟩ := NX.out.br.cells
  simp only at d0 d1 d2 d3 d4 d5 d6
  have hd := Hd.out
  go_wp2_with fail
  refine (slot_any W D J S q x _ Hux.out).mono ?_
  rintro _ w1 ⟨rfl, z⟩
  clear b0 b1 b2 b3 d0 d1 d2 d3 d4 d5 d6 lx lm lf lr m0 fzf fzr r0 r1 r2 r3 r4 r5 r6
  have NY := Lib.hid (NX.out.call z)
  clear NX
  have NX := Lib.hid NY.out
  clear NY
  clear z
  obtain ⟨_, b0, b1, b2, b3⟩ := NX.out.bx
  obtain ⟨d0, d1, d2, d3, d4, d5, d6⟩ := NX.out.bf.cells
  obtain ⟨lx, lm, lf, lr⟩ := NX.out.facts
  have m0 := NX.out.bm.cell
  have fzf := NX.out.bf.free
  have fzr := NX.out.br.free
  obtain ⟨r0, r1, r2, r3, r4, r5, r6⟩ := NX.out.br.cells
  simp only at d0 d1 d2 d3 d4 d5 d6
  go_wp2_with fail
  refine (nload_n NX.out.bm NX.out.ry.rd NX.out.nl HS.out).mono ?_
  rintro _ w2 ⟨rfl, z⟩
  clear b0 b1 b2 b3 d0 d1 d2 d3 d4 d5 d6 lx lm lf lr m0 fzf fzr r0 r1 r2 r3 r4 r5 r6
  have NY := Lib.hid (NX.out.call z)
  clear NX
  have NX := Lib.hid NY.out
  clear NY
  clear z
  obtain ⟨_, b0, b1, b2, b3⟩ := NX.out.bx
  obtain ⟨d0, d1, d2, d3, d4, d5, d6⟩ := NX.out.bf.cells
  obtain ⟨lx, lm, lf, lr⟩ := NX.out.facts
  have m0 := NX.out.bm.cell
  have fzf := NX.out.bf.free
  have fzr := NX.out.br.free
  obtain ⟨r0, r1, r2, r3, r4, r5, r6⟩ := NX.out.br.cells
  simp only at d0 d1 d2 d3 d4 d5 d6
  go_wp2
  clear b0 b1 b2 b3 d0 d1 d2 d3 d4 d5 d6 lx lm lf lr m0 fzf fzr r0 r1 r2 r3 r4 r5 r6
  have NY := Lib.hid (NX.out.setVal (at0 l (sl W D J S q x)))
  clear NX
  have NX := Lib.hid NY.out
  clear NY
  change Code.wp _ _ _ _ (w2.setCell ⟨w.heap.size + 1 + 1, 3, none⟩ (.int .u64 (at0 l (sl W D J S q x))))
  generalize w2.setCell ⟨w.heap.size + 1 + 1, 3, none⟩ (.int .u64 (at0 l (sl W D J S q x))) = w3 at NX ⊢
  obtain ⟨_, b0, b1, b2, b3⟩ := NX.out.bx
  obtain ⟨d0, d1, d2, d3, d4, d5, d6⟩ := NX.out.bf.cells
  obtain ⟨lx, lm, lf, lr⟩ := NX.out.facts
  have m0 := NX.out.bm.cell
  have fzf := NX.out.bf.free
  have fzr := NX.out.br.free
  obtain ⟨r0, r1, r2, r3, r4, r5, r6⟩ := NX.out.br.cells
  simp only at d0 d1 d2 d3 d4 d5 d6
  go_step3
  change JJ 2 _ _
  rw [← HJ.out]
  refine ⟨_, rfl, ?_⟩
  clear HJ
  go_wp2
  go_region_with (go_at_call 93; (refine (end_any ⟨o, 3, q, at0 l (sl W D J S q x), x, y, s⟩ _ _ _).mono ?_); rintro _ w9 ⟨rfl, z⟩; have NY := Lib.hid (NX.out.drew.call z); clear z b0 b1 b2 b3 d0 d1 d2 d3 d4 d5 d6 lx lm lf lr m0 fzf fzr r0 r1 r2 r3 r4 r5 r6; obtain ⟨_, b0, b1, b2, b3⟩ := NY.out.bx; obtain ⟨d0, d1, d2, d3, d4, d5, d6⟩ := NY.out.bf.cells; obtain ⟨lx, lm, lf, lr⟩ := NY.out.facts; have m0 := NY.out.bm.cell; have fzf := NY.out.bf.free; have fzr := NY.out.br.free; obtain ⟨r0, r1, r2, r3, r4, r5, r6⟩ := NY.out.br.cells; simp only at d0 d1 d2 d3 d4 d5 d6)
  all_goals
    go_wp2
    rw [Exit.noGoto_ret]
    change bodyPost _ _ _ _ _ (pf w9 (w.heap.size + 1 + 1 + 1) (ed ⟨o, 3, q, at0 l (sl W D J S q x), x, y, s⟩ 1 (at0 l (sl W D J S q x))))
    have NB := NY.out.back2 (ed ⟨o, 3, q, at0 l (sl W D J S q x), x, y, s⟩ 1 (at0 l (sl W D J S q x)))
    exact bodyPost_ret (results_fr Try.results57 _ rfl NB.1) rfl NB.2
set_option maxRecDepth 100000 in
set_option maxHeartbeats 4000000 in
theorem next_5 (lo : Nat) (W D J S o q v x y s : Int) (A : Option Addr) (n c : Nat) (l : List Int) (w : World) (h : Rn lo w A l) (hn : l.length = n) (hs : n ≤ 500) (hlo : lo ≤ w.heap.size) :
    Calls Try.prog 57 #[cf W D J S, .slice A n c, fv ⟨o, 5, q, v, x, y, s⟩] w (RetQ lo w n (put l (ow W D J S q 1) ((x + 1) % 18446744073709551616)) (ed ⟨o, 5, q, v, x, y, s⟩ 1 v)) := by
  have NX := Lib.hid (boxes4 (W := W) (D := D) (J := J) (S := S) (c := c) (⟨o, 5, q, v, x, y, s⟩ : Fr) h hn)
  have HS := Lib.hid hs
  have HLO := Lib.hid hlo
  clear h hs hn hlo
  go_enter Try.func57, Try.ntmps57
  go_wp2
  change Code.wp _ _ _ _ (bx4 w W D J S (.slice A n c) ⟨o, 5, q, v, x, y, s⟩)
  generalize bx4 w W D J S (.slice A n c) ⟨o, 5, q, v, x, y, s⟩ = w0 at NX ⊢
  refine wp_scope_to _ (fun _ _ _ h => h) ?_
  generalize hJ : (fun (l : Nat) (a : Act) (w : World) => ∃ rest, findLabel _ l = some rest ∧ rest.wp _ _ a w) = JJ
  have HJ := Lib.hid hJ
  clear hJ
  obtain ⟨_, b0, b1, b2, b3⟩ := NX.out.bx
  obtain ⟨d0, d1, d2, d3, d4, d5, d6⟩ := NX.out.bf.cells
  obtain ⟨lx, lm, lf, lr⟩ := NX.out.facts
  have m0 := NX.out.bm.cell
  have fzf := NX.out.bf.free
  have fzr := NX.out.br.free
  obtain ⟨r0, r1, r2, r3, r4, r5, r6⟩ := NX.out.br.cells
  simp only at d0 d1 d2 d3 d4 d5 d6
  go_wp2_with fail
  refine (nset_n ((x + 1) % 18446744073709551616) NX.out.bm NX.out.bx NX.out.bf NX.out.ry.rd NX.out.nl (by omega) (by omega) HS.out).mono ?_
  rintro _ w1 ⟨k, rfl, hk, hB, hM, hK⟩
  clear b0 b1 b2 b3 d0 d1 d2 d3 d4 d5 d6 lx lm lf lr m0 fzf fzr r0 r1 r2 r3 r4 r5 r6
  have NY := Lib.hid (NX.out.stored hk hB hM hK (len_put _ _ _) HLO.out)
  clear hk hB hM hK
  clear NX
  have NX := Lib.hid NY.out
  clear NY
  skip
  obtain ⟨_, b0, b1, b2, b3⟩ := NX.out.bx
  obtain ⟨d0, d1, d2, d3, d4, d5, d6⟩ := NX.out.bf.cells
  obtain ⟨lx, lm, lf, lr⟩ := NX.out.facts
  have m0 := NX.out.bm.cell
  have fzf := NX.out.bf.free
  have fzr := NX.out.br.free
  obtain ⟨r0, r1, r2, r3, r4, r5, r6⟩ := NX.out.br.cells
  simp only at d0 d1 d2 d3 d4 d5 d6
  go_wp2
  go_step3
  change JJ 2 _ _
  rw [← HJ.out]
  refine ⟨_, rfl, ?_⟩
  clear HJ
  go_wp2
  go_region_with (go_at_call 93; (refine (end_any ⟨o, 5, q, v, x, y, s⟩ _ _ _).mono ?_); rintro _ w9 ⟨rfl, z⟩; have NY := Lib.hid (NX.out.drew.call z); clear z b0 b1 b2 b3 d0 d1 d2 d3 d4 d5 d6 lx lm lf lr m0 fzf fzr r0 r1 r2 r3 r4 r5 r6; obtain ⟨_, b0, b1, b2, b3⟩ := NY.out.bx; obtain ⟨d0, d1, d2, d3, d4, d5, d6⟩ := NY.out.bf.cells; obtain ⟨lx, lm, lf, lr⟩ := NY.out.facts; have m0 := NY.out.bm.cell; have fzf := NY.out.bf.free; have fzr := NY.out.br.free; obtain ⟨r0, r1, r2, r3, r4, r5, r6⟩ := NY.out.br.cells; simp only at d0 d1 d2 d3 d4 d5 d6)
  all_goals
    go_wp2
    rw [Exit.noGoto_ret]
    change bodyPost _ _ _ _ _ (pf w9 (w.heap.size + 1 + 1 + 1) (ed ⟨o, 5, q, v, x, y, s⟩ 1 v))
    have NB := NY.out.back2 (ed ⟨o, 5, q, v, x, y, s⟩ 1 v)
    exact bodyPost_ret (results_fr Try.results57 _ rfl NB.1) rfl NB.2
set_option maxRecDepth 100000 in
set_option maxHeartbeats 4000000 in
theorem next_6 (lo : Nat) (W D J S o q v x y s : Int) (A : Option Addr) (n c : Nat) (l : List Int) (w : World) (h : Rn lo w A l) (hn : l.length = n) (hs : n ≤ 500) (hlo : lo ≤ w.heap.size) :
    Calls Try.prog 57 #[cf W D J S, .slice A n c, fv ⟨o, 6, q, v, x, y, s⟩] w (RetQ lo w n (put l (ow W D J S q 1) ((x + 1) % 18446744073709551616)) (ed ⟨o, 6, q, v, x, y, s⟩ 3 0)) := by
  have NX := Lib.hid (boxes4 (W := W) (D := D) (J := J) (S := S) (c := c) (⟨o, 6, q, v, x, y, s⟩ : Fr) h hn)
  have HS := Lib.hid hs
  have HLO := Lib.hid hlo
  clear h hs hn hlo
  go_enter Try.func57, Try.ntmps57
  go_wp2
  change Code.wp _ _ _ _ (bx4 w W D J S (.slice A n c) ⟨o, 6, q, v, x, y, s⟩)
  generalize bx4 w W D J S (.slice A n c) ⟨o, 6, q, v, x, y, s⟩ = w0 at NX ⊢
  refine wp_scope_to _ (fun _ _ _ h => h) ?_
  generalize hJ : (fun (l : Nat) (a : Act) (w : World) => ∃ rest, findLabel _ l = some rest ∧ rest.wp _ _ a w) = JJ
  have HJ := Lib.hid hJ
  clear hJ
  obtain ⟨_, b0, b1, b2, b3⟩ := NX.out.bx
  obtain ⟨d0, d1, d2, d3, d4, d5, d6⟩ := NX.out.bf.cells
  obtain ⟨lx, lm, lf, lr⟩ := NX.out.facts
  have m0 := NX.out.bm.cell
  have fzf := NX.out.bf.free
  have fzr := NX.out.br.free
  obtain ⟨r0, r1, r2, r3, r4, r5, r6⟩ := NX.out.br.cells
  simp only at d0 d1 d2 d3 d4 d5 d6
  go_wp2_with fail
  refine (nset_n ((x + 1) % 18446744073709551616) NX.out.bm NX.out.bx NX.out.bf NX.out.ry.rd NX.out.nl (by omega) (by omega) HS.out).mono ?_
  rintro _ w1 ⟨k, rfl, hk, hB, hM, hK⟩
  clear b0 b1 b2 b3 d0 d1 d2 d3 d4 d5 d6 lx lm lf lr m0 fzf fzr r0 r1 r2 r3 r4 r5 r6
  have NY := Lib.hid (NX.out.stored hk hB hM hK (len_put _ _ _) HLO.out)
  clear hk hB hM hK
  clear NX
  have NX := Lib.hid NY.out
  clear NY
  skip
  obtain ⟨_, b0, b1, b2, b3⟩ := NX.out.bx
  obtain ⟨d0, d1, d2, d3, d4, d5, d6⟩ := NX.out.bf.cells
  obtain ⟨lx, lm, lf, lr⟩ := NX.out.facts
  have m0 := NX.out.bm.cell
  have fzf := NX.out.bf.free
  have fzr := NX.out.br.free
  obtain ⟨r0, r1, r2, r3, r4, r5, r6⟩ := NX.out.br.cells
  simp only at d0 d1 d2 d3 d4 d5 d6
  go_wp2
  go_step3
  change JJ 3 _ _
  rw [← HJ.out]
  refine ⟨_, rfl, ?_⟩
  clear HJ
  go_wp2
  go_region_with (go_at_call 93; (refine (end_any ⟨o, 6, q, v, x, y, s⟩ _ _ _).mono ?_); rintro _ w9 ⟨rfl, z⟩; have NY := Lib.hid (NX.out.drew.call z); clear z b0 b1 b2 b3 d0 d1 d2 d3 d4 d5 d6 lx lm lf lr m0 fzf fzr r0 r1 r2 r3 r4 r5 r6; obtain ⟨_, b0, b1, b2, b3⟩ := NY.out.bx; obtain ⟨d0, d1, d2, d3, d4, d5, d6⟩ := NY.out.bf.cells; obtain ⟨lx, lm, lf, lr⟩ := NY.out.facts; have m0 := NY.out.bm.cell; have fzf := NY.out.bf.free; have fzr := NY.out.br.free; obtain ⟨r0, r1, r2, r3, r4, r5, r6⟩ := NY.out.br.cells; simp only at d0 d1 d2 d3 d4 d5 d6)
  all_goals
    go_wp2
    rw [Exit.noGoto_ret]
    change bodyPost _ _ _ _ _ (pf w9 (w.heap.size + 1 + 1 + 1) (ed ⟨o, 6, q, v, x, y, s⟩ 3 0))
    have NB := NY.out.back2 (ed ⟨o, 6, q, v, x, y, s⟩ 3 0)
    exact bodyPost_ret (results_fr Try.results57 _ rfl NB.1) rfl NB.2
end Go.Proofs.Ytpeaahihjeplmaa
