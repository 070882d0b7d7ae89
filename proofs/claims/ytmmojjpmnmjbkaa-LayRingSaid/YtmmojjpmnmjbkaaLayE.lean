/- The chapter's example of layer 3. -/
import Derived.Test.YtmmojjpmnmjbkaaLayS
import Derived.Test.YtmmojjpmnmjbkaaSameR
namespace Go.Proofs.Ytmmojjpmnmjbkaa
open Go.RowKit Go.Deep
set_option maxHeartbeats 1000000 in
theorem awake_any (w : World) : Tells 9 #[] w (.bool true) := by
  go_enter Try.func9, Try.ntmps9
  go_wp2_with fail
  have Bc := Lib.hid (Bx.mk w 1 2 1 0 23)
  obtain ⟨g_c, c0_c, c1_c, c2_c, c3_c⟩ := Bc.out
  refine (Tells.of (may_any 1 2 1 0 _) (v' := .bool true) (by rfl)).mono ?_
  rintro _ w1 ⟨rfl, z1⟩
  have HZ := Lib.hid ((box_below w _).trans (z1.mono (by simp)))
  clear g_c c0_c c1_c c2_c c3_c
  replace Bc := Lib.hid (Bc.out.below z1)
  obtain ⟨g_c, c0_c, c1_c, c2_c, c3_c⟩ := Bc.out
  clear z1
  go_wp2_with fail
  refine (Tells.of (size_any 1 2 1 0 _) (v' := .int .i64 13) (by rfl)).mono ?_
  rintro _ w2 ⟨rfl, z2⟩
  replace HZ := Lib.hid (HZ.out.trans (z2.mono HZ.out.size))
  clear g_c c0_c c1_c c2_c c3_c
  replace Bc := Lib.hid (Bc.out.below z2)
  obtain ⟨g_c, c0_c, c1_c, c2_c, c3_c⟩ := Bc.out
  clear z2
  go_wp2_with fail
  refine (Tells.of (top_any 1 2 1 0 0 _) (v' := .int .i64 8) (by rfl)).mono ?_
  rintro _ w3 ⟨rfl, z3⟩
  replace HZ := Lib.hid (HZ.out.trans (z3.mono HZ.out.size))
  clear g_c c0_c c1_c c2_c c3_c
  replace Bc := Lib.hid (Bc.out.below z3)
  obtain ⟨g_c, c0_c, c1_c, c2_c, c3_c⟩ := Bc.out
  clear z3
  go_wp2_with fail
  refine (Tells.of (bottom_any 1 2 1 0 0 _) (v' := .int .i64 9) (by rfl)).mono ?_
  rintro _ w4 ⟨rfl, z4⟩
  replace HZ := Lib.hid (HZ.out.trans (z4.mono HZ.out.size))
  clear g_c c0_c c1_c c2_c c3_c
  replace Bc := Lib.hid (Bc.out.below z4)
  obtain ⟨g_c, c0_c, c1_c, c2_c, c3_c⟩ := Bc.out
  clear z4
  go_wp2_with fail
  refine (Tells.of (park_any 1 2 1 0 0 _) (v' := .int .i64 10) (by rfl)).mono ?_
  rintro _ w5 ⟨rfl, z5⟩
  replace HZ := Lib.hid (HZ.out.trans (z5.mono HZ.out.size))
  clear g_c c0_c c1_c c2_c c3_c
  replace Bc := Lib.hid (Bc.out.below z5)
  obtain ⟨g_c, c0_c, c1_c, c2_c, c3_c⟩ := Bc.out
  clear z5
  go_wp2_with fail
  refine (Tells.of (slot_any 1 2 1 0 0 1 _ (by unfold U; omega)) (v' := .int .i64 12) (by rfl)).mono ?_
  rintro _ w6 ⟨rfl, z6⟩
  replace HZ := Lib.hid (HZ.out.trans (z6.mono HZ.out.size))
  clear g_c c0_c c1_c c2_c c3_c
  replace Bc := Lib.hid (Bc.out.below z6)
  obtain ⟨g_c, c0_c, c1_c, c2_c, c3_c⟩ := Bc.out
  clear z6
  go_wp2_with fail
  refine (Tells.of (seq_any 1 2 1 0 5 _ (by unfold U; omega)) (v' := .int .i64 6) (by rfl)).mono ?_
  rintro _ w7 ⟨rfl, z7⟩
  replace HZ := Lib.hid (HZ.out.trans (z7.mono HZ.out.size))
  clear g_c c0_c c1_c c2_c c3_c
  replace Bc := Lib.hid (Bc.out.below z7)
  obtain ⟨g_c, c0_c, c1_c, c2_c, c3_c⟩ := Bc.out
  clear z7
  go_wp2_with fail
  refine (Tells.of (val_any 1 2 1 0 5 _ (by unfold U; omega)) (v' := .int .i64 7) (by rfl)).mono ?_
  rintro _ w8 ⟨rfl, z8⟩
  replace HZ := Lib.hid (HZ.out.trans (z8.mono HZ.out.size))
  clear g_c c0_c c1_c c2_c c3_c
  replace Bc := Lib.hid (Bc.out.below z8)
  obtain ⟨g_c, c0_c, c1_c, c2_c, c3_c⟩ := Bc.out
  clear z8
  go_wp2_with fail
  refine ((new_at 1 2 1 0 13 _ (by rfl) (by omega))).mono ?_
  rintro _ w9 ⟨A9, k9, rfl, r9, z9⟩
  replace HZ := Lib.hid (HZ.out.trans (z9.mono HZ.out.size))
  clear g_c c0_c c1_c c2_c c3_c
  replace Bc := Lib.hid (Bc.out.below z9)
  obtain ⟨g_c, c0_c, c1_c, c2_c, c3_c⟩ := Bc.out
  have HR := Lib.hid r9
  clear r9
  clear z9
  go_wp2
  go_ret
  exact ⟨rfl, HZ.out⟩
theorem Bx.alloc {w : World} {g : Nat} {W D J S : Int} (h : Bx w g W D J S) (o : Obj) : Bx (w.alloc o) g W D J S := h.below (box_below w o)
theorem Bx.at (w : World) (g : Nat) (W D J S : Int) (t : TypeId) (hg : g = w.heap.size) : Bx (w.alloc (.cells #[.int .i64 W, .int .i64 D, .int .i64 J, .int .i64 S] t)) g W D J S := by subst hg; exact Bx.mk w W D J S t
theorem Bx.cells {w : World} {g : Nat} {W D J S : Int} (h : Bx w g W D J S) : w.cell? ⟨g, 0, none⟩ = some (.int .i64 W) ∧ w.cell? ⟨g, 1, none⟩ = some (.int .i64 D) ∧ w.cell? ⟨g, 2, none⟩ = some (.int .i64 J) ∧ w.cell? ⟨g, 3, none⟩ = some (.int .i64 S) := h.2
theorem held_call {S : World → Prop} {w2 w w' : World} (K : ∀ x, Below w2.heap.size w2 x → S x) (G : ∀ x, S x → Below w2.heap.size w2 x) (hc : Below w.heap.size w w') (h : S w) : S w' := K _ (keep_call hc (G _ h))
theorem held_drew {S : World → Prop} {w2 w : World} (K : ∀ x, Below w2.heap.size w2 x → S x) (G : ∀ x, S x → Below w2.heap.size w2 x) (h : S w) : S w.drew := K _ (keep_drew (G _ h))
end Go.Proofs.Ytmmojjpmnmjbkaa
