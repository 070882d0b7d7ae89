/- The chapter's example of layer 3. -/
import Derived.Test.YtfeccpfkpbminaaLayD
namespace Go.Proofs.Ytfeccpfkpbminaa
open Go.RowKit Go.Deep
theorem Bx.alloc {w : World} {g : Nat} {W D J S : Int} (h : Bx w g W D J S) (o : Obj) : Bx (w.alloc o) g W D J S := h.below (box_below w o)
theorem Bx.at (w : World) (g : Nat) (W D J S : Int) (t : TypeId) (hg : g = w.heap.size) : Bx (w.alloc (.cells #[.int .i64 W, .int .i64 D, .int .i64 J, .int .i64 S] t)) g W D J S := by subst hg; exact Bx.mk w W D J S t
theorem Bx.cells {w : World} {g : Nat} {W D J S : Int} (h : Bx w g W D J S) : w.cell? ⟨g, 0, none⟩ = some (.int .i64 W) ∧ w.cell? ⟨g, 1, none⟩ = some (.int .i64 D) ∧ w.cell? ⟨g, 2, none⟩ = some (.int .i64 J) ∧ w.cell? ⟨g, 3, none⟩ = some (.int .i64 S) := h.2
theorem held_call {S : World → Prop} {w2 w w' : World} (K : ∀ x, Below w2.heap.size w2 x → S x) (G : ∀ x, S x → Below w2.heap.size w2 x) (hc : Below w.heap.size w w') (h : S w) : S w' := K _ (keep_call hc (G _ h))
theorem held_drew {S : World → Prop} {w2 w : World} (K : ∀ x, Below w2.heap.size w2 x → S x) (G : ∀ x, S x → Below w2.heap.size w2 x) (h : S w) : S w.drew := K _ (keep_drew (G _ h))
end Go.Proofs.Ytfeccpfkpbminaa
