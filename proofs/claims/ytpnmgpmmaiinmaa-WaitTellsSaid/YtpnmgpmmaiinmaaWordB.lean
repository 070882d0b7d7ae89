/- Contracts of bits, of the function that it hands on, and of Lowest. -/
import Derived.Test.YtpnmgpmmaiinmaaBaM
import Derived.RangeFuncNested
import Derived.RangeFuncBound
import Derived.RangeFuncCalls
import Derived.RangeFuncLeaves
import Derived.Shelf.Abstract
import Derived.Shelf.RegionOpen
import Derived.OwnWalkIn
import Derived.TacticsInMore
import Derived.LoopNIn
import Derived.LoopIn
namespace Go.Proofs.Ytpnmgpmmaiinmaa
open Go.RowKit Go.Deep
attribute [local go_sem] Oper.semAt_some
/-- The bits that are set of the first k. -/
def upto (m : Int) : Nat → List Int
  | 0 => []
  | k + 1 => if m / 2 ^ k % 2 = 1 then upto m k ++ [(k : Int)] else upto m k
theorem upto_len (m : Int) (k : Nat) : (upto m k).length ≤ k := by
  induction k with
  | zero => simp [upto]
  | succ k ih =>
    unfold upto
    split
    · simp; omega
    · omega
theorem upto_nil {m : Int} {k : Nat} (h : upto m k = []) : ∀ j, j < k → ¬ m / 2 ^ j % 2 = 1 := by
  induction k with
  | zero => intro j hj; omega
  | succ k ih =>
    unfold upto at h
    by_cases hb : m / 2 ^ k % 2 = 1
    · rw [if_pos hb] at h; simp at h
    · rw [if_neg hb] at h
      intro j hj
      by_cases e : j = k
      · rw [e]; exact hb
      · exact ih h j (by omega)
theorem bit_u (m : Int) (k : Nat) (h : U m) : U (m / 2 ^ k) := by
  have hp : (0 : Int) < 2 ^ k := Int.pow_pos (by decide)
  have h2 : m / 2 ^ k ≤ m := Int.ediv_le_self _ h.1
  exact ⟨Int.ediv_nonneg h.1 (Int.le_of_lt hp), Int.lt_of_le_of_lt h2 h.2⟩
theorem cell_of_box {W : World} {B : Nat} {v : Value} {t : TypeId} (h : W.heap[B]? = some (.cells #[v] t (0, 0))) : W.cell? ⟨B, 0, none⟩ = some v ∧ W.frozen? ⟨B, 0, none⟩ = false := by
  constructor <;> simp [World.cell?, World.frozen?, h]
theorem cell_new (W : World) (v : Value) (t : TypeId) : (W.alloc (.cells #[v] t)).cell? ⟨W.heap.size, 0, none⟩ = some v ∧ (W.alloc (.cells #[v] t)).frozen? ⟨W.heap.size, 0, none⟩ = false :=
  cell_of_box (World.alloc_heap_new W _)
theorem cell_alloc {W : World} {a : Addr} {v : Value} (o : Obj) (h : W.cell? a = some v) : (W.alloc o).cell? a = some v := cell_kept h (World.grownBy_alloc W o none) (fun r e => by cases e)
theorem frozen_alloc {W : World} {a : Addr} {v : Value} (o : Obj) (h : W.cell? a = some v) (hf : W.frozen? a = false) : (W.alloc o).frozen? a = false := (frozen_kept h (World.grownBy_alloc W o none) (fun r e => by cases e)).trans hf
end Go.Proofs.Ytpnmgpmmaiinmaa
