/- Contract of Goes. -/
import Derived.Test.YtppllanmgdhabaaPuE
import Derived.Test.YtppllanmgdhabaaLaC
namespace Go.Proofs.Ytppllanmgdhabaa
open Go.RowKit Go.Deep
/-- A box for the layout and one for the call that came in. -/
def bxc (w : World) (W D J S : Int) (f : Fr) : World := (w.alloc (.cells #[.int .i64 W, .int .i64 D, .int .i64 J, .int .i64 S] 23)).alloc (.cells #[.int .i64 f.op, .int .i64 f.pc, .int .i64 f.who, .int .u64 f.val, .int .u64 f.x, .int .u64 f.y, .int .i64 f.res] 28)
set_option maxRecDepth 100000 in
theorem boxes2 (w : World) (W D J S : Int) (f : Fr) : Bx (bxc w W D J S f) w.heap.size W D J S ∧ Bf (bxc w W D J S f) (w.heap.size + 1) f ∧ Below w.heap.size w (bxc w W D J S f) ∧ (bxc w W D J S f).heap.size = w.heap.size + 2 := by
  unfold bxc
  refine ⟨(Bx.mk w W D J S 23).alloc _, ?_, ?_, ?_⟩
  · have := Bf.new (w.alloc (.cells #[.int .i64 W, .int .i64 D, .int .i64 J, .int .i64 S] 23)) f
    simpa using this
  · exact ((Below.refl _ _).alloc (Nat.le_refl _) _).alloc (by simp) _
  · simp
end Go.Proofs.Ytppllanmgdhabaa
