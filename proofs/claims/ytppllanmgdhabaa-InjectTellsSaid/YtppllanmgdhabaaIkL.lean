/- Contracts of the inject's layout, and of no call. -/
import Derived.Test.YtppllanmgdhabaaFrH2
import Derived.Test.YtppllanmgdhabaaLayA
import Derived.Test.YtppllanmgdhabaaIjX
import Derived.Deep.CutRange
import Derived.Deep.DeepCutAuto
namespace Go.Proofs.Ytppllanmgdhabaa
open Go.RowKit Go.Deep
set_option maxRecDepth 100000 in
theorem layout_any (d : Int) (w : World) : Tells 32 #[.int .i64 d] w (cf 1 1 d 0) := by
  go_enter Try.func32, Try.ntmps32
  go_wp2
  refine bodyPost_ret (by simp [results, Try.results32, go_sem]; try rfl) rfl ?_
  exact ⟨rfl, (Below.refl _ _).alloc (Nat.le_refl _) _⟩
set_option maxRecDepth 100000 in
theorem nocall_any (w : World) : Tells 36 #[] w (fv fno) := by
  have B0 : Bf (w.alloc (.cells #[.int .i64 0, .int .i64 0, .int .i64 0, .int .u64 0, .int .u64 0, .int .u64 0, .int .i64 0] 28)) w.heap.size f0 := heap_alloc_new _ _
  have Z : Below w.heap.size w (w.alloc (.cells #[.int .i64 0, .int .i64 0, .int .i64 0, .int .u64 0, .int .u64 0, .int .u64 0, .int .i64 0] 28)) := (Below.refl _ _).alloc (Nat.le_refl _) _
  have hz : w.heap.size < (w.alloc (.cells #[.int .i64 0, .int .i64 0, .int .i64 0, .int .u64 0, .int .u64 0, .int .u64 0, .int .i64 0] 28)).heap.size := by simp
  go_enter Try.func36, Try.ntmps36
  go_upto_region 1 with fail
  generalize w.alloc (.cells #[.int .i64 0, .int .i64 0, .int .i64 0, .int .u64 0, .int .u64 0, .int .u64 0, .int .i64 0] 28) = w0 at B0 Z hz ⊢
  go_wp2_with fail
  refine (begin_any (-1) 0 0 _).mono ?_
  rintro _ w1 ⟨rfl, z1⟩
  have B1 := B0.below z1 hz
  have Z1 := Lib.hid (Z.trans (z1.mono (by omega)))
  obtain ⟨d0, d1, d2, d3, d4, d5, d6⟩ := B1.cells
  have lb := B1.lt
  have fz := B1.free
  clear z1
  go_wp2
  change bodyPost _ _ _ _ _ (pf w1 w.heap.size fno)
  refine bodyPost_ret (v := fv fno) ?_ rfl ?_
  · obtain ⟨e0, e1, e2, e3, e4, e5, e6⟩ := (B1.pf fno).cells
    simp [results, Try.results36, go_sem, e0, e1, e2, e3, e4, e5, e6]
    try rfl
  · exact ⟨rfl, below_pf Z1.out (Nat.le_refl _) _⟩
end Go.Proofs.Ytppllanmgdhabaa
