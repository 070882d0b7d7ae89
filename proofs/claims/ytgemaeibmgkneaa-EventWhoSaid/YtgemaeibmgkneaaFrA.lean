/- Calls as values: what begins, is over, and ends. -/
import Derived.Test.YtgemaeibmgkneaaBaM
namespace Go.Proofs.Ytgemaeibmgkneaa
open Go.RowKit Go.Deep
/-- A call: which, where it is, whose cells it is at, a value, two registers, and its result. -/
structure Fr where
  op : Int
  pc : Int
  who : Int
  val : Int
  x : Int
  y : Int
  res : Int
/-- A call as a value. -/
abbrev fv (f : Fr) : Value := .agg #[.int .i64 f.op, .int .i64 f.pc, .int .i64 f.who, .int .u64 f.val, .int .u64 f.x, .int .u64 f.y, .int .i64 f.res]
/-- One that begins. -/
def fbg (o p v : Int) : Fr := ⟨o, 0, p, v, 0, 0, 0⟩
/-- One that has ended. -/
def ed (f : Fr) (r v : Int) : Fr := ⟨f.op, 0, f.who, v, 0, 0, r⟩
set_option maxRecDepth 100000 in
theorem begin_any (o p v : Int) (w : World) : Tells 15 #[.int .i64 o, .int .i64 p, .int .u64 v] w (fv (fbg o p v)) := by
  go_enter Try.func15, Try.ntmps15
  go_wp2
  refine bodyPost_ret (by simp [results, Try.results15, go_sem]; try rfl) rfl ?_
  exact ⟨rfl, (Below.refl _ _).alloc (Nat.le_refl _) _⟩
set_option maxRecDepth 100000 in
theorem over_any (f : Fr) (w : World) : Tells 18 #[fv f] w (.bool (f.res != 0)) := by
  obtain ⟨o, c, p, v, x, y, r⟩ := f
  go_enter Try.func18, Try.ntmps18
  go_wp2
  go_ret
  exact ⟨rfl, (Below.refl _ _).alloc (Nat.le_refl _) _⟩
set_option maxRecDepth 100000 in
theorem end_any (f : Fr) (r v : Int) (w : World) : Tells 80 #[fv f, .int .i64 r, .int .u64 v] w (fv (ed f r v)) := by
  obtain ⟨o, c, p, v', x, y, r'⟩ := f
  go_enter Try.func80, Try.ntmps80
  go_wp2
  refine bodyPost_ret (by simp [results, Try.results80, go_sem]; try rfl) rfl ?_
  exact ⟨rfl, ((Below.refl _ _).alloc (Nat.le_refl _) _).alloc (by simp) _⟩
end Go.Proofs.Ytgemaeibmgkneaa
