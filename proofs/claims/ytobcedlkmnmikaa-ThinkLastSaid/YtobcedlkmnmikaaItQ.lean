/- Two items are compared. -/
import Derived.Test.YtobcedlkmnmikaaItA
import Derived.Laws.StructEq
namespace Go.Proofs.Ytobcedlkmnmikaa.Fo
open Go.RowKit Go.Deep
theorem Try.struct40 : Try.prog.underlying 40 = some (.struct (Try.prog.fieldsOf 40)) := by kernel_rfl
theorem Try.held40 : Try.prog.stoodInHeld 40 = false := by kernel_rfl
theorem Try.guard40 : Try.prog.eqGuardType Try.prog.depth 40 = false := by kernel_rfl
theorem ieq_in (a b c a' b' c' : Int) (w : World) : (Op.equalIn 10000 40 (.agg #[.int .i64 a, .int .i64 b, .int .i64 c]) (.agg #[.int .i64 a', .int .i64 b', .int .i64 c'])).run Try.prog w = .ok (decide ((a, b, c) = (a', b', c'))) w := by
  have u3 := Try.underlying3
  have a3 := Try.isAgg3
  have z3 := Try.sizeOf3
  rw [show (10000 : Nat) = 9999 + 1 from rfl, run_equalIn_agg w 9999 40 _ _ Try.struct40 Try.held40]
  simp only [Program.fieldsOf, Try.underlying40]
  go_simp
  by_cases h1 : a = a' <;> by_cases h2 : b = b' <;> by_cases h3 : c = c' <;> simp [h1, h2, h3]
/-- Are two items the same? -/
def ie (a b c a' b' c' : Int) : Bool := decide ((a, b, c) = (a', b', c'))
theorem ie_yes {x y : Itm} (h : x = y) : ie x.1 x.2.1 x.2.2 y.1 y.2.1 y.2.2 = true := decide_eq_true h
theorem ie_no {x y : Itm} (h : ¬ x = y) : ie x.1 x.2.1 x.2.2 y.1 y.2.1 y.2.2 = false := decide_eq_false h
theorem eql_it (a b c a' b' c' : Int) (w : World) : (binOp .eql 40 (.agg #[.int .i64 a, .int .i64 b, .int .i64 c]) (.agg #[.int .i64 a', .int .i64 b', .int .i64 c'])).run Try.prog w = .ok (.bool (ie a b c a' b' c')) w := by
  rw [run_eql_struct, ieq_in]; rfl
theorem neq_it (a b c a' b' c' : Int) (w : World) : (binOp .neq 40 (.agg #[.int .i64 a, .int .i64 b, .int .i64 c]) (.agg #[.int .i64 a', .int .i64 b', .int .i64 c'])).run Try.prog w = .ok (.bool (!ie a b c a' b' c')) w := by
  rw [run_neq_struct, ieq_in]; rfl
theorem guard_it (op : BinOp) (x y : Operand) (xs ys : Array Value) (w : World) : (eqGuard op 40 x y (.agg xs) (.agg ys)).run Try.prog w = .ok () w := run_eqGuard_agg w op 40 x y xs ys Try.guard40
end Go.Proofs.Ytobcedlkmnmikaa.Fo
