/- Two picks are compared. -/
import Derived.Test.YtnabomdadhgeeaaDrA
import Derived.Laws.StructEq
namespace Go.Proofs.Ytnabomdadhgeeaa
open Go.RowKit Go.Deep
theorem Try.struct25 : Try.prog.underlying 25 = some (.struct (Try.prog.fieldsOf 25)) := by kernel_rfl
theorem Try.held25 : Try.prog.stoodInHeld 25 = false := by kernel_rfl
theorem Try.guard25 : Try.prog.eqGuardType Try.prog.depth 25 = false := by kernel_rfl
theorem eq_in (a b c a' b' c' : Int) (w : World) : (Op.equalIn 10000 25 (.agg #[.int .i64 a, .int .i64 b, .int .u64 c]) (.agg #[.int .i64 a', .int .i64 b', .int .u64 c'])).run Try.prog w = .ok (decide ((a, b, c) = (a', b', c'))) w := by
  have u3 := Try.underlying3
  have a3 := Try.isAgg3
  have z3 := Try.sizeOf3
  have u23 := Try.underlying23
  have a23 := Try.isAgg23
  have z23 := Try.sizeOf23
  rw [show (10000 : Nat) = 9999 + 1 from rfl, run_equalIn_agg w 9999 25 _ _ Try.struct25 Try.held25]
  simp only [Program.fieldsOf, Try.underlying25]
  go_simp
  by_cases h1 : a = a' <;> by_cases h2 : b = b' <;> by_cases h3 : c = c' <;> simp [h1, h2, h3]
/-- Are two picks the same? -/
def pe (a b c a' b' c' : Int) : Bool := decide ((a, b, c) = (a', b', c'))
theorem pe_yes {x y : Pk} (h : x = y) : pe x.1 x.2.1 x.2.2 y.1 y.2.1 y.2.2 = true := decide_eq_true h
theorem pe_no {x y : Pk} (h : ¬ x = y) : pe x.1 x.2.1 x.2.2 y.1 y.2.1 y.2.2 = false := decide_eq_false h
theorem eql_pk (a b c a' b' c' : Int) (w : World) : (binOp .eql 25 (.agg #[.int .i64 a, .int .i64 b, .int .u64 c]) (.agg #[.int .i64 a', .int .i64 b', .int .u64 c'])).run Try.prog w = .ok (.bool (pe a b c a' b' c')) w := by
  rw [run_eql_struct, eq_in]; rfl
theorem neq_pk (a b c a' b' c' : Int) (w : World) : (binOp .neq 25 (.agg #[.int .i64 a, .int .i64 b, .int .u64 c]) (.agg #[.int .i64 a', .int .i64 b', .int .u64 c'])).run Try.prog w = .ok (.bool (!pe a b c a' b' c')) w := by
  rw [run_neq_struct, eq_in]; rfl
theorem guard_pk (op : BinOp) (x y : Operand) (xs ys : Array Value) (w : World) : (eqGuard op 25 x y (.agg xs) (.agg ys)).run Try.prog w = .ok () w := run_eqGuard_agg w op 25 x y xs ys Try.guard25
end Go.Proofs.Ytnabomdadhgeeaa
