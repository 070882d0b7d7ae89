/- Two calls that are the same; what Once comes to, on lists. -/
import Derived.Test.YtfeccpfkpbminaaFrI
import Derived.Laws.StructEq
namespace Go.Proofs.Ytfeccpfkpbminaa
open Go.RowKit Go.Deep
theorem Try.struct28 : Try.prog.underlying 28 = some (.struct (Try.prog.fieldsOf 28)) := by kernel_rfl
theorem Try.held28 : Try.prog.stoodInHeld 28 = false := by kernel_rfl
theorem Try.guard28 : Try.prog.eqGuardType Try.prog.depth 28 = false := by kernel_rfl
theorem eq_in (a b c d e g h : Int) (w : World) : (Op.equalIn 10000 28 (.agg #[.int .i64 a, .int .i64 b, .int .i64 c, .int .u64 d, .int .u64 e, .int .u64 g, .int .i64 h]) (.agg #[.int .i64 a, .int .i64 b, .int .i64 c, .int .u64 d, .int .u64 e, .int .u64 g, .int .i64 h])).run Try.prog w = .ok true w := by
  have u3 := Try.underlying3
  have a3 := Try.isAgg3
  have z3 := Try.sizeOf3
  have u23 := Try.underlying26
  have a23 := Try.isAgg26
  have z23 := Try.sizeOf26
  rw [show (10000 : Nat) = 9999 + 1 from rfl, run_equalIn_agg w 9999 28 _ _ Try.struct28 Try.held28]
  simp only [Program.fieldsOf, Try.underlying28]
  go_simp
theorem eql_fr (a b c d e g h : Int) (w : World) : (binOp .eql 28 (.agg #[.int .i64 a, .int .i64 b, .int .i64 c, .int .u64 d, .int .u64 e, .int .u64 g, .int .i64 h]) (.agg #[.int .i64 a, .int .i64 b, .int .i64 c, .int .u64 d, .int .u64 e, .int .u64 g, .int .i64 h])).run Try.prog w = .ok (.bool true) w := by
  rw [run_eql_struct, eq_in]; rfl
theorem guard_fr (op : BinOp) (x y : Operand) (xs ys : Array Value) (w : World) : (eqGuard op 28 x y (.agg xs) (.agg ys)).run Try.prog w = .ok () w := run_eqGuard_agg w op 28 x y xs ys Try.guard28
/-- A list is the same as itself. -/
theorem nums_eq {A B : Option Addr} {n c d : Nat} {l : List Int} {w : World} (hA : Rd w A l) (hB : Rd w B l) (hl : l.length = n) (hn : n ≤ 1001) :
    Calls Try.prog 16 #[.slice A n c, .slice B n d] w fun e w' => e = .returned (.bool true) ∧ ∃ q, w' = w.drewN q := by
  have h := nums_any A B n n c d l l w hA hB hl hl hn hn
  rw [show decide (l = l) = true from decide_eq_true rfl] at h
  exact h
/-- Two lists are the same, or not. -/
theorem nums_some {A B : Option Addr} {n m c d : Nat} {l k : List Int} {w : World} (hA : Rd w A l) (hB : Rd w B k) (hl : l.length = n) (hk : k.length = m) (hn : n ≤ 1001) (hm : m ≤ 1001) :
    ∃ b, Calls Try.prog 16 #[.slice A n c, .slice B m d] w fun e w' => e = .returned (.bool b) ∧ ∃ q, w' = w.drewN q := ⟨_, nums_any A B n m c d l k w hA hB hl hk hn hm⟩
theorem on_leave {l : List Int} {r : Int} {f : Fr} (h : f.res ≠ 0 ∨ f.op < 0 ∨ 4 < f.op) : on l r f = (l, f) := by
  unfold on
  by_cases h0 : f.res = 0
  · rw [if_neg (by simpa using h0), if_neg (by omega), if_neg (by omega), if_neg (by omega)]
  · rw [if_pos h0]
theorem on_known {l : List Int} {r : Int} {f : Fr} (h0 : f.res = 0) (h1 : 0 ≤ f.op) (h2 : f.op ≤ 4) : ∃ l' u t, on l r f = (l', ⟨f.op, 0, f.who, u, 0, 0, t⟩) ∧ t ≠ 0 ∧ l'.length ≤ l.length + 1 := by
  unfold on
  rw [if_neg (by simpa using h0)]
  by_cases k0 : f.op = 0 ∨ f.op = 3
  · rw [if_pos k0]
    unfold onPut
    split
    · exact ⟨_, _, _, rfl, by decide, by simp⟩
    · exact ⟨_, _, _, rfl, by decide, by simp⟩
  rw [if_neg k0]
  by_cases k1 : f.op = 1
  · rw [if_pos k1]
    unfold onLast
    split
    · exact ⟨_, _, _, rfl, by decide, by simp⟩
    · exact ⟨_, _, _, rfl, by decide, by simp; omega⟩
  rw [if_neg k1, if_pos (by omega)]
  unfold onFirst
  split
  · exact ⟨_, _, _, rfl, by decide, by simp⟩
  · exact ⟨_, _, _, rfl, by decide, by simp; omega⟩
theorem on_pop_nil (r p v : Int) : on [] r (fbg 1 p v) = ([], ⟨1, 0, p, 0, 0, 0, 3⟩) := by
  simp [on, fbg, onLast, ed]
end Go.Proofs.Ytfeccpfkpbminaa
