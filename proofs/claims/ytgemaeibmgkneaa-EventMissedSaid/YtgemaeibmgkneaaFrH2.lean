/- Merged: FrG, FrH, FrI, FrQ. -/
import Derived.Test.YtgemaeibmgkneaaFrD
import Derived.Test.YtgemaeibmgkneaaFrF
import Derived.Lib.SmallJoins
import Derived.Deep.Slices
import Derived.Deep.Fields
import Derived.ChangeSame
import Derived.Laws.StructEq
namespace Go.Proofs.Ytgemaeibmgkneaa
open Go.RowKit Go.Deep
/-- Put in. -/
def onPut (l : List Int) (r : Int) (f : Fr) : List Int × Fr := if r ≤ l.length then (l, ed f 2 f.val) else (l ++ [f.val], ed f 1 f.val)
/-- Take the last one. -/
def onLast (l : List Int) (f : Fr) : List Int × Fr := match l.getLast? with
  | none => ([], ed f 3 0)
  | some u => (l.dropLast, ed f 1 u)
/-- Take the first one. -/
def onFirst (l : List Int) (f : Fr) : List Int × Fr := match l with
  | [] => ([], ed f 3 0)
  | u :: t => (t, ed f 1 u)
/-- What a call does, all at once. -/
def on (l : List Int) (r : Int) (f : Fr) : List Int × Fr :=
  if f.res ≠ 0 then (l, f)
  else if f.op = 0 ∨ f.op = 3 then onPut l r f
  else if f.op = 1 then onLast l f
  else if f.op = 2 ∨ f.op = 4 then onFirst l f
  else (l, f)
set_option maxRecDepth 100000 in
theorem onLast_snoc (l : List Int) (u : Int) (f : Fr) : onLast (l ++ [u]) f = (l, ed f 1 u) := by simp [onLast]
end Go.Proofs.Ytgemaeibmgkneaa
namespace Go.Proofs.Ytgemaeibmgkneaa
open Go.RowKit Go.Deep
set_option maxRecDepth 100000 in
theorem Bf.new (w : World) (f : Fr) : Bf (w.alloc (.cells #[.int .i64 f.op, .int .i64 f.pc, .int .i64 f.who, .int .u64 f.val, .int .u64 f.x, .int .u64 f.y, .int .i64 f.res] 34)) w.heap.size f := heap_alloc_new _ _
set_option maxRecDepth 100000 in
theorem Bf.after {w w' : World} {g : Nat} {f : Fr} (h : Bf w g f) (hb : Below w.heap.size w w') : Bf w' g f := h.below hb h.lt
set_option maxRecDepth 100000 in
theorem bel_alloc (w : World) (o : Obj) : Below w.heap.size w (w.alloc o) := (Below.refl _ _).alloc (Nat.le_refl _) _
set_option maxRecDepth 100000 in
theorem below_of_drewN {w w' : World} {q : Nat} (h : w' = w.drewN q) : Below w.heap.size w w' := h ▸ below_drewN w q
set_option maxRecDepth 100000 in
theorem Rd.alloc {w : World} {A : Option Addr} {l : List Int} (h : Rd w A l) (o : Obj) : Rd (w.alloc o) A l := h.below (bel_alloc w o)
set_option maxRecDepth 100000 in
theorem Rd.nil (w : World) (A : Option Addr) : Rd w A [] := fun h => by simp at h
set_option maxRecDepth 100000 in
/-- A field of a call. -/
theorem field_val (a b c d e g h : Int) (w : World) : (Instr.field 34 (.agg #[.int .i64 a, .int .i64 b, .int .i64 c, .int .u64 d, .int .u64 e, .int .u64 g, .int .i64 h]) 3).run Try.prog w = .ok (.int .u64 d) w := by kernel_rfl
attribute [local go_sem] field_val
set_option maxRecDepth 100000 in
theorem rd_one (w : World) (u : Int) : Rd (w.alloc (.cells #[.int .u64 u] 32)) (some ⟨w.heap.size, 0, none⟩) [u] := Bk.rd (l := [u]) (heap_alloc_new _ _)
end Go.Proofs.Ytgemaeibmgkneaa
namespace Go.Proofs.Ytgemaeibmgkneaa
open Go.RowKit Go.Deep Go.ChangeShapes Go.WideShapes Go.Joins
set_option maxRecDepth 100000 in
theorem Try.cells34 : Try.prog.cellsOf 34 = 7 := by kernel_rfl
set_option maxRecDepth 100000 in
theorem Try.cells3 : Try.prog.cellsOf 3 = 1 := by kernel_rfl
set_option maxRecDepth 100000 in
theorem Try.cells32 : Try.prog.cellsOf 32 = 1 := by kernel_rfl
section
variable {H : Type} {enc : TypeId × Value → H} {w : World}
set_option maxRecDepth 100000 in
theorem open_frame {r : Reach} {b0 : Nat} {v : Value} {d : DataW H} {p : List MemPlace} (hv : Value.okWide Try.prog w r b0 34 v) (h : DataW.Trod enc Try.prog w 0 (fun _ => true) true 34 v d p) : ∃ f : Fr, v = fv f := by
  obtain ⟨cs, rfl, hsz⟩ := okWide_struct Try.underlying34 hv
  obtain ⟨fuel, ht⟩ := h
  obtain ⟨ys, n', _, _, _, hyl, hf⟩ := DataW.trod_struct Try.underlying34 ht
  have hcl : cs.toList.length = 7 := by simpa using hsz.trans Try.cells34
  obtain ⟨cs⟩ := cs
  match cs, hcl, hf with
  | [v0, v1, v2, v3, v4, v5, v6], _, hf =>
    have f0 : DataW.trod enc Try.prog w 0 (fun _ => true) true n' 3 (([v0, v1, v2, v3, v4, v5, v6].drop 0).take (Try.prog.cellsOf 3)) = ys[0]? := hf 0 _ rfl
    have f1 : DataW.trod enc Try.prog w 0 (fun _ => true) true n' 3 (([v0, v1, v2, v3, v4, v5, v6].drop 1).take (Try.prog.cellsOf 3)) = ys[1]? := hf 1 _ rfl
    have f2 : DataW.trod enc Try.prog w 0 (fun _ => true) true n' 3 (([v0, v1, v2, v3, v4, v5, v6].drop 2).take (Try.prog.cellsOf 3)) = ys[2]? := hf 2 _ rfl
    have f3 : DataW.trod enc Try.prog w 0 (fun _ => true) true n' 32 (([v0, v1, v2, v3, v4, v5, v6].drop 3).take (Try.prog.cellsOf 32)) = ys[3]? := hf 3 _ rfl
    have f4 : DataW.trod enc Try.prog w 0 (fun _ => true) true n' 32 (([v0, v1, v2, v3, v4, v5, v6].drop 4).take (Try.prog.cellsOf 32)) = ys[4]? := hf 4 _ rfl
    have f5 : DataW.trod enc Try.prog w 0 (fun _ => true) true n' 32 (([v0, v1, v2, v3, v4, v5, v6].drop 5).take (Try.prog.cellsOf 32)) = ys[5]? := hf 5 _ rfl
    have f6 : DataW.trod enc Try.prog w 0 (fun _ => true) true n' 3 (([v0, v1, v2, v3, v4, v5, v6].drop 6).take (Try.prog.cellsOf 3)) = ys[6]? := hf 6 _ rfl
    rw [Try.cells3] at f0 f1 f2 f6
    rw [Try.cells32] at f3 f4 f5
    match ys, hyl, f0, f1, f2, f3, f4, f5, f6 with
    | [y0, y1, y2, y3, y4, y5, y6], _, f0, f1, f2, f3, f4, f5, f6 =>
      obtain ⟨z0, e0, _, _⟩ := DataW.trod_int Try.underlying3 (show DataW.trod enc Try.prog w 0 (fun _ => true) true n' 3 [v0] = some y0 from f0)
      obtain ⟨z1, e1, _, _⟩ := DataW.trod_int Try.underlying3 (show DataW.trod enc Try.prog w 0 (fun _ => true) true n' 3 [v1] = some y1 from f1)
      obtain ⟨z2, e2, _, _⟩ := DataW.trod_int Try.underlying3 (show DataW.trod enc Try.prog w 0 (fun _ => true) true n' 3 [v2] = some y2 from f2)
      obtain ⟨z3, e3, _, _⟩ := DataW.trod_int Try.underlying32 (show DataW.trod enc Try.prog w 0 (fun _ => true) true n' 32 [v3] = some y3 from f3)
      obtain ⟨z4, e4, _, _⟩ := DataW.trod_int Try.underlying32 (show DataW.trod enc Try.prog w 0 (fun _ => true) true n' 32 [v4] = some y4 from f4)
      obtain ⟨z5, e5, _, _⟩ := DataW.trod_int Try.underlying32 (show DataW.trod enc Try.prog w 0 (fun _ => true) true n' 32 [v5] = some y5 from f5)
      obtain ⟨z6, e6, _, _⟩ := DataW.trod_int Try.underlying3 (show DataW.trod enc Try.prog w 0 (fun _ => true) true n' 3 [v6] = some y6 from f6)
      simp at e0 e1 e2 e3 e4 e5 e6
      subst e0 e1 e2 e3 e4 e5 e6
      exact ⟨⟨z0, z1, z2, z3, z4, z5, z6⟩, rfl⟩
end
end Go.Proofs.Ytgemaeibmgkneaa
namespace Go.Proofs.Ytgemaeibmgkneaa
open Go.RowKit Go.Deep
set_option maxRecDepth 100000 in
theorem Try.struct34 : Try.prog.underlying 34 = some (.struct (Try.prog.fieldsOf 34)) := by kernel_rfl
set_option maxRecDepth 100000 in
theorem Try.held34 : Try.prog.stoodInHeld 34 = false := by kernel_rfl
set_option maxRecDepth 100000 in
theorem Try.guard34 : Try.prog.eqGuardType Try.prog.depth 34 = false := by kernel_rfl
set_option maxRecDepth 100000 in
theorem eq_in (a b c d e g h : Int) (w : World) : (Op.equalIn 10000 34 (.agg #[.int .i64 a, .int .i64 b, .int .i64 c, .int .u64 d, .int .u64 e, .int .u64 g, .int .i64 h]) (.agg #[.int .i64 a, .int .i64 b, .int .i64 c, .int .u64 d, .int .u64 e, .int .u64 g, .int .i64 h])).run Try.prog w = .ok true w := by
  have u3 := Try.underlying3
  have a3 := Try.isAgg3
  have z3 := Try.sizeOf3
  have u23 := Try.underlying32
  have a23 := Try.isAgg32
  have z23 := Try.sizeOf32
  rw [show (10000 : Nat) = 9999 + 1 from rfl, run_equalIn_agg w 9999 34 _ _ Try.struct34 Try.held34]
  simp only [Program.fieldsOf, Try.underlying34]
  go_simp
set_option maxRecDepth 100000 in
theorem eql_fr (a b c d e g h : Int) (w : World) : (binOp .eql 34 (.agg #[.int .i64 a, .int .i64 b, .int .i64 c, .int .u64 d, .int .u64 e, .int .u64 g, .int .i64 h]) (.agg #[.int .i64 a, .int .i64 b, .int .i64 c, .int .u64 d, .int .u64 e, .int .u64 g, .int .i64 h])).run Try.prog w = .ok (.bool true) w := by
  rw [run_eql_struct, eq_in]; rfl
set_option maxRecDepth 100000 in
theorem guard_fr (op : BinOp) (x y : Operand) (xs ys : Array Value) (w : World) : (eqGuard op 34 x y (.agg xs) (.agg ys)).run Try.prog w = .ok () w := run_eqGuard_agg w op 34 x y xs ys Try.guard34
set_option maxRecDepth 100000 in
theorem on_leave {l : List Int} {r : Int} {f : Fr} (h : f.res ≠ 0 ∨ f.op < 0 ∨ 4 < f.op) : on l r f = (l, f) := by
  unfold on
  by_cases h0 : f.res = 0
  · rw [if_neg (by simpa using h0), if_neg (by omega), if_neg (by omega), if_neg (by omega)]
  · rw [if_pos h0]
set_option maxRecDepth 100000 in
theorem on_known {l : List Int} {r : Int} {f : Fr} (h0 : f.res = 0) (h1 : 0 ≤ f.op) (h2 : f.op ≤ 4) : ∃ l' u t, on l r f = (l', ⟨f.op, 0, f.who, u, 0, 0, t⟩) ∧ t ≠ 0 ∧ l'.length ≤ l.length + 1 := by
  unfold on
  rw [if_neg (by simpa using h0)]
  by_cases k0 : f.op = 0 ∨ f.op = 3
  · rw [if_pos k0]
    unfold onPut
    split
    · exact ⟨_, _, _, rfl, by decide, by simp⟩
    · exact ⟨_, _, _, rfl, by decide, by simp⟩
  rw [if_neg k0]
  by_cases k1 : f.op = 1
  · rw [if_pos k1]
    unfold onLast
    split
    · exact ⟨_, _, _, rfl, by decide, by simp⟩
    · exact ⟨_, _, _, rfl, by decide, by simp; omega⟩
  rw [if_neg k1, if_pos (by omega)]
  unfold onFirst
  split
  · exact ⟨_, _, _, rfl, by decide, by simp⟩
  · exact ⟨_, _, _, rfl, by decide, by simp; omega⟩
set_option maxRecDepth 100000 in
theorem on_pop_nil (r p v : Int) : on [] r (fbg 1 p v) = ([], ⟨1, 0, p, 0, 0, 0, 3⟩) := by
  simp [on, fbg, onLast, ed]
end Go.Proofs.Ytgemaeibmgkneaa
