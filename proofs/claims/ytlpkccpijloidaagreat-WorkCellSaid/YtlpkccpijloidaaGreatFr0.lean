/- Merged: FrA, FrB, FrC, FrD, FrE, FrF, FrH2. -/
import Derived.Test.YtlpkccpijloidaaGreatBaM
import Derived.Deep.AppendSrc
import Derived.Deep.RegionLaw
import Derived.Lib.SmallJoins
import Derived.Deep.Slices
import Derived.Deep.Fields
import Derived.ChangeSame
import Derived.Laws.StructEq
namespace Go.Proofs.YtlpkccpijloidaaGreat
set_option maxRecDepth 100000
open Go.RowKit Go.Deep
/-- A call: which, where it is, whose cells it is at, a value, two registers, and its result. -/
structure Fr where
  op : Int
  pc : Int
  who : Int
  val : Int
  x : Int
  y : Int
  res : Int
/-- A call as a value. -/
abbrev fv (f : Fr) : Value := .agg #[.int .i64 f.op, .int .i64 f.pc, .int .i64 f.who, .int .u64 f.val, .int .u64 f.x, .int .u64 f.y, .int .i64 f.res]
/-- One that begins. -/
def fbg (o p v : Int) : Fr := ⟨o, 0, p, v, 0, 0, 0⟩
/-- One that has ended. -/
def ed (f : Fr) (r v : Int) : Fr := ⟨f.op, 0, f.who, v, 0, 0, r⟩
theorem begin_any (o p v : Int) (w : World) : Tells 31 #[.int .i64 o, .int .i64 p, .int .u64 v] w (fv (fbg o p v)) := by
  go_enter Tryz.func31, Tryz.ntmps31
  go_wp2
  refine bodyPost_ret (by simp [results, Tryz.results31, go_sem]; try rfl) rfl ?_
  exact ⟨rfl, (Below.refl _ _).alloc (Nat.le_refl _) _⟩
theorem over_any (f : Fr) (w : World) : Tells 57 #[fv f] w (.bool (f.res != 0)) := by
  obtain ⟨o, c, p, v, x, y, r⟩ := f
  go_enter Tryz.func57, Tryz.ntmps57
  go_wp2
  go_ret
  exact ⟨rfl, (Below.refl _ _).alloc (Nat.le_refl _) _⟩
theorem end_any (f : Fr) (r v : Int) (w : World) : Tells 133 #[fv f, .int .i64 r, .int .u64 v] w (fv (ed f r v)) := by
  obtain ⟨o, c, p, v', x, y, r'⟩ := f
  go_enter Tryz.func133, Tryz.ntmps133
  go_wp2
  refine bodyPost_ret (by simp [results, Tryz.results133, go_sem]; try rfl) rfl ?_
  exact ⟨rfl, ((Below.refl _ _).alloc (Nat.le_refl _) _).alloc (by simp) _⟩
end Go.Proofs.YtlpkccpijloidaaGreat
namespace Go.Proofs.YtlpkccpijloidaaGreat
set_option maxRecDepth 100000
open Go.RowKit Go.Deep
/-- The slice at A reads as the numbers l, in a block from number lo on. -/
def Rn (lo : Nat) (w : World) (A : Option Addr) (l : List Int) : Prop :=
  0 < l.length → ∃ ad, A = some ad ∧ lo ≤ ad.block ∧ ad.block < w.heap.size ∧ ∀ j u, l[j]? = some u → w.cell? (ad.add j) = some (.int .u64 u)
theorem Rn.rd {lo : Nat} {w : World} {A : Option Addr} {l : List Int} (h : Rn lo w A l) : Rd w A l := fun hp => by
  obtain ⟨ad, e, _, hlt, hc⟩ := h hp
  exact ⟨ad, e, hlt, hc⟩
theorem Rn.below {lo : Nat} {w w' : World} {A : Option Addr} {l : List Int} (h : Rn lo w A l) (hb : Below w.heap.size w w') : Rn lo w' A l := fun hp => by
  obtain ⟨ad, e, hlo, hlt, hc⟩ := h hp
  exact ⟨ad, e, hlo, Nat.lt_of_lt_of_le hlt hb.size, fun j u hu => (hb.cell (p := ad.add j) (by unfold Addr.add; split <;> exact hlt)).trans (hc j u hu)⟩
theorem Rn.mono {lo lo' : Nat} {w : World} {A : Option Addr} {l : List Int} (h : Rn lo w A l) (hl : lo' ≤ lo) : Rn lo' w A l := fun hp => by
  obtain ⟨ad, e, hlo, hlt, hc⟩ := h hp
  exact ⟨ad, e, Nat.le_trans hl hlo, hlt, hc⟩
theorem Rn.nil (lo : Nat) (w : World) (A : Option Addr) : Rn lo w A [] := fun h => by simp at h
theorem Rn.drew {lo : Nat} {w : World} {A : Option Addr} {l : List Int} (h : Rn lo w A l) : Rn lo w.drew A l := h
/-- What is stored elsewhere does not matter. -/
theorem Rn.set {lo : Nat} {w : World} {A : Option Addr} {l : List Int} (h : Rn lo w A l) {p : Addr} (hp : p.block < lo) (v : Value) : Rn lo (w.setCell p v) A l := fun hq => by
  obtain ⟨ad, e, hlo, hlt, hc⟩ := h hq
  refine ⟨ad, e, hlo, by simpa using hlt, fun j u hu => ?_⟩
  refine Eq.trans ?_ (hc j u hu)
  have hne : (ad.add j).block ≠ p.block := by rw [block_add]; omega
  exact World.cell?_of_block (Below.heap_setCell w p v _ hne)
theorem Bk.rn {w : World} {g : Nat} {l : List Int} (h : Bk w g l) {lo : Nat} (hl : lo ≤ g) : Rn lo w (some ⟨g, 0, none⟩) l := fun _ =>
  ⟨_, rfl, hl, h.lt, fun j u hu => by rw [add_zero']; exact h.cell j u hu⟩
/-- The call f lies in block g. -/
def Bf (w : World) (g : Nat) (f : Fr) : Prop := w.heap[g]? = some (.cells #[.int .i64 f.op, .int .i64 f.pc, .int .i64 f.who, .int .u64 f.val, .int .u64 f.x, .int .u64 f.y, .int .i64 f.res] 30 (0, 0))
theorem Bf.lt {w : World} {g : Nat} {f : Fr} (h : Bf w g f) : g < w.heap.size := by
  rcases Nat.lt_or_ge g w.heap.size with hlt | hge
  · exact hlt
  · unfold Bf at h; rw [Array.getElem?_eq_none hge] at h; cases h
theorem Bf.below {w w' : World} {g B : Nat} {f : Fr} (h : Bf w g f) (hb : Below B w w') (hg : g < B) : Bf w' g f := (hb.block g hg).trans h
theorem Bf.drew {w : World} {g : Nat} {f : Fr} (h : Bf w g f) : Bf w.drew g f := h
theorem Bf.cells {w : World} {g : Nat} {f : Fr} (h : Bf w g f) : w.cell? ⟨g, 0, none⟩ = some (.int .i64 f.op) ∧ w.cell? ⟨g, 1, none⟩ = some (.int .i64 f.pc) ∧ w.cell? ⟨g, 2, none⟩ = some (.int .i64 f.who) ∧ w.cell? ⟨g, 3, none⟩ = some (.int .u64 f.val)
    ∧ w.cell? ⟨g, 4, none⟩ = some (.int .u64 f.x) ∧ w.cell? ⟨g, 5, none⟩ = some (.int .u64 f.y) ∧ w.cell? ⟨g, 6, none⟩ = some (.int .i64 f.res) := by
  unfold Bf at h
  refine ⟨?_, ?_, ?_, ?_, ?_, ?_, ?_⟩ <;> (rw [cell_of_row w g _ _ _ _ h]; rfl)
theorem Bf.free {w : World} {g : Nat} {f : Fr} (h : Bf w g f) (i : Nat) : w.frozen? ⟨g, i, none⟩ = false := by
  unfold Bf at h
  simp [World.frozen?, h]
/-- Nothing yet. -/
def f0 : Fr := ⟨0, 0, 0, 0, 0, 0, 0⟩
/-- A box for the call that came in, and one for the call that goes out. -/
def bxs (w : World) (f : Fr) : World := (w.alloc (.cells #[.int .i64 f.op, .int .i64 f.pc, .int .i64 f.who, .int .u64 f.val, .int .u64 f.x, .int .u64 f.y, .int .i64 f.res] 30)).alloc (.cells #[.int .i64 0, .int .i64 0, .int .i64 0, .int .u64 0, .int .u64 0, .int .u64 0, .int .i64 0] 30)
theorem boxes (w : World) (f : Fr) : Bf (bxs w f) w.heap.size f ∧ Bf (bxs w f) (w.heap.size + 1) f0 ∧ Below w.heap.size w (bxs w f) ∧ (bxs w f).heap.size = w.heap.size + 2 := by
  unfold bxs
  refine ⟨?_, ?_, ?_, ?_⟩
  · unfold Bf; rw [Below.heap_alloc _ _ _ (by simp)]; exact heap_alloc_new _ _
  · have := heap_alloc_new (w.alloc (.cells #[.int .i64 f.op, .int .i64 f.pc, .int .i64 f.who, .int .u64 f.val, .int .u64 f.x, .int .u64 f.y, .int .i64 f.res] 30)) (.cells #[.int .i64 0, .int .i64 0, .int .i64 0, .int .u64 0, .int .u64 0, .int .u64 0, .int .i64 0] 30)
    simpa [Bf, f0] using this
  · exact ((Below.refl _ _).alloc (Nat.le_refl _) _).alloc (by simp) _
  · simp
/-- The call f, laid into block g. -/
def pf (w : World) (g : Nat) (f : Fr) : World := ((((((w.setCell ⟨g, 0, none⟩ (.int .i64 f.op)).setCell ⟨g, 1, none⟩ (.int .i64 f.pc)).setCell ⟨g, 2, none⟩ (.int .i64 f.who)).setCell ⟨g, 3, none⟩ (.int .u64 f.val)).setCell ⟨g, 4, none⟩ (.int .u64 f.x)).setCell ⟨g, 5, none⟩ (.int .u64 f.y)).setCell ⟨g, 6, none⟩ (.int .i64 f.res)
theorem Bf.pf {w : World} {g : Nat} {f : Fr} (h : Bf w g f) (f' : Fr) : Bf (pf w g f') g f' := by
  unfold Bf at h ⊢
  unfold YtlpkccpijloidaaGreat.pf
  simp [World.setCell, Array.getElem?_modify, h]
theorem below_pf {n : Nat} {w w' : World} (h : Below n w w') {g : Nat} (k : n ≤ g) (f : Fr) : Below n w (pf w' g f) :=
  ((((((h.setCell k _).setCell k _).setCell k _).setCell k _).setCell k _).setCell k _).setCell k _
theorem Rn.pf {lo : Nat} {w : World} {A : Option Addr} {l : List Int} (h : Rn lo w A l) {g : Nat} (k : g < lo) (f : Fr) : Rn lo (pf w g f) A l :=
  ((((((h.set k _).set k _).set k _).set k _).set k _).set k _).set k _
/-- What a function hands back whose second result lies in a box. -/
theorem results_fr {fn : Func} {t u : Tmp} (h : fn.results = #[.tmp t, .cell u 30]) (tmps : Array Value) {w : World} {g : Nat} {f : Fr} (hp : tmps.getD u undef = .pointer (some ⟨g, 0, none⟩)) (hb : Bf w g f) :
    (results fn tmps).run Tryz.prog w = .ok (.tuple #[tmps.getD t undef, fv f]) w := by
  obtain ⟨c0, c1, c2, c3, c4, c5, c6⟩ := hb.cells
  have hp2 : tmps[u]?.getD undef = .pointer (some ⟨g, 0, none⟩) := by simpa using hp
  simp [results, h, hp2, go_sem, c0, c1, c2, c3, c4, c5, c6]
/-- What a call that is done at once leaves: a list in new memory, and a call; nothing that was there has changed. -/
def RetO (w : World) (l : List Int) (f : Fr) (e : Ending) (w' : World) : Prop :=
  ∃ A c, e = .returned (.tuple #[.slice A l.length c, fv f]) ∧ l.length ≤ c ∧ Rn w.heap.size w' A l ∧ Below w.heap.size w w'
end Go.Proofs.YtlpkccpijloidaaGreat
namespace Go.Proofs.YtlpkccpijloidaaGreat
set_option maxRecDepth 100000
open Go.RowKit Go.Deep
end Go.Proofs.YtlpkccpijloidaaGreat
namespace Go.Proofs.YtlpkccpijloidaaGreat
set_option maxRecDepth 100000
open Go.RowKit Go.Deep
theorem Rd.tail {w : World} {ad : Addr} {l : List Int} {u : Int} (h : Rd w (some ad) (u :: l)) : Rd w (some (ad.add 1)) l := fun _ => by
  obtain ⟨ad', e, hlt, hc⟩ := h (by simp)
  cases e
  refine ⟨_, rfl, by rw [block_add]; exact hlt, fun j x hx => ?_⟩
  rw [Addr.add_add, Nat.add_comm]
  exact hc (j + 1) x (by simpa using hx)
end Go.Proofs.YtlpkccpijloidaaGreat
namespace Go.Proofs.YtlpkccpijloidaaGreat
set_option maxRecDepth 100000
open Go.RowKit Go.Deep

end Go.Proofs.YtlpkccpijloidaaGreat
namespace Go.Proofs.YtlpkccpijloidaaGreat
set_option maxRecDepth 100000
open Go.RowKit Go.Deep
theorem run_store_func {P : Program} (w : World) (a : Addr) (m : Mode) (g : Fn) (x y : Array Value) : (store a (.func g x y) m).run P w = stored P w a (.func g x y) m := run_store P w a _ m rfl
attribute [local go_sem] run_store_func
end Go.Proofs.YtlpkccpijloidaaGreat
namespace Go.Proofs.YtlpkccpijloidaaGreat
set_option maxRecDepth 100000
open Go.RowKit Go.Deep
/-- Put in. -/
def onPut (l : List Int) (r : Int) (f : Fr) : List Int × Fr := if r ≤ l.length then (l, ed f 2 f.val) else (l ++ [f.val], ed f 1 f.val)
/-- Take the last one. -/
def onLast (l : List Int) (f : Fr) : List Int × Fr := match l.getLast? with
  | none => ([], ed f 3 0)
  | some u => (l.dropLast, ed f 1 u)
/-- Take the first one. -/
def onFirst (l : List Int) (f : Fr) : List Int × Fr := match l with
  | [] => ([], ed f 3 0)
  | u :: t => (t, ed f 1 u)
/-- What a call does, all at once. -/
def on (l : List Int) (r : Int) (f : Fr) : List Int × Fr :=
  if f.res ≠ 0 then (l, f)
  else if f.op = 0 ∨ f.op = 3 then onPut l r f
  else if f.op = 1 then onLast l f
  else if f.op = 2 ∨ f.op = 4 then onFirst l f
  else (l, f)
end Go.Proofs.YtlpkccpijloidaaGreat
namespace Go.Proofs.YtlpkccpijloidaaGreat
set_option maxRecDepth 100000
open Go.RowKit Go.Deep
theorem Bf.new (w : World) (f : Fr) : Bf (w.alloc (.cells #[.int .i64 f.op, .int .i64 f.pc, .int .i64 f.who, .int .u64 f.val, .int .u64 f.x, .int .u64 f.y, .int .i64 f.res] 30)) w.heap.size f := heap_alloc_new _ _
theorem Bf.after {w w' : World} {g : Nat} {f : Fr} (h : Bf w g f) (hb : Below w.heap.size w w') : Bf w' g f := h.below hb h.lt
theorem bel_alloc (w : World) (o : Obj) : Below w.heap.size w (w.alloc o) := (Below.refl _ _).alloc (Nat.le_refl _) _
theorem Rd.alloc {w : World} {A : Option Addr} {l : List Int} (h : Rd w A l) (o : Obj) : Rd (w.alloc o) A l := h.below (bel_alloc w o)
theorem Rd.nil (w : World) (A : Option Addr) : Rd w A [] := fun h => by simp at h
/-- A field of a call. -/
theorem field_val (a b c d e g h : Int) (w : World) : (Instr.field 30 (.agg #[.int .i64 a, .int .i64 b, .int .i64 c, .int .u64 d, .int .u64 e, .int .u64 g, .int .i64 h]) 3).run Tryz.prog w = .ok (.int .u64 d) w := by kernel_rfl
attribute [local go_sem] field_val
end Go.Proofs.YtlpkccpijloidaaGreat
namespace Go.Proofs.YtlpkccpijloidaaGreat
set_option maxRecDepth 100000
open Go.RowKit Go.Deep Go.ChangeShapes Go.WideShapes Go.Joins
theorem Tryz.cells30 : Tryz.prog.cellsOf 30 = 7 := by kernel_rfl
theorem Tryz.cells3 : Tryz.prog.cellsOf 3 = 1 := by kernel_rfl
theorem Tryz.cells28 : Tryz.prog.cellsOf 28 = 1 := by kernel_rfl
section
variable {H : Type} {enc : TypeId × Value → H} {w : World}
end
end Go.Proofs.YtlpkccpijloidaaGreat
namespace Go.Proofs.YtlpkccpijloidaaGreat
set_option maxRecDepth 100000
open Go.RowKit Go.Deep
theorem Tryz.struct30 : Tryz.prog.underlying 30 = some (.struct (Tryz.prog.fieldsOf 30)) := by kernel_rfl
theorem Tryz.held30 : Tryz.prog.stoodInHeld 30 = false := by kernel_rfl
theorem Tryz.guard30 : Tryz.prog.eqGuardType Tryz.prog.depth 30 = false := by kernel_rfl
theorem eq_in (a b c d e g h : Int) (w : World) : (Op.equalIn 10000 30 (.agg #[.int .i64 a, .int .i64 b, .int .i64 c, .int .u64 d, .int .u64 e, .int .u64 g, .int .i64 h]) (.agg #[.int .i64 a, .int .i64 b, .int .i64 c, .int .u64 d, .int .u64 e, .int .u64 g, .int .i64 h])).run Tryz.prog w = .ok true w := by
  have u3 := Tryz.underlying3
  have a3 := Tryz.isAgg3
  have z3 := Tryz.sizeOf3
  have u23 := Tryz.underlying28
  have a23 := Tryz.isAgg28
  have z23 := Tryz.sizeOf28
  rw [show (10000 : Nat) = 9999 + 1 from rfl, run_equalIn_agg w 9999 30 _ _ Tryz.struct30 Tryz.held30]
  simp only [Program.fieldsOf, Tryz.underlying30]
  go_simp
theorem eql_fr (a b c d e g h : Int) (w : World) : (binOp .eql 30 (.agg #[.int .i64 a, .int .i64 b, .int .i64 c, .int .u64 d, .int .u64 e, .int .u64 g, .int .i64 h]) (.agg #[.int .i64 a, .int .i64 b, .int .i64 c, .int .u64 d, .int .u64 e, .int .u64 g, .int .i64 h])).run Tryz.prog w = .ok (.bool true) w := by
  rw [run_eql_struct, eq_in]; rfl
theorem guard_fr (op : BinOp) (x y : Operand) (xs ys : Array Value) (w : World) : (eqGuard op 30 x y (.agg xs) (.agg ys)).run Tryz.prog w = .ok () w := run_eqGuard_agg w op 30 x y xs ys Tryz.guard30
end Go.Proofs.YtlpkccpijloidaaGreat
