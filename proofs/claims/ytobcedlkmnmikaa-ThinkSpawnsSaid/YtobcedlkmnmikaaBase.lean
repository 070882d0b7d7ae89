/- What every walk of this seat builds on: how a contract is written, and numbers of 64 bits. -/
import Derived.Test.YtobcedlkmnmikaaRows
import Derived.WalkKit
import Derived.WalkSpells
import Derived.WalkLawsBesides
import Derived.Laws.CopyOwn
import Derived.Lib.Hide
import Derived.Deep.Draws
import Derived.Deep.OwnRows
import Derived.RegionTactic
import Derived.Deep.RegionHeld3
import Derived.IntWalk
import Derived.OpenShut
import Derived.Deep.QuietTactic
import Derived.BigQuiet
namespace Go.Proofs.Ytobcedlkmnmikaa
open Go.RowKit Go.Deep
/-- A call that yields a value and leaves the world. -/
abbrev Gives (f : FuncId) (args : Array Value) (w : World) (v : Value) : Prop := Calls Try.prog f args w fun e w' => e = .returned v ∧ w' = w
/-- A call that yields a value and writes nothing that was there. -/
abbrev Tells (f : FuncId) (args : Array Value) (w : World) (v : Value) : Prop := Calls Try.prog f args w fun e w' => e = .returned v ∧ Below w.heap.size w w'
theorem Gives.of {f : FuncId} {args : Array Value} {w : World} {v v' : Value} (h : Gives f args w v) (e : v = v') : Gives f args w v' := by rw [← e]; exact h
theorem Tells.of {f : FuncId} {args : Array Value} {w : World} {v v' : Value} (h : Tells f args w v) (e : v = v') : Tells f args w v' := by rw [← e]; exact h
theorem Gives.tells {f : FuncId} {args : Array Value} {w : World} {v : Value} (h : Gives f args w v) : Tells f args w v := h.mono fun _ _ ⟨e, ew⟩ => ⟨e, ew ▸ Below.refl _ _⟩
/-- A number of 64 bits. -/
def U (a : Int) : Prop := 0 ≤ a ∧ a < 18446744073709551616
theorem u_of {n : Int} (h : (Lit.int .u64 n).wf = true) : U n := by have := bounds_u64 h; unfold U; omega
/-- A number of 64 bits with a sign. -/
def I (a : Int) : Prop := -9223372036854775808 ≤ a ∧ a ≤ 9223372036854775807
theorem i_of {n : Int} (h : (Lit.int .i64 n).wf = true) : I n := by have := bounds_i64 h; unfold I; omega
theorem below_drewN (w : World) (q : Nat) : Below w.heap.size w (w.drewN q) := ⟨rfl, rfl, rfl, Nat.le_refl _, fun _ _ => rfl⟩
theorem keep_drew {w2 w : World} (hb : Below w2.heap.size w2 w) : Below w2.heap.size w2 w.drew := hb.drew
theorem keep_call {w2 w w' : World} (hc : Below w.heap.size w w') (h : Below w2.heap.size w2 w) : Below w2.heap.size w2 w' := h.trans (hc.mono h.size)
end Go.Proofs.Ytobcedlkmnmikaa
