/- Contract of awake: the chapter's example comes out. -/
import Derived.Test.YtfeccpfkpbminaaCellC
import Derived.Test.YtfeccpfkpbminaaCellD
namespace Go.Proofs.Ytfeccpfkpbminaa
open Go.RowKit Go.Deep
theorem RetA.of {w : World} {n : Nat} {l l' : List Int} {u u' : Int} {P : Program} {f : FuncId} {args : Array Value} (h : Calls P f args w (RetA w n l u)) (e1 : l = l') (e2 : u = u') : Calls P f args w (RetA w n l' u') := by rw [← e1, ← e2]; exact h
theorem RetC.of {w : World} {n : Nat} {l l' : List Int} {u u' : Bool} {P : Program} {f : FuncId} {args : Array Value} (h : Calls P f args w (RetC w n l u)) (e1 : l = l') (e2 : u = u') : Calls P f args w (RetC w n l' u') := by rw [← e1, ← e2]; exact h
theorem RetM.of {w : World} {n : Nat} {l l' : List Int} {P : Program} {f : FuncId} {args : Array Value} (h : Calls P f args w (RetM w n l)) (e1 : l = l') : Calls P f args w (RetM w n l') := by rw [← e1]; exact h
theorem ret_of {w : World} {v v' : Value} {P : Program} {f : FuncId} {args : Array Value} (h : Calls P f args w fun e w' => e = .returned v ∧ Below w.heap.size w w') (e1 : v = v') : Calls P f args w fun e w' => e = .returned v' ∧ Below w.heap.size w w' := by rw [← e1]; exact h
end Go.Proofs.Ytfeccpfkpbminaa
