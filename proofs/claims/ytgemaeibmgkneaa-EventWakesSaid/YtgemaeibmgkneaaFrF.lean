/- Contracts of deeds and Once. -/
import Derived.Test.YtgemaeibmgkneaaFrE
namespace Go.Proofs.Ytgemaeibmgkneaa
open Go.RowKit Go.Deep
set_option maxRecDepth 100000 in
theorem run_store_func {P : Program} (w : World) (a : Addr) (m : Mode) (g : Fn) (x y : Array Value) : (store a (.func g x y) m).run P w = stored P w a (.func g x y) m := run_store P w a _ m rfl
attribute [local go_sem] run_store_func
set_option maxRecDepth 100000 in
/-- What is left when the deed is done. -/
theorem once_fin {w w0 w3 w4 : World} {l : List Int} {n c : Nat} {f : Fr} {A : Option Addr} (Z : Below w.heap.size w w0) (hz : w0.heap.size = w.heap.size + 2) (z3 : Below w0.heap.size w0 w3)
    (h1 : Rn w3.heap.size w4 A l) (hb : Below w3.heap.size w3 w4) (hc : l.length ≤ c) (hn : l.length = n) :
    RetO w l f (.returned (.tuple #[.slice A n c, fv f])) (pf w4 (w.heap.size + 1) f) := by
  subst hn
  have k3 := z3.size
  exact ⟨_, _, rfl, hc, (h1.pf (by omega) f).mono (by omega), below_pf (Z.trans ((keep_call hb z3).mono (by omega))) (by omega) _⟩
end Go.Proofs.Ytgemaeibmgkneaa
