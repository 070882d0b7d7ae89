/- A call that came in, as a law's argument: its numbers are of 64 bits. -/
import Derived.Test.YtjddglandcpfpaaFrH2
import Derived.Test.YtjddglandcpfpaaDqA
import Derived.Deep.Slices
import Derived.Deep.Fields
import Derived.ChangeSame
namespace Go.Proofs.Ytjddglandcpfpaa
open Go.RowKit Go.Deep Go.ChangeShapes Go.WideShapes Go.Joins
section
variable {H : Type} {enc : TypeId × Value → H} {w : World}
theorem open_frameU {r : Reach} {b0 : Nat} {v : Value} {d : DataW H} {p : List MemPlace} (hv : Value.okWide Try.prog w r b0 29 v) (h : DataW.Trod enc Try.prog w 0 (fun _ => true) true 29 v d p) : ∃ f : Fr, v = fv f ∧ UF f := by
  obtain ⟨cs, rfl, hsz⟩ := okWide_struct Try.underlying29 hv
  obtain ⟨fuel, ht⟩ := h
  obtain ⟨ys, n', _, _, _, hyl, hf⟩ := DataW.trod_struct Try.underlying29 ht
  have hcl : cs.toList.length = 7 := by simpa using hsz.trans Try.cells29
  obtain ⟨cs⟩ := cs
  match cs, hcl, hf with
  | [v0, v1, v2, v3, v4, v5, v6], _, hf =>
    have f0 : DataW.trod enc Try.prog w 0 (fun _ => true) true n' 3 (([v0, v1, v2, v3, v4, v5, v6].drop 0).take (Try.prog.cellsOf 3)) = ys[0]? := hf 0 _ rfl
    have f1 : DataW.trod enc Try.prog w 0 (fun _ => true) true n' 3 (([v0, v1, v2, v3, v4, v5, v6].drop 1).take (Try.prog.cellsOf 3)) = ys[1]? := hf 1 _ rfl
    have f2 : DataW.trod enc Try.prog w 0 (fun _ => true) true n' 3 (([v0, v1, v2, v3, v4, v5, v6].drop 2).take (Try.prog.cellsOf 3)) = ys[2]? := hf 2 _ rfl
    have f3 : DataW.trod enc Try.prog w 0 (fun _ => true) true n' 27 (([v0, v1, v2, v3, v4, v5, v6].drop 3).take (Try.prog.cellsOf 27)) = ys[3]? := hf 3 _ rfl
    have f4 : DataW.trod enc Try.prog w 0 (fun _ => true) true n' 27 (([v0, v1, v2, v3, v4, v5, v6].drop 4).take (Try.prog.cellsOf 27)) = ys[4]? := hf 4 _ rfl
    have f5 : DataW.trod enc Try.prog w 0 (fun _ => true) true n' 27 (([v0, v1, v2, v3, v4, v5, v6].drop 5).take (Try.prog.cellsOf 27)) = ys[5]? := hf 5 _ rfl
    have f6 : DataW.trod enc Try.prog w 0 (fun _ => true) true n' 3 (([v0, v1, v2, v3, v4, v5, v6].drop 6).take (Try.prog.cellsOf 3)) = ys[6]? := hf 6 _ rfl
    rw [Try.cells3] at f0 f1 f2 f6
    rw [Try.cells27] at f3 f4 f5
    match ys, hyl, f0, f1, f2, f3, f4, f5, f6 with
    | [y0, y1, y2, y3, y4, y5, y6], _, f0, f1, f2, f3, f4, f5, f6 =>
      obtain ⟨z0, e0, _, _⟩ := DataW.trod_int Try.underlying3 (show DataW.trod enc Try.prog w 0 (fun _ => true) true n' 3 [v0] = some y0 from f0)
      obtain ⟨z1, e1, _, _⟩ := DataW.trod_int Try.underlying3 (show DataW.trod enc Try.prog w 0 (fun _ => true) true n' 3 [v1] = some y1 from f1)
      obtain ⟨z2, e2, _, _⟩ := DataW.trod_int Try.underlying3 (show DataW.trod enc Try.prog w 0 (fun _ => true) true n' 3 [v2] = some y2 from f2)
      obtain ⟨z3, e3, _, u3⟩ := DataW.trod_int Try.underlying27 (show DataW.trod enc Try.prog w 0 (fun _ => true) true n' 27 [v3] = some y3 from f3)
      obtain ⟨z4, e4, _, u4⟩ := DataW.trod_int Try.underlying27 (show DataW.trod enc Try.prog w 0 (fun _ => true) true n' 27 [v4] = some y4 from f4)
      obtain ⟨z5, e5, _, u5⟩ := DataW.trod_int Try.underlying27 (show DataW.trod enc Try.prog w 0 (fun _ => true) true n' 27 [v5] = some y5 from f5)
      obtain ⟨z6, e6, _, _⟩ := DataW.trod_int Try.underlying3 (show DataW.trod enc Try.prog w 0 (fun _ => true) true n' 3 [v6] = some y6 from f6)
      simp at e0 e1 e2 e3 e4 e5 e6
      subst e0 e1 e2 e3 e4 e5 e6
      exact ⟨⟨z0, z1, z2, z3, z4, z5, z6⟩, rfl, u_of u3, u_of u4, u_of u5⟩
end
end Go.Proofs.Ytjddglandcpfpaa
