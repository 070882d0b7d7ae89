/- A worker that came in, as a law's argument. -/
import Derived.Test.YtlpkccpijloidaaGreatWkI
import Derived.Test.YtlpkccpijloidaaGreatFo2
import Derived.Test.YtlpkccpijloidaaGreatFr0
import Derived.Deep.Slices
import Derived.Deep.Fields
import Derived.ChangeSame
namespace Go.Proofs.YtlpkccpijloidaaGreat
set_option maxRecDepth 100000
open Go.RowKit Go.Deep Go.ChangeShapes Go.WideShapes Go.Joins
theorem Tryz.cellsWk : Tryz.prog.cellsOf 32 = 11 := by kernel_rfl
theorem Tryz.cellsIts : Tryz.prog.cellsOf 27 = 1 := by kernel_rfl
section
variable {H : Type} {enc : TypeId × Value → H} {w : World}
theorem open_work {r : Reach} {b0 : Nat} {v : Value} {d : DataW H} {p : List MemPlace} (hv : Value.okWide Tryz.prog w r b0 32 v) (h : DataW.Trod enc Tryz.prog w 0 (fun _ => true) true 32 v d p) : ∃ (x : WkS) (a : Option Addr) (cap : Nat), v = wv x (.slice a x.stk.length cap) ∧ UF x.f ∧ I x.spins ∧ I x.look ∧ Fo.CameT w a x.stk.length cap x.stk := by
  obtain ⟨cs, rfl, hsz⟩ := okWide_struct Tryz.underlying32 hv
  obtain ⟨fuel, ht⟩ := h
  obtain ⟨ys, n', _, _, _, hyl, hf⟩ := DataW.trod_struct Tryz.underlying32 ht
  have hcl : cs.toList.length = 11 := by simpa using hsz.trans Tryz.cellsWk
  obtain ⟨cs⟩ := cs
  match cs, hcl, hf with
  | [v0, v1, v2, v3, v4, v5, v6, v7, v8, v9, v10], _, hf =>
    have f0 : DataW.trod enc Tryz.prog w 0 (fun _ => true) true n' 3 (([v0, v1, v2, v3, v4, v5, v6, v7, v8, v9, v10].drop 0).take (Tryz.prog.cellsOf 3)) = ys[0]? := hf 0 _ rfl
    have f1 : DataW.trod enc Tryz.prog w 0 (fun _ => true) true n' 27 (([v0, v1, v2, v3, v4, v5, v6, v7, v8, v9, v10].drop 1).take (Tryz.prog.cellsOf 27)) = ys[1]? := hf 1 _ rfl
    have f2 : DataW.trod enc Tryz.prog w 0 (fun _ => true) true n' 30 (([v0, v1, v2, v3, v4, v5, v6, v7, v8, v9, v10].drop 2).take (Tryz.prog.cellsOf 30)) = ys[2]? := hf 2 _ rfl
    have f3 : DataW.trod enc Tryz.prog w 0 (fun _ => true) true n' 3 (([v0, v1, v2, v3, v4, v5, v6, v7, v8, v9, v10].drop 9).take (Tryz.prog.cellsOf 3)) = ys[3]? := hf 3 _ rfl
    have f4 : DataW.trod enc Tryz.prog w 0 (fun _ => true) true n' 3 (([v0, v1, v2, v3, v4, v5, v6, v7, v8, v9, v10].drop 10).take (Tryz.prog.cellsOf 3)) = ys[4]? := hf 4 _ rfl
    rw [Tryz.cells3] at f0 f3 f4
    rw [Tryz.cellsIts] at f1
    rw [Tryz.cells30] at f2
    match ys, hyl, f0, f1, f2, f3, f4 with
    | [y0, y1, y2, y3, y4], _, f0, f1, f2, f3, f4 =>
      obtain ⟨z0, e0, _, _⟩ := DataW.trod_int Tryz.underlying3 (show DataW.trod enc Tryz.prog w 0 (fun _ => true) true n' 3 [v0] = some y0 from f0)
      obtain ⟨z3, e3, _, u3⟩ := DataW.trod_int Tryz.underlying3 (show DataW.trod enc Tryz.prog w 0 (fun _ => true) true n' 3 [v9] = some y3 from f3)
      obtain ⟨z4, e4, _, u4⟩ := DataW.trod_int Tryz.underlying3 (show DataW.trod enc Tryz.prog w 0 (fun _ => true) true n' 3 [v10] = some y4 from f4)
      have g1 : DataW.trod enc Tryz.prog w 0 (fun _ => true) true n' 27 [v1] = some y1 := f1
      obtain ⟨a, len, cap, rfl⟩ : ∃ a len cap, v1 = .slice a len cap := by
        rcases open_slice Tryz.underlying27 g1 with ⟨hcs, _⟩ | ⟨ad, l, c, m, n, D, Pl, hcs, _⟩
        · simp at hcs; exact ⟨none, 0, 0, hcs⟩
        · simp at hcs; exact ⟨some ad, l, c, hcs⟩
      obtain ⟨l, hl⟩ := Fo.open_items g1
      obtain ⟨d2, p2⟩ := y2
      obtain ⟨xs, n2, _, _, _, hxl, hg⟩ := DataW.trod_struct Tryz.underlying30 (show DataW.trod enc Tryz.prog w 0 (fun _ => true) true n' 30 [v2, v3, v4, v5, v6, v7, v8] = some (d2, p2) from f2)
      have h0 : DataW.trod enc Tryz.prog w 0 (fun _ => true) true n2 3 (([v2, v3, v4, v5, v6, v7, v8].drop 0).take (Tryz.prog.cellsOf 3)) = xs[0]? := hg 0 _ rfl
      have h1 : DataW.trod enc Tryz.prog w 0 (fun _ => true) true n2 3 (([v2, v3, v4, v5, v6, v7, v8].drop 1).take (Tryz.prog.cellsOf 3)) = xs[1]? := hg 1 _ rfl
      have h2 : DataW.trod enc Tryz.prog w 0 (fun _ => true) true n2 3 (([v2, v3, v4, v5, v6, v7, v8].drop 2).take (Tryz.prog.cellsOf 3)) = xs[2]? := hg 2 _ rfl
      have h3 : DataW.trod enc Tryz.prog w 0 (fun _ => true) true n2 28 (([v2, v3, v4, v5, v6, v7, v8].drop 3).take (Tryz.prog.cellsOf 28)) = xs[3]? := hg 3 _ rfl
      have h4 : DataW.trod enc Tryz.prog w 0 (fun _ => true) true n2 28 (([v2, v3, v4, v5, v6, v7, v8].drop 4).take (Tryz.prog.cellsOf 28)) = xs[4]? := hg 4 _ rfl
      have h5 : DataW.trod enc Tryz.prog w 0 (fun _ => true) true n2 28 (([v2, v3, v4, v5, v6, v7, v8].drop 5).take (Tryz.prog.cellsOf 28)) = xs[5]? := hg 5 _ rfl
      have h6 : DataW.trod enc Tryz.prog w 0 (fun _ => true) true n2 3 (([v2, v3, v4, v5, v6, v7, v8].drop 6).take (Tryz.prog.cellsOf 3)) = xs[6]? := hg 6 _ rfl
      rw [Tryz.cells3] at h0 h1 h2 h6
      rw [Tryz.cells28] at h3 h4 h5
      match xs, hxl, h0, h1, h2, h3, h4, h5, h6 with
      | [x0, x1, x2, x3, x4, x5, x6], _, h0, h1, h2, h3, h4, h5, h6 =>
        obtain ⟨q0, k0, _, w0⟩ := DataW.trod_int Tryz.underlying3 (show DataW.trod enc Tryz.prog w 0 (fun _ => true) true n2 3 [v2] = some x0 from h0)
        obtain ⟨q1, k1, _, w1⟩ := DataW.trod_int Tryz.underlying3 (show DataW.trod enc Tryz.prog w 0 (fun _ => true) true n2 3 [v3] = some x1 from h1)
        obtain ⟨q2, k2, _, w2⟩ := DataW.trod_int Tryz.underlying3 (show DataW.trod enc Tryz.prog w 0 (fun _ => true) true n2 3 [v4] = some x2 from h2)
        obtain ⟨q3, k3, _, w3⟩ := DataW.trod_int Tryz.underlying28 (show DataW.trod enc Tryz.prog w 0 (fun _ => true) true n2 28 [v5] = some x3 from h3)
        obtain ⟨q4, k4, _, w4⟩ := DataW.trod_int Tryz.underlying28 (show DataW.trod enc Tryz.prog w 0 (fun _ => true) true n2 28 [v6] = some x4 from h4)
        obtain ⟨q5, k5, _, w5⟩ := DataW.trod_int Tryz.underlying28 (show DataW.trod enc Tryz.prog w 0 (fun _ => true) true n2 28 [v7] = some x5 from h5)
        obtain ⟨q6, k6, _, w6⟩ := DataW.trod_int Tryz.underlying3 (show DataW.trod enc Tryz.prog w 0 (fun _ => true) true n2 3 [v8] = some x6 from h6)
        simp at e0 e3 e4 k0 k1 k2 k3 k4 k5 k6
        subst e0 e3 e4 k0 k1 k2 k3 k4 k5 k6
        obtain ⟨rfl, hl2⟩ := hl
        exact ⟨⟨z0, l, ⟨q0, q1, q2, q3, q4, q5, q6⟩, z3, z4⟩, a, cap, rfl, ⟨u_of w3, u_of w4, u_of w5⟩, i_of u3, i_of u4, rfl, hl2⟩
end
end Go.Proofs.YtlpkccpijloidaaGreat
