/- Numbers, a call, and rows of calls that came in, as a law's arguments: read as lists. -/
import Derived.Test.YtppllanmgdhabaaIkV
import Derived.Deep.Slices
import Derived.Deep.Fields
import Derived.ChangeSame
namespace Go.Proofs.Ytppllanmgdhabaa
open Go.RowKit Go.Deep Go.ChangeShapes Go.WideShapes Go.Joins
/-- What is known of numbers that came in. -/
def CameI (w : World) (a : Option Addr) (len cap : Nat) (l : List Int) : Prop := l.length = len ∧ len ≤ cap ∧ cap ≤ maxLen ∧ Ri w a l
/-- What is known of calls that came in. -/
def CameF (w : World) (a : Option Addr) (len cap : Nat) (l : List Fr) : Prop := l.length = len ∧ len ≤ cap ∧ Pr w.heap.size w a l ∧ ∀ f ∈ l, UF f
section
variable {H : Type} {enc : TypeId × Value → H} {w : World}
set_option maxRecDepth 100000 in
theorem open_ints3 {fuel : Nat} {a : Option Addr} {len cap : Nat} {y : DataW H × List MemPlace} (h : DataW.trod enc Try.prog w 0 (fun _ => true) true fuel 30 [.slice a len cap] = some y) : ∃ l, CameI w a len cap l := by
  rcases open_ints Try.underlying30 Try.underlying3 Try.cells3 h with ⟨hcs, _⟩ | ⟨x, l, c, zs, hcs, _, hl, hm, hz, _, hcell, hwf⟩
  · simp at hcs
    obtain ⟨rfl, rfl, rfl⟩ := hcs
    exact ⟨[], rfl, Nat.le_refl _, by simp, fun h => by simp at h⟩
  · simp at hcs
    obtain ⟨rfl, rfl, rfl⟩ := hcs
    simp only [if_true] at hz
    have hle : (zs.take len).length = len := by simp; omega
    refine ⟨zs.take len, hle, hl, hm, fun hp => ?_⟩
    have h0 := hcell 0 (by simp at hp; omega)
    refine ⟨x, rfl, ?_, fun j u hu => ?_⟩
    · have := block_lt_of_cell h0
      rwa [block_add] at this
    · rw [List.getElem?_take] at hu
      split at hu
      · have hj := (List.getElem?_eq_some_iff.1 hu).1
        rw [hcell j hj, List.getD_eq_getElem?_getD, hu]; rfl
      · cases hu
set_option maxRecDepth 100000 in
theorem frame_of {fuel : Nat} {cs : List Value} {d : DataW H × List MemPlace} (hcl : cs.length = 7) (h : DataW.trod enc Try.prog w 0 (fun _ => true) true fuel 28 cs = some d) : ∃ f : Fr, cs = pc f ∧ UF f := by
  obtain ⟨ys, n', _, _, _, hyl, hf⟩ := DataW.trod_struct Try.underlying28 h
  clear h
  match cs, hcl, hf with
  | [v0, v1, v2, v3, v4, v5, v6], _, hf =>
    have f0 : DataW.trod enc Try.prog w 0 (fun _ => true) true n' 3 (([v0, v1, v2, v3, v4, v5, v6].drop 0).take (Try.prog.cellsOf 3)) = ys[0]? := hf 0 _ rfl
    have f1 : DataW.trod enc Try.prog w 0 (fun _ => true) true n' 3 (([v0, v1, v2, v3, v4, v5, v6].drop 1).take (Try.prog.cellsOf 3)) = ys[1]? := hf 1 _ rfl
    have f2 : DataW.trod enc Try.prog w 0 (fun _ => true) true n' 3 (([v0, v1, v2, v3, v4, v5, v6].drop 2).take (Try.prog.cellsOf 3)) = ys[2]? := hf 2 _ rfl
    have f3 : DataW.trod enc Try.prog w 0 (fun _ => true) true n' 26 (([v0, v1, v2, v3, v4, v5, v6].drop 3).take (Try.prog.cellsOf 26)) = ys[3]? := hf 3 _ rfl
    have f4 : DataW.trod enc Try.prog w 0 (fun _ => true) true n' 26 (([v0, v1, v2, v3, v4, v5, v6].drop 4).take (Try.prog.cellsOf 26)) = ys[4]? := hf 4 _ rfl
    have f5 : DataW.trod enc Try.prog w 0 (fun _ => true) true n' 26 (([v0, v1, v2, v3, v4, v5, v6].drop 5).take (Try.prog.cellsOf 26)) = ys[5]? := hf 5 _ rfl
    have f6 : DataW.trod enc Try.prog w 0 (fun _ => true) true n' 3 (([v0, v1, v2, v3, v4, v5, v6].drop 6).take (Try.prog.cellsOf 3)) = ys[6]? := hf 6 _ rfl
    rw [Try.cells3] at f0 f1 f2 f6
    rw [Try.cells26] at f3 f4 f5
    match ys, hyl, f0, f1, f2, f3, f4, f5, f6 with
    | [y0, y1, y2, y3, y4, y5, y6], _, f0, f1, f2, f3, f4, f5, f6 =>
      obtain ⟨z0, e0, _, u0⟩ := DataW.trod_int Try.underlying3 (show DataW.trod enc Try.prog w 0 (fun _ => true) true n' 3 [v0] = some y0 from f0)
      obtain ⟨z1, e1, _, u1⟩ := DataW.trod_int Try.underlying3 (show DataW.trod enc Try.prog w 0 (fun _ => true) true n' 3 [v1] = some y1 from f1)
      obtain ⟨z2, e2, _, u2⟩ := DataW.trod_int Try.underlying3 (show DataW.trod enc Try.prog w 0 (fun _ => true) true n' 3 [v2] = some y2 from f2)
      obtain ⟨z3, e3, _, u3⟩ := DataW.trod_int Try.underlying26 (show DataW.trod enc Try.prog w 0 (fun _ => true) true n' 26 [v3] = some y3 from f3)
      obtain ⟨z4, e4, _, u4⟩ := DataW.trod_int Try.underlying26 (show DataW.trod enc Try.prog w 0 (fun _ => true) true n' 26 [v4] = some y4 from f4)
      obtain ⟨z5, e5, _, u5⟩ := DataW.trod_int Try.underlying26 (show DataW.trod enc Try.prog w 0 (fun _ => true) true n' 26 [v5] = some y5 from f5)
      obtain ⟨z6, e6, _, u6⟩ := DataW.trod_int Try.underlying3 (show DataW.trod enc Try.prog w 0 (fun _ => true) true n' 3 [v6] = some y6 from f6)
      simp at e0 e1 e2 e3 e4 e5 e6
      subst e0 e1 e2 e3 e4 e5 e6
      exact ⟨⟨z0, z1, z2, z3, z4, z5, z6⟩, rfl, u_of u3, u_of u4, u_of u5⟩
set_option maxRecDepth 100000 in
theorem open_frameU {r : Reach} {b0 : Nat} {v : Value} {d : DataW H} {p : List MemPlace} (hv : Value.okWide Try.prog w r b0 28 v) (h : DataW.Trod enc Try.prog w 0 (fun _ => true) true 28 v d p) : ∃ f : Fr, v = fv f ∧ UF f := by
  obtain ⟨cs, rfl, hsz⟩ := okWide_struct Try.underlying28 hv
  obtain ⟨fuel, ht⟩ := h
  have hcl : cs.toList.length = 7 := by simpa using hsz.trans Try.cells28
  obtain ⟨f, he, hu⟩ := frame_of hcl ht
  refine ⟨f, ?_, hu⟩
  obtain ⟨cs⟩ := cs
  simp only at he
  subst he
  rfl
set_option maxRecDepth 100000 in
theorem open_frames {fuel : Nat} {a : Option Addr} {len cap : Nat} {x : DataW H × List MemPlace} (h : DataW.trod enc Try.prog w 0 (fun _ => true) true fuel 31 [.slice a len cap] = some x) : ∃ l, CameF w a len cap l := by
  rcases open_slice Try.underlying31 h with ⟨hcs, _⟩ | ⟨ad, l, c, m, n, D, Pl, hcs, _, hl, hm, hmm, _, hi⟩
  · simp at hcs
    obtain ⟨rfl, rfl, rfl⟩ := hcs
    exact ⟨[], rfl, Nat.le_refl _, Pr.nil _ _ _, fun f h => by simp at h⟩
  · simp at hcs
    obtain ⟨rfl, rfl, rfl⟩ := hcs
    simp only [if_true] at hmm
    have each : ∀ i, i < len → ∃ f : Fr, UF f ∧ ∀ j v, (pc f)[j]? = some v → w.cell? (ad.add (i * 7 + j)) = some v := by
      intro i hlt
      obtain ⟨cs', hc, ht⟩ := hi i (by omega)
      rw [Try.cells28] at hc
      obtain ⟨_, hcl, hat⟩ := World.cells?_some hc
      obtain ⟨f, rfl, hu⟩ := frame_of hcl ht
      refine ⟨f, hu, fun j v hv => ?_⟩
      have hj := (List.getElem?_eq_some_iff.1 hv).1
      have h1 := hat j (by omega)
      rw [Go.Deep.add_add] at h1
      rw [h1, hv]
    have hT : ∀ k, k ≤ len → ∃ T : List Fr, T.length = k ∧ (∀ f ∈ T, UF f) ∧ ∀ (i : Nat) (x : Fr), T[i]? = some x → ∀ j v, (pc x)[j]? = some v → w.cell? (ad.add (i * 7 + j)) = some v := by
      intro k
      induction k with
      | zero => intro _; exact ⟨[], rfl, fun f h => by simp at h, fun i x hx => by simp at hx⟩
      | succ k ih =>
        intro hk
        obtain ⟨T, h1, h2, h3⟩ := ih (by omega)
        obtain ⟨t, g1, g2⟩ := each k (by omega)
        refine ⟨T ++ [t], by simp [h1], fun f hf => ?_, fun i x hx => ?_⟩
        · rcases List.mem_append.1 hf with hf | hf
          · exact h2 f hf
          · rw [List.mem_singleton.1 hf]; exact g1
        · by_cases e : i < T.length
          · rw [List.getElem?_append_left e] at hx
            exact h3 i x hx
          · rw [List.getElem?_append_right (by omega)] at hx
            have hi0 : i - T.length = 0 := by
              have := (List.getElem?_eq_some_iff.1 hx).1
              simp at this
              omega
            rw [hi0] at hx
            have hxt : t = x := by simpa using hx
            subst hxt
            obtain rfl : i = k := by omega
            exact g2
    obtain ⟨T, h1, h2, h3⟩ := hT len (Nat.le_refl _)
    refine ⟨T, h1, hl, fun hp => ?_, h2⟩
    obtain ⟨b, off, spot⟩ := ad
    have h0 := h3 0 T[0] (List.getElem?_eq_getElem hp) 0 _ rfl
    have hspot : spot = none := by simpa [Addr.add] using World.cell?_spot h0
    subst hspot
    refine ⟨b, off, rfl, ?_, fun i x hx => C7.of fun j v hv => ?_⟩
    · rw [add_plain'] at h0
      exact block_lt_of_cell h0
    · have := h3 i x hx j v hv
      rw [add_plain'] at this
      rw [Nat.add_assoc]
      exact this
set_option maxRecDepth 100000 in
theorem Try.cells31 : Try.prog.cellsOf 31 = 1 := by kernel_rfl
/-- What is known of rows of rows of calls that came in. -/
def CameL (w : World) (a : Option Addr) (len cap : Nat) (ls : List (List Fr)) : Prop := ls.length = len ∧ len ≤ cap ∧ ∃ vs, Rv w a vs ∧ Ls w.heap.size w vs ls ∧ ∀ l ∈ ls, ∀ f ∈ l, UF f
set_option maxRecDepth 100000 in
theorem open_framesV {fuel : Nat} {v : Value} {x : DataW H × List MemPlace} (h : DataW.trod enc Try.prog w 0 (fun _ => true) true fuel 31 [v] = some x) : ∃ (a : Option Addr) (len cap : Nat) (l : List Fr), v = .slice a len cap ∧ CameF w a len cap l := by
  have hv : ∃ (a : Option Addr) (len cap : Nat), v = .slice a len cap := by
    rcases open_slice Try.underlying31 h with ⟨hcs, _⟩ | ⟨ad, l, c, m, n, D, Pl, hcs, _⟩
    · exact ⟨none, 0, 0, by simpa using hcs⟩
    · exact ⟨some ad, l, c, by simpa using hcs⟩
  obtain ⟨a, len, cap, rfl⟩ := hv
  obtain ⟨l, hl⟩ := open_frames h
  exact ⟨a, len, cap, l, rfl, hl⟩
set_option maxRecDepth 100000 in
theorem open_rows {fuel : Nat} {a : Option Addr} {len cap : Nat} {x : DataW H × List MemPlace} (h : DataW.trod enc Try.prog w 0 (fun _ => true) true fuel 29 [.slice a len cap] = some x) : ∃ l, CameL w a len cap l := by
  rcases open_slice1 Try.underlying29 Try.cells31 h with ⟨hcs, _⟩ | ⟨ad, l, c, m, n, V, D, Pl, hcs, _, hl, hm, hmm, _, hi⟩
  · simp at hcs
    obtain ⟨rfl, rfl, rfl⟩ := hcs
    exact ⟨[], rfl, Nat.le_refl _, [], fun h => by simp at h, ⟨rfl, fun i l hl => by simp at hl⟩, fun l h => by simp at h⟩
  · simp at hcs
    obtain ⟨rfl, rfl, rfl⟩ := hcs
    simp only [if_true] at hmm
    obtain ⟨y, hy⟩ := choose_lt (α := Option Addr × Nat × List Fr) (n := len) (p := fun i y => V i = .slice y.1 y.2.2.length y.2.1 ∧ y.2.2.length ≤ y.2.1 ∧ Pr w.heap.size w y.1 y.2.2 ∧ (∀ f ∈ y.2.2, UF f)) (fun i hlt => by
      obtain ⟨A, L, C, l, e, h1, h2, h3, h4⟩ := open_framesV (hi i (by omega)).2
      subst h1
      exact ⟨(A, C, l), e, h2, h3, h4⟩)
    refine ⟨(List.range len).map fun r => (y r).2.2, by simp, hl, (List.range len).map V, fun hp => ?_, ⟨by simp, fun i l hl2 => ?_⟩, fun l hl2 => ?_⟩
    · simp at hp
      have h0 := (hi 0 (by omega)).1
      refine ⟨ad, rfl, ?_, fun j v hv => ?_⟩
      · have := block_lt_of_cell h0
        rwa [block_add] at this
      · have hj := (List.getElem?_eq_some_iff.1 hv).1
        simp at hj
        rw [List.getElem?_map, List.getElem?_range hj] at hv
        cases hv
        exact (hi j (by omega)).1
    · have hj := (List.getElem?_eq_some_iff.1 hl2).1
      simp at hj
      rw [List.getElem?_map, List.getElem?_range hj] at hl2
      cases hl2
      obtain ⟨k1, k2, k3, _⟩ := hy i hj
      exact ⟨(y i).1, (y i).2.1, by rw [List.getElem?_map, List.getElem?_range hj]; simp [k1], k2, k3⟩
    · obtain ⟨i, hi2, rfl⟩ := List.mem_map.1 hl2
      exact (hy i (List.mem_range.1 hi2)).2.2.2
end
end Go.Proofs.Ytppllanmgdhabaa
