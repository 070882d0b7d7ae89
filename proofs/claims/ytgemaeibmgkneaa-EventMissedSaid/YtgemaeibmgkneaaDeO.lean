/- Numbers, and lists of numbers, that came in, as a law's arguments: read as lists. -/
import Derived.Test.YtgemaeibmgkneaaEvW
import Derived.Test.YtgemaeibmgkneaaFrH2
import Derived.Deep.Slices
import Derived.Deep.Grids
import Derived.Deep.Fields
import Derived.ChangeSame
namespace Go.Proofs.Ytgemaeibmgkneaa
open Go.RowKit Go.Deep Go.ChangeShapes Go.WideShapes
set_option maxRecDepth 100000 in
theorem Try.cells23 : Try.prog.cellsOf 23 = 1 := by kernel_rfl
/-- What is known of numbers that came in. -/
def CameI (w : World) (a : Option Addr) (len cap : Nat) (l : List Int) : Prop := l.length = len ∧ len ≤ cap ∧ cap ≤ maxLen ∧ Ri w a l
/-- What is known of lists of numbers that came in. -/
def CameV (w : World) (a : Option Addr) (len cap : Nat) (ls : List (List Int)) : Prop := ls.length = len ∧ len ≤ cap ∧ Rl w a ls
section
variable {H : Type} {enc : TypeId × Value → H} {w : World}
set_option maxRecDepth 100000 in
theorem open_ints3 {fuel : Nat} {a : Option Addr} {len cap : Nat} {y : DataW H × List MemPlace} (h : DataW.trod enc Try.prog w 0 (fun _ => true) true fuel 23 [.slice a len cap] = some y) : ∃ l, CameI w a len cap l := by
  rcases open_ints Try.underlying23 Try.underlying3 Try.cells3 h with ⟨hcs, _⟩ | ⟨x, l, c, zs, hcs, _, hl, hm, hz, _, hcell, hwf⟩
  · simp at hcs
    obtain ⟨rfl, rfl, rfl⟩ := hcs
    exact ⟨[], rfl, Nat.le_refl _, by simp, fun h => by simp at h⟩
  · simp at hcs
    obtain ⟨rfl, rfl, rfl⟩ := hcs
    simp only [if_true] at hz
    have hle : (zs.take len).length = len := by simp; omega
    refine ⟨zs.take len, hle, hl, hm, fun hp => ?_⟩
    have h0 := hcell 0 (by simp at hp; omega)
    refine ⟨x, rfl, ?_, fun j u hu => ?_⟩
    · have := block_lt_of_cell h0
      rwa [block_add] at this
    · rw [List.getElem?_take] at hu
      split at hu
      · have hj := (List.getElem?_eq_some_iff.1 hu).1
        rw [hcell j hj, List.getD_eq_getElem?_getD, hu]; rfl
      · cases hu
set_option maxRecDepth 100000 in
/-- What came in as numbers is read where it lies. -/
theorem CameI.pn {a : Option Addr} {len cap : Nat} {l : List Int} (h : CameI w a len cap l) : Pn w.heap.size w a l := fun hp => by
  obtain ⟨ad, e, hlt, hc⟩ := h.2.2.2 hp
  obtain ⟨b, off, spot⟩ := ad
  have h0 := hc 0 l[0] (List.getElem?_eq_getElem hp)
  have hspot : spot = none := by simpa [Addr.add] using World.cell?_spot h0
  subst hspot
  exact ⟨b, off, e, hlt, fun j u hu => by rw [← add_plain']; exact hc j u hu⟩
set_option maxRecDepth 100000 in
theorem open_intsV {fuel : Nat} {v : Value} {x : DataW H × List MemPlace} (h : DataW.trod enc Try.prog w 0 (fun _ => true) true fuel 23 [v] = some x) : ∃ (a : Option Addr) (len cap : Nat) (l : List Int), v = .slice a len cap ∧ CameI w a len cap l := by
  have hv : ∃ (a : Option Addr) (len cap : Nat), v = .slice a len cap := by
    rcases open_slice Try.underlying23 h with ⟨hcs, _⟩ | ⟨ad, l, c, m, n, D, Pl, hcs, _⟩
    · exact ⟨none, 0, 0, by simpa using hcs⟩
    · exact ⟨some ad, l, c, by simpa using hcs⟩
  obtain ⟨a, len, cap, rfl⟩ := hv
  obtain ⟨l, hl⟩ := open_ints3 h
  exact ⟨a, len, cap, l, rfl, hl⟩
set_option maxRecDepth 100000 in
theorem open_lists {fuel : Nat} {a : Option Addr} {len cap : Nat} {x : DataW H × List MemPlace} (h : DataW.trod enc Try.prog w 0 (fun _ => true) true fuel 22 [.slice a len cap] = some x) : ∃ l, CameV w a len cap l := by
  rcases open_slice1 Try.underlying22 Try.cells23 h with ⟨hcs, _⟩ | ⟨ad, l, c, m, n, V, D, Pl, hcs, _, hl, hm, hmm, _, hi⟩
  · simp at hcs
    obtain ⟨rfl, rfl, rfl⟩ := hcs
    exact ⟨[], rfl, Nat.le_refl _, [], fun h => by simp at h, ⟨rfl, fun i l hl => by simp at hl⟩⟩
  · simp at hcs
    obtain ⟨rfl, rfl, rfl⟩ := hcs
    simp only [if_true] at hmm
    obtain ⟨y, hy⟩ := choose_lt (α := Option Addr × Nat × List Int) (n := len) (p := fun i y => V i = .slice y.1 y.2.2.length y.2.1 ∧ y.2.2.length ≤ y.2.1 ∧ Pn w.heap.size w y.1 y.2.2) (fun i hlt => by
      obtain ⟨A, L, C, l, e, hc⟩ := open_intsV (hi i (by omega)).2
      have h1 := hc.1
      have h2 := hc.2.1
      have h3 := hc.pn
      subst h1
      exact ⟨(A, C, l), e, h2, h3⟩)
    refine ⟨(List.range len).map fun r => (y r).2.2, by simp, hl, (List.range len).map V, fun hp => ?_, ⟨by simp, fun i l hl2 => ?_⟩⟩
    · simp at hp
      have h0 := (hi 0 (by omega)).1
      refine ⟨ad, rfl, ?_, fun j v hv => ?_⟩
      · have := block_lt_of_cell h0
        rwa [block_add] at this
      · have hj := (List.getElem?_eq_some_iff.1 hv).1
        simp at hj
        rw [List.getElem?_map, List.getElem?_range hj] at hv
        cases hv
        exact (hi j (by omega)).1
    · have hj := (List.getElem?_eq_some_iff.1 hl2).1
      simp at hj
      rw [List.getElem?_map, List.getElem?_range hj] at hl2
      cases hl2
      obtain ⟨k1, k2, k3⟩ := hy i hj
      exact ⟨(y i).1, (y i).2.1, by rw [List.getElem?_map, List.getElem?_range hj]; simp [k1], k2, k3⟩
end
end Go.Proofs.Ytgemaeibmgkneaa
