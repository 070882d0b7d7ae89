/- Numbers and truth values that came in, as a law's arguments: read as lists. -/
import Derived.Test.YtppllanmgdhabaaIkV
import Derived.Deep.Slices
import Derived.Deep.Grids
import Derived.ChangeSame
namespace Go.Proofs.Ytppllanmgdhabaa
open Go.RowKit Go.Deep Go.ChangeShapes Go.WideShapes
set_option maxRecDepth 100000 in
theorem Try.cells4 : Try.prog.cellsOf 4 = 1 := by kernel_rfl
/-- What is known of numbers that came in. -/
def CameI (w : World) (a : Option Addr) (len cap : Nat) (l : List Int) : Prop := l.length = len ∧ len ≤ cap ∧ cap ≤ maxLen ∧ Ri w a l
/-- What is known of truth values that came in. -/
def CameB (w : World) (a : Option Addr) (len cap : Nat) (l : List Bool) : Prop := l.length = len ∧ len ≤ cap ∧ Rb w a l
section
variable {H : Type} {enc : TypeId × Value → H} {w : World}
set_option maxRecDepth 100000 in
theorem open_ints3 {fuel : Nat} {a : Option Addr} {len cap : Nat} {y : DataW H × List MemPlace} (h : DataW.trod enc Try.prog w 0 (fun _ => true) true fuel 30 [.slice a len cap] = some y) : ∃ l, CameI w a len cap l := by
  rcases open_ints Try.underlying30 Try.underlying3 Try.cells3 h with ⟨hcs, _⟩ | ⟨x, l, c, zs, hcs, _, hl, hm, hz, _, hcell, hwf⟩
  · simp at hcs
    obtain ⟨rfl, rfl, rfl⟩ := hcs
    exact ⟨[], rfl, Nat.le_refl _, by simp, fun h => by simp at h⟩
  · simp at hcs
    obtain ⟨rfl, rfl, rfl⟩ := hcs
    simp only [if_true] at hz
    have hle : (zs.take len).length = len := by simp; omega
    refine ⟨zs.take len, hle, hl, hm, fun hp => ?_⟩
    have h0 := hcell 0 (by simp at hp; omega)
    refine ⟨x, rfl, ?_, fun j u hu => ?_⟩
    · have := block_lt_of_cell h0
      rwa [block_add] at this
    · rw [List.getElem?_take] at hu
      split at hu
      · have hj := (List.getElem?_eq_some_iff.1 hu).1
        rw [hcell j hj, List.getD_eq_getElem?_getD, hu]; rfl
      · cases hu
set_option maxRecDepth 100000 in
theorem open_bools4 {fuel : Nat} {a : Option Addr} {len cap : Nat} {y : DataW H × List MemPlace} (h : DataW.trod enc Try.prog w 0 (fun _ => true) true fuel 45 [.slice a len cap] = some y) : ∃ l, CameB w a len cap l := by
  rcases open_bools Try.underlying45 Try.underlying4 Try.cells4 h with ⟨hcs, _⟩ | ⟨x, l, c, B, hcs, _, hl, hm, _, hcell⟩
  · simp at hcs
    obtain ⟨rfl, rfl, rfl⟩ := hcs
    exact ⟨[], rfl, Nat.le_refl _, fun h => by simp at h⟩
  · simp at hcs
    obtain ⟨rfl, rfl, rfl⟩ := hcs
    refine ⟨(List.range len).map B, by simp, hl, fun hp => ?_⟩
    have h0 := hcell 0 (by simp at hp; omega)
    refine ⟨x, rfl, ?_, fun j u hu => ?_⟩
    · have := block_lt_of_cell h0
      rwa [block_add] at this
    · have hj := (List.getElem?_eq_some_iff.1 hu).1
      simp at hj
      rw [hcell j (by omega)]
      simp at hu
      obtain ⟨k, hk, rfl⟩ := hu
      rw [List.getElem?_range hj] at hk
      cases hk
      rfl
set_option maxRecDepth 100000 in
theorem Try.cells45 : Try.prog.cellsOf 45 = 1 := by kernel_rfl
/-- What is known of rows of truth values that came in. -/
def CameG (w : World) (a : Option Addr) (len cap : Nat) (l : List (List Bool)) : Prop := l.length = len ∧ len ≤ cap ∧ Rg w a l
set_option maxRecDepth 100000 in
theorem open_grid {fuel : Nat} {a : Option Addr} {len cap : Nat} {y : DataW H × List MemPlace} (h : DataW.trod enc Try.prog w 0 (fun _ => true) true fuel 43 [.slice a len cap] = some y) : ∃ l, CameG w a len cap l := by
  rcases open_bool_rows Try.underlying43 Try.underlying45 Try.underlying4 Try.cells45 Try.cells4 h with ⟨hcs, _⟩ | ⟨x, l, c, A, L, C, B, hcs, _, hl, hm, _, hcell⟩
  · simp at hcs
    obtain ⟨rfl, rfl, rfl⟩ := hcs
    exact ⟨[], rfl, Nat.le_refl _, fun h => by simp at h⟩
  · simp at hcs
    obtain ⟨rfl, rfl, rfl⟩ := hcs
    refine ⟨(List.range len).map fun r => (List.range (L r)).map (B r), by simp, hl, fun hp => ?_⟩
    have h0 := (hcell 0 (by simp at hp; omega)).1
    refine ⟨x, rfl, ?_, fun j u hu => ?_⟩
    · have := block_lt_of_cell h0
      rwa [block_add] at this
    · have hj := (List.getElem?_eq_some_iff.1 hu).1
      simp at hj
      obtain ⟨k1, k2, k3, k4, k5⟩ := hcell j (by omega)
      simp at hu
      obtain ⟨k, hk, rfl⟩ := hu
      rw [List.getElem?_range hj] at hk
      cases hk
      refine ⟨A j, C j, by simpa using k1, fun hp2 => ?_⟩
      simp at hp2
      cases hA : A j with
      | none => have := k4 hA; omega
      | some a' =>
        obtain ⟨_, k6⟩ := k5 a' hA
        refine ⟨a', rfl, ?_, fun i b hb => ?_⟩
        · have := block_lt_of_cell (k6 0 (by omega))
          rwa [block_add] at this
        · have hi := (List.getElem?_eq_some_iff.1 hb).1
          simp at hi
          rw [k6 i (by omega)]
          simp at hb
          obtain ⟨q, hq, rfl⟩ := hb
          rw [List.getElem?_range hi] at hq
          cases hq
          rfl
end
end Go.Proofs.Ytppllanmgdhabaa
