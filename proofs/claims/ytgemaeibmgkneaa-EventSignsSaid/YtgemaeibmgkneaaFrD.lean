/- Contracts of takeLast and takeFirst. -/
import Derived.Test.YtgemaeibmgkneaaFrC
namespace Go.Proofs.Ytgemaeibmgkneaa
open Go.RowKit Go.Deep
set_option maxRecDepth 100000 in
/-- What is left when a box has been filled, and the list lies in new memory. -/
theorem take_fin {w w0 w1 w2 : World} {l : List Int} {n g : Nat} {f : Fr} (Z : Below w.heap.size w w0) (hz : w0.heap.size = w.heap.size + 2) (z2 : Below w0.heap.size w0 w2)
    (h1 : Bk w1 g l) (hg : g = w0.heap.size) (hb : Below w1.heap.size w1 w2) (hn : l.length = n) :
    RetO w l f (.returned (.tuple #[.slice (some ⟨w.heap.size + 2, 0, none⟩) n n, fv f])) (pf w2 (w.heap.size + 1) f) := by
  subst hg hn
  have h := ((h1.rn (Nat.le_refl _)).below hb).pf (g := w.heap.size + 1) (by omega) f
  rw [hz] at h
  exact ⟨_, _, rfl, Nat.le_refl _, h.mono (by omega), below_pf (Z.trans (z2.mono (by omega))) (by omega) _⟩
set_option maxRecDepth 100000 in
theorem Rd.init {w : World} {A : Option Addr} {l : List Int} {u : Int} (h : Rd w A (l ++ [u])) : Rd w A l := fun _ => by
  obtain ⟨ad, e, hlt, hc⟩ := h (by simp)
  refine ⟨ad, e, hlt, fun j x hx => hc j x ?_⟩
  rw [List.getElem?_append_left (List.getElem?_eq_some_iff.1 hx).1]
  exact hx
set_option maxRecDepth 100000 in
theorem Rd.tail {w : World} {ad : Addr} {l : List Int} {u : Int} (h : Rd w (some ad) (u :: l)) : Rd w (some (ad.add 1)) l := fun _ => by
  obtain ⟨ad', e, hlt, hc⟩ := h (by simp)
  cases e
  refine ⟨_, rfl, by rw [block_add]; exact hlt, fun j x hx => ?_⟩
  rw [Addr.add_add, Nat.add_comm]
  exact hc (j + 1) x (by simpa using hx)
end Go.Proofs.Ytgemaeibmgkneaa
