/- Merged: PuA, PuB, PuC. -/
import Derived.Test.YtgemaeibmgkneaaFrB
import Derived.Test.YtgemaeibmgkneaaLaC
import Derived.Test.YtgemaeibmgkneaaCelC
import Derived.Test.YtgemaeibmgkneaaBaM
import Derived.IntWalk
namespace Go.Proofs.Ytgemaeibmgkneaa
open Go.RowKit Go.Deep
/-- The slice at A reads as the numbers l, in a block from number lo on that is not g. -/
def Rx (lo g : Nat) (w : World) (A : Option Addr) (l : List Int) : Prop :=
  0 < l.length → ∃ ad, A = some ad ∧ lo ≤ ad.block ∧ ad.block ≠ g ∧ ad.block < w.heap.size ∧ ∀ j u, l[j]? = some u → w.cell? (ad.add j) = some (.int .u64 u)
set_option maxRecDepth 100000 in
theorem Rx.rn {lo g : Nat} {w : World} {A : Option Addr} {l : List Int} (h : Rx lo g w A l) : Rn lo w A l := fun hp => by
  obtain ⟨ad, e, hlo, _, hlt, hc⟩ := h hp
  exact ⟨ad, e, hlo, hlt, hc⟩
set_option maxRecDepth 100000 in
theorem Rx.rd {lo g : Nat} {w : World} {A : Option Addr} {l : List Int} (h : Rx lo g w A l) : Rd w A l := h.rn.rd
set_option maxRecDepth 100000 in
theorem Rx.after {lo g : Nat} {w w' : World} {A : Option Addr} {l : List Int} (h : Rx lo g w A l) (hb : Below w.heap.size w w') : Rx lo g w' A l := fun hp => by
  obtain ⟨ad, e, hl, hne, hlt, hc⟩ := h hp
  exact ⟨ad, e, hl, hne, Nat.lt_of_lt_of_le hlt hb.size, fun j u hu => (hb.cell (p := ad.add j) (by rw [block_add]; exact hlt)).trans (hc j u hu)⟩
set_option maxRecDepth 100000 in
theorem Rx.drew {lo g : Nat} {w : World} {A : Option Addr} {l : List Int} (h : Rx lo g w A l) : Rx lo g w.drew A l := h
set_option maxRecDepth 100000 in
theorem Rx.set {lo g : Nat} {w : World} {A : Option Addr} {l : List Int} (h : Rx lo g w A l) {p : Addr} (hp : p.block = g) (v : Value) : Rx lo g (w.setCell p v) A l := fun hq => by
  obtain ⟨ad, e, hl, hne, hlt, hc⟩ := h hq
  refine ⟨ad, e, hl, hne, by simpa using hlt, fun j u hu => ?_⟩
  refine Eq.trans ?_ (hc j u hu)
  have hne : (ad.add j).block ≠ p.block := by rw [block_add, hp]; exact hne
  exact World.cell?_of_block (Below.heap_setCell w p v _ hne)
set_option maxRecDepth 100000 in
theorem Rx.pf {lo g : Nat} {w : World} {A : Option Addr} {l : List Int} (h : Rx lo g w A l) (f : Fr) : Rx lo g (pf w g f) A l :=
  ((((((h.set rfl _).set rfl _).set rfl _).set rfl _).set rfl _).set rfl _).set rfl _
set_option maxRecDepth 100000 in
theorem Rn.rx {lo lo' g : Nat} {w : World} {A : Option Addr} {l : List Int} (h : Rn lo' w A l) (hl : lo ≤ lo') (hg : g < lo' ∨ w.heap.size ≤ g) : Rx lo g w A l := fun hp => by
  obtain ⟨ad, e, hlo, hlt, hc⟩ := h hp
  exact ⟨ad, e, by omega, by omega, hlt, hc⟩
set_option maxRecDepth 100000 in
theorem Bk.rx {lo g k : Nat} {w : World} {l : List Int} (h : Bk w k l) (hk : k ≠ g) (hl : lo ≤ k) : Rx lo g w (some ⟨k, 0, none⟩) l := fun _ =>
  ⟨_, rfl, hl, hk, h.lt, fun j u hu => by rw [add_zero']; exact h.cell j u hu⟩
/-- What is held while block g's cell k alone is stored into. -/
structure Kx (g k : Nat) (w w' : World) : Prop where
  size : w.heap.size ≤ w'.heap.size
  others : ∀ b, b < w.heap.size → b ≠ g → w'.heap[b]? = w.heap[b]?
  cells : ∀ i, i ≠ k → w'.cell? ⟨g, i, none⟩ = w.cell? ⟨g, i, none⟩
set_option maxRecDepth 100000 in
theorem Kx.refl (g k : Nat) (w : World) : Kx g k w w := ⟨Nat.le_refl _, fun _ _ _ => rfl, fun _ _ => rfl⟩
set_option maxRecDepth 100000 in
theorem Kx.drew {g k : Nat} {w w' : World} (h : Kx g k w w') : Kx g k w w'.drew := ⟨h.size, h.others, h.cells⟩
set_option maxRecDepth 100000 in
theorem Kx.call {g k : Nat} {w w1 w2 : World} (h : Kx g k w w1) (hg : g < w.heap.size) (hb : Below w1.heap.size w1 w2) : Kx g k w w2 :=
  ⟨Nat.le_trans h.size hb.size, fun b hb1 hb2 => (hb.block b (Nat.lt_of_lt_of_le hb1 h.size)).trans (h.others b hb1 hb2), fun i hi => (hb.cell (p := ⟨g, i, none⟩) (Nat.lt_of_lt_of_le hg h.size)).trans (h.cells i hi)⟩
set_option maxRecDepth 100000 in
theorem Kx.set {g k : Nat} {w w1 : World} (h : Kx g k w w1) (v : Value) : Kx g k w (w1.setCell ⟨g, k, none⟩ v) :=
  ⟨by simpa using h.size, fun b hb1 hb2 => (Below.heap_setCell w1 ⟨g, k, none⟩ v b hb2).trans (h.others b hb1 hb2), fun i hi => (World.cell?_setCell_other w1 ⟨g, k, none⟩ ⟨g, i, none⟩ v (fun e => hi (by injection e with _ e; exact e.symm))).trans (h.cells i hi)⟩
set_option maxRecDepth 100000 in
theorem kx_drew {S : World → Prop} {g k : Nat} {w x : World} (K : ∀ x, Kx g k w x → S x) (G : ∀ x, S x → Kx g k w x) (h : S x) : S x.drew := K _ (G _ h).drew
set_option maxRecDepth 100000 in
theorem kx_call {S : World → Prop} {g k : Nat} {w x x' : World} (K : ∀ x, Kx g k w x → S x) (G : ∀ x, S x → Kx g k w x) (hg : g < w.heap.size) (hc : Below x.heap.size x x') (h : S x) : S x' := K _ ((G _ h).call hg hc)
set_option maxRecDepth 100000 in
theorem kx_set {S : World → Prop} {g k : Nat} {w x : World} (K : ∀ x, Kx g k w x → S x) (G : ∀ x, S x → Kx g k w x) (v : Value) (h : S x) : S (x.setCell ⟨g, k, none⟩ v) := K _ ((G _ h).set v)
end Go.Proofs.Ytgemaeibmgkneaa
namespace Go.Proofs.Ytgemaeibmgkneaa
open Go.RowKit Go.Deep

end Go.Proofs.Ytgemaeibmgkneaa
namespace Go.Proofs.Ytgemaeibmgkneaa
open Go.RowKit Go.Deep

end Go.Proofs.Ytgemaeibmgkneaa
