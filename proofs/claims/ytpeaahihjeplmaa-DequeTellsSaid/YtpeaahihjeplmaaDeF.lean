/- The document's own Rest: a contract. -/
import Derived.Test.YtpeaahihjeplmaaDeB
import Derived.Test.YtpeaahihjeplmaaDeQ
namespace Go.Proofs.Ytpeaahihjeplmaa
open Go.RowKit Go.Deep Go.Shelf
theorem hd_setg {S : World → Prop} {n : Nat} {w0 w : World} (K : ∀ x, Below n w0 x → S x) (G : ∀ x, S x → Below n w0 x) {g : Nat} (hg : n ≤ g) (v0 v1 v2 v3 v4 v5 v6 : Value) (h : S w) : S (((((((w.setCell ⟨g, 0, none⟩ v0).setCell ⟨g, 1, none⟩ v1).setCell ⟨g, 2, none⟩ v2).setCell ⟨g, 3, none⟩ v3).setCell ⟨g, 4, none⟩ v4).setCell ⟨g, 5, none⟩ v5).setCell ⟨g, 6, none⟩ v6) :=
  K _ (((((((G _ h).setCell hg v0).setCell hg v1).setCell hg v2).setCell hg v3).setCell hg v4).setCell hg v5 |>.setCell hg v6)
theorem Bx.of_block {w w' : World} {g : Nat} {W D J S : Int} (h : Bx w g W D J S) (hs : w'.heap[g]? = w.heap[g]?) (hz : g < w'.heap.size) : Bx w' g W D J S := by
  obtain ⟨_, e0, e1, e2, e3⟩ := h
  exact ⟨hz, (World.cell?_of_block (a := ⟨g, 0, none⟩) hs).trans e0, (World.cell?_of_block (a := ⟨g, 1, none⟩) hs).trans e1, (World.cell?_of_block (a := ⟨g, 2, none⟩) hs).trans e2, (World.cell?_of_block (a := ⟨g, 3, none⟩) hs).trans e3⟩
/-- What holds in the loops of the document's own Rest and Play: the layout's box, the row of calls, the cells. -/
structure RS (w0 : World) (n₀ : Nat) (D : Int) (g na d : Nat) (A : Option Addr) (M : List Int) (row : List Fr) (w : World) : Prop where
  bx : Bx w n₀ 1 D 1 0
  ow : Ow w (n₀ + 1) (some ⟨g, 0, none⟩) na d row
  me : Rx 0 g w A M
  be : Below n₀ w0 w
theorem RS.after {w0 : World} {n₀ : Nat} {D : Int} {g na d : Nat} {A : Option Addr} {M : List Int} {row : List Fr} {w w' : World} (h : RS w0 n₀ D g na d A M row w) (hb : Below w.heap.size w w') : RS w0 n₀ D g na d A M row w' :=
  ⟨h.bx.below hb, h.ow.below hb, h.me.after hb, h.be.trans (hb.mono (Nat.le_of_lt h.bx.1))⟩
theorem Rx.pk7 {lo g : Nat} {w : World} {A : Option Addr} {l : List Int} (h : Rx lo g w A l) (k : Nat) (f : Fr) : Rx lo g (pk7 w g k f) A l :=
  ((((((h.set rfl _).set rfl _).set rfl _).set rfl _).set rfl _).set rfl _).set rfl _
theorem ow_ge {w : World} {base g n c : Nat} {l : List Fr} (h : Ow w base (some ⟨g, 0, none⟩) n c l) : base ≤ g ∧ g < w.heap.size := World.ownsRow.lt h g rfl
theorem RS.store {w0 : World} {n₀ : Nat} {D : Int} {g na d : Nat} {A : Option Addr} {M : List Int} {row : List Fr} {w : World} (h : RS w0 n₀ D g na d A M row w) {i : Nat} (hi : i < na) (f : Fr) : RS w0 n₀ D g na d A M (row.set i f) (pk7 w g (i * 7) f) := by
  have hg := ow_ge h.ow
  have k1 := h.ow.set hi f
  have k2 := h.me.pk7 (i * 7) f
  have k3 : Below n₀ w0 (pk7 w g (i * 7) f) := below_pk7 h.be (Nat.le_of_succ_le hg.1) (i * 7) f
  have hs : (pk7 w g (i * 7) f).heap[n₀]? = w.heap[n₀]? := pk7_other n₀ (Nat.ne_of_lt (Nat.lt_of_succ_le hg.1))
  have hz : n₀ < (pk7 w g (i * 7) f).heap.size := by rw [pk7_size]; exact h.bx.1
  have k0 := h.bx.of_block hs hz
  exact ⟨k0, k1, k2, k3⟩
/-- Behind a step of the document's own: the call's box first, or the step first. -/
theorem RS.box {w0 : World} {n₀ : Nat} {D : Int} {g na d : Nat} {A A' : Option Addr} {M M' : List Int} {row : List Fr} {w x w' : World} {f' : Fr} (h : RS w0 n₀ D g na d A M row w)
    (hx : x = w.drew ∨ ∃ o, x = w.drew.alloc o ∨ x = (w.alloc o).drew) (hr : (A' = A ∧ M' = M) ∨ Rn x.heap.size w' A' M') (hb : Below x.heap.size x w') {wf : World} {k : Nat} (hf : (k = w.heap.size ∧ w.heap.size < x.heap.size ∧ wf = Go.Proofs.Ytpeaahihjeplmaa.pf w' k f') ∨ (k = w'.heap.size ∧ Below w'.heap.size w' wf)) : RS w0 n₀ D g na d A' M' row wf := by
  have hwx : Below w.heap.size w x := by
    rcases hx with rfl | ⟨o, rfl | rfl⟩
    · exact (Below.refl _ _).drew
    · exact (Below.refl _ _).drew.alloc (Nat.le_refl _) _
    · exact ((Below.refl _ _).alloc (Nat.le_refl _) _).drew
  have hgx := hwx.size
  have hb' : Below w.heap.size w w' := hwx.trans (hb.mono hwx.size)
  have hg := ow_ge h.ow
  have hm : Rx 0 g w' A' M' := by
    rcases hr with ⟨rfl, rfl⟩ | hr
    · exact h.me.after hb'
    · exact hr.rx (Nat.zero_le _) (.inl (by omega))
  rcases hf with ⟨rfl, hlt, rfl⟩ | ⟨rfl, hz⟩
  · have hb2 : Below w.heap.size w (Go.Proofs.Ytpeaahihjeplmaa.pf w' w.heap.size f') := below_pf hb' (Nat.le_refl _) f'
    have hs := h.after hb2
    refine ⟨hs.bx, hs.ow, ?_, hs.be⟩
    rcases hr with ⟨rfl, rfl⟩ | hr
    · exact hs.me
    · exact (hr.pf hlt f').rx (Nat.zero_le _) (.inl (by omega))
  · have hs := h.after (hb'.trans (hz.mono hb'.size))
    exact ⟨hs.bx, hs.ow, hm.after hz, hs.be⟩
end Go.Proofs.Ytpeaahihjeplmaa
