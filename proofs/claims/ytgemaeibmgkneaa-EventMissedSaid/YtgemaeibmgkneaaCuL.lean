/- What a region leaves that steps a call and lays what comes out into a box of its own, in whatever order. -/
import Derived.Test.YtgemaeibmgkneaaNxA
import Derived.Deep.RegionHeld3
import Derived.Deep.CutRange
import Derived.Deep.DeepCutAuto
namespace Go.Proofs.Ytgemaeibmgkneaa
open Go.RowKit Go.Deep
/-- The cells at x read as M, and the call F lies in a box at t of its own. -/
def Cu (wq : World) (n : Nat) (M : List Int) (F : Fr) (x t : Value) (wr : World) : Prop :=
  ∃ (g : Nat) (A : Option Addr) (c : Nat), x = .slice A n c ∧ t = .pointer (some ⟨g, 0, none⟩) ∧ wq.heap.size ≤ g ∧ Bf wr g F ∧ Rx 0 g wr A M ∧ Below wq.heap.size wq wr
theorem hd_set7g {S : World → Prop} {n : Nat} {w0 w : World} (K : ∀ x, Below n w0 x → S x) {g : Nat} (hg : n ≤ g) (v0 v1 v2 v3 v4 v5 v6 : Value) (h : Below n w0 w) : S (((((((w.setCell ⟨g, 0, none⟩ v0).setCell ⟨g, 1, none⟩ v1).setCell ⟨g, 2, none⟩ v2).setCell ⟨g, 3, none⟩ v3).setCell ⟨g, 4, none⟩ v4).setCell ⟨g, 5, none⟩ v5).setCell ⟨g, 6, none⟩ v6) :=
  K _ (((((((h.setCell (p := ⟨g, 0, none⟩) hg _).setCell (p := ⟨g, 1, none⟩) hg _).setCell (p := ⟨g, 2, none⟩) hg _).setCell (p := ⟨g, 3, none⟩) hg _).setCell (p := ⟨g, 4, none⟩) hg _).setCell (p := ⟨g, 5, none⟩) hg _).setCell (p := ⟨g, 6, none⟩) hg _)
theorem Cu.last {wq wo : World} {n : Nat} {M : List Int} (F : Fr) {A : Option Addr} {c lo : Nat} (hr : Rn lo wo A M) (hz : Below wq.heap.size wq wo) :
    Cu wq n M F (.slice A n c) (.pointer (some ⟨wo.heap.size, 0, none⟩)) (wo.alloc (.cells #[.int .i64 F.op, .int .i64 F.pc, .int .i64 F.who, .int .u64 F.val, .int .u64 F.x, .int .u64 F.y, .int .i64 F.res] 34)) :=
  ⟨wo.heap.size, A, c, rfl, rfl, hz.size, Bf.new wo F, (hr.rx (Nat.zero_le _) (.inr (Nat.le_refl _))).after (bel_alloc wo _), hz.alloc hz.size _⟩
theorem Cu.box {wq wo : World} {n : Nat} {M : List Int} (F : Fr) {f : Fr} {A : Option Addr} {c lo g : Nat} (hB : Bf wo g f) (hg : wq.heap.size ≤ g) (hr : Rn lo wo A M) (hl : g < lo) (hz : Below wq.heap.size wq wo) :
    Cu wq n M F (.slice A n c) (.pointer (some ⟨g, 0, none⟩)) (pf wo g F) :=
  ⟨g, A, c, rfl, rfl, hg, hB.pf F, (hr.rx (Nat.zero_le _) (.inl hl)).pf F, below_pf hz hg F⟩
end Go.Proofs.Ytgemaeibmgkneaa
