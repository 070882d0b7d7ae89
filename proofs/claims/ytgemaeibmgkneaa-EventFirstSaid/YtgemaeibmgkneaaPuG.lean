/- Contract of Step: where a call does not go on, and where it does. -/
import Derived.Test.YtgemaeibmgkneaaPuF
import Derived.Test.YtgemaeibmgkneaaPuA2
import Derived.Test.YtgemaeibmgkneaaPuD
import Derived.Deep.CutRange
import Derived.Deep.DeepCutAuto
namespace Go.Proofs.Ytgemaeibmgkneaa
open Go.RowKit Go.Deep
/-- A box for the layout, one for the call that came in, and one for the call that goes out. -/
def bx3 (w : World) (W D J S : Int) (f : Fr) : World := (bxc w W D J S f).alloc (.cells #[.int .i64 0, .int .i64 0, .int .i64 0, .int .u64 0, .int .u64 0, .int .u64 0, .int .i64 0] 34)
set_option maxRecDepth 100000 in
theorem boxes3 (w : World) (W D J S : Int) (f : Fr) : Bx (bx3 w W D J S f) w.heap.size W D J S ∧ Bf (bx3 w W D J S f) (w.heap.size + 1) f ∧ Bf (bx3 w W D J S f) (w.heap.size + 1 + 1) f0 ∧ Below w.heap.size w (bx3 w W D J S f) ∧ (bx3 w W D J S f).heap.size = w.heap.size + 3 := by
  obtain ⟨b1, b2, b3, b4⟩ := boxes2 w W D J S f
  have hb := box_below (bxc w W D J S f) (.cells #[.int .i64 0, .int .i64 0, .int .i64 0, .int .u64 0, .int .u64 0, .int .u64 0, .int .i64 0] 34)
  refine ⟨b1.below hb, b2.after hb, ?_, b3.trans (hb.mono (by omega)), by unfold bx3; simp [b4]⟩
  have := heap_alloc_new (bxc w W D J S f) (.cells #[.int .i64 0, .int .i64 0, .int .i64 0, .int .u64 0, .int .u64 0, .int .u64 0, .int .i64 0] 34)
  rw [b4] at this
  exact this
/-- The cells of a push, laid into block g. -/
def pp (w : World) (g : Nat) (f : Fr) (W D J S : Int) (v : Value) : World := (((((pf w g f).setCell ⟨g, 7, none⟩ (.int .i64 W)).setCell ⟨g, 8, none⟩ (.int .i64 D)).setCell ⟨g, 9, none⟩ (.int .i64 J)).setCell ⟨g, 10, none⟩ (.int .i64 S)).setCell ⟨g, 11, none⟩ v
set_option maxRecDepth 100000 in
theorem below_pp {n : Nat} {w w' : World} (h : Below n w w') {g : Nat} (k : n ≤ g) (f : Fr) (W D J S : Int) (v : Value) : Below n w (pp w' g f W D J S v) :=
  (((((below_pf h k f).setCell k _).setCell k _).setCell k _).setCell k _).setCell k _
set_option maxRecDepth 100000 in
theorem Rx.pp {lo g : Nat} {w : World} {A : Option Addr} {l : List Int} (h : Rx lo g w A l) (f : Fr) (W D J S : Int) (v : Value) : Rx lo g (pp w g f W D J S v) A l :=
  (((((h.pf f).set rfl _).set rfl _).set rfl _).set rfl _).set rfl _
set_option maxRecDepth 100000 in
theorem hd_set12 {S : World → Prop} {n : Nat} {w0 w : World} (K : ∀ x, Below n w0 x → S x) {g : Nat} (hg : n ≤ g) (v0 v1 v2 v3 v4 v5 v6 v7 v8 v9 v10 v11 : Value) (h : Below n w0 w) : S ((((((((((((w.setCell ⟨g, 0, none⟩ v0).setCell ⟨g, 1, none⟩ v1).setCell ⟨g, 2, none⟩ v2).setCell ⟨g, 3, none⟩ v3).setCell ⟨g, 4, none⟩ v4).setCell ⟨g, 5, none⟩ v5).setCell ⟨g, 6, none⟩ v6).setCell ⟨g, 7, none⟩ v7).setCell ⟨g, 8, none⟩ v8).setCell ⟨g, 9, none⟩ v9).setCell ⟨g, 10, none⟩ v10).setCell ⟨g, 11, none⟩ v11) := K _ (((((((((((((h).setCell (p := ⟨g, 0, none⟩) hg _).setCell (p := ⟨g, 1, none⟩) hg _).setCell (p := ⟨g, 2, none⟩) hg _).setCell (p := ⟨g, 3, none⟩) hg _).setCell (p := ⟨g, 4, none⟩) hg _).setCell (p := ⟨g, 5, none⟩) hg _).setCell (p := ⟨g, 6, none⟩) hg _).setCell (p := ⟨g, 7, none⟩) hg _).setCell (p := ⟨g, 8, none⟩) hg _).setCell (p := ⟨g, 9, none⟩) hg _).setCell (p := ⟨g, 10, none⟩) hg _).setCell (p := ⟨g, 11, none⟩) hg _)
set_option maxRecDepth 100000 in
theorem hd_drew {S : World → Prop} {n : Nat} {w0 w : World} (K : ∀ x, Below n w0 x → S x) (G : ∀ x, S x → Below n w0 x) (h : S w) : S w.drew := K _ (G _ h).drew
set_option maxRecDepth 100000 in
theorem hd_alloc {S : World → Prop} {n : Nat} {w0 w : World} (K : ∀ x, Below n w0 x → S x) (G : ∀ x, S x → Below n w0 x) (hn : n ≤ w0.heap.size) (o : Obj) (h : S w) : S (w.alloc o) := K _ ((G _ h).alloc (Nat.le_trans hn (G _ h).size) o)
set_option maxRecDepth 100000 in
theorem hd_alloc_drew {S : World → Prop} {n : Nat} {w0 w : World} (K : ∀ x, Below n w0 x → S x) (G : ∀ x, S x → Below n w0 x) (hn : n ≤ w0.heap.size) (o : Obj) (h : S w.drew) : S (w.alloc o).drew := K _ (show Below n w0 (w.drew.alloc o) from (G _ h).alloc (Nat.le_trans hn (G _ h).size) o)
set_option maxRecDepth 100000 in
theorem hd_call {S : World → Prop} {n : Nat} {w0 w w' : World} (K : ∀ x, Below n w0 x → S x) (G : ∀ x, S x → Below n w0 x) (hc : Below w.heap.size w w') (h : S w) (hn : n ≤ w0.heap.size) : S w' := K _ ((G _ h).trans (hc.mono (Nat.le_trans hn (G _ h).size)))
/-- What a step leaves: cells, and a call. -/
def RetS (w : World) (l : List Int) (f : Fr) (e : Ending) (w' : World) : Prop :=
  ∃ A c, e = .returned (.tuple #[.slice A l.length c, fv f]) ∧ Rn w.heap.size w' A l ∧ Below w.heap.size w w'
end Go.Proofs.Ytgemaeibmgkneaa
