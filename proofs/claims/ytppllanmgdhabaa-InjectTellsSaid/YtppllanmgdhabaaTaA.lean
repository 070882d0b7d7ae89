/- Taking out, at hand, in a box: its layout, its cells, its call; and the contracts of the small functions of package deq. -/
import Derived.Test.YtppllanmgdhabaaEnA
import Derived.IntWalk
import Derived.BigQuiet
namespace Go.Proofs.Ytppllanmgdhabaa
open Go.RowKit Go.Deep
/-- One who takes out lies in block g: the layout, its cells, its call. -/
def Bt (w : World) (g : Nat) (W D J S : Int) (v : Value) (f : Fr) : Prop := w.heap[g]? = some (.cells #[.int .i64 W, .int .i64 D, .int .i64 J, .int .i64 S, v, .int .i64 f.op, .int .i64 f.pc, .int .i64 f.who, .int .u64 f.val, .int .u64 f.x, .int .u64 f.y, .int .i64 f.res] 89 (0, 0))
set_option maxRecDepth 100000 in
theorem Bt.lt {w : World} {g : Nat} {W D J S : Int} {v : Value} {f : Fr} (h : Bt w g W D J S v f) : g < w.heap.size := by
  rcases Nat.lt_or_ge g w.heap.size with hlt | hge
  · exact hlt
  · unfold Bt at h; rw [Array.getElem?_eq_none hge] at h; cases h
set_option maxRecDepth 100000 in
theorem Bt.below {w w' : World} {g B : Nat} {W D J S : Int} {v : Value} {f : Fr} (h : Bt w g W D J S v f) (hb : Below B w w') (hg : g < B) : Bt w' g W D J S v f := (hb.block g hg).trans h
set_option maxRecDepth 100000 in
theorem Bt.after {w w' : World} {g : Nat} {W D J S : Int} {v : Value} {f : Fr} (h : Bt w g W D J S v f) (hb : Below w.heap.size w w') : Bt w' g W D J S v f := h.below hb h.lt
set_option maxRecDepth 100000 in
theorem Bt.drew {w : World} {g : Nat} {W D J S : Int} {v : Value} {f : Fr} (h : Bt w g W D J S v f) : Bt w.drew g W D J S v f := h
set_option maxRecDepth 100000 in
theorem Bt.cells {w : World} {g : Nat} {W D J S : Int} {v : Value} {f : Fr} (h : Bt w g W D J S v f) : w.cell? ⟨g, 0, none⟩ = some (.int .i64 W) ∧ w.cell? ⟨g, 1, none⟩ = some (.int .i64 D) ∧ w.cell? ⟨g, 2, none⟩ = some (.int .i64 J) ∧ w.cell? ⟨g, 3, none⟩ = some (.int .i64 S) ∧ w.cell? ⟨g, 4, none⟩ = some v
    ∧ w.cell? ⟨g, 5, none⟩ = some (.int .i64 f.op) ∧ w.cell? ⟨g, 6, none⟩ = some (.int .i64 f.pc) ∧ w.cell? ⟨g, 7, none⟩ = some (.int .i64 f.who) ∧ w.cell? ⟨g, 8, none⟩ = some (.int .u64 f.val) ∧ w.cell? ⟨g, 9, none⟩ = some (.int .u64 f.x) ∧ w.cell? ⟨g, 10, none⟩ = some (.int .u64 f.y) ∧ w.cell? ⟨g, 11, none⟩ = some (.int .i64 f.res) := by
  unfold Bt at h
  refine ⟨?_, ?_, ?_, ?_, ?_, ?_, ?_, ?_, ?_, ?_, ?_, ?_⟩ <;> (rw [cell_of_row w g _ _ _ _ h]; rfl)
set_option maxRecDepth 100000 in
theorem Bt.free {w : World} {g : Nat} {W D J S : Int} {v : Value} {f : Fr} (h : Bt w g W D J S v f) (i : Nat) : w.frozen? ⟨g, i, none⟩ = false := by
  unfold Bt at h
  simp [World.frozen?, h]
set_option maxRecDepth 100000 in
theorem Bt.setPc {w : World} {g : Nat} {W D J S : Int} {v : Value} {f : Fr} (h : Bt w g W D J S v f) (z : Int) : Bt (w.setCell ⟨g, 6, none⟩ (.int .i64 z)) g W D J S v { f with pc := z } := by
  unfold Bt at h ⊢
  simp [World.setCell, Array.getElem?_modify, h]
set_option maxRecDepth 100000 in
theorem Bt.setX {w : World} {g : Nat} {W D J S : Int} {v : Value} {f : Fr} (h : Bt w g W D J S v f) (z : Int) : Bt (w.setCell ⟨g, 9, none⟩ (.int .u64 z)) g W D J S v { f with x := z } := by
  unfold Bt at h ⊢
  simp [World.setCell, Array.getElem?_modify, h]
set_option maxRecDepth 100000 in
theorem Bt.setY {w : World} {g : Nat} {W D J S : Int} {v : Value} {f : Fr} (h : Bt w g W D J S v f) (z : Int) : Bt (w.setCell ⟨g, 10, none⟩ (.int .u64 z)) g W D J S v { f with y := z } := by
  unfold Bt at h ⊢
  simp [World.setCell, Array.getElem?_modify, h]
set_option maxRecDepth 100000 in
theorem Bt.setVal {w : World} {g : Nat} {W D J S : Int} {v : Value} {f : Fr} (h : Bt w g W D J S v f) (z : Int) : Bt (w.setCell ⟨g, 8, none⟩ (.int .u64 z)) g W D J S v { f with val := z } := by
  unfold Bt at h ⊢
  simp [World.setCell, Array.getElem?_modify, h]
set_option maxRecDepth 100000 in
theorem Bt.setM {w : World} {g : Nat} {W D J S : Int} {v : Value} {f : Fr} (h : Bt w g W D J S v f) (z : Value) : Bt (w.setCell ⟨g, 4, none⟩ z) g W D J S z f := by
  unfold Bt at h ⊢
  simp [World.setCell, Array.getElem?_modify, h]
/-- A call, laid into such a box. -/
def pt (w : World) (g : Nat) (f : Fr) : World := (((((((w.setCell ⟨g, 5, none⟩ (.int .i64 f.op)).setCell ⟨g, 6, none⟩ (.int .i64 f.pc)).setCell ⟨g, 7, none⟩ (.int .i64 f.who)).setCell ⟨g, 8, none⟩ (.int .u64 f.val)).setCell ⟨g, 9, none⟩ (.int .u64 f.x)).setCell ⟨g, 10, none⟩ (.int .u64 f.y)).setCell ⟨g, 11, none⟩ (.int .i64 f.res))
/-- All of one who takes out, laid into block g. -/
def ppt (w : World) (g : Nat) (W D J S : Int) (v : Value) (f : Fr) : World := ((((((((((((w.setCell ⟨g, 0, none⟩ (.int .i64 W)).setCell ⟨g, 1, none⟩ (.int .i64 D)).setCell ⟨g, 2, none⟩ (.int .i64 J)).setCell ⟨g, 3, none⟩ (.int .i64 S)).setCell ⟨g, 4, none⟩ (v)).setCell ⟨g, 5, none⟩ (.int .i64 f.op)).setCell ⟨g, 6, none⟩ (.int .i64 f.pc)).setCell ⟨g, 7, none⟩ (.int .i64 f.who)).setCell ⟨g, 8, none⟩ (.int .u64 f.val)).setCell ⟨g, 9, none⟩ (.int .u64 f.x)).setCell ⟨g, 10, none⟩ (.int .u64 f.y)).setCell ⟨g, 11, none⟩ (.int .i64 f.res))
set_option maxRecDepth 100000 in
theorem Bt.pt {w : World} {g : Nat} {W D J S : Int} {v : Value} {f : Fr} (h : Bt w g W D J S v f) (f' : Fr) : Bt (pt w g f') g W D J S v f' := by
  unfold Bt at h ⊢
  unfold Ytppllanmgdhabaa.pt
  simp [World.setCell, Array.getElem?_modify, h]
set_option maxRecDepth 100000 in
theorem Bt.ppt {w : World} {g : Nat} {W D J S : Int} {v : Value} {f : Fr} (h : Bt w g W D J S v f) (W' D' J' S' : Int) (v' : Value) (f' : Fr) : Bt (ppt w g W' D' J' S' v' f') g W' D' J' S' v' f' := by
  unfold Bt at h ⊢
  unfold Ytppllanmgdhabaa.ppt
  simp [World.setCell, Array.getElem?_modify, h]
set_option maxRecDepth 100000 in
theorem below_pt {n : Nat} {w w' : World} (h : Below n w w') {g : Nat} (k : n ≤ g) (f : Fr) : Below n w (pt w' g f) :=
  ((((((h.setCell k _).setCell k _).setCell k _).setCell k _).setCell k _).setCell k _).setCell k _
set_option maxRecDepth 100000 in
theorem below_ppt {n : Nat} {w w' : World} (h : Below n w w') {g : Nat} (k : n ≤ g) (W D J S : Int) (v : Value) (f : Fr) : Below n w (ppt w' g W D J S v f) :=
  (((((((((((h.setCell k _).setCell k _).setCell k _).setCell k _).setCell k _).setCell k _).setCell k _).setCell k _).setCell k _).setCell k _).setCell k _).setCell k _
set_option maxRecDepth 100000 in
theorem Rx.pt {lo g : Nat} {w : World} {A : Option Addr} {l : List Int} (h : Rx lo g w A l) (f : Fr) : Rx lo g (pt w g f) A l :=
  ((((((h.set rfl _).set rfl _).set rfl _).set rfl _).set rfl _).set rfl _).set rfl _
set_option maxRecDepth 100000 in
theorem Rx.ppt {lo g : Nat} {w : World} {A : Option Addr} {l : List Int} (h : Rx lo g w A l) (W D J S : Int) (v : Value) (f : Fr) : Rx lo g (ppt w g W D J S v f) A l :=
  (((((((((((h.set rfl _).set rfl _).set rfl _).set rfl _).set rfl _).set rfl _).set rfl _).set rfl _).set rfl _).set rfl _).set rfl _).set rfl _
set_option maxRecDepth 100000 in
theorem Bt.new (w : World) : Bt (w.alloc (.cells #[.int .i64 0, .int .i64 0, .int .i64 0, .int .i64 0, .slice none 0 0, .int .i64 0, .int .i64 0, .int .i64 0, .int .u64 0, .int .u64 0, .int .u64 0, .int .i64 0] 89)) w.heap.size 0 0 0 0 (.slice none 0 0) f0 := heap_alloc_new _ _
set_option maxRecDepth 100000 in
theorem Bk.ne_t {k : Nat} {l : List Int} {w : World} {g : Nat} {W D J S : Int} {v : Value} {f : Fr} (h : Bk w k l) (hb : Bt w g W D J S v f) : k ≠ g := by
  rintro rfl
  unfold Bk at h
  unfold Bt at hb
  rw [h] at hb
  injection hb with hb
  injection hb with _ hb _
  cases hb
/-- What a step leaves: the box with the call, and cells; nothing below it has changed. -/
def Lt (lo : Nat) (w : World) (g : Nat) (f : Fr) (W D J S : Int) (l : List Int) (e : Ending) (w' : World) : Prop :=
  ∃ A c, e = .returned (.tuple #[]) ∧ Bt w' g W D J S (.slice A l.length c) f ∧ Rx lo g w' A l ∧ Below g w w'
set_option maxRecDepth 100000 in
theorem dfree_any (W D J S x : Int) (w : World) (hJ : 1 ≤ J ∧ J ≤ 16) (hx : U x) : Tells 53 #[cf W D J S, .int .u64 x] w (.int .u64 (tw J x % 18446744073709551616)) := by
  have e1 : IntKind.u64.wrap J = J := by rw [IntKind.wrap_u64]; omega
  have e2 : x.tdiv J = x / J := Int.tdiv_eq_ediv_of_nonneg hx.1
  have e3 : 0 ≤ x / J := Int.ediv_nonneg hx.1 (by omega)
  have e4 : x / J ≤ x := Int.ediv_le_self _ hx.1
  have e5 : IntKind.u64.wrap (x / J) = x / J := by have := hx.2; rw [IntKind.wrap_u64]; omega
  have e6 : IntKind.u64.wrap (x / J * 2) = tw J x % 18446744073709551616 := by unfold tw; rw [IntKind.wrap_u64, Int.mul_comm]
  have e7 : ¬ J = 0 := by omega
  clear hx
  generalize tw J x % 18446744073709551616 = T at e6 ⊢
  go_enter Try.func53, Try.ntmps53
  go_wp2
  go_ret
  exact ⟨rfl, box_below w _⟩
set_option maxRecDepth 100000 in
theorem dhas_any (W D J S x : Int) (w : World) (hJ : 1 ≤ J ∧ J ≤ 16) (hx : U x) : Tells 51 #[cf W D J S, .int .u64 x] w (.int .u64 ((tw J x + 1) % 18446744073709551616)) := by
  have hw1 : IntKind.u64.wrap (tw J x % 18446744073709551616 + 1) = (tw J x + 1) % 18446744073709551616 := by rw [IntKind.wrap_u64]; omega
  obtain ⟨t, ht⟩ : ∃ t, t = tw J x % 18446744073709551616 := ⟨_, rfl⟩
  rw [← ht] at hw1
  have HT := Lib.hid ht
  have HJ := Lib.hid hJ
  have HX := Lib.hid hx
  generalize (tw J x + 1) % 18446744073709551616 = T at hw1 ⊢
  clear hJ hx ht
  go_enter Try.func51, Try.ntmps51
  go_wp2_with fail
  refine (Tells.of (dfree_any W D J S x _ HJ.out HX.out) (v' := .int .u64 t) (by rw [HT.out])).mono ?_
  rintro _ w1 ⟨rfl, z1⟩
  have HZ := Lib.hid ((box_below w _).trans (z1.mono (by simp)))
  clear z1
  go_wp2
  go_ret
  exact ⟨rfl, HZ.out⟩
set_option maxRecDepth 100000 in
theorem dfreed_any (W D J S x : Int) (w : World) (hJ : 1 ≤ J ∧ J ≤ 16) (hx : U x) : Tells 101 #[cf W D J S, .int .u64 x] w (.int .u64 ((tw J x + 2) % 18446744073709551616)) := by
  have hw1 : IntKind.u64.wrap (tw J x % 18446744073709551616 + 2) = (tw J x + 2) % 18446744073709551616 := by rw [IntKind.wrap_u64]; omega
  obtain ⟨t, ht⟩ : ∃ t, t = tw J x % 18446744073709551616 := ⟨_, rfl⟩
  rw [← ht] at hw1
  have HT := Lib.hid ht
  have HJ := Lib.hid hJ
  have HX := Lib.hid hx
  generalize (tw J x + 2) % 18446744073709551616 = T at hw1 ⊢
  clear hJ hx ht
  go_enter Try.func101, Try.ntmps101
  go_wp2_with fail
  refine (Tells.of (dfree_any W D J S x _ HJ.out HX.out) (v' := .int .u64 t) (by rw [HT.out])).mono ?_
  rintro _ w1 ⟨rfl, z1⟩
  have HZ := Lib.hid ((box_below w _).trans (z1.mono (by simp)))
  clear z1
  go_wp2
  go_ret
  exact ⟨rfl, HZ.out⟩
set_option maxRecDepth 100000 in
theorem loadHead_any (lo g : Nat) (f : Fr) (W D J S : Int) (A : Option Addr) (c : Nat) (l : List Int) (w : World) (hB : Bt w g W D J S (.slice A l.length c) f) (hA : Rx lo g w A l) (hs : l.length ≤ 500) :
    Calls Try.prog 88 #[.pointer (some ⟨g, 0, none⟩)] w (Lt lo w g { f with x := at0 l 4, pc := 1 } W D J S l) := by
  have HB := Lib.hid hB
  have HA := Lib.hid hA
  have HS := Lib.hid hs
  clear hB hA hs
  obtain ⟨o, p, q, v, x, y, s⟩ := f
  have e := HB.out
  obtain ⟨a0, a1, a2, a3, a4, a5, a6, a7, a8, a9, a10, a11⟩ := e.cells
  have fz := e.free
  have hg := e.lt
  clear e
  go_enter Try.func88, Try.ntmps88
  go_wp2_with fail
  refine (load_any A l.length c l 4 _ HA.out.rd rfl HS.out).mono ?_
  rintro _ w2 ⟨rfl, hb⟩
  have Z2 := Lib.hid hb
  have e := HB.out.after hb
  clear a0 a1 a2 a3 a4 a5 a6 a7 a8 a9 a10 a11 fz
  obtain ⟨a0, a1, a2, a3, a4, a5, a6, a7, a8, a9, a10, a11⟩ := e.cells
  have fz := e.free
  clear hb e
  go_wp2
  refine bodyPost_ret (by simp [results, Try.results88, go_sem]; try rfl) rfl ?_
  exact ⟨A, c, rfl, ((HB.out.after Z2.out).setX _).setPc _, ((HA.out.after Z2.out).set rfl _).set rfl _, ((Z2.out.mono (Nat.le_of_lt hg)).setCell (Nat.le_refl _) _).setCell (Nat.le_refl _) _⟩
end Go.Proofs.Ytppllanmgdhabaa
