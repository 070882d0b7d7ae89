/- Merged: TaA, TaB. -/
import Derived.Test.YtlpkccpijloidaaGreatEnX
import Derived.IntWalk
import Derived.BigQuiet
import Derived.Deep.RegionHeld3
namespace Go.Proofs.YtlpkccpijloidaaGreat
set_option linter.unusedSimpArgs false
set_option maxRecDepth 100000
open Go.RowKit Go.Deep
/-- One who takes out lies in block g: the layout, its cells, its call. -/
def Bt (w : World) (g : Nat) (W D J S : Int) (v : Value) (f : Fr) : Prop := w.heap[g]? = some (.cells #[.int .i64 W, .int .i64 D, .int .i64 J, .int .i64 S, v, .int .i64 f.op, .int .i64 f.pc, .int .i64 f.who, .int .u64 f.val, .int .u64 f.x, .int .u64 f.y, .int .i64 f.res] 129 (0, 0))
theorem Bt.lt {w : World} {g : Nat} {W D J S : Int} {v : Value} {f : Fr} (h : Bt w g W D J S v f) : g < w.heap.size := by
  rcases Nat.lt_or_ge g w.heap.size with hlt | hge
  · exact hlt
  · unfold Bt at h; rw [Array.getElem?_eq_none hge] at h; cases h
theorem Bt.below {w w' : World} {g B : Nat} {W D J S : Int} {v : Value} {f : Fr} (h : Bt w g W D J S v f) (hb : Below B w w') (hg : g < B) : Bt w' g W D J S v f := (hb.block g hg).trans h
theorem Bt.after {w w' : World} {g : Nat} {W D J S : Int} {v : Value} {f : Fr} (h : Bt w g W D J S v f) (hb : Below w.heap.size w w') : Bt w' g W D J S v f := h.below hb h.lt
theorem Bt.drew {w : World} {g : Nat} {W D J S : Int} {v : Value} {f : Fr} (h : Bt w g W D J S v f) : Bt w.drew g W D J S v f := h
theorem Bt.cells {w : World} {g : Nat} {W D J S : Int} {v : Value} {f : Fr} (h : Bt w g W D J S v f) : w.cell? ⟨g, 0, none⟩ = some (.int .i64 W) ∧ w.cell? ⟨g, 1, none⟩ = some (.int .i64 D) ∧ w.cell? ⟨g, 2, none⟩ = some (.int .i64 J) ∧ w.cell? ⟨g, 3, none⟩ = some (.int .i64 S) ∧ w.cell? ⟨g, 4, none⟩ = some v
    ∧ w.cell? ⟨g, 5, none⟩ = some (.int .i64 f.op) ∧ w.cell? ⟨g, 6, none⟩ = some (.int .i64 f.pc) ∧ w.cell? ⟨g, 7, none⟩ = some (.int .i64 f.who) ∧ w.cell? ⟨g, 8, none⟩ = some (.int .u64 f.val) ∧ w.cell? ⟨g, 9, none⟩ = some (.int .u64 f.x) ∧ w.cell? ⟨g, 10, none⟩ = some (.int .u64 f.y) ∧ w.cell? ⟨g, 11, none⟩ = some (.int .i64 f.res) := by
  unfold Bt at h
  refine ⟨?_, ?_, ?_, ?_, ?_, ?_, ?_, ?_, ?_, ?_, ?_, ?_⟩ <;> (rw [cell_of_row w g _ _ _ _ h]; rfl)
theorem Bt.free {w : World} {g : Nat} {W D J S : Int} {v : Value} {f : Fr} (h : Bt w g W D J S v f) (i : Nat) : w.frozen? ⟨g, i, none⟩ = false := by
  unfold Bt at h
  simp [World.frozen?, h]
theorem Bt.setPc {w : World} {g : Nat} {W D J S : Int} {v : Value} {f : Fr} (h : Bt w g W D J S v f) (z : Int) : Bt (w.setCell ⟨g, 6, none⟩ (.int .i64 z)) g W D J S v { f with pc := z } := by
  unfold Bt at h ⊢
  simp [World.setCell, Array.getElem?_modify, h]
theorem Bt.setX {w : World} {g : Nat} {W D J S : Int} {v : Value} {f : Fr} (h : Bt w g W D J S v f) (z : Int) : Bt (w.setCell ⟨g, 9, none⟩ (.int .u64 z)) g W D J S v { f with x := z } := by
  unfold Bt at h ⊢
  simp [World.setCell, Array.getElem?_modify, h]
theorem Bt.setY {w : World} {g : Nat} {W D J S : Int} {v : Value} {f : Fr} (h : Bt w g W D J S v f) (z : Int) : Bt (w.setCell ⟨g, 10, none⟩ (.int .u64 z)) g W D J S v { f with y := z } := by
  unfold Bt at h ⊢
  simp [World.setCell, Array.getElem?_modify, h]
theorem Bt.setVal {w : World} {g : Nat} {W D J S : Int} {v : Value} {f : Fr} (h : Bt w g W D J S v f) (z : Int) : Bt (w.setCell ⟨g, 8, none⟩ (.int .u64 z)) g W D J S v { f with val := z } := by
  unfold Bt at h ⊢
  simp [World.setCell, Array.getElem?_modify, h]
theorem Bt.setM {w : World} {g : Nat} {W D J S : Int} {v : Value} {f : Fr} (h : Bt w g W D J S v f) (z : Value) : Bt (w.setCell ⟨g, 4, none⟩ z) g W D J S z f := by
  unfold Bt at h ⊢
  simp [World.setCell, Array.getElem?_modify, h]
/-- A call, laid into such a box. -/
def pt (w : World) (g : Nat) (f : Fr) : World := (((((((w.setCell ⟨g, 5, none⟩ (.int .i64 f.op)).setCell ⟨g, 6, none⟩ (.int .i64 f.pc)).setCell ⟨g, 7, none⟩ (.int .i64 f.who)).setCell ⟨g, 8, none⟩ (.int .u64 f.val)).setCell ⟨g, 9, none⟩ (.int .u64 f.x)).setCell ⟨g, 10, none⟩ (.int .u64 f.y)).setCell ⟨g, 11, none⟩ (.int .i64 f.res))
/-- All of one who takes out, laid into block g. -/
def ppt (w : World) (g : Nat) (W D J S : Int) (v : Value) (f : Fr) : World := ((((((((((((w.setCell ⟨g, 0, none⟩ (.int .i64 W)).setCell ⟨g, 1, none⟩ (.int .i64 D)).setCell ⟨g, 2, none⟩ (.int .i64 J)).setCell ⟨g, 3, none⟩ (.int .i64 S)).setCell ⟨g, 4, none⟩ (v)).setCell ⟨g, 5, none⟩ (.int .i64 f.op)).setCell ⟨g, 6, none⟩ (.int .i64 f.pc)).setCell ⟨g, 7, none⟩ (.int .i64 f.who)).setCell ⟨g, 8, none⟩ (.int .u64 f.val)).setCell ⟨g, 9, none⟩ (.int .u64 f.x)).setCell ⟨g, 10, none⟩ (.int .u64 f.y)).setCell ⟨g, 11, none⟩ (.int .i64 f.res))
theorem Bt.pt {w : World} {g : Nat} {W D J S : Int} {v : Value} {f : Fr} (h : Bt w g W D J S v f) (f' : Fr) : Bt (pt w g f') g W D J S v f' := by
  unfold Bt at h ⊢
  unfold YtlpkccpijloidaaGreat.pt
  simp [World.setCell, Array.getElem?_modify, h]
theorem Bt.ppt {w : World} {g : Nat} {W D J S : Int} {v : Value} {f : Fr} (h : Bt w g W D J S v f) (W' D' J' S' : Int) (v' : Value) (f' : Fr) : Bt (ppt w g W' D' J' S' v' f') g W' D' J' S' v' f' := by
  unfold Bt at h ⊢
  unfold YtlpkccpijloidaaGreat.ppt
  simp [World.setCell, Array.getElem?_modify, h]
theorem below_pt {n : Nat} {w w' : World} (h : Below n w w') {g : Nat} (k : n ≤ g) (f : Fr) : Below n w (pt w' g f) :=
  ((((((h.setCell k _).setCell k _).setCell k _).setCell k _).setCell k _).setCell k _).setCell k _
theorem below_ppt {n : Nat} {w w' : World} (h : Below n w w') {g : Nat} (k : n ≤ g) (W D J S : Int) (v : Value) (f : Fr) : Below n w (ppt w' g W D J S v f) :=
  (((((((((((h.setCell k _).setCell k _).setCell k _).setCell k _).setCell k _).setCell k _).setCell k _).setCell k _).setCell k _).setCell k _).setCell k _).setCell k _
theorem Rx.pt {lo g : Nat} {w : World} {A : Option Addr} {l : List Int} (h : Rx lo g w A l) (f : Fr) : Rx lo g (pt w g f) A l :=
  ((((((h.set rfl _).set rfl _).set rfl _).set rfl _).set rfl _).set rfl _).set rfl _
theorem Rx.ppt {lo g : Nat} {w : World} {A : Option Addr} {l : List Int} (h : Rx lo g w A l) (W D J S : Int) (v : Value) (f : Fr) : Rx lo g (ppt w g W D J S v f) A l :=
  (((((((((((h.set rfl _).set rfl _).set rfl _).set rfl _).set rfl _).set rfl _).set rfl _).set rfl _).set rfl _).set rfl _).set rfl _).set rfl _
theorem Bt.new (w : World) : Bt (w.alloc (.cells #[.int .i64 0, .int .i64 0, .int .i64 0, .int .i64 0, .slice none 0 0, .int .i64 0, .int .i64 0, .int .i64 0, .int .u64 0, .int .u64 0, .int .u64 0, .int .i64 0] 129)) w.heap.size 0 0 0 0 (.slice none 0 0) f0 := heap_alloc_new _ _
theorem Bk.ne_t {k : Nat} {l : List Int} {w : World} {g : Nat} {W D J S : Int} {v : Value} {f : Fr} (h : Bk w k l) (hb : Bt w g W D J S v f) : k ≠ g := by
  rintro rfl
  unfold Bk at h
  unfold Bt at hb
  rw [h] at hb
  injection hb with hb
  injection hb with _ hb _
  cases hb
/-- What a step leaves: the box with the call, and cells; nothing below it has changed. -/
def Lt (lo : Nat) (w : World) (g : Nat) (f : Fr) (W D J S : Int) (l : List Int) (e : Ending) (w' : World) : Prop :=
  ∃ A c, e = .returned (.tuple #[]) ∧ Bt w' g W D J S (.slice A l.length c) f ∧ Rx lo g w' A l ∧ Below g w w'
theorem dfree_any (W D J S x : Int) (w : World) (hJ : 1 ≤ J ∧ J ≤ 16) (hx : U x) : Tells 177 #[cf W D J S, .int .u64 x] w (.int .u64 (tw J x % 18446744073709551616)) := by
  have e1 : IntKind.u64.wrap J = J := by rw [IntKind.wrap_u64]; omega
  have e2 : x.tdiv J = x / J := Int.tdiv_eq_ediv_of_nonneg hx.1
  have e3 : 0 ≤ x / J := Int.ediv_nonneg hx.1 (by omega)
  have e4 : x / J ≤ x := Int.ediv_le_self _ hx.1
  have e5 : IntKind.u64.wrap (x / J) = x / J := by have := hx.2; rw [IntKind.wrap_u64]; omega
  have e6 : IntKind.u64.wrap (x / J * 2) = tw J x % 18446744073709551616 := by unfold tw; rw [IntKind.wrap_u64, Int.mul_comm]
  have e7 : ¬ J = 0 := by omega
  clear hx
  generalize tw J x % 18446744073709551616 = T at e6 ⊢
  go_enter Tryz.func177, Tryz.ntmps177
  go_wp2
  go_ret
  exact ⟨rfl, box_below w _⟩
theorem dhas_any (W D J S x : Int) (w : World) (hJ : 1 ≤ J ∧ J ≤ 16) (hx : U x) : Tells 172 #[cf W D J S, .int .u64 x] w (.int .u64 ((tw J x + 1) % 18446744073709551616)) := by
  have hw1 : IntKind.u64.wrap (tw J x % 18446744073709551616 + 1) = (tw J x + 1) % 18446744073709551616 := by rw [IntKind.wrap_u64]; omega
  obtain ⟨t, ht⟩ : ∃ t, t = tw J x % 18446744073709551616 := ⟨_, rfl⟩
  rw [← ht] at hw1
  have HT := Lib.hid ht
  have HJ := Lib.hid hJ
  have HX := Lib.hid hx
  generalize (tw J x + 1) % 18446744073709551616 = T at hw1 ⊢
  clear hJ hx ht
  go_enter Tryz.func172, Tryz.ntmps172
  go_wp2_with fail
  refine (Tells.of (dfree_any W D J S x _ HJ.out HX.out) (v' := .int .u64 t) (by rw [HT.out])).mono ?_
  rintro _ w1 ⟨rfl, z1⟩
  have HZ := Lib.hid ((box_below w _).trans (z1.mono (by simp)))
  clear z1
  go_wp2
  go_ret
  exact ⟨rfl, HZ.out⟩
theorem dfreed_any (W D J S x : Int) (w : World) (hJ : 1 ≤ J ∧ J ≤ 16) (hx : U x) : Tells 173 #[cf W D J S, .int .u64 x] w (.int .u64 ((tw J x + 2) % 18446744073709551616)) := by
  have hw1 : IntKind.u64.wrap (tw J x % 18446744073709551616 + 2) = (tw J x + 2) % 18446744073709551616 := by rw [IntKind.wrap_u64]; omega
  obtain ⟨t, ht⟩ : ∃ t, t = tw J x % 18446744073709551616 := ⟨_, rfl⟩
  rw [← ht] at hw1
  have HT := Lib.hid ht
  have HJ := Lib.hid hJ
  have HX := Lib.hid hx
  generalize (tw J x + 2) % 18446744073709551616 = T at hw1 ⊢
  clear hJ hx ht
  go_enter Tryz.func173, Tryz.ntmps173
  go_wp2_with fail
  refine (Tells.of (dfree_any W D J S x _ HJ.out HX.out) (v' := .int .u64 t) (by rw [HT.out])).mono ?_
  rintro _ w1 ⟨rfl, z1⟩
  have HZ := Lib.hid ((box_below w _).trans (z1.mono (by simp)))
  clear z1
  go_wp2
  go_ret
  exact ⟨rfl, HZ.out⟩
theorem loadHead_any (lo g : Nat) (f : Fr) (W D J S : Int) (A : Option Addr) (c : Nat) (l : List Int) (w : World) (hB : Bt w g W D J S (.slice A l.length c) f) (hA : Rx lo g w A l) (hs : l.length ≤ 500) :
    Calls Tryz.prog 148 #[.pointer (some ⟨g, 0, none⟩)] w (Lt lo w g { f with x := at0 l 4, pc := 1 } W D J S l) := by
  have HB := Lib.hid hB
  have HA := Lib.hid hA
  have HS := Lib.hid hs
  clear hB hA hs
  obtain ⟨o, p, q, v, x, y, s⟩ := f
  have e := HB.out
  obtain ⟨a0, a1, a2, a3, a4, a5, a6, a7, a8, a9, a10, a11⟩ := e.cells
  have fz := e.free
  have hg := e.lt
  clear e
  go_enter Tryz.func148, Tryz.ntmps148
  go_wp2_with fail
  refine (load_any A l.length c l 4 _ HA.out.rd rfl HS.out).mono ?_
  rintro _ w2 ⟨rfl, hb⟩
  have Z2 := Lib.hid hb
  have e := HB.out.after hb
  clear a0 a1 a2 a3 a4 a5 a6 a7 a8 a9 a10 a11 fz
  obtain ⟨a0, a1, a2, a3, a4, a5, a6, a7, a8, a9, a10, a11⟩ := e.cells
  have fz := e.free
  clear hb e
  go_wp2
  refine bodyPost_ret (by simp [results, Tryz.results148, go_sem]; try rfl) rfl ?_
  exact ⟨A, c, rfl, ((HB.out.after Z2.out).setX _).setPc _, ((HA.out.after Z2.out).set rfl _).set rfl _, ((Z2.out.mono (Nat.le_of_lt hg)).setCell (Nat.le_refl _) _).setCell (Nat.le_refl _) _⟩
end Go.Proofs.YtlpkccpijloidaaGreat
namespace Go.Proofs.YtlpkccpijloidaaGreat
set_option linter.unusedSimpArgs false
set_option maxRecDepth 100000
open Go.RowKit Go.Deep
set_option maxHeartbeats 4000000 in
theorem tloadSeq_any (lo g : Nat) (f : Fr) (W D J S : Int) (Y T : Int) (k1 k2 : Bool) (F : Fr) (A : Option Addr) (c : Nat) (l : List Int) (w : World) (hB : Bt w g W D J S (.slice A l.length c) f) (hA : Rx lo g w A l) (hJ : 1 ≤ J ∧ J ≤ 16) (hx : U f.x) (hY : at0 l (sq W D J S f.x) = Y) (hT : (tw J f.x + 1) % 18446744073709551616 = T) (h1 : (Y == T) = k1) (h2 : decide (far Y T < 0) = k2) (hF : F = if k1 then { f with y := Y, pc := 2 } else if k2 then ed f 3 0 else { f with y := Y, pc := 0 }) (hs : l.length ≤ 500) :
    Calls Tryz.prog 149 #[.pointer (some ⟨g, 0, none⟩)] w (Lt lo w g F W D J S l) := by
  have HB := Lib.hid hB
  have HA := Lib.hid hA
  have HS := Lib.hid hs
  clear hB hA hs
  obtain ⟨o, p, q, v, x, y, s⟩ := f
  simp only at hY hT hx
  have HY := Lib.hid hY
  have HT := Lib.hid hT
  have HJ := Lib.hid hJ
  have HX := Lib.hid hx
  have H1 := Lib.hid h1
  have H2 := Lib.hid h2
  have HF := Lib.hid hF
  clear hY hT hJ hx h1 h2 hF
  have e := HB.out
  obtain ⟨a0, a1, a2, a3, a4, a5, a6, a7, a8, a9, a10, a11⟩ := e.cells
  have fz := e.free
  have hg := e.lt
  have ZC := Lib.hid (Below.refl w.heap.size w).drew
  have HK := Lib.hid (show ∀ x', Kx g 10 w x' → (fun w' => w'.cell? ⟨g, 0, none⟩ = some (.int .i64 W) ∧ w'.cell? ⟨g, 1, none⟩ = some (.int .i64 D) ∧ w'.cell? ⟨g, 2, none⟩ = some (.int .i64 J) ∧ w'.cell? ⟨g, 3, none⟩ = some (.int .i64 S) ∧ w'.cell? ⟨g, 4, none⟩ = some (.slice A l.length c) ∧ w'.cell? ⟨g, 9, none⟩ = some (.int .u64 x) ∧ Kx g 10 w w') x' from fun x' hx =>
    ⟨(hx.cells 0 (by decide)).trans a0, (hx.cells 1 (by decide)).trans a1, (hx.cells 2 (by decide)).trans a2, (hx.cells 3 (by decide)).trans a3, (hx.cells 4 (by decide)).trans a4, (hx.cells 9 (by decide)).trans a9, hx⟩)
  have hHeld0 := HK.out _ (Kx.refl g 10 w)
  clear e
  go_enter Tryz.func149, Tryz.ntmps149
  go_wp2_with fail
  go_region_held3 (fun w' => w'.cell? ⟨g, 0, none⟩ = some (.int .i64 W) ∧ w'.cell? ⟨g, 1, none⟩ = some (.int .i64 D) ∧ w'.cell? ⟨g, 2, none⟩ = some (.int .i64 J) ∧ w'.cell? ⟨g, 3, none⟩ = some (.int .i64 S) ∧ w'.cell? ⟨g, 4, none⟩ = some (.slice A l.length c) ∧ w'.cell? ⟨g, 9, none⟩ = some (.int .u64 x) ∧ Kx g 10 w w')
    (first | with_reducible exact kx_drew HK.out (fun _ h => h.2.2.2.2.2.2) (by assumption) | with_reducible exact kx_call HK.out (fun _ h => h.2.2.2.2.2.2) hg (by assumption) (by assumption) | with_reducible exact kx_set HK.out (fun _ h => h.2.2.2.2.2.2) _ (by assumption))
    (first
    | (go_at_call 168; (refine (seq_any W D J S x _ HX.out).mono ?_); rintro _ w1 ⟨rfl, hb⟩; replace ZC := Lib.hid (keep_call (w2 := w) hb ZC.out); have e := HB.out.after ZC.out; obtain ⟨b0, b1, b2, b3, b4, b5, b6, b7, b8, b9, b10, b11⟩ := e.cells; have fz := e.free; clear e)
    | (go_at_call 13; (refine (ret_of (load_any A l.length c l _ _ (HA.out.after ZC.out).rd rfl HS.out) (v' := .int .u64 Y) (by rw [HY.out])).mono ?_); rintro _ w2 ⟨rfl, hb⟩; replace ZC := Lib.hid (keep_call (w2 := w) hb ZC.out); have e := HB.out.after ZC.out; obtain ⟨b0, b1, b2, b3, b4, b5, b6, b7, b8, b9, b10, b11⟩ := e.cells; have fz := e.free; clear e))
  all_goals
    have e : Bt (w2.setCell ⟨g, 10, none⟩ (.int .u64 Y)) g W D J S (.slice A l.length c) ⟨o, p, q, v, x, Y, s⟩ := (HB.out.after ZC.out).setY _
    have eA : Rx lo g (w2.setCell ⟨g, 10, none⟩ (.int .u64 Y)) A l := (HA.out.after ZC.out).set rfl _
    have eb : Below g w (w2.setCell ⟨g, 10, none⟩ (.int .u64 Y)) := (ZC.out.mono (Nat.le_of_lt hg)).setCell (Nat.le_refl _) _
    generalize w2.setCell ⟨g, 10, none⟩ (.int .u64 Y) = w3 at e eA eb ⊢
    clear ZC HK HB HA HS HY hHeld0 a0 a1 a2 a3 a4 a5 a6 a7 a8 a9 a10 a11 b0 b1 b2 b3 b4 b5 b6 b7 b8 b9 b10 b11 fz hg
    obtain ⟨c0, c1, c2, c3, c4, c5, c6, c7, c8, c9, c10, c11⟩ := e.cells
    have hg := e.lt
    have E := Lib.hid e
    have EA := Lib.hid eA
    have EB := Lib.hid eb
    clear e eA eb
    have fz := E.out.free
    go_wp2_with fail
    go_region_with (go_at_call 172; (refine (ret_of (dhas_any W D J S x _ HJ.out HX.out) (v' := .int .u64 T) (by rw [HT.out])).mono ?_); rintro _ w4 ⟨rfl, hb⟩; have Hb := Lib.hid hb; clear hb)
    all_goals
      have e := E.out.drew.after Hb.out
      have eA := EA.out.drew.after Hb.out
      have eb := EB.out.drew.trans (Hb.out.mono (Nat.le_of_lt hg))
      clear c0 c1 c2 c3 c4 c5 c6 c7 c8 c9 c10 c11 fz E EA EB Hb HJ HX HT
      obtain ⟨c0, c1, c2, c3, c4, c5, c6, c7, c8, c9, c10, c11⟩ := e.cells
      have fz := e.free
      have hg4 := e.lt
      have E := Lib.hid e
      have EA := Lib.hid eA
      have EB := Lib.hid eb
      have he := H1.out
      have hfar := H2.out
      clear e eA eb
      cases k1
      · cases k2
        · obtain rfl : F = ⟨o, 0, q, v, x, Y, s⟩ := HF.out
          go_wp2_with fail
          refine (far_any Y T _).mono ?_
          rintro _ _ ⟨rfl, rfl⟩
          go_wp2
          refine bodyPost_ret (by simp [results, Tryz.results149, go_sem]; try rfl) rfl ?_
          exact ⟨A, c, rfl, E.out.setPc _, EA.out.set rfl _, EB.out.setCell (Nat.le_refl _) _⟩
        · obtain rfl : F = ed ⟨o, p, q, v, x, Y, s⟩ 3 0 := HF.out
          go_wp2_with fail
          refine (far_any Y T _).mono ?_
          rintro _ _ ⟨rfl, rfl⟩
          go_wp2_with fail
          refine (end_any ⟨o, p, q, v, x, Y, s⟩ _ _ _).mono ?_
          rintro _ w5 ⟨rfl, hb⟩
          have Hb := Lib.hid hb
          have e := E.out.after hb
          clear c0 c1 c2 c3 c4 c5 c6 c7 c8 c9 c10 c11 fz hb
          obtain ⟨c0, c1, c2, c3, c4, c5, c6, c7, c8, c9, c10, c11⟩ := e.cells
          have fz := e.free
          clear e
          go_wp2
          change bodyPost _ _ _ _ _ (pt w5 g (ed ⟨o, p, q, v, x, Y, s⟩ 3 0))
          refine bodyPost_ret (by simp [results, Tryz.results149, go_sem]; try rfl) rfl ?_
          exact ⟨A, c, rfl, (E.out.after Hb.out).pt _, (EA.out.after Hb.out).pt _, below_pt (EB.out.trans (Hb.out.mono (Nat.le_of_lt hg4))) (Nat.le_refl _) _⟩
      · obtain rfl : F = ⟨o, 2, q, v, x, Y, s⟩ := HF.out
        go_wp2
        refine bodyPost_ret (by simp [results, Tryz.results149, go_sem]; try rfl) rfl ?_
        exact ⟨A, c, rfl, E.out.setPc _, EA.out.set rfl _, EB.out.setCell (Nat.le_refl _) _⟩
set_option maxHeartbeats 4000000 in
theorem traiseHead_any (lo g : Nat) (f : Fr) (W D J S : Int) (T : List Int) (b : Bool) (F : Fr) (A : Option Addr) (c : Nat) (l : List Int) (w : World) (hB : Bt w g W D J S (.slice A l.length c) f) (hA : Rx lo g w A l) (hlo : lo ≤ w.heap.size) (hb : isAt l 4 f.x = b) (hT : (if isAt l 4 f.x = true then put l 4 ((f.x + 1) % 18446744073709551616) else l) = T) (hF : F = if b then { f with pc := 3 } else { f with pc := 0 }) (hs : l.length ≤ 500) :
    Calls Tryz.prog 150 #[.pointer (some ⟨g, 0, none⟩)] w (Lt lo w g F W D J S T) := by
  have HB := Lib.hid hB
  have HA := Lib.hid hA
  have HS := Lib.hid hs
  clear hB hA hs
  obtain ⟨o, p, q, v, x, y, s⟩ := f
  have HTL := Lib.hid (show T.length = l.length by rw [← hT]; split <;> simp [len_put])
  have HT := Lib.hid hT
  have HIB := Lib.hid hb
  have HF := Lib.hid hF
  have hw1 : IntKind.u64.wrap (x + 1) = (x + 1) % 18446744073709551616 := IntKind.wrap_u64 _
  clear hb hT hF
  have e := HB.out
  obtain ⟨a0, a1, a2, a3, a4, a5, a6, a7, a8, a9, a10, a11⟩ := e.cells
  have fz := e.free
  have hg := e.lt
  have ZC := Lib.hid (Below.refl w.heap.size w).drew
  have HK := Lib.hid (show ∀ x', Kx g 4 w x' → (fun w' => w'.cell? ⟨g, 9, none⟩ = some (.int .u64 x) ∧ Kx g 4 w w') x' from fun x' hx =>
    ⟨(hx.cells 9 (by decide)).trans a9, hx⟩)
  have hHeld0 := HK.out _ (Kx.refl g 4 w)
  clear e
  go_enter Tryz.func150, Tryz.ntmps150
  go_wp2_with fail
  refine wp_region_held_drew (S := fun w' => w'.cell? ⟨g, 9, none⟩ = some (.int .u64 x) ∧ Kx g 4 w w') (by kernel_rfl) (kx_drew HK.out (fun _ h => h.2) hHeld0) (fun hHeld => ?_)
  refine tkH 0 (v := ?vr1) rfl ?yr1 ?rr1
  case yr1 => (intro w hSw; (try dsimp only at hSw); go_simp; (try with_reducible rfl))
  (try simp only [Act.put, jA, jB, jC])
  refine tkH 1 (v := ?vr2) rfl ?yr2 ?rr2
  case yr2 => (intro w hSw; (try dsimp only at hSw); go_simp; (try with_reducible rfl))
  (try simp only [Act.put, jA, jB, jC])
  refine tkH 2 (v := ?vr3) rfl ?yr3 ?rr3
  case yr3 => (intro w hSw; (try dsimp only at hSw); go_simp; (try with_reducible rfl))
  (try simp only [Act.put, jA, jB, jC])
  refine tkH 3 (v := ?vr4) rfl ?yr4 ?rr4
  case yr4 => (intro w hSw; (try dsimp only at hSw); go_simp; (try with_reducible rfl))
  (try simp only [Act.put, jA, jB, jC])
  refine tkH 5 (v := ?vr5) rfl ?yr5 ?rr5
  case yr5 => (intro w hSw; (try dsimp only at hSw); go_simp; (try with_reducible rfl))
  (try simp only [Act.put, jA, jB, jC])
  refine tkH 6 (v := ?vr6) rfl ?yr6 ?rr6
  case yr6 => (intro w hSw; (try dsimp only at hSw); go_simp; (try with_reducible rfl))
  (try simp only [Act.put, jA, jB, jC])
  refine tkH 7 (v := ?vr7) rfl ?yr7 ?rr7
  case yr7 => (intro w hSw; (try dsimp only at hSw); go_simp; (try with_reducible rfl))
  (try simp only [Act.put, jA, jB, jC])
  refine tkH 8 (v := ?vr8) rfl ?yr8 ?rr8
  case yr8 => (intro w hSw; (try dsimp only at hSw); go_simp; (try with_reducible rfl))
  (try simp only [Act.put, jA, jB, jC])
  refine tkH 9 (v := ?vr9) rfl ?yr9 ?rr9
  case yr9 => (intro w hSw; (try dsimp only at hSw); go_simp; (try with_reducible rfl))
  (try simp only [Act.put, jA, jB, jC])
  refine tkH 10 (v := ?vr10) rfl ?yr10 ?rr10
  case yr10 => (intro w hSw; (try dsimp only at hSw); go_simp; (try with_reducible rfl))
  (try simp only [Act.put, jA, jB, jC])
  refine tkH 11 (v := ?vr11) rfl ?yr11 ?rr11
  case yr11 => (intro w hSw; (try dsimp only at hSw); go_simp; (try with_reducible rfl))
  (try simp only [Act.put, jA, jB, jC])
  refine tkH 12 (v := ?vr12) rfl ?yr12 ?rr12
  case yr12 => (intro w hSw; (try dsimp only at hSw); go_simp; (try with_reducible rfl))
  (try simp only [Act.put, jA, jB, jC])
  refine tkH 13 (v := ?vr13) rfl ?yr13 ?rr13
  case yr13 => (intro w hSw; (try dsimp only at hSw); go_simp; (try with_reducible rfl))
  (try simp only [Act.put, jA, jB, jC])
  refine tkH 14 (v := ?vr14) rfl ?yr14 ?rr14
  case yr14 => (intro w hSw; (try dsimp only at hSw); go_simp; (try with_reducible rfl))
  (try simp only [Act.put, jA, jB, jC])
  refine tkH 15 (v := ?vr15) rfl ?yr15 ?rr15
  case yr15 => (intro w hSw; (try dsimp only at hSw); go_simp; (try with_reducible rfl))
  (try simp only [Act.put, jA, jB, jC])
  refine wpAnyH_ready (rs := [4]) (by kernel_rfl) (by simp) ?_
  refine (AllReadyH.cons rfl (fun K hK => ?_) AllReadyH.nil)
  go_simp
  refine hK.out _ _ (hHeld) (fun hHeld2 => ?_)
  clear hK K hHeld
  have hHeld := hHeld2
  clear hHeld2
  (try simp only [Act.put, jA, jB, jC])
  refine wpAnyH_ready (rs := [16]) (by kernel_rfl) (by simp) ?_
  refine (AllReadyH.cons rfl (fun K hK => ?_) AllReadyH.nil)
  go_simp
  refine (casn_n (v := (x + 1) % 18446744073709551616) (HA.out.after ZC.out).rd rfl HS.out HIB.out HT.out).mono ?_
  rintro e w2 ⟨k, rfl, hk0, hk, hb⟩
  go_wp2_with fail
  have HLO := Lib.hid (Nat.le_trans hlo (Nat.le_trans ZC.out.size hk0))
  have HKK := Lib.hid hk
  replace ZC := Lib.hid (keep_call (w2 := w) hb ZC.out)
  have e := HB.out.after ZC.out; obtain ⟨b0, b1, b2, b3, b4, b5, b6, b7, b8, b9, b10, b11⟩ := e.cells; have fz := e.free; clear e
  clear hk hk0
  refine hK.out _ _ (kx_call HK.out (fun _ h => h.2) hg hb hHeld) (fun hHeld2 => ?_)
  clear hK K hHeld
  have hHeld := hHeld2
  clear hHeld2
  (try simp only [Act.put, jA, jB, jC])
  refine tkH 17 (v := ?vr16) rfl ?yr16 ?rr16
  case yr16 => (intro w hSw; (try dsimp only at hSw); go_simp; (try with_reducible rfl))
  (try simp only [Act.put, jA, jB, jC])
  refine tkH 18 (v := ?vr17) rfl ?yr17 ?rr17
  case yr17 => (intro w hSw; (try dsimp only at hSw); go_simp; (try with_reducible rfl))
  (try simp only [Act.put, jA, jB, jC])
  refine tkH 19 (v := ?vr18) rfl ?yr18 ?rr18
  case yr18 => (intro w hSw; (try dsimp only at hSw); go_simp; (try with_reducible rfl))
  (try simp only [Act.put, jA, jB, jC])
  refine tkH 20 (v := ?vr19) rfl ?yr19 ?rr19
  case yr19 => (intro w hSw; (try dsimp only at hSw); go_simp; (try with_reducible rfl))
  (try simp only [Act.put, jA, jB, jC])
  refine tkH 21 (v := ?vr20) rfl ?yr20 ?rr20
  case yr20 => (intro w hSw; (try dsimp only at hSw); go_simp; (try with_reducible rfl))
  (try simp only [Act.put, jA, jB, jC])
  refine wpAnyH_ready (rs := [22]) (by kernel_rfl) (by simp) ?_
  refine (AllReadyH.cons rfl (fun K hK => ?_) AllReadyH.nil)
  go_simp
  refine hK.out _ _ (kx_set HK.out (fun _ h => h.2) _ hHeld) (fun hHeld2 => ?_)
  clear hK K hHeld
  have hHeld := hHeld2
  clear hHeld2
  (try simp only [Act.put, jA, jB, jC])
  refine tkH 23 (v := ?vr21) rfl ?yr21 ?rr21
  case yr21 => (intro w hSw; (try dsimp only at hSw); go_simp; (try with_reducible rfl))
  (try simp only [Act.put, jA, jB, jC])
  refine wpAnyH_done (by kernel_rfl) ?_ _
  clear hHeld
  have e := HB.out.after ZC.out
  have e2 : Bt (w2.setCell ⟨g, 4, none⟩ (.slice (some ⟨k, 0, none⟩) l.length l.length)) g W D J S (.slice (some ⟨k, 0, none⟩) T.length l.length) ⟨o, p, q, v, x, y, s⟩ := by rw [HTL.out]; exact e.setM _
  have eA : Rx lo g (w2.setCell ⟨g, 4, none⟩ (.slice (some ⟨k, 0, none⟩) l.length l.length)) (some ⟨k, 0, none⟩) T := (HKK.out.rx (HKK.out.ne_t e) HLO.out).set rfl _
  have eb : Below g w (w2.setCell ⟨g, 4, none⟩ (.slice (some ⟨k, 0, none⟩) l.length l.length)) := (ZC.out.mono (Nat.le_of_lt hg)).setCell (Nat.le_refl _) _
  generalize w2.setCell ⟨g, 4, none⟩ (.slice (some ⟨k, 0, none⟩) l.length l.length) = w4 at e2 eA eb ⊢
  clear e ZC HKK HLO a0 a1 a2 a3 a4 a5 a6 a7 a8 a9 a10 a11 b0 b1 b2 b3 b4 b5 b6 b7 b8 b9 b10 b11 fz HB HA
  obtain ⟨c0, c1, c2, c3, c4, c5, c6, c7, c8, c9, c10, c11⟩ := e2.cells
  have fz := e2.free
  have E := Lib.hid e2
  have EA := Lib.hid eA
  have EB := Lib.hid eb
  clear e2 eA eb
  cases b
  · obtain rfl : F = ⟨o, 0, q, v, x, y, s⟩ := HF.out
    go_wp2
    refine bodyPost_ret (by simp [results, Tryz.results150, go_sem]; try rfl) rfl ?_
    exact ⟨_, _, rfl, E.out.setPc _, EA.out.set rfl _, EB.out.setCell (Nat.le_refl _) _⟩
  · obtain rfl : F = ⟨o, 3, q, v, x, y, s⟩ := HF.out
    go_wp2
    refine bodyPost_ret (by simp [results, Tryz.results150, go_sem]; try rfl) rfl ?_
    exact ⟨_, _, rfl, (E.out.setPc _).setPc _, (EA.out.set rfl _).set rfl _, (EB.out.setCell (Nat.le_refl _) _).setCell (Nat.le_refl _) _⟩
end Go.Proofs.YtlpkccpijloidaaGreat
