/- Merged: EnA, EnB. -/
import Derived.Test.YtlpkccpijloidaaGreatPuA2
import Derived.Test.YtlpkccpijloidaaGreatPu0
import Derived.Test.YtlpkccpijloidaaGreatPuG2
import Derived.Test.YtlpkccpijloidaaGreatNxA
import Derived.Test.YtlpkccpijloidaaGreatDqB2
import Derived.IntWalk
import Derived.BigQuiet
import Derived.Deep.RegionHeld3
namespace Go.Proofs.YtlpkccpijloidaaGreat
set_option linter.unusedSimpArgs false
set_option maxRecDepth 100000
open Go.RowKit Go.Deep
/-- One who puts in lies in block g: the layout, its cells, its call. -/
def Bq (w : World) (g : Nat) (W D J S : Int) (v : Value) (f : Fr) : Prop := w.heap[g]? = some (.cells #[.int .i64 W, .int .i64 D, .int .i64 J, .int .i64 S, v, .int .i64 f.op, .int .i64 f.pc, .int .i64 f.who, .int .u64 f.val, .int .u64 f.x, .int .u64 f.y, .int .i64 f.res] 124 (0, 0))
theorem Bq.lt {w : World} {g : Nat} {W D J S : Int} {v : Value} {f : Fr} (h : Bq w g W D J S v f) : g < w.heap.size := by
  rcases Nat.lt_or_ge g w.heap.size with hlt | hge
  · exact hlt
  · unfold Bq at h; rw [Array.getElem?_eq_none hge] at h; cases h
theorem Bq.below {w w' : World} {g B : Nat} {W D J S : Int} {v : Value} {f : Fr} (h : Bq w g W D J S v f) (hb : Below B w w') (hg : g < B) : Bq w' g W D J S v f := (hb.block g hg).trans h
theorem Bq.after {w w' : World} {g : Nat} {W D J S : Int} {v : Value} {f : Fr} (h : Bq w g W D J S v f) (hb : Below w.heap.size w w') : Bq w' g W D J S v f := h.below hb h.lt
theorem Bq.drew {w : World} {g : Nat} {W D J S : Int} {v : Value} {f : Fr} (h : Bq w g W D J S v f) : Bq w.drew g W D J S v f := h
theorem Bq.cells {w : World} {g : Nat} {W D J S : Int} {v : Value} {f : Fr} (h : Bq w g W D J S v f) : w.cell? ⟨g, 0, none⟩ = some (.int .i64 W) ∧ w.cell? ⟨g, 1, none⟩ = some (.int .i64 D) ∧ w.cell? ⟨g, 2, none⟩ = some (.int .i64 J) ∧ w.cell? ⟨g, 3, none⟩ = some (.int .i64 S) ∧ w.cell? ⟨g, 4, none⟩ = some v
    ∧ w.cell? ⟨g, 5, none⟩ = some (.int .i64 f.op) ∧ w.cell? ⟨g, 6, none⟩ = some (.int .i64 f.pc) ∧ w.cell? ⟨g, 7, none⟩ = some (.int .i64 f.who) ∧ w.cell? ⟨g, 8, none⟩ = some (.int .u64 f.val) ∧ w.cell? ⟨g, 9, none⟩ = some (.int .u64 f.x) ∧ w.cell? ⟨g, 10, none⟩ = some (.int .u64 f.y) ∧ w.cell? ⟨g, 11, none⟩ = some (.int .i64 f.res) := by
  unfold Bq at h
  refine ⟨?_, ?_, ?_, ?_, ?_, ?_, ?_, ?_, ?_, ?_, ?_, ?_⟩ <;> (rw [cell_of_row w g _ _ _ _ h]; rfl)
theorem Bq.free {w : World} {g : Nat} {W D J S : Int} {v : Value} {f : Fr} (h : Bq w g W D J S v f) (i : Nat) : w.frozen? ⟨g, i, none⟩ = false := by
  unfold Bq at h
  simp [World.frozen?, h]
theorem Bq.setPc {w : World} {g : Nat} {W D J S : Int} {v : Value} {f : Fr} (h : Bq w g W D J S v f) (z : Int) : Bq (w.setCell ⟨g, 6, none⟩ (.int .i64 z)) g W D J S v { f with pc := z } := by
  unfold Bq at h ⊢
  simp [World.setCell, Array.getElem?_modify, h]
theorem Bq.setX {w : World} {g : Nat} {W D J S : Int} {v : Value} {f : Fr} (h : Bq w g W D J S v f) (z : Int) : Bq (w.setCell ⟨g, 9, none⟩ (.int .u64 z)) g W D J S v { f with x := z } := by
  unfold Bq at h ⊢
  simp [World.setCell, Array.getElem?_modify, h]
theorem Bq.setY {w : World} {g : Nat} {W D J S : Int} {v : Value} {f : Fr} (h : Bq w g W D J S v f) (z : Int) : Bq (w.setCell ⟨g, 10, none⟩ (.int .u64 z)) g W D J S v { f with y := z } := by
  unfold Bq at h ⊢
  simp [World.setCell, Array.getElem?_modify, h]
theorem Bq.setVal {w : World} {g : Nat} {W D J S : Int} {v : Value} {f : Fr} (h : Bq w g W D J S v f) (z : Int) : Bq (w.setCell ⟨g, 8, none⟩ (.int .u64 z)) g W D J S v { f with val := z } := by
  unfold Bq at h ⊢
  simp [World.setCell, Array.getElem?_modify, h]
theorem Bq.setM {w : World} {g : Nat} {W D J S : Int} {v : Value} {f : Fr} (h : Bq w g W D J S v f) (z : Value) : Bq (w.setCell ⟨g, 4, none⟩ z) g W D J S z f := by
  unfold Bq at h ⊢
  simp [World.setCell, Array.getElem?_modify, h]
/-- A call, laid into such a box. -/
def pq (w : World) (g : Nat) (f : Fr) : World := (((((((w.setCell ⟨g, 5, none⟩ (.int .i64 f.op)).setCell ⟨g, 6, none⟩ (.int .i64 f.pc)).setCell ⟨g, 7, none⟩ (.int .i64 f.who)).setCell ⟨g, 8, none⟩ (.int .u64 f.val)).setCell ⟨g, 9, none⟩ (.int .u64 f.x)).setCell ⟨g, 10, none⟩ (.int .u64 f.y)).setCell ⟨g, 11, none⟩ (.int .i64 f.res))
/-- All of one who puts in, laid into block g. -/
def ppq (w : World) (g : Nat) (W D J S : Int) (v : Value) (f : Fr) : World := ((((((((((((w.setCell ⟨g, 0, none⟩ (.int .i64 W)).setCell ⟨g, 1, none⟩ (.int .i64 D)).setCell ⟨g, 2, none⟩ (.int .i64 J)).setCell ⟨g, 3, none⟩ (.int .i64 S)).setCell ⟨g, 4, none⟩ (v)).setCell ⟨g, 5, none⟩ (.int .i64 f.op)).setCell ⟨g, 6, none⟩ (.int .i64 f.pc)).setCell ⟨g, 7, none⟩ (.int .i64 f.who)).setCell ⟨g, 8, none⟩ (.int .u64 f.val)).setCell ⟨g, 9, none⟩ (.int .u64 f.x)).setCell ⟨g, 10, none⟩ (.int .u64 f.y)).setCell ⟨g, 11, none⟩ (.int .i64 f.res))
theorem Bq.pq {w : World} {g : Nat} {W D J S : Int} {v : Value} {f : Fr} (h : Bq w g W D J S v f) (f' : Fr) : Bq (pq w g f') g W D J S v f' := by
  unfold Bq at h ⊢
  unfold YtlpkccpijloidaaGreat.pq
  simp [World.setCell, Array.getElem?_modify, h]
theorem Bq.ppq {w : World} {g : Nat} {W D J S : Int} {v : Value} {f : Fr} (h : Bq w g W D J S v f) (W' D' J' S' : Int) (v' : Value) (f' : Fr) : Bq (ppq w g W' D' J' S' v' f') g W' D' J' S' v' f' := by
  unfold Bq at h ⊢
  unfold YtlpkccpijloidaaGreat.ppq
  simp [World.setCell, Array.getElem?_modify, h]
theorem below_pq {n : Nat} {w w' : World} (h : Below n w w') {g : Nat} (k : n ≤ g) (f : Fr) : Below n w (pq w' g f) :=
  ((((((h.setCell k _).setCell k _).setCell k _).setCell k _).setCell k _).setCell k _).setCell k _
theorem below_ppq {n : Nat} {w w' : World} (h : Below n w w') {g : Nat} (k : n ≤ g) (W D J S : Int) (v : Value) (f : Fr) : Below n w (ppq w' g W D J S v f) :=
  (((((((((((h.setCell k _).setCell k _).setCell k _).setCell k _).setCell k _).setCell k _).setCell k _).setCell k _).setCell k _).setCell k _).setCell k _).setCell k _
theorem Rx.pq {lo g : Nat} {w : World} {A : Option Addr} {l : List Int} (h : Rx lo g w A l) (f : Fr) : Rx lo g (pq w g f) A l :=
  ((((((h.set rfl _).set rfl _).set rfl _).set rfl _).set rfl _).set rfl _).set rfl _
theorem Rx.ppq {lo g : Nat} {w : World} {A : Option Addr} {l : List Int} (h : Rx lo g w A l) (W D J S : Int) (v : Value) (f : Fr) : Rx lo g (ppq w g W D J S v f) A l :=
  (((((((((((h.set rfl _).set rfl _).set rfl _).set rfl _).set rfl _).set rfl _).set rfl _).set rfl _).set rfl _).set rfl _).set rfl _).set rfl _
theorem Bq.new (w : World) : Bq (w.alloc (.cells #[.int .i64 0, .int .i64 0, .int .i64 0, .int .i64 0, .slice none 0 0, .int .i64 0, .int .i64 0, .int .i64 0, .int .u64 0, .int .u64 0, .int .u64 0, .int .i64 0] 124)) w.heap.size 0 0 0 0 (.slice none 0 0) f0 := heap_alloc_new _ _
theorem Bk.ne_q {k : Nat} {l : List Int} {w : World} {g : Nat} {W D J S : Int} {v : Value} {f : Fr} (h : Bk w k l) (hb : Bq w g W D J S v f) : k ≠ g := by
  rintro rfl
  unfold Bk at h
  unfold Bq at hb
  rw [h] at hb
  injection hb with hb
  injection hb with _ hb _
  cases hb
/-- What a step leaves: the box with the call, and cells; nothing below it has changed. -/
def Lq (lo : Nat) (w : World) (g : Nat) (f : Fr) (W D J S : Int) (l : List Int) (e : Ending) (w' : World) : Prop :=
  ∃ A c, e = .returned (.tuple #[]) ∧ Bq w' g W D J S (.slice A l.length c) f ∧ Rx lo g w' A l ∧ Below g w w'
theorem qfree_any (g : Nat) (W D J S : Int) (v : Value) (f : Fr) (w : World) (hB : Bq w g W D J S v f) (hJ : 1 ≤ J ∧ J ≤ 16) (hx : U f.x) :
    Tells 169 #[.pointer (some ⟨g, 0, none⟩)] w (.int .u64 (tw J f.x % 18446744073709551616)) := by
  obtain ⟨o, p, q, u, x, y, s⟩ := f
  obtain ⟨a0, a1, a2, a3, a4, a5, a6, a7, a8, a9, a10, a11⟩ := hB.cells
  simp only at hx a9
  have e1 : IntKind.u64.wrap J = J := by rw [IntKind.wrap_u64]; omega
  have e2 : x.tdiv J = x / J := Int.tdiv_eq_ediv_of_nonneg hx.1
  have e3 : 0 ≤ x / J := Int.ediv_nonneg hx.1 (by omega)
  have e4 : x / J ≤ x := Int.ediv_le_self _ hx.1
  have e5 : IntKind.u64.wrap (x / J) = x / J := by have := hx.2; rw [IntKind.wrap_u64]; omega
  have e6 : IntKind.u64.wrap (x / J * 2) = tw J x % 18446744073709551616 := by unfold tw; rw [IntKind.wrap_u64, Int.mul_comm]
  have e7 : ¬ J = 0 := by omega
  clear hx
  show Tells _ _ _ (.int .u64 (tw J x % 18446744073709551616))
  generalize tw J x % 18446744073709551616 = T at e6 ⊢
  go_enter Tryz.func169, Tryz.ntmps169
  go_wp2
  go_quiet (fail)
  go_wp2
  go_ret
  exact ⟨rfl, below_drewN _ _⟩
set_option maxHeartbeats 2000000 in
theorem qend_any (lo g : Nat) (f : Fr) (W D J S r : Int) (A : Option Addr) (c : Nat) (l : List Int) (w : World) (hB : Bq w g W D J S (.slice A l.length c) f) (hA : Rx lo g w A l) :
    Calls Tryz.prog 170 #[.pointer (some ⟨g, 0, none⟩), .int .i64 r] w (Lq lo w g (ed f r f.val) W D J S l) := by
  have HB := Lib.hid hB
  have HA := Lib.hid hA
  clear hB hA
  obtain ⟨o, p, q, v, x, y, s⟩ := f
  have e := HB.out
  obtain ⟨a0, a1, a2, a3, a4, a5, a6, a7, a8, a9, a10, a11⟩ := e.cells
  have fz := e.free
  have hg := e.lt
  clear e
  go_enter Tryz.func170, Tryz.ntmps170
  go_region_with (go_at_call 133; (refine (end_any ⟨o, p, q, v, x, y, s⟩ _ _ _).mono ?_); rintro _ w2 ⟨rfl, hb⟩; have Hb := Lib.hid hb; have e := HB.out.drew.after hb; obtain ⟨a0, a1, a2, a3, a4, a5, a6, a7, a8, a9, a10, a11⟩ := e.cells; have fz := e.free; clear hb e)
  all_goals
    change bodyPost _ _ _ _ _ (pq w2 g (ed ⟨o, p, q, v, x, y, s⟩ r v))
    refine bodyPost_ret (by simp [results, Tryz.results170, go_sem]; try rfl) rfl ?_
    exact ⟨A, c, rfl, (HB.out.drew.after Hb.out).pq _, (HA.out.drew.after Hb.out).pq _, below_pq ((Below.refl g w).drew.trans (Hb.out.mono (Nat.le_of_lt hg))) (Nat.le_refl _) _⟩
theorem loadTail_any (lo g : Nat) (f : Fr) (W D J S : Int) (A : Option Addr) (c : Nat) (l : List Int) (w : World) (hB : Bq w g W D J S (.slice A l.length c) f) (hA : Rx lo g w A l) (hs : l.length ≤ 500) :
    Calls Tryz.prog 142 #[.pointer (some ⟨g, 0, none⟩)] w (Lq lo w g { f with x := at0 l 5, pc := 1 } W D J S l) := by
  have HB := Lib.hid hB
  have HA := Lib.hid hA
  have HS := Lib.hid hs
  clear hB hA hs
  obtain ⟨o, p, q, v, x, y, s⟩ := f
  have e := HB.out
  obtain ⟨a0, a1, a2, a3, a4, a5, a6, a7, a8, a9, a10, a11⟩ := e.cells
  have fz := e.free
  have hg := e.lt
  clear e
  go_enter Tryz.func142, Tryz.ntmps142
  go_wp2_with fail
  refine (load_any A l.length c l 5 _ HA.out.rd rfl HS.out).mono ?_
  rintro _ w2 ⟨rfl, hb⟩
  have Z2 := Lib.hid hb
  have e := HB.out.after hb
  clear a0 a1 a2 a3 a4 a5 a6 a7 a8 a9 a10 a11 fz
  obtain ⟨a0, a1, a2, a3, a4, a5, a6, a7, a8, a9, a10, a11⟩ := e.cells
  have fz := e.free
  clear hb e
  go_wp2
  refine bodyPost_ret (by simp [results, Tryz.results142, go_sem]; try rfl) rfl ?_
  exact ⟨A, c, rfl, ((HB.out.after Z2.out).setX _).setPc _, ((HA.out.after Z2.out).set rfl _).set rfl _, ((Z2.out.mono (Nat.le_of_lt hg)).setCell (Nat.le_refl _) _).setCell (Nat.le_refl _) _⟩
end Go.Proofs.YtlpkccpijloidaaGreat
namespace Go.Proofs.YtlpkccpijloidaaGreat
set_option linter.unusedSimpArgs false
set_option maxRecDepth 100000
open Go.RowKit Go.Deep
set_option maxHeartbeats 4000000 in
theorem loadSeq_any (lo g : Nat) (f : Fr) (W D J S : Int) (Y T : Int) (k1 k2 : Bool) (F : Fr) (A : Option Addr) (c : Nat) (l : List Int) (w : World) (hB : Bq w g W D J S (.slice A l.length c) f) (hA : Rx lo g w A l) (hs : l.length ≤ 500) (hJ : 1 ≤ J ∧ J ≤ 16) (hx : U f.x) (hY : at0 l (sq W D J S f.x) = Y) (hT : tw J f.x % 18446744073709551616 = T) (h1 : (Y == T) = k1) (h2 : decide (far Y T < 0) = k2) (hF : F = if k1 then { f with y := Y, pc := 2 } else if k2 then ed f 2 f.val else { f with y := Y, pc := 0 }) :
    Calls Tryz.prog 143 #[.pointer (some ⟨g, 0, none⟩)] w (Lq lo w g F W D J S l) := by
  have HB := Lib.hid hB
  have HA := Lib.hid hA
  have HS := Lib.hid hs
  clear hB hA hs
  obtain ⟨o, p, q, v, x, y, s⟩ := f
  simp only at hY hT hx
  have HY := Lib.hid hY
  have HT := Lib.hid hT
  have HJ := Lib.hid hJ
  have HX := Lib.hid hx
  have H1 := Lib.hid h1
  have H2 := Lib.hid h2
  have HF := Lib.hid hF
  clear hY hT hJ hx h1 h2 hF
  have e := HB.out
  obtain ⟨a0, a1, a2, a3, a4, a5, a6, a7, a8, a9, a10, a11⟩ := e.cells
  have fz := e.free
  have hg := e.lt
  have ZC := Lib.hid (Below.refl w.heap.size w).drew
  have HK := Lib.hid (show ∀ x', Kx g 10 w x' → (fun w' => w'.cell? ⟨g, 0, none⟩ = some (.int .i64 W) ∧ w'.cell? ⟨g, 1, none⟩ = some (.int .i64 D) ∧ w'.cell? ⟨g, 2, none⟩ = some (.int .i64 J) ∧ w'.cell? ⟨g, 3, none⟩ = some (.int .i64 S) ∧ w'.cell? ⟨g, 4, none⟩ = some (.slice A l.length c) ∧ w'.cell? ⟨g, 9, none⟩ = some (.int .u64 x) ∧ Kx g 10 w w') x' from fun x' hx =>
    ⟨(hx.cells 0 (by decide)).trans a0, (hx.cells 1 (by decide)).trans a1, (hx.cells 2 (by decide)).trans a2, (hx.cells 3 (by decide)).trans a3, (hx.cells 4 (by decide)).trans a4, (hx.cells 9 (by decide)).trans a9, hx⟩)
  have hHeld0 := HK.out _ (Kx.refl g 10 w)
  clear e
  go_enter Tryz.func143, Tryz.ntmps143
  go_wp2_with fail
  go_region_held3 (fun w' => w'.cell? ⟨g, 0, none⟩ = some (.int .i64 W) ∧ w'.cell? ⟨g, 1, none⟩ = some (.int .i64 D) ∧ w'.cell? ⟨g, 2, none⟩ = some (.int .i64 J) ∧ w'.cell? ⟨g, 3, none⟩ = some (.int .i64 S) ∧ w'.cell? ⟨g, 4, none⟩ = some (.slice A l.length c) ∧ w'.cell? ⟨g, 9, none⟩ = some (.int .u64 x) ∧ Kx g 10 w w')
    (first | with_reducible exact kx_drew HK.out (fun _ h => h.2.2.2.2.2.2) (by assumption) | with_reducible exact kx_call HK.out (fun _ h => h.2.2.2.2.2.2) hg (by assumption) (by assumption) | with_reducible exact kx_set HK.out (fun _ h => h.2.2.2.2.2.2) _ (by assumption))
    (first
    | (go_at_call 168; (refine (seq_any W D J S x _ HX.out).mono ?_); rintro _ w1 ⟨rfl, hb⟩; replace ZC := Lib.hid (keep_call (w2 := w) hb ZC.out); have e := HB.out.after ZC.out; obtain ⟨b0, b1, b2, b3, b4, b5, b6, b7, b8, b9, b10, b11⟩ := e.cells; have fz := e.free; clear e)
    | (go_at_call 13; (refine (ret_of (load_any A l.length c l _ _ (HA.out.after ZC.out).rd rfl HS.out) (v' := .int .u64 Y) (by rw [HY.out])).mono ?_); rintro _ w2 ⟨rfl, hb⟩; replace ZC := Lib.hid (keep_call (w2 := w) hb ZC.out); have e := HB.out.after ZC.out; obtain ⟨b0, b1, b2, b3, b4, b5, b6, b7, b8, b9, b10, b11⟩ := e.cells; have fz := e.free; clear e))
  all_goals
    go_wp2_with fail
    have e : Bq (w2.setCell ⟨g, 10, none⟩ (.int .u64 Y)) g W D J S (.slice A l.length c) ⟨o, p, q, v, x, Y, s⟩ := (HB.out.after ZC.out).setY _
    have eA : Rx lo g (w2.setCell ⟨g, 10, none⟩ (.int .u64 Y)) A l := (HA.out.after ZC.out).set rfl _
    have eb : Below g w (w2.setCell ⟨g, 10, none⟩ (.int .u64 Y)) := (ZC.out.mono (Nat.le_of_lt hg)).setCell (Nat.le_refl _) _
    refine (ret_of (qfree_any g W D J S _ _ _ e HJ.out HX.out) (v' := .int .u64 T) (by rw [← HT.out])).mono ?_
    rintro _ w4 ⟨rfl, z⟩
    replace eb := eb.trans (z.mono (Nat.le_of_lt e.lt))
    replace eA := eA.after z
    replace e := e.after z
    clear ZC HK HB HA HS HY HX HT HJ z hHeld0 a0 a1 a2 a3 a4 a5 a6 a7 a8 a9 a10 a11 b0 b1 b2 b3 b4 b5 b6 b7 b8 b9 b10 b11 fz
    obtain ⟨c0, c1, c2, c3, c4, c5, c6, c7, c8, c9, c10, c11⟩ := e.cells
    have fz := e.free
    have E := Lib.hid e
    have EA := Lib.hid eA
    have EB := Lib.hid eb
    have he := H1.out
    have hfar := H2.out
    clear e eA eb
    cases k1
    · cases k2
      · obtain rfl : F = ⟨o, 0, q, v, x, Y, s⟩ := HF.out
        go_wp2_with fail
        refine (far_any Y T _).mono ?_
        rintro _ _ ⟨rfl, rfl⟩
        go_wp2
        refine bodyPost_ret (by simp [results, Tryz.results143, go_sem]; try rfl) rfl ?_
        exact ⟨A, c, rfl, E.out.setPc _, EA.out.set rfl _, EB.out.setCell (Nat.le_refl _) _⟩
      · obtain rfl : F = ed ⟨o, p, q, v, x, Y, s⟩ 2 v := HF.out
        go_wp2_with fail
        refine (far_any Y T _).mono ?_
        rintro _ _ ⟨rfl, rfl⟩
        go_wp2_with fail
        refine (qend_any lo g ⟨o, p, q, v, x, Y, s⟩ W D J S 2 A c l _ E.out EA.out).mono ?_
        rintro _ w5 ⟨A', c', rfl, hb, ha, hbe⟩
        go_wp2
        refine bodyPost_ret (by simp [results, Tryz.results143, go_sem]; try rfl) rfl ?_
        exact ⟨A', c', rfl, hb, ha, EB.out.trans hbe⟩
    · obtain rfl : F = ⟨o, 2, q, v, x, Y, s⟩ := HF.out
      go_wp2
      refine bodyPost_ret (by simp [results, Tryz.results143, go_sem]; try rfl) rfl ?_
      exact ⟨A, c, rfl, E.out.setPc _, EA.out.set rfl _, EB.out.setCell (Nat.le_refl _) _⟩
set_option maxHeartbeats 4000000 in
theorem raiseTail_any (lo g : Nat) (f : Fr) (W D J S : Int) (T : List Int) (b : Bool) (F : Fr) (A : Option Addr) (c : Nat) (l : List Int) (w : World) (hB : Bq w g W D J S (.slice A l.length c) f) (hA : Rx lo g w A l) (hs : l.length ≤ 500) (hlo : lo ≤ w.heap.size) (hb : isAt l 5 f.x = b) (hT : (if isAt l 5 f.x = true then put l 5 ((f.x + 1) % 18446744073709551616) else l) = T) (hF : F = if b then { f with pc := 3 } else { f with pc := 0 }) :
    Calls Tryz.prog 144 #[.pointer (some ⟨g, 0, none⟩)] w (Lq lo w g F W D J S T) := by
  have HB := Lib.hid hB
  have HA := Lib.hid hA
  have HS := Lib.hid hs
  clear hB hA hs
  obtain ⟨o, p, q, v, x, y, s⟩ := f
  have HTL := Lib.hid (show T.length = l.length by rw [← hT]; split <;> simp [len_put])
  have HT := Lib.hid hT
  have HIB := Lib.hid hb
  have HF := Lib.hid hF
  have hw1 : IntKind.u64.wrap (x + 1) = (x + 1) % 18446744073709551616 := IntKind.wrap_u64 _
  clear hb hT hF
  have e := HB.out
  obtain ⟨a0, a1, a2, a3, a4, a5, a6, a7, a8, a9, a10, a11⟩ := e.cells
  have fz := e.free
  have hg := e.lt
  have ZC := Lib.hid (Below.refl w.heap.size w).drew
  have HK := Lib.hid (show ∀ x', Kx g 4 w x' → (fun w' => w'.cell? ⟨g, 9, none⟩ = some (.int .u64 x) ∧ Kx g 4 w w') x' from fun x' hx =>
    ⟨(hx.cells 9 (by decide)).trans a9, hx⟩)
  have hHeld0 := HK.out _ (Kx.refl g 4 w)
  clear e
  go_enter Tryz.func144, Tryz.ntmps144
  go_wp2_with fail
  refine wp_region_held_drew (S := fun w' => w'.cell? ⟨g, 9, none⟩ = some (.int .u64 x) ∧ Kx g 4 w w') (by kernel_rfl) (kx_drew HK.out (fun _ h => h.2) hHeld0) (fun hHeld => ?_)
  refine tkH 0 (v := ?vr1) rfl ?yr1 ?rr1
  case yr1 => (intro w hSw; (try dsimp only at hSw); go_simp; (try with_reducible rfl))
  (try simp only [Act.put, jA, jB, jC])
  refine tkH 1 (v := ?vr2) rfl ?yr2 ?rr2
  case yr2 => (intro w hSw; (try dsimp only at hSw); go_simp; (try with_reducible rfl))
  (try simp only [Act.put, jA, jB, jC])
  refine tkH 2 (v := ?vr3) rfl ?yr3 ?rr3
  case yr3 => (intro w hSw; (try dsimp only at hSw); go_simp; (try with_reducible rfl))
  (try simp only [Act.put, jA, jB, jC])
  refine tkH 3 (v := ?vr4) rfl ?yr4 ?rr4
  case yr4 => (intro w hSw; (try dsimp only at hSw); go_simp; (try with_reducible rfl))
  (try simp only [Act.put, jA, jB, jC])
  refine tkH 5 (v := ?vr5) rfl ?yr5 ?rr5
  case yr5 => (intro w hSw; (try dsimp only at hSw); go_simp; (try with_reducible rfl))
  (try simp only [Act.put, jA, jB, jC])
  refine tkH 6 (v := ?vr6) rfl ?yr6 ?rr6
  case yr6 => (intro w hSw; (try dsimp only at hSw); go_simp; (try with_reducible rfl))
  (try simp only [Act.put, jA, jB, jC])
  refine tkH 7 (v := ?vr7) rfl ?yr7 ?rr7
  case yr7 => (intro w hSw; (try dsimp only at hSw); go_simp; (try with_reducible rfl))
  (try simp only [Act.put, jA, jB, jC])
  refine tkH 8 (v := ?vr8) rfl ?yr8 ?rr8
  case yr8 => (intro w hSw; (try dsimp only at hSw); go_simp; (try with_reducible rfl))
  (try simp only [Act.put, jA, jB, jC])
  refine tkH 9 (v := ?vr9) rfl ?yr9 ?rr9
  case yr9 => (intro w hSw; (try dsimp only at hSw); go_simp; (try with_reducible rfl))
  (try simp only [Act.put, jA, jB, jC])
  refine tkH 10 (v := ?vr10) rfl ?yr10 ?rr10
  case yr10 => (intro w hSw; (try dsimp only at hSw); go_simp; (try with_reducible rfl))
  (try simp only [Act.put, jA, jB, jC])
  refine tkH 11 (v := ?vr11) rfl ?yr11 ?rr11
  case yr11 => (intro w hSw; (try dsimp only at hSw); go_simp; (try with_reducible rfl))
  (try simp only [Act.put, jA, jB, jC])
  refine tkH 12 (v := ?vr12) rfl ?yr12 ?rr12
  case yr12 => (intro w hSw; (try dsimp only at hSw); go_simp; (try with_reducible rfl))
  (try simp only [Act.put, jA, jB, jC])
  refine tkH 13 (v := ?vr13) rfl ?yr13 ?rr13
  case yr13 => (intro w hSw; (try dsimp only at hSw); go_simp; (try with_reducible rfl))
  (try simp only [Act.put, jA, jB, jC])
  refine tkH 14 (v := ?vr14) rfl ?yr14 ?rr14
  case yr14 => (intro w hSw; (try dsimp only at hSw); go_simp; (try with_reducible rfl))
  (try simp only [Act.put, jA, jB, jC])
  refine tkH 15 (v := ?vr15) rfl ?yr15 ?rr15
  case yr15 => (intro w hSw; (try dsimp only at hSw); go_simp; (try with_reducible rfl))
  (try simp only [Act.put, jA, jB, jC])
  refine wpAnyH_ready (rs := [4]) (by kernel_rfl) (by simp) ?_
  refine (AllReadyH.cons rfl (fun K hK => ?_) AllReadyH.nil)
  go_simp
  refine hK.out _ _ (hHeld) (fun hHeld2 => ?_)
  clear hK K hHeld
  have hHeld := hHeld2
  clear hHeld2
  (try simp only [Act.put, jA, jB, jC])
  refine wpAnyH_ready (rs := [16]) (by kernel_rfl) (by simp) ?_
  refine (AllReadyH.cons rfl (fun K hK => ?_) AllReadyH.nil)
  go_simp
  refine (casn_n (v := (x + 1) % 18446744073709551616) (HA.out.after ZC.out).rd rfl HS.out HIB.out HT.out).mono ?_
  rintro e w2 ⟨k, rfl, hk0, hk, hb⟩
  go_wp2_with fail
  have HLO := Lib.hid (Nat.le_trans hlo (Nat.le_trans ZC.out.size hk0))
  have HKK := Lib.hid hk
  replace ZC := Lib.hid (keep_call (w2 := w) hb ZC.out)
  have e := HB.out.after ZC.out; obtain ⟨b0, b1, b2, b3, b4, b5, b6, b7, b8, b9, b10, b11⟩ := e.cells; have fz := e.free; clear e
  clear hk hk0
  refine hK.out _ _ (kx_call HK.out (fun _ h => h.2) hg hb hHeld) (fun hHeld2 => ?_)
  clear hK K hHeld
  have hHeld := hHeld2
  clear hHeld2
  (try simp only [Act.put, jA, jB, jC])
  refine tkH 17 (v := ?vr16) rfl ?yr16 ?rr16
  case yr16 => (intro w hSw; (try dsimp only at hSw); go_simp; (try with_reducible rfl))
  (try simp only [Act.put, jA, jB, jC])
  refine tkH 18 (v := ?vr17) rfl ?yr17 ?rr17
  case yr17 => (intro w hSw; (try dsimp only at hSw); go_simp; (try with_reducible rfl))
  (try simp only [Act.put, jA, jB, jC])
  refine tkH 19 (v := ?vr18) rfl ?yr18 ?rr18
  case yr18 => (intro w hSw; (try dsimp only at hSw); go_simp; (try with_reducible rfl))
  (try simp only [Act.put, jA, jB, jC])
  refine tkH 20 (v := ?vr19) rfl ?yr19 ?rr19
  case yr19 => (intro w hSw; (try dsimp only at hSw); go_simp; (try with_reducible rfl))
  (try simp only [Act.put, jA, jB, jC])
  refine tkH 21 (v := ?vr20) rfl ?yr20 ?rr20
  case yr20 => (intro w hSw; (try dsimp only at hSw); go_simp; (try with_reducible rfl))
  (try simp only [Act.put, jA, jB, jC])
  refine wpAnyH_ready (rs := [22]) (by kernel_rfl) (by simp) ?_
  refine (AllReadyH.cons rfl (fun K hK => ?_) AllReadyH.nil)
  go_simp
  refine hK.out _ _ (kx_set HK.out (fun _ h => h.2) _ hHeld) (fun hHeld2 => ?_)
  clear hK K hHeld
  have hHeld := hHeld2
  clear hHeld2
  (try simp only [Act.put, jA, jB, jC])
  refine tkH 23 (v := ?vr21) rfl ?yr21 ?rr21
  case yr21 => (intro w hSw; (try dsimp only at hSw); go_simp; (try with_reducible rfl))
  (try simp only [Act.put, jA, jB, jC])
  refine wpAnyH_done (by kernel_rfl) ?_ _
  clear hHeld
  have e := HB.out.after ZC.out
  have e2 : Bq (w2.setCell ⟨g, 4, none⟩ (.slice (some ⟨k, 0, none⟩) l.length l.length)) g W D J S (.slice (some ⟨k, 0, none⟩) T.length l.length) ⟨o, p, q, v, x, y, s⟩ := by rw [HTL.out]; exact e.setM _
  have eA : Rx lo g (w2.setCell ⟨g, 4, none⟩ (.slice (some ⟨k, 0, none⟩) l.length l.length)) (some ⟨k, 0, none⟩) T := (HKK.out.rx (HKK.out.ne_q e) HLO.out).set rfl _
  have eb : Below g w (w2.setCell ⟨g, 4, none⟩ (.slice (some ⟨k, 0, none⟩) l.length l.length)) := (ZC.out.mono (Nat.le_of_lt hg)).setCell (Nat.le_refl _) _
  generalize w2.setCell ⟨g, 4, none⟩ (.slice (some ⟨k, 0, none⟩) l.length l.length) = w4 at e2 eA eb ⊢
  clear e ZC HKK HLO a0 a1 a2 a3 a4 a5 a6 a7 a8 a9 a10 a11 b0 b1 b2 b3 b4 b5 b6 b7 b8 b9 b10 b11 fz HB HA
  obtain ⟨c0, c1, c2, c3, c4, c5, c6, c7, c8, c9, c10, c11⟩ := e2.cells
  have fz := e2.free
  have E := Lib.hid e2
  have EA := Lib.hid eA
  have EB := Lib.hid eb
  clear e2 eA eb
  cases b
  · obtain rfl : F = ⟨o, 0, q, v, x, y, s⟩ := HF.out
    go_wp2
    refine bodyPost_ret (by simp [results, Tryz.results144, go_sem]; try rfl) rfl ?_
    exact ⟨_, _, rfl, E.out.setPc _, EA.out.set rfl _, EB.out.setCell (Nat.le_refl _) _⟩
  · obtain rfl : F = ⟨o, 3, q, v, x, y, s⟩ := HF.out
    go_wp2
    refine bodyPost_ret (by simp [results, Tryz.results144, go_sem]; try rfl) rfl ?_
    exact ⟨_, _, rfl, (E.out.setPc _).setPc _, (EA.out.set rfl _).set rfl _, (EB.out.setCell (Nat.le_refl _) _).setCell (Nat.le_refl _) _⟩
end Go.Proofs.YtlpkccpijloidaaGreat
