/- Putting in, at hand, in a box: its layout, its cells, its call; and the contracts of its small methods. -/
import Derived.Test.YtppllanmgdhabaaPuA2
import Derived.Test.YtppllanmgdhabaaPuE
import Derived.Test.YtppllanmgdhabaaPuG
import Derived.Test.YtppllanmgdhabaaNxA
import Derived.Test.YtppllanmgdhabaaInM
import Derived.IntWalk
import Derived.BigQuiet
namespace Go.Proofs.Ytppllanmgdhabaa
open Go.RowKit Go.Deep
/-- One who puts in lies in block g: the layout, its cells, its call. -/
def Bq (w : World) (g : Nat) (W D J S : Int) (v : Value) (f : Fr) : Prop := w.heap[g]? = some (.cells #[.int .i64 W, .int .i64 D, .int .i64 J, .int .i64 S, v, .int .i64 f.op, .int .i64 f.pc, .int .i64 f.who, .int .u64 f.val, .int .u64 f.x, .int .u64 f.y, .int .i64 f.res] 84 (0, 0))
set_option maxRecDepth 100000 in
theorem Bq.lt {w : World} {g : Nat} {W D J S : Int} {v : Value} {f : Fr} (h : Bq w g W D J S v f) : g < w.heap.size := by
  rcases Nat.lt_or_ge g w.heap.size with hlt | hge
  · exact hlt
  · unfold Bq at h; rw [Array.getElem?_eq_none hge] at h; cases h
set_option maxRecDepth 100000 in
theorem Bq.below {w w' : World} {g B : Nat} {W D J S : Int} {v : Value} {f : Fr} (h : Bq w g W D J S v f) (hb : Below B w w') (hg : g < B) : Bq w' g W D J S v f := (hb.block g hg).trans h
set_option maxRecDepth 100000 in
theorem Bq.after {w w' : World} {g : Nat} {W D J S : Int} {v : Value} {f : Fr} (h : Bq w g W D J S v f) (hb : Below w.heap.size w w') : Bq w' g W D J S v f := h.below hb h.lt
set_option maxRecDepth 100000 in
theorem Bq.drew {w : World} {g : Nat} {W D J S : Int} {v : Value} {f : Fr} (h : Bq w g W D J S v f) : Bq w.drew g W D J S v f := h
set_option maxRecDepth 100000 in
theorem Bq.cells {w : World} {g : Nat} {W D J S : Int} {v : Value} {f : Fr} (h : Bq w g W D J S v f) : w.cell? ⟨g, 0, none⟩ = some (.int .i64 W) ∧ w.cell? ⟨g, 1, none⟩ = some (.int .i64 D) ∧ w.cell? ⟨g, 2, none⟩ = some (.int .i64 J) ∧ w.cell? ⟨g, 3, none⟩ = some (.int .i64 S) ∧ w.cell? ⟨g, 4, none⟩ = some v
    ∧ w.cell? ⟨g, 5, none⟩ = some (.int .i64 f.op) ∧ w.cell? ⟨g, 6, none⟩ = some (.int .i64 f.pc) ∧ w.cell? ⟨g, 7, none⟩ = some (.int .i64 f.who) ∧ w.cell? ⟨g, 8, none⟩ = some (.int .u64 f.val) ∧ w.cell? ⟨g, 9, none⟩ = some (.int .u64 f.x) ∧ w.cell? ⟨g, 10, none⟩ = some (.int .u64 f.y) ∧ w.cell? ⟨g, 11, none⟩ = some (.int .i64 f.res) := by
  unfold Bq at h
  refine ⟨?_, ?_, ?_, ?_, ?_, ?_, ?_, ?_, ?_, ?_, ?_, ?_⟩ <;> (rw [cell_of_row w g _ _ _ _ h]; rfl)
set_option maxRecDepth 100000 in
theorem Bq.free {w : World} {g : Nat} {W D J S : Int} {v : Value} {f : Fr} (h : Bq w g W D J S v f) (i : Nat) : w.frozen? ⟨g, i, none⟩ = false := by
  unfold Bq at h
  simp [World.frozen?, h]
set_option maxRecDepth 100000 in
theorem Bq.setPc {w : World} {g : Nat} {W D J S : Int} {v : Value} {f : Fr} (h : Bq w g W D J S v f) (z : Int) : Bq (w.setCell ⟨g, 6, none⟩ (.int .i64 z)) g W D J S v { f with pc := z } := by
  unfold Bq at h ⊢
  simp [World.setCell, Array.getElem?_modify, h]
set_option maxRecDepth 100000 in
theorem Bq.setX {w : World} {g : Nat} {W D J S : Int} {v : Value} {f : Fr} (h : Bq w g W D J S v f) (z : Int) : Bq (w.setCell ⟨g, 9, none⟩ (.int .u64 z)) g W D J S v { f with x := z } := by
  unfold Bq at h ⊢
  simp [World.setCell, Array.getElem?_modify, h]
set_option maxRecDepth 100000 in
theorem Bq.setY {w : World} {g : Nat} {W D J S : Int} {v : Value} {f : Fr} (h : Bq w g W D J S v f) (z : Int) : Bq (w.setCell ⟨g, 10, none⟩ (.int .u64 z)) g W D J S v { f with y := z } := by
  unfold Bq at h ⊢
  simp [World.setCell, Array.getElem?_modify, h]
set_option maxRecDepth 100000 in
theorem Bq.setVal {w : World} {g : Nat} {W D J S : Int} {v : Value} {f : Fr} (h : Bq w g W D J S v f) (z : Int) : Bq (w.setCell ⟨g, 8, none⟩ (.int .u64 z)) g W D J S v { f with val := z } := by
  unfold Bq at h ⊢
  simp [World.setCell, Array.getElem?_modify, h]
set_option maxRecDepth 100000 in
theorem Bq.setM {w : World} {g : Nat} {W D J S : Int} {v : Value} {f : Fr} (h : Bq w g W D J S v f) (z : Value) : Bq (w.setCell ⟨g, 4, none⟩ z) g W D J S z f := by
  unfold Bq at h ⊢
  simp [World.setCell, Array.getElem?_modify, h]
/-- A call, laid into such a box. -/
def pq (w : World) (g : Nat) (f : Fr) : World := (((((((w.setCell ⟨g, 5, none⟩ (.int .i64 f.op)).setCell ⟨g, 6, none⟩ (.int .i64 f.pc)).setCell ⟨g, 7, none⟩ (.int .i64 f.who)).setCell ⟨g, 8, none⟩ (.int .u64 f.val)).setCell ⟨g, 9, none⟩ (.int .u64 f.x)).setCell ⟨g, 10, none⟩ (.int .u64 f.y)).setCell ⟨g, 11, none⟩ (.int .i64 f.res))
/-- All of one who puts in, laid into block g. -/
def ppq (w : World) (g : Nat) (W D J S : Int) (v : Value) (f : Fr) : World := ((((((((((((w.setCell ⟨g, 0, none⟩ (.int .i64 W)).setCell ⟨g, 1, none⟩ (.int .i64 D)).setCell ⟨g, 2, none⟩ (.int .i64 J)).setCell ⟨g, 3, none⟩ (.int .i64 S)).setCell ⟨g, 4, none⟩ (v)).setCell ⟨g, 5, none⟩ (.int .i64 f.op)).setCell ⟨g, 6, none⟩ (.int .i64 f.pc)).setCell ⟨g, 7, none⟩ (.int .i64 f.who)).setCell ⟨g, 8, none⟩ (.int .u64 f.val)).setCell ⟨g, 9, none⟩ (.int .u64 f.x)).setCell ⟨g, 10, none⟩ (.int .u64 f.y)).setCell ⟨g, 11, none⟩ (.int .i64 f.res))
set_option maxRecDepth 100000 in
theorem Bq.pq {w : World} {g : Nat} {W D J S : Int} {v : Value} {f : Fr} (h : Bq w g W D J S v f) (f' : Fr) : Bq (pq w g f') g W D J S v f' := by
  unfold Bq at h ⊢
  unfold Ytppllanmgdhabaa.pq
  simp [World.setCell, Array.getElem?_modify, h]
set_option maxRecDepth 100000 in
theorem Bq.ppq {w : World} {g : Nat} {W D J S : Int} {v : Value} {f : Fr} (h : Bq w g W D J S v f) (W' D' J' S' : Int) (v' : Value) (f' : Fr) : Bq (ppq w g W' D' J' S' v' f') g W' D' J' S' v' f' := by
  unfold Bq at h ⊢
  unfold Ytppllanmgdhabaa.ppq
  simp [World.setCell, Array.getElem?_modify, h]
set_option maxRecDepth 100000 in
theorem below_pq {n : Nat} {w w' : World} (h : Below n w w') {g : Nat} (k : n ≤ g) (f : Fr) : Below n w (pq w' g f) :=
  ((((((h.setCell k _).setCell k _).setCell k _).setCell k _).setCell k _).setCell k _).setCell k _
set_option maxRecDepth 100000 in
theorem below_ppq {n : Nat} {w w' : World} (h : Below n w w') {g : Nat} (k : n ≤ g) (W D J S : Int) (v : Value) (f : Fr) : Below n w (ppq w' g W D J S v f) :=
  (((((((((((h.setCell k _).setCell k _).setCell k _).setCell k _).setCell k _).setCell k _).setCell k _).setCell k _).setCell k _).setCell k _).setCell k _).setCell k _
set_option maxRecDepth 100000 in
theorem Rx.pq {lo g : Nat} {w : World} {A : Option Addr} {l : List Int} (h : Rx lo g w A l) (f : Fr) : Rx lo g (pq w g f) A l :=
  ((((((h.set rfl _).set rfl _).set rfl _).set rfl _).set rfl _).set rfl _).set rfl _
set_option maxRecDepth 100000 in
theorem Rx.ppq {lo g : Nat} {w : World} {A : Option Addr} {l : List Int} (h : Rx lo g w A l) (W D J S : Int) (v : Value) (f : Fr) : Rx lo g (ppq w g W D J S v f) A l :=
  (((((((((((h.set rfl _).set rfl _).set rfl _).set rfl _).set rfl _).set rfl _).set rfl _).set rfl _).set rfl _).set rfl _).set rfl _).set rfl _
set_option maxRecDepth 100000 in
theorem Bq.new (w : World) : Bq (w.alloc (.cells #[.int .i64 0, .int .i64 0, .int .i64 0, .int .i64 0, .slice none 0 0, .int .i64 0, .int .i64 0, .int .i64 0, .int .u64 0, .int .u64 0, .int .u64 0, .int .i64 0] 84)) w.heap.size 0 0 0 0 (.slice none 0 0) f0 := heap_alloc_new _ _
set_option maxRecDepth 100000 in
theorem Bk.ne_q {k : Nat} {l : List Int} {w : World} {g : Nat} {W D J S : Int} {v : Value} {f : Fr} (h : Bk w k l) (hb : Bq w g W D J S v f) : k ≠ g := by
  rintro rfl
  unfold Bk at h
  unfold Bq at hb
  rw [h] at hb
  injection hb with hb
  injection hb with _ hb _
  cases hb
/-- What a step leaves: the box with the call, and cells; nothing below it has changed. -/
def Lq (lo : Nat) (w : World) (g : Nat) (f : Fr) (W D J S : Int) (l : List Int) (e : Ending) (w' : World) : Prop :=
  ∃ A c, e = .returned (.tuple #[]) ∧ Bq w' g W D J S (.slice A l.length c) f ∧ Rx lo g w' A l ∧ Below g w w'
set_option maxRecDepth 100000 in
theorem qfree_any (g : Nat) (W D J S : Int) (v : Value) (f : Fr) (w : World) (hB : Bq w g W D J S v f) (hJ : 1 ≤ J ∧ J ≤ 16) (hx : U f.x) :
    Tells 97 #[.pointer (some ⟨g, 0, none⟩)] w (.int .u64 (tw J f.x % 18446744073709551616)) := by
  obtain ⟨o, p, q, u, x, y, s⟩ := f
  obtain ⟨a0, a1, a2, a3, a4, a5, a6, a7, a8, a9, a10, a11⟩ := hB.cells
  simp only at hx a9
  have e1 : IntKind.u64.wrap J = J := by rw [IntKind.wrap_u64]; omega
  have e2 : x.tdiv J = x / J := Int.tdiv_eq_ediv_of_nonneg hx.1
  have e3 : 0 ≤ x / J := Int.ediv_nonneg hx.1 (by omega)
  have e4 : x / J ≤ x := Int.ediv_le_self _ hx.1
  have e5 : IntKind.u64.wrap (x / J) = x / J := by have := hx.2; rw [IntKind.wrap_u64]; omega
  have e6 : IntKind.u64.wrap (x / J * 2) = tw J x % 18446744073709551616 := by unfold tw; rw [IntKind.wrap_u64, Int.mul_comm]
  have e7 : ¬ J = 0 := by omega
  clear hx
  show Tells _ _ _ (.int .u64 (tw J x % 18446744073709551616))
  generalize tw J x % 18446744073709551616 = T at e6 ⊢
  go_enter Try.func97, Try.ntmps97
  go_wp2
  go_quiet (fail)
  go_wp2
  go_ret
  exact ⟨rfl, below_drewN _ _⟩
set_option maxHeartbeats 2000000 in
set_option maxRecDepth 100000 in
theorem qend_any (lo g : Nat) (f : Fr) (W D J S r : Int) (A : Option Addr) (c : Nat) (l : List Int) (w : World) (hB : Bq w g W D J S (.slice A l.length c) f) (hA : Rx lo g w A l) :
    Calls Try.prog 98 #[.pointer (some ⟨g, 0, none⟩), .int .i64 r] w (Lq lo w g (ed f r f.val) W D J S l) := by
  have HB := Lib.hid hB
  have HA := Lib.hid hA
  clear hB hA
  obtain ⟨o, p, q, v, x, y, s⟩ := f
  have e := HB.out
  obtain ⟨a0, a1, a2, a3, a4, a5, a6, a7, a8, a9, a10, a11⟩ := e.cells
  have fz := e.free
  have hg := e.lt
  clear e
  go_enter Try.func98, Try.ntmps98
  go_region_with (go_at_call 96; (refine (end_any ⟨o, p, q, v, x, y, s⟩ _ _ _).mono ?_); rintro _ w2 ⟨rfl, hb⟩; have Hb := Lib.hid hb; have e := HB.out.drew.after hb; obtain ⟨a0, a1, a2, a3, a4, a5, a6, a7, a8, a9, a10, a11⟩ := e.cells; have fz := e.free; clear hb e)
  all_goals
    change bodyPost _ _ _ _ _ (pq w2 g (ed ⟨o, p, q, v, x, y, s⟩ r v))
    refine bodyPost_ret (by simp [results, Try.results98, go_sem]; try rfl) rfl ?_
    exact ⟨A, c, rfl, (HB.out.drew.after Hb.out).pq _, (HA.out.drew.after Hb.out).pq _, below_pq ((Below.refl g w).drew.trans (Hb.out.mono (Nat.le_of_lt hg))) (Nat.le_refl _) _⟩
set_option maxRecDepth 100000 in
theorem loadTail_any (lo g : Nat) (f : Fr) (W D J S : Int) (A : Option Addr) (c : Nat) (l : List Int) (w : World) (hB : Bq w g W D J S (.slice A l.length c) f) (hA : Rx lo g w A l) (hs : l.length ≤ 500) :
    Calls Try.prog 82 #[.pointer (some ⟨g, 0, none⟩)] w (Lq lo w g { f with x := at0 l 5, pc := 1 } W D J S l) := by
  have HB := Lib.hid hB
  have HA := Lib.hid hA
  have HS := Lib.hid hs
  clear hB hA hs
  obtain ⟨o, p, q, v, x, y, s⟩ := f
  have e := HB.out
  obtain ⟨a0, a1, a2, a3, a4, a5, a6, a7, a8, a9, a10, a11⟩ := e.cells
  have fz := e.free
  have hg := e.lt
  clear e
  go_enter Try.func82, Try.ntmps82
  go_wp2_with fail
  refine (load_any A l.length c l 5 _ HA.out.rd rfl HS.out).mono ?_
  rintro _ w2 ⟨rfl, hb⟩
  have Z2 := Lib.hid hb
  have e := HB.out.after hb
  clear a0 a1 a2 a3 a4 a5 a6 a7 a8 a9 a10 a11 fz
  obtain ⟨a0, a1, a2, a3, a4, a5, a6, a7, a8, a9, a10, a11⟩ := e.cells
  have fz := e.free
  clear hb e
  go_wp2
  refine bodyPost_ret (by simp [results, Try.results82, go_sem]; try rfl) rfl ?_
  exact ⟨A, c, rfl, ((HB.out.after Z2.out).setX _).setPc _, ((HA.out.after Z2.out).set rfl _).set rfl _, ((Z2.out.mono (Nat.le_of_lt hg)).setCell (Nat.le_refl _) _).setCell (Nat.le_refl _) _⟩
end Go.Proofs.Ytppllanmgdhabaa
