/- Merged: WtA, WtB. -/
import Derived.Test.YtlpkccpijloidaaGreatPuA2
import Derived.Test.YtlpkccpijloidaaGreatPuG2
import Derived.Test.YtlpkccpijloidaaGreatNxA
import Derived.Test.YtlpkccpijloidaaGreatWtX
import Derived.IntWalk
import Derived.Deep.RegionHeld3
namespace Go.Proofs.YtlpkccpijloidaaGreat
set_option linter.unusedSimpArgs false
set_option maxRecDepth 100000
open Go.RowKit Go.Deep
/-- One who waits lies in block g: its call, the layout, and its cells. -/
def Bw (w : World) (g : Nat) (f : Fr) (W D J S : Int) (v : Value) : Prop := w.heap[g]? = some (.cells #[.int .i64 f.op, .int .i64 f.pc, .int .i64 f.who, .int .u64 f.val, .int .u64 f.x, .int .u64 f.y, .int .i64 f.res, .int .i64 W, .int .i64 D, .int .i64 J, .int .i64 S, v] 110 (0, 0))
theorem Bw.lt {w : World} {g : Nat} {f : Fr} {W D J S : Int} {v : Value} (h : Bw w g f W D J S v) : g < w.heap.size := by
  rcases Nat.lt_or_ge g w.heap.size with hlt | hge
  · exact hlt
  · unfold Bw at h; rw [Array.getElem?_eq_none hge] at h; cases h
theorem Bw.below {w w' : World} {g B : Nat} {f : Fr} {W D J S : Int} {v : Value} (h : Bw w g f W D J S v) (hb : Below B w w') (hg : g < B) : Bw w' g f W D J S v := (hb.block g hg).trans h
theorem Bw.after {w w' : World} {g : Nat} {f : Fr} {W D J S : Int} {v : Value} (h : Bw w g f W D J S v) (hb : Below w.heap.size w w') : Bw w' g f W D J S v := h.below hb h.lt
theorem Bw.drew {w : World} {g : Nat} {f : Fr} {W D J S : Int} {v : Value} (h : Bw w g f W D J S v) : Bw w.drew g f W D J S v := h
theorem Bw.cells {w : World} {g : Nat} {f : Fr} {W D J S : Int} {v : Value} (h : Bw w g f W D J S v) : w.cell? ⟨g, 0, none⟩ = some (.int .i64 f.op) ∧ w.cell? ⟨g, 1, none⟩ = some (.int .i64 f.pc) ∧ w.cell? ⟨g, 2, none⟩ = some (.int .i64 f.who) ∧ w.cell? ⟨g, 3, none⟩ = some (.int .u64 f.val)
    ∧ w.cell? ⟨g, 4, none⟩ = some (.int .u64 f.x) ∧ w.cell? ⟨g, 5, none⟩ = some (.int .u64 f.y) ∧ w.cell? ⟨g, 6, none⟩ = some (.int .i64 f.res)
    ∧ w.cell? ⟨g, 7, none⟩ = some (.int .i64 W) ∧ w.cell? ⟨g, 8, none⟩ = some (.int .i64 D) ∧ w.cell? ⟨g, 9, none⟩ = some (.int .i64 J) ∧ w.cell? ⟨g, 10, none⟩ = some (.int .i64 S) ∧ w.cell? ⟨g, 11, none⟩ = some v := by
  unfold Bw at h
  refine ⟨?_, ?_, ?_, ?_, ?_, ?_, ?_, ?_, ?_, ?_, ?_, ?_⟩ <;> (rw [cell_of_row w g _ _ _ _ h]; rfl)
theorem Bw.free {w : World} {g : Nat} {f : Fr} {W D J S : Int} {v : Value} (h : Bw w g f W D J S v) (i : Nat) : w.frozen? ⟨g, i, none⟩ = false := by
  unfold Bw at h
  simp [World.frozen?, h]
theorem Bw.setPc {w : World} {g : Nat} {f : Fr} {W D J S : Int} {v : Value} (h : Bw w g f W D J S v) (z : Int) : Bw (w.setCell ⟨g, 1, none⟩ (.int .i64 z)) g { f with pc := z } W D J S v := by
  unfold Bw at h ⊢
  simp [World.setCell, Array.getElem?_modify, h]
theorem Bw.setX {w : World} {g : Nat} {f : Fr} {W D J S : Int} {v : Value} (h : Bw w g f W D J S v) (z : Int) : Bw (w.setCell ⟨g, 4, none⟩ (.int .u64 z)) g { f with x := z } W D J S v := by
  unfold Bw at h ⊢
  simp [World.setCell, Array.getElem?_modify, h]
theorem Bw.setY {w : World} {g : Nat} {f : Fr} {W D J S : Int} {v : Value} (h : Bw w g f W D J S v) (z : Int) : Bw (w.setCell ⟨g, 5, none⟩ (.int .u64 z)) g { f with y := z } W D J S v := by
  unfold Bw at h ⊢
  simp [World.setCell, Array.getElem?_modify, h]
theorem Bw.setM {w : World} {g : Nat} {f : Fr} {W D J S : Int} {v : Value} (h : Bw w g f W D J S v) (z : Value) : Bw (w.setCell ⟨g, 11, none⟩ z) g f W D J S z := by
  unfold Bw at h ⊢
  simp [World.setCell, Array.getElem?_modify, h]
theorem Bw.pf {w : World} {g : Nat} {f : Fr} {W D J S : Int} {v : Value} (h : Bw w g f W D J S v) (f' : Fr) : Bw (pf w g f') g f' W D J S v := by
  unfold Bw at h ⊢
  unfold YtlpkccpijloidaaGreat.pf
  simp [World.setCell, Array.getElem?_modify, h]
theorem Bk.ne_wt {g k : Nat} {w : World} {l : List Int} {f : Fr} {W D J S : Int} {v : Value} (h : Bk w k l) (hb : Bw w g f W D J S v) : k ≠ g := by
  rintro rfl
  unfold Bk at h
  unfold Bw at hb
  rw [h] at hb
  injection hb with hb
  injection hb with _ hb _
  cases hb
/-- What a step leaves: the box with the call, and cells; nothing below it has changed. -/
def Lw (lo : Nat) (w : World) (g : Nat) (f : Fr) (W D J S : Int) (l : List Int) (e : Ending) (w' : World) : Prop :=
  ∃ A c, e = .returned (.tuple #[]) ∧ Bw w' g f W D J S (.slice A l.length c) ∧ Rx lo g w' A l ∧ Below g w w'
theorem Bw.pp {w : World} {g : Nat} {f : Fr} {W D J S : Int} {v : Value} (h : Bw w g f W D J S v) (f' : Fr) (W' D' J' S' : Int) (v' : Value) : Bw (pp w g f' W' D' J' S' v') g f' W' D' J' S' v' := by
  have h2 := h.pf f'
  unfold YtlpkccpijloidaaGreat.pp
  generalize YtlpkccpijloidaaGreat.pf w g f' = w1 at h2
  unfold Bw at h2 ⊢
  simp [World.setCell, Array.getElem?_modify, h2]
theorem Bw.new (w : World) : Bw (w.alloc (.cells #[.int .i64 0, .int .i64 0, .int .i64 0, .int .u64 0, .int .u64 0, .int .u64 0, .int .i64 0, .int .i64 0, .int .i64 0, .int .i64 0, .int .i64 0, .slice none 0 0] 110)) w.heap.size f0 0 0 0 0 (.slice none 0 0) := heap_alloc_new _ _
theorem Lw.of {lo : Nat} {w : World} {g : Nat} {f f' : Fr} {W D J S : Int} {l l' : List Int} {P : Program} {F : FuncId} {args : Array Value} (h : Calls P F args w (Lw lo w g f W D J S l)) (e1 : f = f') (e2 : l = l') : Calls P F args w (Lw lo w g f' W D J S l') := by
  rw [← e1, ← e2]; exact h
set_option maxHeartbeats 4000000 in
theorem wend_any (lo g : Nat) (f : Fr) (W D J S : Int) (r : Int) (A : Option Addr) (c : Nat) (l : List Int) (w : World) (hB : Bw w g f W D J S (.slice A l.length c)) (hA : Rx lo g w A l) :
    Calls Tryz.prog 154 #[.pointer (some ⟨g, 0, none⟩), .int .i64 r] w (Lw lo w g (ed f r 0) W D J S l) := by
  have HB := Lib.hid hB
  have HA := Lib.hid hA
  clear hB hA
  obtain ⟨o, p, q, v, x, y, s⟩ := f
  have e := HB.out
  obtain ⟨a0, a1, a2, a3, a4, a5, a6, a7, a8, a9, a10, a11⟩ := e.cells
  have fz := e.free
  have hg := e.lt
  clear e
  go_enter Tryz.func154, Tryz.ntmps154
  go_wp2_with fail
  refine (end_any ⟨o, p, q, v, x, y, s⟩ r 0 _).mono ?_
  rintro _ w2 ⟨rfl, hb⟩
  have Hb := Lib.hid hb
  have e := HB.out.after hb
  clear a0 a1 a2 a3 a4 a5 a6 a7 a8 a9 a10 a11 fz
  obtain ⟨a0, a1, a2, a3, a4, a5, a6, a7, a8, a9, a10, a11⟩ := e.cells
  have fz := e.free
  clear hb e
  go_wp2
  change bodyPost _ _ _ _ _ (pf w2 g (ed ⟨o, p, q, v, x, y, s⟩ r 0))
  refine bodyPost_ret (by simp [results, Tryz.results154, go_sem]; try rfl) rfl ?_
  exact ⟨A, c, rfl, (HB.out.after Hb.out).pf _, (HA.out.after Hb.out).pf _, below_pf (Hb.out.mono (Nat.le_of_lt hg)) (Nat.le_refl _) _⟩
set_option maxHeartbeats 4000000 in
theorem prepare_any (lo g : Nat) (f : Fr) (W D J S : Int) (A : Option Addr) (c : Nat) (l : List Int) (w : World) (hB : Bw w g f W D J S (.slice A l.length c)) (hA : Rx lo g w A l) (hs : l.length ≤ 500) :
    Calls Tryz.prog 112 #[.pointer (some ⟨g, 0, none⟩)] w (Lw lo w g { f with x := at0 l 2, pc := 1 } W D J S l) := by
  have HB := Lib.hid hB
  have HA := Lib.hid hA
  have HS := Lib.hid hs
  clear hB hA hs
  obtain ⟨o, p, q, v, x, y, s⟩ := f
  have e := HB.out
  obtain ⟨a0, a1, a2, a3, a4, a5, a6, a7, a8, a9, a10, a11⟩ := e.cells
  have fz := e.free
  have hg := e.lt
  clear e
  go_enter Tryz.func112, Tryz.ntmps112
  go_wp2_with fail
  refine (load_any A l.length c l 2 _ HA.out.rd rfl HS.out).mono ?_
  rintro _ w2 ⟨rfl, hb⟩
  have Z2 := Lib.hid hb
  have e := HB.out.after hb
  clear a0 a1 a2 a3 a4 a5 a6 a7 a8 a9 a10 a11 fz
  obtain ⟨a0, a1, a2, a3, a4, a5, a6, a7, a8, a9, a10, a11⟩ := e.cells
  have fz := e.free
  clear hb e
  go_wp2
  refine bodyPost_ret (by simp [results, Tryz.results112, go_sem]; try rfl) rfl ?_
  exact ⟨A, c, rfl, ((HB.out.after Z2.out).setX _).setPc _, ((HA.out.after Z2.out).set rfl _).set rfl _, ((Z2.out.mono (Nat.le_of_lt hg)).setCell (Nat.le_refl _) _).setCell (Nat.le_refl _) _⟩
set_option maxHeartbeats 4000000 in
theorem lookAnew_any (lo g : Nat) (f : Fr) (W D J S : Int) (Y : Int) (b : Bool) (F : Fr) (A : Option Addr) (c : Nat) (l : List Int) (w : World) (hB : Bw w g f W D J S (.slice A l.length c)) (hA : Rx lo g w A l) (hY : at0 l 2 = Y) (hb : (Y / 65536 != f.x / 65536) = b) (hF : F = if b then ed f 4 0 else { f with y := Y, pc := 2 }) (hs : l.length ≤ 500) :
    Calls Tryz.prog 113 #[.pointer (some ⟨g, 0, none⟩)] w (Lw lo w g F W D J S l) := by
  have HB := Lib.hid hB
  have HA := Lib.hid hA
  have HS := Lib.hid hs
  clear hB hA hs
  obtain ⟨o, p, q, v, x, y, s⟩ := f
  simp only at hb
  have HY := Lib.hid hY
  have HN := Lib.hid hb
  have HF := Lib.hid hF
  clear hY hb hF
  have e := HB.out
  obtain ⟨a0, a1, a2, a3, a4, a5, a6, a7, a8, a9, a10, a11⟩ := e.cells
  have fz := e.free
  have hg := e.lt
  clear e
  go_enter Tryz.func113, Tryz.ntmps113
  go_wp2_with fail
  refine (ret_of (load_any A l.length c l 2 _ HA.out.rd rfl HS.out) (v' := .int .u64 Y) (by rw [HY.out])).mono ?_
  rintro _ w2 ⟨rfl, hb⟩
  have Z2 := Lib.hid hb
  have e := HB.out.after hb
  clear a0 a1 a2 a3 a4 a5 a6 a7 a8 a9 a10 a11 fz
  obtain ⟨a0, a1, a2, a3, a4, a5, a6, a7, a8, a9, a10, a11⟩ := e.cells
  have fz := e.free
  clear hb e
  go_wp2_with fail
  have e : Bw (w2.setCell ⟨g, 5, none⟩ (.int .u64 Y)) g ⟨o, p, q, v, x, Y, s⟩ W D J S (.slice A l.length c) := (HB.out.after Z2.out).setY _
  have eA : Rx lo g (w2.setCell ⟨g, 5, none⟩ (.int .u64 Y)) A l := (HA.out.after Z2.out).set rfl _
  have eb : Below g w (w2.setCell ⟨g, 5, none⟩ (.int .u64 Y)) := (Z2.out.mono (Nat.le_of_lt hg)).setCell (Nat.le_refl _) _
  generalize w2.setCell ⟨g, 5, none⟩ (.int .u64 Y) = w4 at e eA eb ⊢
  clear Z2 HB HA HS HY a0 a1 a2 a3 a4 a5 a6 a7 a8 a9 a10 a11 fz hg
  have E := Lib.hid e
  have EA := Lib.hid eA
  have EB := Lib.hid eb
  clear e eA eb
  obtain ⟨c0, c1, c2, c3, c4, c5, c6, c7, c8, c9, c10, c11⟩ := E.out.cells
  have fz := E.out.free
  have HK := Lib.hid (show ∀ x', Below w4.heap.size w4 x' → (fun w' => w'.cell? ⟨g, 4, none⟩ = some (.int .u64 x) ∧ w'.cell? ⟨g, 5, none⟩ = some (.int .u64 Y) ∧ Below w4.heap.size w4 w') x' from fun x' hx =>
    ⟨(hx.cell (p := ⟨g, 4, none⟩) E.out.lt).trans c4, (hx.cell (p := ⟨g, 5, none⟩) E.out.lt).trans c5, hx⟩)
  have hHeld0 := HK.out _ (Below.refl _ _)
  have hn0 : w4.heap.size ≤ w4.heap.size := Nat.le_refl _
  have hne := HN.out
  have ZC := Lib.hid (Below.refl w4.heap.size w4).drew
  go_region_held3 (fun w' => w'.cell? ⟨g, 4, none⟩ = some (.int .u64 x) ∧ w'.cell? ⟨g, 5, none⟩ = some (.int .u64 Y) ∧ Below w4.heap.size w4 w')
    (first | with_reducible exact hd_drew HK.out (fun _ h => h.2.2) (by assumption) | with_reducible exact hd_call HK.out (fun _ h => h.2.2) (by assumption) (by assumption) hn0)
    (first
    | (go_at_call 153; (refine (epoch_any _ _).tells.mono ?_); rintro _ w5 ⟨rfl, hb⟩; replace ZC := Lib.hid (keep_call (w2 := w4) hb ZC.out); have e := E.out.after ZC.out; obtain ⟨b0, b1, b2, b3, b4, b5, b6, b7, b8, b9, b10, b11⟩ := e.cells; have fz := e.free; clear e))
  all_goals
    cases b
    · obtain rfl : F = ⟨o, 2, q, v, x, Y, s⟩ := HF.out
      go_wp2
      refine bodyPost_ret (by simp [results, Tryz.results113, go_sem]; try rfl) rfl ?_
      exact ⟨A, c, rfl, (E.out.after ZC.out).setPc _, (EA.out.after ZC.out).set rfl _, (EB.out.trans (ZC.out.mono (Nat.le_of_lt E.out.lt))).setCell (Nat.le_refl _) _⟩
    · obtain rfl : F = ed ⟨o, p, q, v, x, Y, s⟩ 4 0 := HF.out
      go_wp2_with fail
      refine (wend_any lo g ⟨o, p, q, v, x, Y, s⟩ W D J S 4 A c l _ (E.out.after ZC.out) (EA.out.after ZC.out)).mono ?_
      rintro _ w6 ⟨A', c', rfl, hb6, ha6, hbe⟩
      go_wp2
      refine bodyPost_ret (by simp [results, Tryz.results113, go_sem]; try rfl) rfl ?_
      exact ⟨A', c', rfl, hb6, ha6, (EB.out.trans (ZC.out.mono (Nat.le_of_lt E.out.lt))).trans hbe⟩
end Go.Proofs.YtlpkccpijloidaaGreat
namespace Go.Proofs.YtlpkccpijloidaaGreat
set_option linter.unusedSimpArgs false
set_option maxRecDepth 100000
open Go.RowKit Go.Deep
set_option maxHeartbeats 4000000 in
theorem setBit_any (lo g : Nat) (f : Fr) (W D J S : Int) (T : List Int) (b : Bool) (F : Fr) (A : Option Addr) (c : Nat) (l : List Int) (w : World) (hB : Bw w g f W D J S (.slice A l.length c)) (hA : Rx lo g w A l) (hlo : lo ≤ w.heap.size) (hy : U f.y) (hb : isAt l 2 f.y = b) (hT : (if isAt l 2 f.y = true then put l 2 (st f.y f.who) else l) = T) (hF : F = if b then { f with pc := 3 } else { f with pc := 1 }) (hs : l.length ≤ 500) :
    Calls Tryz.prog 114 #[.pointer (some ⟨g, 0, none⟩)] w (Lw lo w g F W D J S T) := by
  have HB := Lib.hid hB
  have HA := Lib.hid hA
  have HS := Lib.hid hs
  clear hB hA hs
  obtain ⟨o, p, q, v, x, y, s⟩ := f
  simp only at hy hb hT
  have HTL := Lib.hid (show T.length = l.length by rw [← hT]; split <;> simp [len_put])
  have HT := Lib.hid hT
  have HIB := Lib.hid hb
  have HF := Lib.hid hF
  have HY := Lib.hid hy
  clear hb hT hF hy
  have e := HB.out
  obtain ⟨a0, a1, a2, a3, a4, a5, a6, a7, a8, a9, a10, a11⟩ := e.cells
  have fz := e.free
  have hg := e.lt
  have ZC := Lib.hid (Below.refl w.heap.size w).drew
  have HK := Lib.hid (show ∀ x', Kx g 11 w x' → (fun w' => w'.cell? ⟨g, 2, none⟩ = some (.int .i64 q) ∧ w'.cell? ⟨g, 5, none⟩ = some (.int .u64 y) ∧ Kx g 11 w w') x' from fun x' hx =>
    ⟨(hx.cells 2 (by decide)).trans a2, (hx.cells 5 (by decide)).trans a5, hx⟩)
  have hHeld0 := HK.out _ (Kx.refl g 11 w)
  clear e
  go_enter Tryz.func114, Tryz.ntmps114
  go_wp2_with fail
  refine wp_region_held_drew (S := fun w' => w'.cell? ⟨g, 2, none⟩ = some (.int .i64 q) ∧ w'.cell? ⟨g, 5, none⟩ = some (.int .u64 y) ∧ Kx g 11 w w') (by kernel_rfl) (kx_drew HK.out (fun _ h => h.2.2) hHeld0) (fun hHeld => ?_)
  refine tkH 0 (v := ?vr1) rfl ?yr1 ?rr1
  case yr1 => (intro w hSw; (try dsimp only at hSw); go_simp; (try with_reducible rfl))
  (try simp only [Act.put, jA, jB, jC])
  refine tkH 1 (v := ?vr2) rfl ?yr2 ?rr2
  case yr2 => (intro w hSw; (try dsimp only at hSw); go_simp; (try with_reducible rfl))
  (try simp only [Act.put, jA, jB, jC])
  refine tkH 2 (v := ?vr3) rfl ?yr3 ?rr3
  case yr3 => (intro w hSw; (try dsimp only at hSw); go_simp; (try with_reducible rfl))
  (try simp only [Act.put, jA, jB, jC])
  refine tkH 3 (v := ?vr4) rfl ?yr4 ?rr4
  case yr4 => (intro w hSw; (try dsimp only at hSw); go_simp; (try with_reducible rfl))
  (try simp only [Act.put, jA, jB, jC])
  refine tkH 5 (v := ?vr5) rfl ?yr5 ?rr5
  case yr5 => (intro w hSw; (try dsimp only at hSw); go_simp; (try with_reducible rfl))
  (try simp only [Act.put, jA, jB, jC])
  refine tkH 6 (v := ?vr6) rfl ?yr6 ?rr6
  case yr6 => (intro w hSw; (try dsimp only at hSw); go_simp; (try with_reducible rfl))
  (try simp only [Act.put, jA, jB, jC])
  refine tkH 7 (v := ?vr7) rfl ?yr7 ?rr7
  case yr7 => (intro w hSw; (try dsimp only at hSw); go_simp; (try with_reducible rfl))
  (try simp only [Act.put, jA, jB, jC])
  refine tkH 8 (v := ?vr8) rfl ?yr8 ?rr8
  case yr8 => (intro w hSw; (try dsimp only at hSw); go_simp; (try with_reducible rfl))
  (try simp only [Act.put, jA, jB, jC])
  refine tkH 9 (v := ?vr9) rfl ?yr9 ?rr9
  case yr9 => (intro w hSw; (try dsimp only at hSw); go_simp; (try with_reducible rfl))
  (try simp only [Act.put, jA, jB, jC])
  refine tkH 10 (v := ?vr10) rfl ?yr10 ?rr10
  case yr10 => (intro w hSw; (try dsimp only at hSw); go_simp; (try with_reducible rfl))
  (try simp only [Act.put, jA, jB, jC])
  refine tkH 11 (v := ?vr11) rfl ?yr11 ?rr11
  case yr11 => (intro w hSw; (try dsimp only at hSw); go_simp; (try with_reducible rfl))
  (try simp only [Act.put, jA, jB, jC])
  refine tkH 12 (v := ?vr12) rfl ?yr12 ?rr12
  case yr12 => (intro w hSw; (try dsimp only at hSw); go_simp; (try with_reducible rfl))
  (try simp only [Act.put, jA, jB, jC])
  refine tkH 13 (v := ?vr13) rfl ?yr13 ?rr13
  case yr13 => (intro w hSw; (try dsimp only at hSw); go_simp; (try with_reducible rfl))
  (try simp only [Act.put, jA, jB, jC])
  refine tkH 14 (v := ?vr14) rfl ?yr14 ?rr14
  case yr14 => (intro w hSw; (try dsimp only at hSw); go_simp; (try with_reducible rfl))
  (try simp only [Act.put, jA, jB, jC])
  refine tkH 15 (v := ?vr15) rfl ?yr15 ?rr15
  case yr15 => (intro w hSw; (try dsimp only at hSw); go_simp; (try with_reducible rfl))
  (try simp only [Act.put, jA, jB, jC])
  refine tkH 16 (v := ?vr16) rfl ?yr16 ?rr16
  case yr16 => (intro w hSw; (try dsimp only at hSw); go_simp; (try with_reducible rfl))
  (try simp only [Act.put, jA, jB, jC])
  refine tkH 17 (v := ?vr17) rfl ?yr17 ?rr17
  case yr17 => (intro w hSw; (try dsimp only at hSw); go_simp; (try with_reducible rfl))
  (try simp only [Act.put, jA, jB, jC])
  refine tkH 18 (v := ?vr18) rfl ?yr18 ?rr18
  case yr18 => (intro w hSw; (try dsimp only at hSw); go_simp; (try with_reducible rfl))
  (try simp only [Act.put, jA, jB, jC])
  refine tkH 19 (v := ?vr19) rfl ?yr19 ?rr19
  case yr19 => (intro w hSw; (try dsimp only at hSw); go_simp; (try with_reducible rfl))
  (try simp only [Act.put, jA, jB, jC])
  refine wpAnyH_ready (rs := [4, 20]) (by kernel_rfl) (by simp) ?_
  refine (AllReadyH.cons rfl (fun K hK => ?_) (AllReadyH.cons rfl (fun K hK => ?_) AllReadyH.nil))
  · go_simp
    refine hK.out _ _ (hHeld) (fun hHeld2 => ?_)
    clear hK K hHeld
    have hHeld := hHeld2
    clear hHeld2
    (try simp only [Act.put, jA, jB, jC])
    refine wpAnyH_ready (rs := [20]) (by kernel_rfl) (by simp) ?_
    refine (AllReadyH.cons rfl (fun K hK => ?_) AllReadyH.nil)
    go_simp
    refine ((set_any y q _ HY.out).tells).mono ?_
    rintro e w1 ⟨rfl, hb⟩
    go_wp2_with fail
    replace ZC := Lib.hid (keep_call (w2 := w) hb ZC.out)
    have e := HB.out.after ZC.out; obtain ⟨b0, b1, b2, b3, b4, b5, b6, b7, b8, b9, b10, b11⟩ := e.cells; have fz := e.free; clear e
    refine hK.out _ _ (kx_call HK.out (fun _ h => h.2.2) hg hb hHeld) (fun hHeld2 => ?_)
    clear hK K hHeld
    have hHeld := hHeld2
    clear hHeld2
    (try simp only [Act.put, jA, jB, jC])
    refine wpAnyH_ready (rs := [21]) (by kernel_rfl) (by simp) ?_
    refine (AllReadyH.cons rfl (fun K hK => ?_) AllReadyH.nil)
    go_simp
    refine (casn_n (v := st y q) (HA.out.after ZC.out).rd rfl HS.out HIB.out HT.out).mono ?_
    rintro e w2 ⟨k, rfl, hk0, hk, hb⟩
    go_wp2_with fail
    have HLO := Lib.hid (Nat.le_trans hlo (Nat.le_trans ZC.out.size hk0))
    have HKK := Lib.hid hk
    replace ZC := Lib.hid (keep_call (w2 := w) hb ZC.out)
    have e := HB.out.after ZC.out; obtain ⟨b0, b1, b2, b3, b4, b5, b6, b7, b8, b9, b10, b11⟩ := e.cells; have fz := e.free; clear e
    clear hk hk0
    refine hK.out _ _ (kx_call HK.out (fun _ h => h.2.2) hg hb hHeld) (fun hHeld2 => ?_)
    clear hK K hHeld
    have hHeld := hHeld2
    clear hHeld2
    (try simp only [Act.put, jA, jB, jC])
    refine tkH 22 (v := ?vr20) rfl ?yr20 ?rr20
    case yr20 => (intro w hSw; (try dsimp only at hSw); go_simp; (try with_reducible rfl))
    (try simp only [Act.put, jA, jB, jC])
    refine tkH 23 (v := ?vr21) rfl ?yr21 ?rr21
    case yr21 => (intro w hSw; (try dsimp only at hSw); go_simp; (try with_reducible rfl))
    (try simp only [Act.put, jA, jB, jC])
    refine tkH 24 (v := ?vr22) rfl ?yr22 ?rr22
    case yr22 => (intro w hSw; (try dsimp only at hSw); go_simp; (try with_reducible rfl))
    (try simp only [Act.put, jA, jB, jC])
    refine tkH 25 (v := ?vr23) rfl ?yr23 ?rr23
    case yr23 => (intro w hSw; (try dsimp only at hSw); go_simp; (try with_reducible rfl))
    (try simp only [Act.put, jA, jB, jC])
    refine tkH 26 (v := ?vr24) rfl ?yr24 ?rr24
    case yr24 => (intro w hSw; (try dsimp only at hSw); go_simp; (try with_reducible rfl))
    (try simp only [Act.put, jA, jB, jC])
    refine wpAnyH_ready (rs := [27]) (by kernel_rfl) (by simp) ?_
    refine (AllReadyH.cons rfl (fun K hK => ?_) AllReadyH.nil)
    go_simp
    refine hK.out _ _ (kx_set HK.out (fun _ h => h.2.2) _ hHeld) (fun hHeld2 => ?_)
    clear hK K hHeld
    have hHeld := hHeld2
    clear hHeld2
    (try simp only [Act.put, jA, jB, jC])
    refine tkH 28 (v := ?vr25) rfl ?yr25 ?rr25
    case yr25 => (intro w hSw; (try dsimp only at hSw); go_simp; (try with_reducible rfl))
    (try simp only [Act.put, jA, jB, jC])
    refine wpAnyH_done (by kernel_rfl) ?_ _
    clear hHeld
    have e := HB.out.after ZC.out
    have e2 : Bw (w2.setCell ⟨g, 11, none⟩ (.slice (some ⟨k, 0, none⟩) l.length l.length)) g ⟨o, p, q, v, x, y, s⟩ W D J S (.slice (some ⟨k, 0, none⟩) T.length l.length) := by rw [HTL.out]; exact e.setM _
    have eA : Rx lo g (w2.setCell ⟨g, 11, none⟩ (.slice (some ⟨k, 0, none⟩) l.length l.length)) (some ⟨k, 0, none⟩) T := (HKK.out.rx (HKK.out.ne_wt e) HLO.out).set rfl _
    have eb : Below g w (w2.setCell ⟨g, 11, none⟩ (.slice (some ⟨k, 0, none⟩) l.length l.length)) := (ZC.out.mono (Nat.le_of_lt hg)).setCell (Nat.le_refl _) _
    generalize w2.setCell ⟨g, 11, none⟩ (.slice (some ⟨k, 0, none⟩) l.length l.length) = w4 at e2 eA eb ⊢
    clear e ZC HKK HLO a0 a1 a2 a3 a4 a5 a6 a7 a8 a9 a10 a11 b0 b1 b2 b3 b4 b5 b6 b7 b8 b9 b10 b11 fz HB HA
    obtain ⟨c0, c1, c2, c3, c4, c5, c6, c7, c8, c9, c10, c11⟩ := e2.cells
    have fz := e2.free
    have E := Lib.hid e2
    have EA := Lib.hid eA
    have EB := Lib.hid eb
    clear e2 eA eb
    cases b
    · obtain rfl : F = ⟨o, 1, q, v, x, y, s⟩ := HF.out
      go_wp2
      refine bodyPost_ret (by simp [results, Tryz.results114, go_sem]; try rfl) rfl ?_
      exact ⟨_, _, rfl, E.out.setPc _, EA.out.set rfl _, EB.out.setCell (Nat.le_refl _) _⟩
    · obtain rfl : F = ⟨o, 3, q, v, x, y, s⟩ := HF.out
      go_wp2
      refine bodyPost_ret (by simp [results, Tryz.results114, go_sem]; try rfl) rfl ?_
      exact ⟨_, _, rfl, (E.out.setPc _).setPc _, (EA.out.set rfl _).set rfl _, (EB.out.setCell (Nat.le_refl _) _).setCell (Nat.le_refl _) _⟩
  · go_simp
    refine ((set_any y q _ HY.out).tells).mono ?_
    rintro e w1 ⟨rfl, hb⟩
    go_wp2_with fail
    replace ZC := Lib.hid (keep_call (w2 := w) hb ZC.out)
    have e := HB.out.after ZC.out; obtain ⟨b0, b1, b2, b3, b4, b5, b6, b7, b8, b9, b10, b11⟩ := e.cells; have fz := e.free; clear e
    refine hK.out _ _ (kx_call HK.out (fun _ h => h.2.2) hg hb hHeld) (fun hHeld2 => ?_)
    clear hK K hHeld
    have hHeld := hHeld2
    clear hHeld2
    (try simp only [Act.put, jA, jB, jC])
    refine wpAnyH_ready (rs := [4]) (by kernel_rfl) (by simp) ?_
    refine (AllReadyH.cons rfl (fun K hK => ?_) AllReadyH.nil)
    go_simp
    refine hK.out _ _ (hHeld) (fun hHeld2 => ?_)
    clear hK K hHeld
    have hHeld := hHeld2
    clear hHeld2
    (try simp only [Act.put, jA, jB, jC])
    refine wpAnyH_ready (rs := [21]) (by kernel_rfl) (by simp) ?_
    refine (AllReadyH.cons rfl (fun K hK => ?_) AllReadyH.nil)
    go_simp
    refine (casn_n (v := st y q) (HA.out.after ZC.out).rd rfl HS.out HIB.out HT.out).mono ?_
    rintro e w2 ⟨k, rfl, hk0, hk, hb⟩
    go_wp2_with fail
    have HLO := Lib.hid (Nat.le_trans hlo (Nat.le_trans ZC.out.size hk0))
    have HKK := Lib.hid hk
    replace ZC := Lib.hid (keep_call (w2 := w) hb ZC.out)
    have e := HB.out.after ZC.out; obtain ⟨b0, b1, b2, b3, b4, b5, b6, b7, b8, b9, b10, b11⟩ := e.cells; have fz := e.free; clear e
    clear hk hk0
    refine hK.out _ _ (kx_call HK.out (fun _ h => h.2.2) hg hb hHeld) (fun hHeld2 => ?_)
    clear hK K hHeld
    have hHeld := hHeld2
    clear hHeld2
    (try simp only [Act.put, jA, jB, jC])
    refine tkH 22 (v := ?vr26) rfl ?yr26 ?rr26
    case yr26 => (intro w hSw; (try dsimp only at hSw); go_simp; (try with_reducible rfl))
    (try simp only [Act.put, jA, jB, jC])
    refine tkH 23 (v := ?vr27) rfl ?yr27 ?rr27
    case yr27 => (intro w hSw; (try dsimp only at hSw); go_simp; (try with_reducible rfl))
    (try simp only [Act.put, jA, jB, jC])
    refine tkH 24 (v := ?vr28) rfl ?yr28 ?rr28
    case yr28 => (intro w hSw; (try dsimp only at hSw); go_simp; (try with_reducible rfl))
    (try simp only [Act.put, jA, jB, jC])
    refine tkH 25 (v := ?vr29) rfl ?yr29 ?rr29
    case yr29 => (intro w hSw; (try dsimp only at hSw); go_simp; (try with_reducible rfl))
    (try simp only [Act.put, jA, jB, jC])
    refine tkH 26 (v := ?vr30) rfl ?yr30 ?rr30
    case yr30 => (intro w hSw; (try dsimp only at hSw); go_simp; (try with_reducible rfl))
    (try simp only [Act.put, jA, jB, jC])
    refine wpAnyH_ready (rs := [27]) (by kernel_rfl) (by simp) ?_
    refine (AllReadyH.cons rfl (fun K hK => ?_) AllReadyH.nil)
    go_simp
    refine hK.out _ _ (kx_set HK.out (fun _ h => h.2.2) _ hHeld) (fun hHeld2 => ?_)
    clear hK K hHeld
    have hHeld := hHeld2
    clear hHeld2
    (try simp only [Act.put, jA, jB, jC])
    refine tkH 28 (v := ?vr31) rfl ?yr31 ?rr31
    case yr31 => (intro w hSw; (try dsimp only at hSw); go_simp; (try with_reducible rfl))
    (try simp only [Act.put, jA, jB, jC])
    refine wpAnyH_done (by kernel_rfl) ?_ _
    clear hHeld
    have e := HB.out.after ZC.out
    have e2 : Bw (w2.setCell ⟨g, 11, none⟩ (.slice (some ⟨k, 0, none⟩) l.length l.length)) g ⟨o, p, q, v, x, y, s⟩ W D J S (.slice (some ⟨k, 0, none⟩) T.length l.length) := by rw [HTL.out]; exact e.setM _
    have eA : Rx lo g (w2.setCell ⟨g, 11, none⟩ (.slice (some ⟨k, 0, none⟩) l.length l.length)) (some ⟨k, 0, none⟩) T := (HKK.out.rx (HKK.out.ne_wt e) HLO.out).set rfl _
    have eb : Below g w (w2.setCell ⟨g, 11, none⟩ (.slice (some ⟨k, 0, none⟩) l.length l.length)) := (ZC.out.mono (Nat.le_of_lt hg)).setCell (Nat.le_refl _) _
    generalize w2.setCell ⟨g, 11, none⟩ (.slice (some ⟨k, 0, none⟩) l.length l.length) = w4 at e2 eA eb ⊢
    clear e ZC HKK HLO a0 a1 a2 a3 a4 a5 a6 a7 a8 a9 a10 a11 b0 b1 b2 b3 b4 b5 b6 b7 b8 b9 b10 b11 fz HB HA
    obtain ⟨c0, c1, c2, c3, c4, c5, c6, c7, c8, c9, c10, c11⟩ := e2.cells
    have fz := e2.free
    have E := Lib.hid e2
    have EA := Lib.hid eA
    have EB := Lib.hid eb
    clear e2 eA eb
    cases b
    · obtain rfl : F = ⟨o, 1, q, v, x, y, s⟩ := HF.out
      go_wp2
      refine bodyPost_ret (by simp [results, Tryz.results114, go_sem]; try rfl) rfl ?_
      exact ⟨_, _, rfl, E.out.setPc _, EA.out.set rfl _, EB.out.setCell (Nat.le_refl _) _⟩
    · obtain rfl : F = ⟨o, 3, q, v, x, y, s⟩ := HF.out
      go_wp2
      refine bodyPost_ret (by simp [results, Tryz.results114, go_sem]; try rfl) rfl ?_
      exact ⟨_, _, rfl, (E.out.setPc _).setPc _, (EA.out.set rfl _).set rfl _, (EB.out.setCell (Nat.le_refl _) _).setCell (Nat.le_refl _) _⟩
set_option maxHeartbeats 4000000 in
theorem wpark_any (lo g : Nat) (f : Fr) (W D J S : Int) (Y : Int) (b : Bool) (F : Fr) (A : Option Addr) (c : Nat) (l : List Int) (w : World) (hB : Bw w g f W D J S (.slice A l.length c)) (hA : Rx lo g w A l) (hY : at0 l (ow W D J S f.who 2) = Y) (hb : (Y != 0) = b) (hF : F = if b then { f with y := Y, pc := 4 } else { f with y := Y }) (hs : l.length ≤ 500) :
    Calls Tryz.prog 115 #[.pointer (some ⟨g, 0, none⟩)] w (Lw lo w g F W D J S l) := by
  have HB := Lib.hid hB
  have HA := Lib.hid hA
  have HS := Lib.hid hs
  clear hB hA hs
  obtain ⟨o, p, q, v, x, y, s⟩ := f
  simp only at hY
  have HY := Lib.hid hY
  have HF := Lib.hid hF
  clear hY hF
  have e := HB.out
  obtain ⟨a0, a1, a2, a3, a4, a5, a6, a7, a8, a9, a10, a11⟩ := e.cells
  have fz := e.free
  have hg := e.lt
  have ZC := Lib.hid (Below.refl w.heap.size w).drew
  have HK := Lib.hid (show ∀ x', Kx g 5 w x' → (fun w' => w'.cell? ⟨g, 2, none⟩ = some (.int .i64 q) ∧ w'.cell? ⟨g, 7, none⟩ = some (.int .i64 W) ∧ w'.cell? ⟨g, 8, none⟩ = some (.int .i64 D) ∧ w'.cell? ⟨g, 9, none⟩ = some (.int .i64 J) ∧ w'.cell? ⟨g, 10, none⟩ = some (.int .i64 S) ∧ w'.cell? ⟨g, 11, none⟩ = some (.slice A l.length c) ∧ Kx g 5 w w') x' from fun x' hx =>
    ⟨(hx.cells 2 (by decide)).trans a2, (hx.cells 7 (by decide)).trans a7, (hx.cells 8 (by decide)).trans a8, (hx.cells 9 (by decide)).trans a9, (hx.cells 10 (by decide)).trans a10, (hx.cells 11 (by decide)).trans a11, hx⟩)
  have hHeld0 := HK.out _ (Kx.refl g 5 w)
  clear e
  cases b
  all_goals
    go_enter Tryz.func115, Tryz.ntmps115
    go_wp2_with fail
    go_region_held3 (fun w' => w'.cell? ⟨g, 2, none⟩ = some (.int .i64 q) ∧ w'.cell? ⟨g, 7, none⟩ = some (.int .i64 W) ∧ w'.cell? ⟨g, 8, none⟩ = some (.int .i64 D) ∧ w'.cell? ⟨g, 9, none⟩ = some (.int .i64 J) ∧ w'.cell? ⟨g, 10, none⟩ = some (.int .i64 S) ∧ w'.cell? ⟨g, 11, none⟩ = some (.slice A l.length c) ∧ Kx g 5 w w')
      (first | with_reducible exact kx_drew HK.out (fun _ h => h.2.2.2.2.2.2) (by assumption) | with_reducible exact kx_call HK.out (fun _ h => h.2.2.2.2.2.2) hg (by assumption) (by assumption) | with_reducible exact kx_set HK.out (fun _ h => h.2.2.2.2.2.2) _ (by assumption))
      (first
      | (go_at_call 156; (refine (park_any W D J S q _).mono ?_); rintro _ w1 ⟨rfl, hb⟩; replace ZC := Lib.hid (keep_call (w2 := w) hb ZC.out); have e := HB.out.after ZC.out; obtain ⟨b0, b1, b2, b3, b4, b5, b6, b7, b8, b9, b10, b11⟩ := e.cells; have fz := e.free; clear e)
      | (go_at_call 13; (refine (ret_of (load_any A l.length c l _ _ (HA.out.after ZC.out).rd rfl HS.out) (v' := .int .u64 Y) (by rw [HY.out])).mono ?_); rintro _ w2 ⟨rfl, hb⟩; replace ZC := Lib.hid (keep_call (w2 := w) hb ZC.out); have e := HB.out.after ZC.out; obtain ⟨b0, b1, b2, b3, b4, b5, b6, b7, b8, b9, b10, b11⟩ := e.cells; have fz := e.free; clear e))
  · all_goals
      obtain rfl : F = ⟨o, p, q, v, x, Y, s⟩ := HF.out
      go_wp2
      refine bodyPost_ret (by simp [results, Tryz.results115, go_sem]; try rfl) rfl ?_
      exact ⟨A, c, rfl, (HB.out.after ZC.out).setY _, (HA.out.after ZC.out).set rfl _, (ZC.out.mono (Nat.le_of_lt hg)).setCell (Nat.le_refl _) _⟩
  · all_goals
      obtain rfl : F = ⟨o, 4, q, v, x, Y, s⟩ := HF.out
      go_wp2
      refine bodyPost_ret (by simp [results, Tryz.results115, go_sem]; try rfl) rfl ?_
      exact ⟨A, c, rfl, ((HB.out.after ZC.out).setY _).setPc _, ((HA.out.after ZC.out).set rfl _).set rfl _, ((ZC.out.mono (Nat.le_of_lt hg)).setCell (Nat.le_refl _) _).setCell (Nat.le_refl _) _⟩
set_option maxHeartbeats 4000000 in
theorem unpark_any (lo g : Nat) (f : Fr) (W D J S : Int) (A : Option Addr) (c : Nat) (l : List Int) (w : World) (hB : Bw w g f W D J S (.slice A l.length c)) (hA : Rx lo g w A l) (hlo : lo ≤ w.heap.size) (hs : l.length ≤ 500) :
    Calls Tryz.prog 116 #[.pointer (some ⟨g, 0, none⟩)] w (Lw lo w g (ed f 1 0) W D J S (put l (ow W D J S f.who 2) 0)) := by
  have HB := Lib.hid hB
  have HA := Lib.hid hA
  have HS := Lib.hid hs
  clear hB hA hs
  obtain ⟨o, p, q, v, x, y, s⟩ := f
  show Calls _ _ _ _ (Lw lo w g (ed ⟨o, p, q, v, x, y, s⟩ 1 0) W D J S (put l (ow W D J S q 2) 0))
  have e := HB.out
  obtain ⟨a0, a1, a2, a3, a4, a5, a6, a7, a8, a9, a10, a11⟩ := e.cells
  have fz := e.free
  have hg := e.lt
  have ZC := Lib.hid (Below.refl w.heap.size w).drew
  have HK := Lib.hid (show ∀ x', Kx g 11 w x' → (fun w' => w'.cell? ⟨g, 2, none⟩ = some (.int .i64 q) ∧ w'.cell? ⟨g, 7, none⟩ = some (.int .i64 W) ∧ w'.cell? ⟨g, 8, none⟩ = some (.int .i64 D) ∧ w'.cell? ⟨g, 9, none⟩ = some (.int .i64 J) ∧ w'.cell? ⟨g, 10, none⟩ = some (.int .i64 S) ∧ Kx g 11 w w') x' from fun x' hx =>
    ⟨(hx.cells 2 (by decide)).trans a2, (hx.cells 7 (by decide)).trans a7, (hx.cells 8 (by decide)).trans a8, (hx.cells 9 (by decide)).trans a9, (hx.cells 10 (by decide)).trans a10, hx⟩)
  have hHeld0 := HK.out _ (Kx.refl g 11 w)
  clear e
  go_enter Tryz.func116, Tryz.ntmps116
  go_wp2_with fail
  refine wp_region_held_drew (S := fun w' => w'.cell? ⟨g, 2, none⟩ = some (.int .i64 q) ∧ w'.cell? ⟨g, 7, none⟩ = some (.int .i64 W) ∧ w'.cell? ⟨g, 8, none⟩ = some (.int .i64 D) ∧ w'.cell? ⟨g, 9, none⟩ = some (.int .i64 J) ∧ w'.cell? ⟨g, 10, none⟩ = some (.int .i64 S) ∧ Kx g 11 w w') (by kernel_rfl) (kx_drew HK.out (fun _ h => h.2.2.2.2.2) hHeld0) (fun hHeld => ?_)
  refine tkH 0 (v := ?vq1) rfl ?yq1 ?rq1
  case yq1 => (intro w hSw; (try dsimp only at hSw); go_simp; (try with_reducible rfl))
  (try simp only [Act.put, jA, jB, jC])
  refine tkH 1 (v := ?vq2) rfl ?yq2 ?rq2
  case yq2 => (intro w hSw; (try dsimp only at hSw); go_simp; (try with_reducible rfl))
  (try simp only [Act.put, jA, jB, jC])
  refine tkH 2 (v := ?vq3) rfl ?yq3 ?rq3
  case yq3 => (intro w hSw; (try dsimp only at hSw); go_simp; (try with_reducible rfl))
  (try simp only [Act.put, jA, jB, jC])
  refine tkH 3 (v := ?vq4) rfl ?yq4 ?rq4
  case yq4 => (intro w hSw; (try dsimp only at hSw); go_simp; (try with_reducible rfl))
  (try simp only [Act.put, jA, jB, jC])
  refine tkH 5 (v := ?vq5) rfl ?yq5 ?rq5
  case yq5 => (intro w hSw; (try dsimp only at hSw); go_simp; (try with_reducible rfl))
  (try simp only [Act.put, jA, jB, jC])
  refine tkH 6 (v := ?vq6) rfl ?yq6 ?rq6
  case yq6 => (intro w hSw; (try dsimp only at hSw); go_simp; (try with_reducible rfl))
  (try simp only [Act.put, jA, jB, jC])
  refine tkH 7 (v := ?vq7) rfl ?yq7 ?rq7
  case yq7 => (intro w hSw; (try dsimp only at hSw); go_simp; (try with_reducible rfl))
  (try simp only [Act.put, jA, jB, jC])
  refine tkH 8 (v := ?vq8) rfl ?yq8 ?rq8
  case yq8 => (intro w hSw; (try dsimp only at hSw); go_simp; (try with_reducible rfl))
  (try simp only [Act.put, jA, jB, jC])
  refine tkH 9 (v := ?vq9) rfl ?yq9 ?rq9
  case yq9 => (intro w hSw; (try dsimp only at hSw); go_simp; (try with_reducible rfl))
  (try simp only [Act.put, jA, jB, jC])
  refine tkH 10 (v := ?vq10) rfl ?yq10 ?rq10
  case yq10 => (intro w hSw; (try dsimp only at hSw); go_simp; (try with_reducible rfl))
  (try simp only [Act.put, jA, jB, jC])
  refine tkH 11 (v := ?vq11) rfl ?yq11 ?rq11
  case yq11 => (intro w hSw; (try dsimp only at hSw); go_simp; (try with_reducible rfl))
  (try simp only [Act.put, jA, jB, jC])
  refine tkH 12 (v := ?vq12) rfl ?yq12 ?rq12
  case yq12 => (intro w hSw; (try dsimp only at hSw); go_simp; (try with_reducible rfl))
  (try simp only [Act.put, jA, jB, jC])
  refine tkH 13 (v := ?vq13) rfl ?yq13 ?rq13
  case yq13 => (intro w hSw; (try dsimp only at hSw); go_simp; (try with_reducible rfl))
  (try simp only [Act.put, jA, jB, jC])
  refine wpAnyH_ready (rs := [4, 14]) (by kernel_rfl) (by simp) ?_
  refine (AllReadyH.cons rfl (fun K hK => ?_) (AllReadyH.cons rfl (fun K hK => ?_) AllReadyH.nil))
  · go_simp
    refine hK.out _ _ (hHeld) (fun hHeld2 => ?_)
    clear hK K hHeld
    have hHeld := hHeld2
    clear hHeld2
    (try simp only [Act.put, jA, jB, jC])
    refine wpAnyH_ready (rs := [14]) (by kernel_rfl) (by simp) ?_
    refine (AllReadyH.cons rfl (fun K hK => ?_) AllReadyH.nil)
    go_simp
    refine (park_any W D J S q _).mono ?_
    rintro e w1 ⟨rfl, hb⟩
    go_wp2_with fail
    replace ZC := Lib.hid (keep_call (w2 := w) hb ZC.out)
    have e := HB.out.after ZC.out; obtain ⟨b0, b1, b2, b3, b4, b5, b6, b7, b8, b9, b10, b11⟩ := e.cells; have fz := e.free; clear e
    refine hK.out _ _ (kx_call HK.out (fun _ h => h.2.2.2.2.2) hg hb hHeld) (fun hHeld2 => ?_)
    clear hK K hHeld
    have hHeld := hHeld2
    clear hHeld2
    (try simp only [Act.put, jA, jB, jC])
    refine wpAnyH_ready (rs := [15]) (by kernel_rfl) (by simp) ?_
    refine (AllReadyH.cons rfl (fun K hK => ?_) AllReadyH.nil)
    go_simp
    refine (store_new A l.length c l _ 0 _ (HA.out.after ZC.out).rd rfl HS.out).mono ?_
    rintro e w2 ⟨k, rfl, hk0, hk, hb⟩
    go_wp2_with fail
    have HLO := Lib.hid (Nat.le_trans hlo (Nat.le_trans ZC.out.size hk0))
    have HKK := Lib.hid hk
    replace ZC := Lib.hid (keep_call (w2 := w) hb ZC.out)
    have e := HB.out.after ZC.out; obtain ⟨b0, b1, b2, b3, b4, b5, b6, b7, b8, b9, b10, b11⟩ := e.cells; have fz := e.free; clear e
    clear hk hk0
    refine hK.out _ _ (kx_call HK.out (fun _ h => h.2.2.2.2.2) hg hb hHeld) (fun hHeld2 => ?_)
    clear hK K hHeld
    have hHeld := hHeld2
    clear hHeld2
    (try simp only [Act.put, jA, jB, jC])
    refine tkH 16 (v := ?vq14) rfl ?yq14 ?rq14
    case yq14 => (intro w hSw; (try dsimp only at hSw); go_simp; (try with_reducible rfl))
    (try simp only [Act.put, jA, jB, jC])
    refine tkH 17 (v := ?vq15) rfl ?yq15 ?rq15
    case yq15 => (intro w hSw; (try dsimp only at hSw); go_simp; (try with_reducible rfl))
    (try simp only [Act.put, jA, jB, jC])
    refine wpAnyH_ready (rs := [18]) (by kernel_rfl) (by simp) ?_
    refine (AllReadyH.cons rfl (fun K hK => ?_) AllReadyH.nil)
    go_simp
    refine hK.out _ _ (kx_set HK.out (fun _ h => h.2.2.2.2.2) _ hHeld) (fun hHeld2 => ?_)
    clear hK K hHeld
    have hHeld := hHeld2
    clear hHeld2
    (try simp only [Act.put, jA, jB, jC])
    refine wpAnyH_done (by kernel_rfl) ?_ _
    clear hHeld
    go_wp2_with fail
    have e := HB.out.after ZC.out
    have e2 : Bw (w2.setCell ⟨g, 11, none⟩ (.slice (some ⟨k, 0, none⟩) l.length l.length)) g ⟨o, p, q, v, x, y, s⟩ W D J S (.slice (some ⟨k, 0, none⟩) (put l (ow W D J S q 2) 0).length l.length) := by rw [len_put]; exact e.setM _
    refine (wend_any lo g ⟨o, p, q, v, x, y, s⟩ W D J S 1 _ _ (put l (ow W D J S q 2) 0) _ e2 ((HKK.out.rx (HKK.out.ne_wt e) HLO.out).set rfl _)).mono ?_
    rintro _ w5 ⟨A', c', rfl, hb5, ha5, hbe5⟩
    go_wp2
    refine bodyPost_ret (by simp [results, Tryz.results116, go_sem]; try rfl) rfl ?_
    exact ⟨A', c', rfl, hb5, ha5, ((ZC.out.mono (Nat.le_of_lt hg)).setCell (Nat.le_refl _) _).trans hbe5⟩
  · go_simp
    refine (park_any W D J S q _).mono ?_
    rintro e w1 ⟨rfl, hb⟩
    go_wp2_with fail
    replace ZC := Lib.hid (keep_call (w2 := w) hb ZC.out)
    have e := HB.out.after ZC.out; obtain ⟨b0, b1, b2, b3, b4, b5, b6, b7, b8, b9, b10, b11⟩ := e.cells; have fz := e.free; clear e
    refine hK.out _ _ (kx_call HK.out (fun _ h => h.2.2.2.2.2) hg hb hHeld) (fun hHeld2 => ?_)
    clear hK K hHeld
    have hHeld := hHeld2
    clear hHeld2
    (try simp only [Act.put, jA, jB, jC])
    refine wpAnyH_ready (rs := [4]) (by kernel_rfl) (by simp) ?_
    refine (AllReadyH.cons rfl (fun K hK => ?_) AllReadyH.nil)
    go_simp
    refine hK.out _ _ (hHeld) (fun hHeld2 => ?_)
    clear hK K hHeld
    have hHeld := hHeld2
    clear hHeld2
    (try simp only [Act.put, jA, jB, jC])
    refine wpAnyH_ready (rs := [15]) (by kernel_rfl) (by simp) ?_
    refine (AllReadyH.cons rfl (fun K hK => ?_) AllReadyH.nil)
    go_simp
    refine (store_new A l.length c l _ 0 _ (HA.out.after ZC.out).rd rfl HS.out).mono ?_
    rintro e w2 ⟨k, rfl, hk0, hk, hb⟩
    go_wp2_with fail
    have HLO := Lib.hid (Nat.le_trans hlo (Nat.le_trans ZC.out.size hk0))
    have HKK := Lib.hid hk
    replace ZC := Lib.hid (keep_call (w2 := w) hb ZC.out)
    have e := HB.out.after ZC.out; obtain ⟨b0, b1, b2, b3, b4, b5, b6, b7, b8, b9, b10, b11⟩ := e.cells; have fz := e.free; clear e
    clear hk hk0
    refine hK.out _ _ (kx_call HK.out (fun _ h => h.2.2.2.2.2) hg hb hHeld) (fun hHeld2 => ?_)
    clear hK K hHeld
    have hHeld := hHeld2
    clear hHeld2
    (try simp only [Act.put, jA, jB, jC])
    refine tkH 16 (v := ?vq16) rfl ?yq16 ?rq16
    case yq16 => (intro w hSw; (try dsimp only at hSw); go_simp; (try with_reducible rfl))
    (try simp only [Act.put, jA, jB, jC])
    refine tkH 17 (v := ?vq17) rfl ?yq17 ?rq17
    case yq17 => (intro w hSw; (try dsimp only at hSw); go_simp; (try with_reducible rfl))
    (try simp only [Act.put, jA, jB, jC])
    refine wpAnyH_ready (rs := [18]) (by kernel_rfl) (by simp) ?_
    refine (AllReadyH.cons rfl (fun K hK => ?_) AllReadyH.nil)
    go_simp
    refine hK.out _ _ (kx_set HK.out (fun _ h => h.2.2.2.2.2) _ hHeld) (fun hHeld2 => ?_)
    clear hK K hHeld
    have hHeld := hHeld2
    clear hHeld2
    (try simp only [Act.put, jA, jB, jC])
    refine wpAnyH_done (by kernel_rfl) ?_ _
    clear hHeld
    go_wp2_with fail
    have e := HB.out.after ZC.out
    have e2 : Bw (w2.setCell ⟨g, 11, none⟩ (.slice (some ⟨k, 0, none⟩) l.length l.length)) g ⟨o, p, q, v, x, y, s⟩ W D J S (.slice (some ⟨k, 0, none⟩) (put l (ow W D J S q 2) 0).length l.length) := by rw [len_put]; exact e.setM _
    refine (wend_any lo g ⟨o, p, q, v, x, y, s⟩ W D J S 1 _ _ (put l (ow W D J S q 2) 0) _ e2 ((HKK.out.rx (HKK.out.ne_wt e) HLO.out).set rfl _)).mono ?_
    rintro _ w5 ⟨A', c', rfl, hb5, ha5, hbe5⟩
    go_wp2
    refine bodyPost_ret (by simp [results, Tryz.results116, go_sem]; try rfl) rfl ?_
    exact ⟨A', c', rfl, hb5, ha5, ((ZC.out.mono (Nat.le_of_lt hg)).setCell (Nat.le_refl _) _).trans hbe5⟩
end Go.Proofs.YtlpkccpijloidaaGreat
