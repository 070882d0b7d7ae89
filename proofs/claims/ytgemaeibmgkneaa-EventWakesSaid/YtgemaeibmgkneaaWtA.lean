/- Waiting, at hand, in a box: its call, its layout, its cells; and the contracts of its small methods. -/
import Derived.Test.YtgemaeibmgkneaaPuA2
import Derived.Test.YtgemaeibmgkneaaPuG
import Derived.Test.YtgemaeibmgkneaaNxA
import Derived.Test.YtgemaeibmgkneaaWtM
import Derived.IntWalk
import Derived.Deep.RegionHeld3
namespace Go.Proofs.Ytgemaeibmgkneaa
open Go.RowKit Go.Deep
/-- One who waits lies in block g: its call, the layout, and its cells. -/
def Bw (w : World) (g : Nat) (f : Fr) (W D J S : Int) (v : Value) : Prop := w.heap[g]? = some (.cells #[.int .i64 f.op, .int .i64 f.pc, .int .i64 f.who, .int .u64 f.val, .int .u64 f.x, .int .u64 f.y, .int .i64 f.res, .int .i64 W, .int .i64 D, .int .i64 J, .int .i64 S, v] 69 (0, 0))
set_option maxRecDepth 100000 in
theorem Bw.lt {w : World} {g : Nat} {f : Fr} {W D J S : Int} {v : Value} (h : Bw w g f W D J S v) : g < w.heap.size := by
  rcases Nat.lt_or_ge g w.heap.size with hlt | hge
  · exact hlt
  · unfold Bw at h; rw [Array.getElem?_eq_none hge] at h; cases h
set_option maxRecDepth 100000 in
theorem Bw.below {w w' : World} {g B : Nat} {f : Fr} {W D J S : Int} {v : Value} (h : Bw w g f W D J S v) (hb : Below B w w') (hg : g < B) : Bw w' g f W D J S v := (hb.block g hg).trans h
set_option maxRecDepth 100000 in
theorem Bw.after {w w' : World} {g : Nat} {f : Fr} {W D J S : Int} {v : Value} (h : Bw w g f W D J S v) (hb : Below w.heap.size w w') : Bw w' g f W D J S v := h.below hb h.lt
set_option maxRecDepth 100000 in
theorem Bw.drew {w : World} {g : Nat} {f : Fr} {W D J S : Int} {v : Value} (h : Bw w g f W D J S v) : Bw w.drew g f W D J S v := h
set_option maxRecDepth 100000 in
theorem Bw.cells {w : World} {g : Nat} {f : Fr} {W D J S : Int} {v : Value} (h : Bw w g f W D J S v) : w.cell? ⟨g, 0, none⟩ = some (.int .i64 f.op) ∧ w.cell? ⟨g, 1, none⟩ = some (.int .i64 f.pc) ∧ w.cell? ⟨g, 2, none⟩ = some (.int .i64 f.who) ∧ w.cell? ⟨g, 3, none⟩ = some (.int .u64 f.val)
    ∧ w.cell? ⟨g, 4, none⟩ = some (.int .u64 f.x) ∧ w.cell? ⟨g, 5, none⟩ = some (.int .u64 f.y) ∧ w.cell? ⟨g, 6, none⟩ = some (.int .i64 f.res)
    ∧ w.cell? ⟨g, 7, none⟩ = some (.int .i64 W) ∧ w.cell? ⟨g, 8, none⟩ = some (.int .i64 D) ∧ w.cell? ⟨g, 9, none⟩ = some (.int .i64 J) ∧ w.cell? ⟨g, 10, none⟩ = some (.int .i64 S) ∧ w.cell? ⟨g, 11, none⟩ = some v := by
  unfold Bw at h
  refine ⟨?_, ?_, ?_, ?_, ?_, ?_, ?_, ?_, ?_, ?_, ?_, ?_⟩ <;> (rw [cell_of_row w g _ _ _ _ h]; rfl)
set_option maxRecDepth 100000 in
theorem Bw.free {w : World} {g : Nat} {f : Fr} {W D J S : Int} {v : Value} (h : Bw w g f W D J S v) (i : Nat) : w.frozen? ⟨g, i, none⟩ = false := by
  unfold Bw at h
  simp [World.frozen?, h]
set_option maxRecDepth 100000 in
theorem Bw.setPc {w : World} {g : Nat} {f : Fr} {W D J S : Int} {v : Value} (h : Bw w g f W D J S v) (z : Int) : Bw (w.setCell ⟨g, 1, none⟩ (.int .i64 z)) g { f with pc := z } W D J S v := by
  unfold Bw at h ⊢
  simp [World.setCell, Array.getElem?_modify, h]
set_option maxRecDepth 100000 in
theorem Bw.setX {w : World} {g : Nat} {f : Fr} {W D J S : Int} {v : Value} (h : Bw w g f W D J S v) (z : Int) : Bw (w.setCell ⟨g, 4, none⟩ (.int .u64 z)) g { f with x := z } W D J S v := by
  unfold Bw at h ⊢
  simp [World.setCell, Array.getElem?_modify, h]
set_option maxRecDepth 100000 in
theorem Bw.setY {w : World} {g : Nat} {f : Fr} {W D J S : Int} {v : Value} (h : Bw w g f W D J S v) (z : Int) : Bw (w.setCell ⟨g, 5, none⟩ (.int .u64 z)) g { f with y := z } W D J S v := by
  unfold Bw at h ⊢
  simp [World.setCell, Array.getElem?_modify, h]
set_option maxRecDepth 100000 in
theorem Bw.setM {w : World} {g : Nat} {f : Fr} {W D J S : Int} {v : Value} (h : Bw w g f W D J S v) (z : Value) : Bw (w.setCell ⟨g, 11, none⟩ z) g f W D J S z := by
  unfold Bw at h ⊢
  simp [World.setCell, Array.getElem?_modify, h]
set_option maxRecDepth 100000 in
theorem Bw.pf {w : World} {g : Nat} {f : Fr} {W D J S : Int} {v : Value} (h : Bw w g f W D J S v) (f' : Fr) : Bw (pf w g f') g f' W D J S v := by
  unfold Bw at h ⊢
  unfold Ytgemaeibmgkneaa.pf
  simp [World.setCell, Array.getElem?_modify, h]
set_option maxRecDepth 100000 in
theorem Bk.ne_wt {g k : Nat} {w : World} {l : List Int} {f : Fr} {W D J S : Int} {v : Value} (h : Bk w k l) (hb : Bw w g f W D J S v) : k ≠ g := by
  rintro rfl
  unfold Bk at h
  unfold Bw at hb
  rw [h] at hb
  injection hb with hb
  injection hb with _ hb _
  cases hb
/-- What a step leaves: the box with the call, and cells; nothing below it has changed. -/
def Lw (lo : Nat) (w : World) (g : Nat) (f : Fr) (W D J S : Int) (l : List Int) (e : Ending) (w' : World) : Prop :=
  ∃ A c, e = .returned (.tuple #[]) ∧ Bw w' g f W D J S (.slice A l.length c) ∧ Rx lo g w' A l ∧ Below g w w'
set_option maxRecDepth 100000 in
theorem Bw.pp {w : World} {g : Nat} {f : Fr} {W D J S : Int} {v : Value} (h : Bw w g f W D J S v) (f' : Fr) (W' D' J' S' : Int) (v' : Value) : Bw (pp w g f' W' D' J' S' v') g f' W' D' J' S' v' := by
  have h2 := h.pf f'
  unfold Ytgemaeibmgkneaa.pp
  generalize Ytgemaeibmgkneaa.pf w g f' = w1 at h2
  unfold Bw at h2 ⊢
  simp [World.setCell, Array.getElem?_modify, h2]
set_option maxRecDepth 100000 in
theorem Bw.new (w : World) : Bw (w.alloc (.cells #[.int .i64 0, .int .i64 0, .int .i64 0, .int .u64 0, .int .u64 0, .int .u64 0, .int .i64 0, .int .i64 0, .int .i64 0, .int .i64 0, .int .i64 0, .slice none 0 0] 69)) w.heap.size f0 0 0 0 0 (.slice none 0 0) := heap_alloc_new _ _
set_option maxRecDepth 100000 in
theorem Lw.of {lo : Nat} {w : World} {g : Nat} {f f' : Fr} {W D J S : Int} {l l' : List Int} {P : Program} {F : FuncId} {args : Array Value} (h : Calls P F args w (Lw lo w g f W D J S l)) (e1 : f = f') (e2 : l = l') : Calls P F args w (Lw lo w g f' W D J S l') := by
  rw [← e1, ← e2]; exact h
set_option maxHeartbeats 4000000 in
set_option maxRecDepth 100000 in
theorem wend_any (lo g : Nat) (f : Fr) (W D J S : Int) (r : Int) (A : Option Addr) (c : Nat) (l : List Int) (w : World) (hB : Bw w g f W D J S (.slice A l.length c)) (hA : Rx lo g w A l) :
    Calls Try.prog 74 #[.pointer (some ⟨g, 0, none⟩), .int .i64 r] w (Lw lo w g (ed f r 0) W D J S l) := by
  have HB := Lib.hid hB
  have HA := Lib.hid hA
  clear hB hA
  obtain ⟨o, p, q, v, x, y, s⟩ := f
  have e := HB.out
  obtain ⟨a0, a1, a2, a3, a4, a5, a6, a7, a8, a9, a10, a11⟩ := e.cells
  have fz := e.free
  have hg := e.lt
  clear e
  go_enter Try.func74, Try.ntmps74
  go_wp2_with fail
  refine (end_any ⟨o, p, q, v, x, y, s⟩ r 0 _).mono ?_
  rintro _ w2 ⟨rfl, hb⟩
  have Hb := Lib.hid hb
  have e := HB.out.after hb
  clear a0 a1 a2 a3 a4 a5 a6 a7 a8 a9 a10 a11 fz
  obtain ⟨a0, a1, a2, a3, a4, a5, a6, a7, a8, a9, a10, a11⟩ := e.cells
  have fz := e.free
  clear hb e
  go_wp2
  change bodyPost _ _ _ _ _ (pf w2 g (ed ⟨o, p, q, v, x, y, s⟩ r 0))
  refine bodyPost_ret (by simp [results, Try.results74, go_sem]; try rfl) rfl ?_
  exact ⟨A, c, rfl, (HB.out.after Hb.out).pf _, (HA.out.after Hb.out).pf _, below_pf (Hb.out.mono (Nat.le_of_lt hg)) (Nat.le_refl _) _⟩
set_option maxHeartbeats 4000000 in
set_option maxRecDepth 100000 in
theorem prepare_any (lo g : Nat) (f : Fr) (W D J S : Int) (A : Option Addr) (c : Nat) (l : List Int) (w : World) (hB : Bw w g f W D J S (.slice A l.length c)) (hA : Rx lo g w A l) (hs : l.length ≤ 500) :
    Calls Try.prog 57 #[.pointer (some ⟨g, 0, none⟩)] w (Lw lo w g { f with x := at0 l 2, pc := 1 } W D J S l) := by
  have HB := Lib.hid hB
  have HA := Lib.hid hA
  have HS := Lib.hid hs
  clear hB hA hs
  obtain ⟨o, p, q, v, x, y, s⟩ := f
  have e := HB.out
  obtain ⟨a0, a1, a2, a3, a4, a5, a6, a7, a8, a9, a10, a11⟩ := e.cells
  have fz := e.free
  have hg := e.lt
  clear e
  go_enter Try.func57, Try.ntmps57
  go_wp2_with fail
  refine (load_any A l.length c l 2 _ HA.out.rd rfl HS.out).mono ?_
  rintro _ w2 ⟨rfl, hb⟩
  have Z2 := Lib.hid hb
  have e := HB.out.after hb
  clear a0 a1 a2 a3 a4 a5 a6 a7 a8 a9 a10 a11 fz
  obtain ⟨a0, a1, a2, a3, a4, a5, a6, a7, a8, a9, a10, a11⟩ := e.cells
  have fz := e.free
  clear hb e
  go_wp2
  refine bodyPost_ret (by simp [results, Try.results57, go_sem]; try rfl) rfl ?_
  exact ⟨A, c, rfl, ((HB.out.after Z2.out).setX _).setPc _, ((HA.out.after Z2.out).set rfl _).set rfl _, ((Z2.out.mono (Nat.le_of_lt hg)).setCell (Nat.le_refl _) _).setCell (Nat.le_refl _) _⟩
set_option maxHeartbeats 4000000 in
set_option maxRecDepth 100000 in
theorem lookAnew_any (lo g : Nat) (f : Fr) (W D J S : Int) (Y : Int) (b : Bool) (F : Fr) (A : Option Addr) (c : Nat) (l : List Int) (w : World) (hB : Bw w g f W D J S (.slice A l.length c)) (hA : Rx lo g w A l) (hY : at0 l 2 = Y) (hb : (Y / 65536 != f.x / 65536) = b) (hF : F = if b then ed f 4 0 else { f with y := Y, pc := 2 }) (hs : l.length ≤ 500) :
    Calls Try.prog 58 #[.pointer (some ⟨g, 0, none⟩)] w (Lw lo w g F W D J S l) := by
  have HB := Lib.hid hB
  have HA := Lib.hid hA
  have HS := Lib.hid hs
  clear hB hA hs
  obtain ⟨o, p, q, v, x, y, s⟩ := f
  simp only at hb
  have HY := Lib.hid hY
  have HN := Lib.hid hb
  have HF := Lib.hid hF
  clear hY hb hF
  have e := HB.out
  obtain ⟨a0, a1, a2, a3, a4, a5, a6, a7, a8, a9, a10, a11⟩ := e.cells
  have fz := e.free
  have hg := e.lt
  clear e
  go_enter Try.func58, Try.ntmps58
  go_wp2_with fail
  refine (ret_of (load_any A l.length c l 2 _ HA.out.rd rfl HS.out) (v' := .int .u64 Y) (by rw [HY.out])).mono ?_
  rintro _ w2 ⟨rfl, hb⟩
  have Z2 := Lib.hid hb
  have e := HB.out.after hb
  clear a0 a1 a2 a3 a4 a5 a6 a7 a8 a9 a10 a11 fz
  obtain ⟨a0, a1, a2, a3, a4, a5, a6, a7, a8, a9, a10, a11⟩ := e.cells
  have fz := e.free
  clear hb e
  go_wp2_with fail
  have e : Bw (w2.setCell ⟨g, 5, none⟩ (.int .u64 Y)) g ⟨o, p, q, v, x, Y, s⟩ W D J S (.slice A l.length c) := (HB.out.after Z2.out).setY _
  have eA : Rx lo g (w2.setCell ⟨g, 5, none⟩ (.int .u64 Y)) A l := (HA.out.after Z2.out).set rfl _
  have eb : Below g w (w2.setCell ⟨g, 5, none⟩ (.int .u64 Y)) := (Z2.out.mono (Nat.le_of_lt hg)).setCell (Nat.le_refl _) _
  generalize w2.setCell ⟨g, 5, none⟩ (.int .u64 Y) = w4 at e eA eb ⊢
  clear Z2 HB HA HS HY a0 a1 a2 a3 a4 a5 a6 a7 a8 a9 a10 a11 fz hg
  have E := Lib.hid e
  have EA := Lib.hid eA
  have EB := Lib.hid eb
  clear e eA eb
  obtain ⟨c0, c1, c2, c3, c4, c5, c6, c7, c8, c9, c10, c11⟩ := E.out.cells
  have fz := E.out.free
  have HK := Lib.hid (show ∀ x', Below w4.heap.size w4 x' → (fun w' => w'.cell? ⟨g, 4, none⟩ = some (.int .u64 x) ∧ w'.cell? ⟨g, 5, none⟩ = some (.int .u64 Y) ∧ Below w4.heap.size w4 w') x' from fun x' hx =>
    ⟨(hx.cell (p := ⟨g, 4, none⟩) E.out.lt).trans c4, (hx.cell (p := ⟨g, 5, none⟩) E.out.lt).trans c5, hx⟩)
  have hHeld0 := HK.out _ (Below.refl _ _)
  have hn0 : w4.heap.size ≤ w4.heap.size := Nat.le_refl _
  have hne := HN.out
  have ZC := Lib.hid (Below.refl w4.heap.size w4).drew
  go_region_held3 (fun w' => w'.cell? ⟨g, 4, none⟩ = some (.int .u64 x) ∧ w'.cell? ⟨g, 5, none⟩ = some (.int .u64 Y) ∧ Below w4.heap.size w4 w')
    (first | with_reducible exact hd_drew HK.out (fun _ h => h.2.2) (by assumption) | with_reducible exact hd_call HK.out (fun _ h => h.2.2) (by assumption) (by assumption) hn0)
    (first
    | (go_at_call 73; (refine (epoch_any _ _).tells.mono ?_); rintro _ w5 ⟨rfl, hb⟩; replace ZC := Lib.hid (keep_call (w2 := w4) hb ZC.out); have e := E.out.after ZC.out; obtain ⟨b0, b1, b2, b3, b4, b5, b6, b7, b8, b9, b10, b11⟩ := e.cells; have fz := e.free; clear e))
  all_goals
    cases b
    · obtain rfl : F = ⟨o, 2, q, v, x, Y, s⟩ := HF.out
      go_wp2
      refine bodyPost_ret (by simp [results, Try.results58, go_sem]; try rfl) rfl ?_
      exact ⟨A, c, rfl, (E.out.after ZC.out).setPc _, (EA.out.after ZC.out).set rfl _, (EB.out.trans (ZC.out.mono (Nat.le_of_lt E.out.lt))).setCell (Nat.le_refl _) _⟩
    · obtain rfl : F = ed ⟨o, p, q, v, x, Y, s⟩ 4 0 := HF.out
      go_wp2_with fail
      refine (wend_any lo g ⟨o, p, q, v, x, Y, s⟩ W D J S 4 A c l _ (E.out.after ZC.out) (EA.out.after ZC.out)).mono ?_
      rintro _ w6 ⟨A', c', rfl, hb6, ha6, hbe⟩
      go_wp2
      refine bodyPost_ret (by simp [results, Try.results58, go_sem]; try rfl) rfl ?_
      exact ⟨A', c', rfl, hb6, ha6, (EB.out.trans (ZC.out.mono (Nat.le_of_lt E.out.lt))).trans hbe⟩
end Go.Proofs.Ytgemaeibmgkneaa
