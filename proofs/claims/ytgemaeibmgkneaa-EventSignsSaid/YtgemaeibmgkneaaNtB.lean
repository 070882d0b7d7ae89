/- A wake, at hand, in a box: its layout, its cells, its call; and the contracts of its small methods. -/
import Derived.Test.YtgemaeibmgkneaaNtA
import Derived.Test.YtgemaeibmgkneaaPuA2
import Derived.Test.YtgemaeibmgkneaaPuE
import Derived.Test.YtgemaeibmgkneaaPuG
import Derived.Test.YtgemaeibmgkneaaNxA
import Derived.IntWalk
import Derived.BigQuiet
import Derived.Deep.RegionHeld3
namespace Go.Proofs.Ytgemaeibmgkneaa
open Go.RowKit Go.Deep
/-- A wake lies in block g: the layout, its cells, its call. -/
def Bo (w : World) (g : Nat) (W D J S : Int) (v : Value) (f : Fr) : Prop := w.heap[g]? = some (.cells #[.int .i64 W, .int .i64 D, .int .i64 J, .int .i64 S, v, .int .i64 f.op, .int .i64 f.pc, .int .i64 f.who, .int .u64 f.val, .int .u64 f.x, .int .u64 f.y, .int .i64 f.res] 66 (0, 0))
set_option maxRecDepth 100000 in
theorem Bo.lt {w : World} {g : Nat} {W D J S : Int} {v : Value} {f : Fr} (h : Bo w g W D J S v f) : g < w.heap.size := by
  rcases Nat.lt_or_ge g w.heap.size with hlt | hge
  · exact hlt
  · unfold Bo at h; rw [Array.getElem?_eq_none hge] at h; cases h
set_option maxRecDepth 100000 in
theorem Bo.below {w w' : World} {g B : Nat} {W D J S : Int} {v : Value} {f : Fr} (h : Bo w g W D J S v f) (hb : Below B w w') (hg : g < B) : Bo w' g W D J S v f := (hb.block g hg).trans h
set_option maxRecDepth 100000 in
theorem Bo.after {w w' : World} {g : Nat} {W D J S : Int} {v : Value} {f : Fr} (h : Bo w g W D J S v f) (hb : Below w.heap.size w w') : Bo w' g W D J S v f := h.below hb h.lt
set_option maxRecDepth 100000 in
theorem Bo.drew {w : World} {g : Nat} {W D J S : Int} {v : Value} {f : Fr} (h : Bo w g W D J S v f) : Bo w.drew g W D J S v f := h
set_option maxRecDepth 100000 in
theorem Bo.cells {w : World} {g : Nat} {W D J S : Int} {v : Value} {f : Fr} (h : Bo w g W D J S v f) : w.cell? ⟨g, 0, none⟩ = some (.int .i64 W) ∧ w.cell? ⟨g, 1, none⟩ = some (.int .i64 D) ∧ w.cell? ⟨g, 2, none⟩ = some (.int .i64 J) ∧ w.cell? ⟨g, 3, none⟩ = some (.int .i64 S) ∧ w.cell? ⟨g, 4, none⟩ = some v
    ∧ w.cell? ⟨g, 5, none⟩ = some (.int .i64 f.op) ∧ w.cell? ⟨g, 6, none⟩ = some (.int .i64 f.pc) ∧ w.cell? ⟨g, 7, none⟩ = some (.int .i64 f.who) ∧ w.cell? ⟨g, 8, none⟩ = some (.int .u64 f.val) ∧ w.cell? ⟨g, 9, none⟩ = some (.int .u64 f.x) ∧ w.cell? ⟨g, 10, none⟩ = some (.int .u64 f.y) ∧ w.cell? ⟨g, 11, none⟩ = some (.int .i64 f.res) := by
  unfold Bo at h
  refine ⟨?_, ?_, ?_, ?_, ?_, ?_, ?_, ?_, ?_, ?_, ?_, ?_⟩ <;> (rw [cell_of_row w g _ _ _ _ h]; rfl)
set_option maxRecDepth 100000 in
theorem Bo.free {w : World} {g : Nat} {W D J S : Int} {v : Value} {f : Fr} (h : Bo w g W D J S v f) (i : Nat) : w.frozen? ⟨g, i, none⟩ = false := by
  unfold Bo at h
  simp [World.frozen?, h]
set_option maxRecDepth 100000 in
theorem Bo.setPc {w : World} {g : Nat} {W D J S : Int} {v : Value} {f : Fr} (h : Bo w g W D J S v f) (z : Int) : Bo (w.setCell ⟨g, 6, none⟩ (.int .i64 z)) g W D J S v { f with pc := z } := by
  unfold Bo at h ⊢
  simp [World.setCell, Array.getElem?_modify, h]
set_option maxRecDepth 100000 in
theorem Bo.setX {w : World} {g : Nat} {W D J S : Int} {v : Value} {f : Fr} (h : Bo w g W D J S v f) (z : Int) : Bo (w.setCell ⟨g, 9, none⟩ (.int .u64 z)) g W D J S v { f with x := z } := by
  unfold Bo at h ⊢
  simp [World.setCell, Array.getElem?_modify, h]
set_option maxRecDepth 100000 in
theorem Bo.setY {w : World} {g : Nat} {W D J S : Int} {v : Value} {f : Fr} (h : Bo w g W D J S v f) (z : Int) : Bo (w.setCell ⟨g, 10, none⟩ (.int .u64 z)) g W D J S v { f with y := z } := by
  unfold Bo at h ⊢
  simp [World.setCell, Array.getElem?_modify, h]
set_option maxRecDepth 100000 in
theorem Bo.setVal {w : World} {g : Nat} {W D J S : Int} {v : Value} {f : Fr} (h : Bo w g W D J S v f) (z : Int) : Bo (w.setCell ⟨g, 8, none⟩ (.int .u64 z)) g W D J S v { f with val := z } := by
  unfold Bo at h ⊢
  simp [World.setCell, Array.getElem?_modify, h]
set_option maxRecDepth 100000 in
theorem Bo.setM {w : World} {g : Nat} {W D J S : Int} {v : Value} {f : Fr} (h : Bo w g W D J S v f) (z : Value) : Bo (w.setCell ⟨g, 4, none⟩ z) g W D J S z f := by
  unfold Bo at h ⊢
  simp [World.setCell, Array.getElem?_modify, h]
/-- A call, laid into such a box. -/
def po (w : World) (g : Nat) (f : Fr) : World := (((((((w.setCell ⟨g, 5, none⟩ (.int .i64 f.op)).setCell ⟨g, 6, none⟩ (.int .i64 f.pc)).setCell ⟨g, 7, none⟩ (.int .i64 f.who)).setCell ⟨g, 8, none⟩ (.int .u64 f.val)).setCell ⟨g, 9, none⟩ (.int .u64 f.x)).setCell ⟨g, 10, none⟩ (.int .u64 f.y)).setCell ⟨g, 11, none⟩ (.int .i64 f.res))
/-- All of a wake, laid into block g. -/
def ppo (w : World) (g : Nat) (W D J S : Int) (v : Value) (f : Fr) : World := ((((((((((((w.setCell ⟨g, 0, none⟩ (.int .i64 W)).setCell ⟨g, 1, none⟩ (.int .i64 D)).setCell ⟨g, 2, none⟩ (.int .i64 J)).setCell ⟨g, 3, none⟩ (.int .i64 S)).setCell ⟨g, 4, none⟩ (v)).setCell ⟨g, 5, none⟩ (.int .i64 f.op)).setCell ⟨g, 6, none⟩ (.int .i64 f.pc)).setCell ⟨g, 7, none⟩ (.int .i64 f.who)).setCell ⟨g, 8, none⟩ (.int .u64 f.val)).setCell ⟨g, 9, none⟩ (.int .u64 f.x)).setCell ⟨g, 10, none⟩ (.int .u64 f.y)).setCell ⟨g, 11, none⟩ (.int .i64 f.res))
set_option maxRecDepth 100000 in
theorem Bo.po {w : World} {g : Nat} {W D J S : Int} {v : Value} {f : Fr} (h : Bo w g W D J S v f) (f' : Fr) : Bo (po w g f') g W D J S v f' := by
  unfold Bo at h ⊢
  unfold Ytgemaeibmgkneaa.po
  simp [World.setCell, Array.getElem?_modify, h]
set_option maxRecDepth 100000 in
theorem Bo.ppo {w : World} {g : Nat} {W D J S : Int} {v : Value} {f : Fr} (h : Bo w g W D J S v f) (W' D' J' S' : Int) (v' : Value) (f' : Fr) : Bo (ppo w g W' D' J' S' v' f') g W' D' J' S' v' f' := by
  unfold Bo at h ⊢
  unfold Ytgemaeibmgkneaa.ppo
  simp [World.setCell, Array.getElem?_modify, h]
set_option maxRecDepth 100000 in
theorem below_po {n : Nat} {w w' : World} (h : Below n w w') {g : Nat} (k : n ≤ g) (f : Fr) : Below n w (po w' g f) :=
  ((((((h.setCell k _).setCell k _).setCell k _).setCell k _).setCell k _).setCell k _).setCell k _
set_option maxRecDepth 100000 in
theorem below_ppo {n : Nat} {w w' : World} (h : Below n w w') {g : Nat} (k : n ≤ g) (W D J S : Int) (v : Value) (f : Fr) : Below n w (ppo w' g W D J S v f) :=
  (((((((((((h.setCell k _).setCell k _).setCell k _).setCell k _).setCell k _).setCell k _).setCell k _).setCell k _).setCell k _).setCell k _).setCell k _).setCell k _
set_option maxRecDepth 100000 in
theorem Rx.po {lo g : Nat} {w : World} {A : Option Addr} {l : List Int} (h : Rx lo g w A l) (f : Fr) : Rx lo g (po w g f) A l :=
  ((((((h.set rfl _).set rfl _).set rfl _).set rfl _).set rfl _).set rfl _).set rfl _
set_option maxRecDepth 100000 in
theorem Rx.ppo {lo g : Nat} {w : World} {A : Option Addr} {l : List Int} (h : Rx lo g w A l) (W D J S : Int) (v : Value) (f : Fr) : Rx lo g (ppo w g W D J S v f) A l :=
  (((((((((((h.set rfl _).set rfl _).set rfl _).set rfl _).set rfl _).set rfl _).set rfl _).set rfl _).set rfl _).set rfl _).set rfl _).set rfl _
set_option maxRecDepth 100000 in
theorem Bo.new (w : World) : Bo (w.alloc (.cells #[.int .i64 0, .int .i64 0, .int .i64 0, .int .i64 0, .slice none 0 0, .int .i64 0, .int .i64 0, .int .i64 0, .int .u64 0, .int .u64 0, .int .u64 0, .int .i64 0] 66)) w.heap.size 0 0 0 0 (.slice none 0 0) f0 := heap_alloc_new _ _
set_option maxRecDepth 100000 in
theorem Bk.ne_o {k : Nat} {l : List Int} {w : World} {g : Nat} {W D J S : Int} {v : Value} {f : Fr} (h : Bk w k l) (hb : Bo w g W D J S v f) : k ≠ g := by
  rintro rfl
  unfold Bk at h
  unfold Bo at hb
  rw [h] at hb
  injection hb with hb
  injection hb with _ hb _
  cases hb
/-- What a step leaves: the box with the call, and cells; nothing below it has changed. -/
def Lo (lo : Nat) (w : World) (g : Nat) (f : Fr) (W D J S : Int) (l : List Int) (e : Ending) (w' : World) : Prop :=
  ∃ A c, e = .returned (.tuple #[]) ∧ Bo w' g W D J S (.slice A l.length c) f ∧ Rx lo g w' A l ∧ Below g w w'
set_option maxRecDepth 100000 in
theorem Lo.of {lo : Nat} {w : World} {g : Nat} {f f' : Fr} {W D J S : Int} {l l' : List Int} {P : Program} {F : FuncId} {args : Array Value} (h : Calls P F args w (Lo lo w g f W D J S l)) (e1 : f = f') (e2 : l = l') : Calls P F args w (Lo lo w g f' W D J S l') := by
  rw [← e1, ← e2]; exact h
set_option maxHeartbeats 4000000 in
set_option maxRecDepth 100000 in
theorem nend_any (lo g : Nat) (f : Fr) (W D J S : Int) (r u : Int) (A : Option Addr) (c : Nat) (l : List Int) (w : World) (hB : Bo w g W D J S (.slice A l.length c) f) (hA : Rx lo g w A l) :
    Calls Try.prog 70 #[.pointer (some ⟨g, 0, none⟩), .int .i64 r, .int .u64 u] w (Lo lo w g (ed f r u) W D J S l) := by
  have HB := Lib.hid hB
  have HA := Lib.hid hA
  clear hB hA
  obtain ⟨o, p, q, v, x, y, s⟩ := f
  have e := HB.out
  obtain ⟨a0, a1, a2, a3, a4, a5, a6, a7, a8, a9, a10, a11⟩ := e.cells
  have fz := e.free
  have hg := e.lt
  clear e
  go_enter Try.func70, Try.ntmps70
  go_wp2_with fail
  refine (end_any ⟨o, p, q, v, x, y, s⟩ r u _).mono ?_
  rintro _ w2 ⟨rfl, hb⟩
  have Z2 := Lib.hid hb
  have e := HB.out.after hb
  clear a0 a1 a2 a3 a4 a5 a6 a7 a8 a9 a10 a11 fz
  obtain ⟨a0, a1, a2, a3, a4, a5, a6, a7, a8, a9, a10, a11⟩ := e.cells
  have fz := e.free
  clear hb e
  go_wp2
  change bodyPost _ _ _ _ _ (po w2 g (ed ⟨o, p, q, v, x, y, s⟩ r u))
  refine bodyPost_ret (by simp [results, Try.results70, go_sem]; try rfl) rfl ?_
  exact ⟨A, c, rfl, (HB.out.after Z2.out).po _, (HA.out.after Z2.out).po _, below_po (Z2.out.mono (Nat.le_of_lt hg)) (Nat.le_refl _) _⟩
set_option maxHeartbeats 4000000 in
set_option maxRecDepth 100000 in
theorem nload_any (lo g : Nat) (f : Fr) (W D J S : Int) (A : Option Addr) (c : Nat) (l : List Int) (w : World) (hB : Bo w g W D J S (.slice A l.length c) f) (hA : Rx lo g w A l) (hs : l.length ≤ 500) :
    Calls Try.prog 52 #[.pointer (some ⟨g, 0, none⟩)] w (Lo lo w g { f with x := at0 l 2, pc := 1 } W D J S l) := by
  have HB := Lib.hid hB
  have HA := Lib.hid hA
  have HS := Lib.hid hs
  clear hB hA hs
  obtain ⟨o, p, q, v, x, y, s⟩ := f
  have e := HB.out
  obtain ⟨a0, a1, a2, a3, a4, a5, a6, a7, a8, a9, a10, a11⟩ := e.cells
  have fz := e.free
  have hg := e.lt
  clear e
  go_enter Try.func52, Try.ntmps52
  go_wp2_with fail
  refine (load_any A l.length c l 2 _ HA.out.rd rfl HS.out).mono ?_
  rintro _ w2 ⟨rfl, hb⟩
  have Z2 := Lib.hid hb
  have e := HB.out.after hb
  clear a0 a1 a2 a3 a4 a5 a6 a7 a8 a9 a10 a11 fz
  obtain ⟨a0, a1, a2, a3, a4, a5, a6, a7, a8, a9, a10, a11⟩ := e.cells
  have fz := e.free
  clear hb e
  go_wp2
  refine bodyPost_ret (by simp [results, Try.results52, go_sem]; try rfl) rfl ?_
  exact ⟨A, c, rfl, ((HB.out.after Z2.out).setX _).setPc _, ((HA.out.after Z2.out).set rfl _).set rfl _, ((Z2.out.mono (Nat.le_of_lt hg)).setCell (Nat.le_refl _) _).setCell (Nat.le_refl _) _⟩
set_option maxHeartbeats 4000000 in
set_option maxRecDepth 100000 in
theorem nunpark_any (lo g : Nat) (f : Fr) (W D J S : Int) (r : Int) (A : Option Addr) (c : Nat) (l : List Int) (w : World) (hB : Bo w g W D J S (.slice A l.length c) f) (hA : Rx lo g w A l) (hlo : lo ≤ w.heap.size) (hs : l.length ≤ 500) :
    Calls Try.prog 71 #[.pointer (some ⟨g, 0, none⟩), .int .i64 r] w (Lo lo w g f W D J S (put l (ow W D J S r 2) 1)) := by
  have HB := Lib.hid hB
  have HA := Lib.hid hA
  have HS := Lib.hid hs
  clear hB hA hs
  obtain ⟨o, p, q, v, x, y, s⟩ := f
  have e := HB.out
  obtain ⟨a0, a1, a2, a3, a4, a5, a6, a7, a8, a9, a10, a11⟩ := e.cells
  have fz := e.free
  have hg := e.lt
  have ZC := Lib.hid (Below.refl w.heap.size w).drew
  have HK := Lib.hid (show ∀ x', Kx g 4 w x' → (fun w' => w'.cell? ⟨g, 0, none⟩ = some (.int .i64 W) ∧ w'.cell? ⟨g, 1, none⟩ = some (.int .i64 D) ∧ w'.cell? ⟨g, 2, none⟩ = some (.int .i64 J) ∧ w'.cell? ⟨g, 3, none⟩ = some (.int .i64 S) ∧ Kx g 4 w w') x' from fun x' hx =>
    ⟨(hx.cells 0 (by decide)).trans a0, (hx.cells 1 (by decide)).trans a1, (hx.cells 2 (by decide)).trans a2, (hx.cells 3 (by decide)).trans a3, hx⟩)
  have hHeld0 := HK.out _ (Kx.refl g 4 w)
  clear e
  go_enter Try.func71, Try.ntmps71
  go_wp2_with fail
  refine wp_region_held_drew (S := fun w' => w'.cell? ⟨g, 0, none⟩ = some (.int .i64 W) ∧ w'.cell? ⟨g, 1, none⟩ = some (.int .i64 D) ∧ w'.cell? ⟨g, 2, none⟩ = some (.int .i64 J) ∧ w'.cell? ⟨g, 3, none⟩ = some (.int .i64 S) ∧ Kx g 4 w w') (by kernel_rfl) (kx_drew HK.out (fun _ h => h.2.2.2.2) hHeld0) (fun hHeld => ?_)
  refine wpAnyH_take (i := 0) (oi := { dst := some 4, op := Go.Op.move (Go.Operand.tmp 0), type := 92, pos := "note.go:142", after := #[], guard := none }) (v := ?vv1) rfl (by kernel_rfl) (by kernel_rfl) (by kernel_rfl) (fun _ _ _ h => h) (Or.inl ⟨by rfl, ?yv1⟩) (by assumption) ?rv1
  case yv1 => (intro w hSw; (try dsimp only at hSw); go_simp; (try with_reducible rfl))
  (try simp only [Act.put, List.setIfInBounds_toArray, List.set_cons_zero, List.set_cons_succ])
  refine wpAnyH_take (i := 1) (oi := { dst := some 5, op := Go.Op.move (Go.Operand.tmp 0), type := 92, pos := "note.go:142", after := #[], guard := none }) (v := ?vv2) rfl (by kernel_rfl) (by kernel_rfl) (by kernel_rfl) (fun _ _ _ h => h) (Or.inl ⟨by rfl, ?yv2⟩) (by assumption) ?rv2
  case yv2 => (intro w hSw; (try dsimp only at hSw); go_simp; (try with_reducible rfl))
  (try simp only [Act.put, List.setIfInBounds_toArray, List.set_cons_zero, List.set_cons_succ])
  refine wpAnyH_take (i := 2) (oi := { dst := some 6, op := Go.Op.nilCheck (Go.Operand.tmp 5), type := 0, pos := "note.go:142", after := #[{ on := 1, ground := Go.Ground.data }], guard := none }) (v := ?vv3) rfl (by kernel_rfl) (by kernel_rfl) (by kernel_rfl) (fun _ _ _ h => h) (Or.inl ⟨by rfl, ?yv3⟩) (by assumption) ?rv3
  case yv3 => (intro w hSw; (try dsimp only at hSw); go_simp; (try with_reducible rfl))
  (try simp only [Act.put, List.setIfInBounds_toArray, List.set_cons_zero, List.set_cons_succ])
  refine wpAnyH_take (i := 3) (oi := { dst := some 7, op := Go.Op.fieldAddr 66 (Go.Operand.tmp 6) 1, type := 0, pos := "note.go:142", after := #[{ on := 2, ground := Go.Ground.data }], guard := none }) (v := ?vv4) rfl (by kernel_rfl) (by kernel_rfl) (by kernel_rfl) (fun _ _ _ h => h) (Or.inl ⟨by rfl, ?yv4⟩) (by assumption) ?rv4
  case yv4 => (intro w hSw; (try dsimp only at hSw); go_simp; (try with_reducible rfl))
  (try simp only [Act.put, List.setIfInBounds_toArray, List.set_cons_zero, List.set_cons_succ])
  refine wpAnyH_take (i := 5) (oi := { dst := some 9, op := Go.Op.move (Go.Operand.tmp 0), type := 92, pos := "note.go:142", after := #[], guard := none }) (v := ?vv5) rfl (by kernel_rfl) (by kernel_rfl) (by kernel_rfl) (fun _ _ _ h => h) (Or.inl ⟨by rfl, ?yv5⟩) (by assumption) ?rv5
  case yv5 => (intro w hSw; (try dsimp only at hSw); go_simp; (try with_reducible rfl))
  (try simp only [Act.put, List.setIfInBounds_toArray, List.set_cons_zero, List.set_cons_succ])
  refine wpAnyH_take (i := 6) (oi := { dst := some 10, op := Go.Op.nilCheck (Go.Operand.tmp 9), type := 0, pos := "note.go:142", after := #[{ on := 5, ground := Go.Ground.data }], guard := none }) (v := ?vv6) rfl (by kernel_rfl) (by kernel_rfl) (by kernel_rfl) (fun _ _ _ h => h) (Or.inl ⟨by rfl, ?yv6⟩) (by assumption) ?rv6
  case yv6 => (intro w hSw; (try dsimp only at hSw); go_simp; (try with_reducible rfl))
  (try simp only [Act.put, List.setIfInBounds_toArray, List.set_cons_zero, List.set_cons_succ])
  refine wpAnyH_take (i := 7) (oi := { dst := some 11, op := Go.Op.fieldAddr 66 (Go.Operand.tmp 10) 0, type := 0, pos := "note.go:142", after := #[{ on := 6, ground := Go.Ground.data }], guard := none }) (v := ?vv7) rfl (by kernel_rfl) (by kernel_rfl) (by kernel_rfl) (fun _ _ _ h => h) (Or.inl ⟨by rfl, ?yv7⟩) (by assumption) ?rv7
  case yv7 => (intro w hSw; (try dsimp only at hSw); go_simp; (try with_reducible rfl))
  (try simp only [Act.put, List.setIfInBounds_toArray, List.set_cons_zero, List.set_cons_succ])
  refine wpAnyH_take (i := 8) (oi := { dst := some 12, op := Go.Op.load 36 (Go.Operand.tmp 11), type := 36, pos := "note.go:142", after := #[{ on := 7, ground := Go.Ground.data }], guard := none }) (v := ?vv8) rfl (by kernel_rfl) (by kernel_rfl) (by kernel_rfl) (fun _ _ _ h => h) (Or.inl ⟨by rfl, ?yv8⟩) (by assumption) ?rv8
  case yv8 => (intro w hSw; (try dsimp only at hSw); go_simp; (try with_reducible rfl))
  (try simp only [Act.put, List.setIfInBounds_toArray, List.set_cons_zero, List.set_cons_succ])
  refine wpAnyH_take (i := 9) (oi := { dst := some 13, op := Go.Op.move (Go.Operand.tmp 1), type := 3, pos := "note.go:142", after := #[], guard := none }) (v := ?vv9) rfl (by kernel_rfl) (by kernel_rfl) (by kernel_rfl) (fun _ _ _ h => h) (Or.inl ⟨by rfl, ?yv9⟩) (by assumption) ?rv9
  case yv9 => (intro w hSw; (try dsimp only at hSw); go_simp; (try with_reducible rfl))
  (try simp only [Act.put, List.setIfInBounds_toArray, List.set_cons_zero, List.set_cons_succ])
  refine wpAnyH_ready (rs := [4, 10]) (by kernel_rfl) (by simp) ?_
  refine (AllReadyH.cons (o := { dst := some 8, op := Go.Op.load 27 (Go.Operand.tmp 7), type := 27, pos := "note.go:142", after := #[{ on := 3, ground := Go.Ground.data }], guard := none }) rfl (fun K hK => ?_) (AllReadyH.cons (o := { dst := some 14, op := Go.Op.call { callee := Go.Callee.value (Go.Operand.func 14), args := #[Go.Operand.tmp 12, Go.Operand.tmp 13], argTypes := #[36, 3] }, type := 3, pos := "note.go:142", after := #[{ on := 8, ground := Go.Ground.data }, { on := 9, ground := Go.Ground.data }], guard := none }) rfl (fun K hK => ?_) AllReadyH.nil))
  · go_simp
    refine hK.out _ _ (hHeld) (fun hHeld2 => ?_)
    clear hK K hHeld
    have hHeld := hHeld2
    clear hHeld2
    (try simp only [Act.put, List.setIfInBounds_toArray, List.set_cons_zero, List.set_cons_succ])
    refine wpAnyH_ready (rs := [10]) (by kernel_rfl) (by simp) ?_
    refine (AllReadyH.cons (o := { dst := some 14, op := Go.Op.call { callee := Go.Callee.value (Go.Operand.func 14), args := #[Go.Operand.tmp 12, Go.Operand.tmp 13], argTypes := #[36, 3] }, type := 3, pos := "note.go:142", after := #[{ on := 8, ground := Go.Ground.data }, { on := 9, ground := Go.Ground.data }], guard := none }) rfl (fun K hK => ?_) AllReadyH.nil)
    go_simp
    refine (park_any W D J S r _).mono ?_
    rintro e w1 ⟨rfl, hb⟩
    go_wp2_with fail
    replace ZC := Lib.hid (keep_call (w2 := w) hb ZC.out)
    have e := HB.out.after ZC.out; obtain ⟨b0, b1, b2, b3, b4, b5, b6, b7, b8, b9, b10, b11⟩ := e.cells; have fz := e.free; clear e
    refine hK.out _ _ (kx_call HK.out (fun _ h => h.2.2.2.2) hg hb hHeld) (fun hHeld2 => ?_)
    clear hK K hHeld
    have hHeld := hHeld2
    clear hHeld2
    (try simp only [Act.put, List.setIfInBounds_toArray, List.set_cons_zero, List.set_cons_succ])
    refine wpAnyH_ready (rs := [11]) (by kernel_rfl) (by simp) ?_
    refine (AllReadyH.cons (o := { dst := some 15, op := Go.Op.call { callee := Go.Callee.value (Go.Operand.func 75), args := #[Go.Operand.tmp 8, Go.Operand.tmp 14, Go.Operand.const (Go.Value.int Go.IntKind.u64 1)], argTypes := #[27, 3, 32] }, type := 27, pos := "note.go:142", after := #[{ on := 4, ground := Go.Ground.data }, { on := 10, ground := Go.Ground.data }, { on := 10, ground := Go.Ground.chain }], guard := none }) rfl (fun K hK => ?_) AllReadyH.nil)
    go_simp
    refine (store_new A l.length c l _ 1 _ (HA.out.after ZC.out).rd rfl HS.out).mono ?_
    rintro e w2 ⟨k, rfl, hk0, hk, hb⟩
    go_wp2_with fail
    have HLO := Lib.hid (Nat.le_trans hlo (Nat.le_trans ZC.out.size hk0))
    have HKK := Lib.hid hk
    replace ZC := Lib.hid (keep_call (w2 := w) hb ZC.out)
    have e := HB.out.after ZC.out; obtain ⟨b0, b1, b2, b3, b4, b5, b6, b7, b8, b9, b10, b11⟩ := e.cells; have fz := e.free; clear e
    clear hk hk0
    refine hK.out _ _ (kx_call HK.out (fun _ h => h.2.2.2.2) hg hb hHeld) (fun hHeld2 => ?_)
    clear hK K hHeld
    have hHeld := hHeld2
    clear hHeld2
    (try simp only [Act.put, List.setIfInBounds_toArray, List.set_cons_zero, List.set_cons_succ])
    refine wpAnyH_take (i := 12) (oi := { dst := some 16, op := Go.Op.nilCheck (Go.Operand.tmp 4), type := 0, pos := "note.go:142", after := #[{ on := 0, ground := Go.Ground.data }, { on := 0, ground := Go.Ground.phase }, { on := 1, ground := Go.Ground.phase }, { on := 2, ground := Go.Ground.phase }, { on := 3, ground := Go.Ground.phase }, { on := 4, ground := Go.Ground.phase }, { on := 5, ground := Go.Ground.phase }, { on := 6, ground := Go.Ground.phase }, { on := 7, ground := Go.Ground.phase }, { on := 8, ground := Go.Ground.phase }, { on := 9, ground := Go.Ground.phase }, { on := 10, ground := Go.Ground.phase }, { on := 11, ground := Go.Ground.phase }], guard := none }) (v := ?vv10) rfl (by kernel_rfl) (by kernel_rfl) (by kernel_rfl) (fun _ _ _ h => h) (Or.inl ⟨by rfl, ?yv10⟩) (by assumption) ?rv10
    case yv10 => (intro w hSw; (try dsimp only at hSw); go_simp; (try with_reducible rfl))
    (try simp only [Act.put, List.setIfInBounds_toArray, List.set_cons_zero, List.set_cons_succ])
    refine wpAnyH_take (i := 13) (oi := { dst := some 17, op := Go.Op.fieldAddr 66 (Go.Operand.tmp 16) 1, type := 0, pos := "note.go:142", after := #[{ on := 12, ground := Go.Ground.data }, { on := 0, ground := Go.Ground.phase }, { on := 1, ground := Go.Ground.phase }, { on := 2, ground := Go.Ground.phase }, { on := 3, ground := Go.Ground.phase }, { on := 4, ground := Go.Ground.phase }, { on := 5, ground := Go.Ground.phase }, { on := 6, ground := Go.Ground.phase }, { on := 7, ground := Go.Ground.phase }, { on := 8, ground := Go.Ground.phase }, { on := 9, ground := Go.Ground.phase }, { on := 10, ground := Go.Ground.phase }, { on := 11, ground := Go.Ground.phase }], guard := none }) (v := ?vv11) rfl (by kernel_rfl) (by kernel_rfl) (by kernel_rfl) (fun _ _ _ h => h) (Or.inl ⟨by rfl, ?yv11⟩) (by assumption) ?rv11
    case yv11 => (intro w hSw; (try dsimp only at hSw); go_simp; (try with_reducible rfl))
    (try simp only [Act.put, List.setIfInBounds_toArray, List.set_cons_zero, List.set_cons_succ])
    refine wpAnyH_ready (rs := [14]) (by kernel_rfl) (by simp) ?_
    refine (AllReadyH.cons (o := { dst := none, op := Go.Op.store 27 (Go.Operand.tmp 17) (Go.Operand.tmp 15), type := 0, pos := "note.go:142", after := #[{ on := 13, ground := Go.Ground.data }, { on := 11, ground := Go.Ground.data }, { on := 11, ground := Go.Ground.chain }, { on := 0, ground := Go.Ground.phase }, { on := 1, ground := Go.Ground.phase }, { on := 2, ground := Go.Ground.phase }, { on := 3, ground := Go.Ground.phase }, { on := 4, ground := Go.Ground.phase }, { on := 5, ground := Go.Ground.phase }, { on := 6, ground := Go.Ground.phase }, { on := 7, ground := Go.Ground.phase }, { on := 8, ground := Go.Ground.phase }, { on := 9, ground := Go.Ground.phase }, { on := 10, ground := Go.Ground.phase }, { on := 11, ground := Go.Ground.phase }], guard := none }) rfl (fun K hK => ?_) AllReadyH.nil)
    go_simp
    refine hK.out _ _ (kx_set HK.out (fun _ h => h.2.2.2.2) _ hHeld) (fun hHeld2 => ?_)
    clear hK K hHeld
    have hHeld := hHeld2
    clear hHeld2
    (try simp only [Act.put, List.setIfInBounds_toArray, List.set_cons_zero, List.set_cons_succ])
    refine wpAnyH_done (by kernel_rfl) ?_ _
    clear hHeld
    go_wp2
    refine bodyPost_ret (by simp [results, Try.results71, go_sem]; try rfl) rfl ?_
    have e := HB.out.after ZC.out
    refine ⟨some ⟨k, 0, none⟩, l.length, rfl, ?_, (HKK.out.rx (HKK.out.ne_o e) HLO.out).set rfl _, (ZC.out.mono (Nat.le_of_lt hg)).setCell (Nat.le_refl _) _⟩
    rw [len_put]
    exact e.setM _
  · go_simp
    refine (park_any W D J S r _).mono ?_
    rintro e w1 ⟨rfl, hb⟩
    go_wp2_with fail
    replace ZC := Lib.hid (keep_call (w2 := w) hb ZC.out)
    have e := HB.out.after ZC.out; obtain ⟨b0, b1, b2, b3, b4, b5, b6, b7, b8, b9, b10, b11⟩ := e.cells; have fz := e.free; clear e
    refine hK.out _ _ (kx_call HK.out (fun _ h => h.2.2.2.2) hg hb hHeld) (fun hHeld2 => ?_)
    clear hK K hHeld
    have hHeld := hHeld2
    clear hHeld2
    (try simp only [Act.put, List.setIfInBounds_toArray, List.set_cons_zero, List.set_cons_succ])
    refine wpAnyH_ready (rs := [4]) (by kernel_rfl) (by simp) ?_
    refine (AllReadyH.cons (o := { dst := some 8, op := Go.Op.load 27 (Go.Operand.tmp 7), type := 27, pos := "note.go:142", after := #[{ on := 3, ground := Go.Ground.data }], guard := none }) rfl (fun K hK => ?_) AllReadyH.nil)
    go_simp
    refine hK.out _ _ (hHeld) (fun hHeld2 => ?_)
    clear hK K hHeld
    have hHeld := hHeld2
    clear hHeld2
    (try simp only [Act.put, List.setIfInBounds_toArray, List.set_cons_zero, List.set_cons_succ])
    refine wpAnyH_ready (rs := [11]) (by kernel_rfl) (by simp) ?_
    refine (AllReadyH.cons (o := { dst := some 15, op := Go.Op.call { callee := Go.Callee.value (Go.Operand.func 75), args := #[Go.Operand.tmp 8, Go.Operand.tmp 14, Go.Operand.const (Go.Value.int Go.IntKind.u64 1)], argTypes := #[27, 3, 32] }, type := 27, pos := "note.go:142", after := #[{ on := 4, ground := Go.Ground.data }, { on := 10, ground := Go.Ground.data }, { on := 10, ground := Go.Ground.chain }], guard := none }) rfl (fun K hK => ?_) AllReadyH.nil)
    go_simp
    refine (store_new A l.length c l _ 1 _ (HA.out.after ZC.out).rd rfl HS.out).mono ?_
    rintro e w2 ⟨k, rfl, hk0, hk, hb⟩
    go_wp2_with fail
    have HLO := Lib.hid (Nat.le_trans hlo (Nat.le_trans ZC.out.size hk0))
    have HKK := Lib.hid hk
    replace ZC := Lib.hid (keep_call (w2 := w) hb ZC.out)
    have e := HB.out.after ZC.out; obtain ⟨b0, b1, b2, b3, b4, b5, b6, b7, b8, b9, b10, b11⟩ := e.cells; have fz := e.free; clear e
    clear hk hk0
    refine hK.out _ _ (kx_call HK.out (fun _ h => h.2.2.2.2) hg hb hHeld) (fun hHeld2 => ?_)
    clear hK K hHeld
    have hHeld := hHeld2
    clear hHeld2
    (try simp only [Act.put, List.setIfInBounds_toArray, List.set_cons_zero, List.set_cons_succ])
    refine wpAnyH_take (i := 12) (oi := { dst := some 16, op := Go.Op.nilCheck (Go.Operand.tmp 4), type := 0, pos := "note.go:142", after := #[{ on := 0, ground := Go.Ground.data }, { on := 0, ground := Go.Ground.phase }, { on := 1, ground := Go.Ground.phase }, { on := 2, ground := Go.Ground.phase }, { on := 3, ground := Go.Ground.phase }, { on := 4, ground := Go.Ground.phase }, { on := 5, ground := Go.Ground.phase }, { on := 6, ground := Go.Ground.phase }, { on := 7, ground := Go.Ground.phase }, { on := 8, ground := Go.Ground.phase }, { on := 9, ground := Go.Ground.phase }, { on := 10, ground := Go.Ground.phase }, { on := 11, ground := Go.Ground.phase }], guard := none }) (v := ?vv12) rfl (by kernel_rfl) (by kernel_rfl) (by kernel_rfl) (fun _ _ _ h => h) (Or.inl ⟨by rfl, ?yv12⟩) (by assumption) ?rv12
    case yv12 => (intro w hSw; (try dsimp only at hSw); go_simp; (try with_reducible rfl))
    (try simp only [Act.put, List.setIfInBounds_toArray, List.set_cons_zero, List.set_cons_succ])
    refine wpAnyH_take (i := 13) (oi := { dst := some 17, op := Go.Op.fieldAddr 66 (Go.Operand.tmp 16) 1, type := 0, pos := "note.go:142", after := #[{ on := 12, ground := Go.Ground.data }, { on := 0, ground := Go.Ground.phase }, { on := 1, ground := Go.Ground.phase }, { on := 2, ground := Go.Ground.phase }, { on := 3, ground := Go.Ground.phase }, { on := 4, ground := Go.Ground.phase }, { on := 5, ground := Go.Ground.phase }, { on := 6, ground := Go.Ground.phase }, { on := 7, ground := Go.Ground.phase }, { on := 8, ground := Go.Ground.phase }, { on := 9, ground := Go.Ground.phase }, { on := 10, ground := Go.Ground.phase }, { on := 11, ground := Go.Ground.phase }], guard := none }) (v := ?vv13) rfl (by kernel_rfl) (by kernel_rfl) (by kernel_rfl) (fun _ _ _ h => h) (Or.inl ⟨by rfl, ?yv13⟩) (by assumption) ?rv13
    case yv13 => (intro w hSw; (try dsimp only at hSw); go_simp; (try with_reducible rfl))
    (try simp only [Act.put, List.setIfInBounds_toArray, List.set_cons_zero, List.set_cons_succ])
    refine wpAnyH_ready (rs := [14]) (by kernel_rfl) (by simp) ?_
    refine (AllReadyH.cons (o := { dst := none, op := Go.Op.store 27 (Go.Operand.tmp 17) (Go.Operand.tmp 15), type := 0, pos := "note.go:142", after := #[{ on := 13, ground := Go.Ground.data }, { on := 11, ground := Go.Ground.data }, { on := 11, ground := Go.Ground.chain }, { on := 0, ground := Go.Ground.phase }, { on := 1, ground := Go.Ground.phase }, { on := 2, ground := Go.Ground.phase }, { on := 3, ground := Go.Ground.phase }, { on := 4, ground := Go.Ground.phase }, { on := 5, ground := Go.Ground.phase }, { on := 6, ground := Go.Ground.phase }, { on := 7, ground := Go.Ground.phase }, { on := 8, ground := Go.Ground.phase }, { on := 9, ground := Go.Ground.phase }, { on := 10, ground := Go.Ground.phase }, { on := 11, ground := Go.Ground.phase }], guard := none }) rfl (fun K hK => ?_) AllReadyH.nil)
    go_simp
    refine hK.out _ _ (kx_set HK.out (fun _ h => h.2.2.2.2) _ hHeld) (fun hHeld2 => ?_)
    clear hK K hHeld
    have hHeld := hHeld2
    clear hHeld2
    (try simp only [Act.put, List.setIfInBounds_toArray, List.set_cons_zero, List.set_cons_succ])
    refine wpAnyH_done (by kernel_rfl) ?_ _
    clear hHeld
    go_wp2
    refine bodyPost_ret (by simp [results, Try.results71, go_sem]; try rfl) rfl ?_
    have e := HB.out.after ZC.out
    refine ⟨some ⟨k, 0, none⟩, l.length, rfl, ?_, (HKK.out.rx (HKK.out.ne_o e) HLO.out).set rfl _, (ZC.out.mono (Nat.le_of_lt hg)).setCell (Nat.le_refl _) _⟩
    rw [len_put]
    exact e.setM _
end Go.Proofs.Ytgemaeibmgkneaa
