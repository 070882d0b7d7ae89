/- Contracts of think.Do and of the closures in its map. -/
import Derived.Test.YtobcedlkmnmikaaThE
import Derived.MapKept
namespace Go.Proofs.Ytobcedlkmnmikaa.Fo
open Go.RowKit Go.Deep
set_option maxRecDepth 100000 in
theorem iflat_set1 : ∀ (p : List Itm) (x : Itm) (v : Int), (iflat (p ++ [x])).set (p.length * 3 + 1) (.int .i64 v) = iflat (p ++ [(x.1, v, x.2.2)])
  | [], x, v => rfl
  | y :: p, x, v => by
    have := iflat_set1 p x v
    rw [show (y :: p).length * 3 + 1 = p.length * 3 + 1 + 1 + 1 + 1 by simp; omega]
    simp only [iflat, List.flatMap_cons, ic, List.cons_append, List.nil_append, List.set_cons_succ] at this ⊢
    rw [this]
set_option maxRecDepth 100000 in
theorem iflat_set2 : ∀ (p : List Itm) (x : Itm) (v : Int), (iflat (p ++ [x])).set (p.length * 3 + 2) (.int .i64 v) = iflat (p ++ [(x.1, x.2.1, v)])
  | [], x, v => rfl
  | y :: p, x, v => by
    have := iflat_set2 p x v
    rw [show (y :: p).length * 3 + 2 = p.length * 3 + 2 + 1 + 1 + 1 by simp; omega]
    simp only [iflat, List.flatMap_cons, ic, List.cons_append, List.nil_append, List.set_cons_succ] at this ⊢
    rw [this]
section
variable {w : World} {base gs m c : Nat} {p : List Itm} {x : Itm}
set_option maxRecDepth 100000 in
theorem Iow.last (h : Iow w base (some ⟨gs, 0, none⟩) (m + 1) c (p ++ [x])) (hm : p.length = m) : w.cell? ⟨gs, m * 3 + 1, none⟩ = some (.int .i64 x.2.1) ∧ w.cell? ⟨gs, m * 3 + 2, none⟩ = some (.int .i64 x.2.2) ∧ (∀ i, w.frozen? ⟨gs, i, none⟩ = false) ∧ base ≤ gs ∧ gs < w.heap.size ∧ m + 1 ≤ c := by
  obtain ⟨g, e, hb, hl, hc⟩ := Iow.at h (by omega)
  cases e
  obtain ⟨_, f1, f2⟩ := iflat_at (p ++ [x]) m x (by subst hm; simp)
  refine ⟨hc _ _ f1, hc _ _ f2, fun i => World.ownsRow.frozenAt h i, hb, hl, ?_⟩
  rcases h.2 with ⟨h', _⟩ | ⟨g', cap', cur, h', _, _, hnc, _⟩
  · simp at h'
  · injection h' with _ _ h3
    omega
set_option maxRecDepth 100000 in
theorem Iow.set1 (h : Iow w base (some ⟨gs, 0, none⟩) (m + 1) c (p ++ [x])) (hm : p.length = m) (v : Int) : Iow (w.setCell ⟨gs, m * 3 + 1, none⟩ (.int .i64 v)) base (some ⟨gs, 0, none⟩) (m + 1) c (p ++ [(x.1, v, x.2.2)]) := by
  have := (World.ownsRow.stored h (m * 3 + 1) (.int .i64 v)).1
  subst hm
  rw [iflat_set1] at this
  exact this
set_option maxRecDepth 100000 in
theorem Iow.set2 (h : Iow w base (some ⟨gs, 0, none⟩) (m + 1) c (p ++ [x])) (hm : p.length = m) (v : Int) : Iow (w.setCell ⟨gs, m * 3 + 2, none⟩ (.int .i64 v)) base (some ⟨gs, 0, none⟩) (m + 1) c (p ++ [(x.1, x.2.1, v)]) := by
  have := (World.ownsRow.stored h (m * 3 + 2) (.int .i64 v)).1
  subst hm
  rw [iflat_set2] at this
  exact this
set_option maxRecDepth 100000 in
theorem Iow.cut (h : Iow w base (some ⟨gs, 0, none⟩) (m + 1) c (p ++ [x])) (hm : p.length = m) : Iow w base (some ⟨gs, 0, none⟩) m c p := by
  refine ⟨by rw [iflat_len, hm], ?_⟩
  rcases h.2 with ⟨h', _⟩ | ⟨g', cap', cur, h', hb, hg, hnc, hcm, hcs, ht⟩
  · simp at h'
  · injection h' with h1 _ h3
    subst h3
    injection h1 with h1
    injection h1 with h1
    subst h1
    refine .inr ⟨gs, c, cur, rfl, hb, hg, by omega, hcm, hcs, ?_⟩
    have e := congrArg (List.take (m * 3)) ht
    rw [List.take_take, iflat_append, List.take_left' (by rw [iflat_len, hm]), show min (m * 3) ((m + 1) * 3) = m * 3 by omega] at e
    exact e
end
/-- What a closure of Do's map finds: its slice, and the last place. -/
structure DoW (w : World) (g gs m c : Nat) : Prop where
  s0 : w.cell? ⟨g, 0, none⟩ = some (.slice (some ⟨gs, 0, none⟩) (m + 1) c)
  s1 : w.cell? ⟨g + 1, 0, none⟩ = some (.int .i64 (m : Int))
  z0 : w.frozen? ⟨g, 0, none⟩ = false
set_option maxRecDepth 100000 in
theorem do1_any (g gs m c : Nat) (d : Int) (w : World) (h : DoW w g gs m c) (hd : w.cell? ⟨gs, m * 3 + 1, none⟩ = some (.int .i64 d)) (hz : w.frozen? ⟨gs, m * 3 + 1, none⟩ = false) (h0 : 0 ≤ d) (h1 : d ≤ 2000) (hm : m < 1000) : Calls Try.prog 25 #[.pointer (some ⟨g, 0, none⟩), .pointer (some ⟨g + 1, 0, none⟩)] w fun e w' => e = .returned (.tuple #[]) ∧ w' = w.setCell ⟨gs, m * 3 + 1, none⟩ (.int .i64 (d + 1)) := by
  obtain ⟨s0, s1, z0⟩ := h
  go_enter Try.func25, Try.ntmps25
  go_wp2
  go_end0
  exact ⟨rfl, rfl⟩
set_option maxRecDepth 100000 in
theorem do2_any (g gs m c : Nat) (d : Int) (w : World) (h : DoW w g gs m c) (hd : w.cell? ⟨gs, m * 3 + 2, none⟩ = some (.int .i64 d)) (hz : w.frozen? ⟨gs, m * 3 + 2, none⟩ = false) (h0 : 0 ≤ d) (h1 : d ≤ 2000) (hm : m < 1000) : Calls Try.prog 26 #[.pointer (some ⟨g, 0, none⟩), .pointer (some ⟨g + 1, 0, none⟩)] w fun e w' => e = .returned (.tuple #[]) ∧ w' = w.setCell ⟨gs, m * 3 + 2, none⟩ (.int .i64 (d + 1)) := by
  obtain ⟨s0, s1, z0⟩ := h
  go_enter Try.func26, Try.ntmps26
  go_wp2
  go_end0
  exact ⟨rfl, rfl⟩
set_option maxRecDepth 100000 in
theorem do3_any (g gs m c : Nat) (w : World) (h : DoW w g gs m c) (hm : m < 1000) (hc : m + 1 ≤ c) : Calls Try.prog 27 #[.pointer (some ⟨g, 0, none⟩), .pointer (some ⟨g + 1, 0, none⟩)] w fun e w' => e = .returned (.tuple #[]) ∧ w' = w.setCell ⟨g, 0, none⟩ (.slice (some ⟨gs, 0, none⟩) m c) := by
  obtain ⟨s0, s1, z0⟩ := h
  have hl := block_lt_of_cell s0
  go_enter Try.func27, Try.ntmps27
  go_wp2
  go_end0
  exact ⟨rfl, rfl⟩
set_option maxRecDepth 100000 in
theorem do_underlying : Try.prog.underlying 43 = some (.map 3 1) := by kernel_rfl
set_option maxRecDepth 100000 in
theorem do_int : Try.prog.underlying 3 = some (.int .i64) := by kernel_rfl
set_option maxRecDepth 100000 in
theorem do_zero (w : World) : (zeroValue 1).run Try.prog w = .ok .nilFunc w := by kernel_rfl
/-- A closure over both variables. -/
def fE (f g : Nat) : Value := .func (.func f) #[] #[.pointer (some ⟨g, 0, none⟩), .pointer (some ⟨g + 1, 0, none⟩)]
def dm1 (g : Nat) : Array MapEntry := #[⟨.int .i64 1, fE 25 g, 0⟩]
def dm2 (g : Nat) : Array MapEntry := #[⟨.int .i64 1, fE 25 g, 0⟩, ⟨.int .i64 2, fE 26 g, 1⟩]
def dm3 (g : Nat) : Array MapEntry := #[⟨.int .i64 1, fE 25 g, 0⟩, ⟨.int .i64 2, fE 26 g, 1⟩, ⟨.int .i64 3, fE 27 g, 2⟩]
set_option maxRecDepth 100000 in
theorem dset_last (w : World) (o p : Obj) : { w.alloc o with heap := (w.alloc o).heap.setIfInBounds w.heap.size p } = w.alloc p := by
  show World.mk ((w.heap.push o).setIfInBounds w.heap.size p) _ _ _ _ = World.mk (w.heap.push p) _ _ _ _
  congr 1
  apply Array.toList_inj.1
  simp
set_option maxRecDepth 100000 in
theorem drun_ins {w : World} {es : Array MapEntry} {clock : Nat} {k : Int} (v : Value) (hf : Instr.findNow (.int .i64) (.int .i64 k) es.toList 0 = some none) :
    (Instr.mapUpdate 43 (.map (some w.heap.size)) (.int .i64 k) v).run Try.prog (w.alloc (.map es clock)) = .ok () (w.alloc (.map (es.push ⟨.int .i64 k, v, clock⟩) (clock + 1))) := by
  have hb : (w.alloc (.map es clock)).heap[w.heap.size]? = some (.map es clock) := heap_alloc_new _ _
  have e := dset_last w (.map es clock) (.map (es.push ⟨.int .i64 k, v, clock⟩) (clock + 1))
  have hk : MapKept.IsKey (.int .i64) (.int .i64 k) := rfl
  simp [Instr.mapUpdate, run_underlying do_underlying, MapKept.run_getObj_map hb, MapKept.run_checkKey do_int hk, MapKept.run_findKey do_int hf, MapKept.run_setObj_map _ hb, Result.andThen]
  exact e
set_option maxRecDepth 100000 in
theorem drun_ins1 (w : World) (g : Nat) : (Instr.mapUpdate 43 (.map (some w.heap.size)) (.int .i64 1) (.func (.func 25) #[] #[.pointer (some ⟨g, 0, none⟩), .pointer (some ⟨g + 1, 0, none⟩)])).run Try.prog (w.alloc (.map #[] 0)) = .ok () (w.alloc (.map (dm1 g) 1)) := drun_ins _ rfl
set_option maxRecDepth 100000 in
theorem drun_ins2 (w : World) (g : Nat) : (Instr.mapUpdate 43 (.map (some w.heap.size)) (.int .i64 2) (.func (.func 26) #[] #[.pointer (some ⟨g, 0, none⟩), .pointer (some ⟨g + 1, 0, none⟩)])).run Try.prog (w.alloc (.map (dm1 g) 1)) = .ok () (w.alloc (.map (dm2 g) 2)) := drun_ins _ rfl
set_option maxRecDepth 100000 in
theorem drun_ins3 (w : World) (g : Nat) : (Instr.mapUpdate 43 (.map (some w.heap.size)) (.int .i64 3) (.func (.func 27) #[] #[.pointer (some ⟨g, 0, none⟩), .pointer (some ⟨g + 1, 0, none⟩)])).run Try.prog (w.alloc (.map (dm2 g) 2)) = .ok () (w.alloc (.map (dm3 g) 3)) := drun_ins _ rfl
/-- The map lies in block b. -/
def Dmp (w : World) (b g : Nat) : Prop := w.heap[b]? = some (.map (dm3 g) 3)
set_option maxRecDepth 100000 in
theorem drun_look {w : World} {b g : Nat} (h : Dmp w b g) {k : Int} {i : Nat} {v : Value} (hf : Instr.findNow (.int .i64) (.int .i64 k) (dm3 g).toList 0 = some (some (i, v))) :
    (Instr.lookup 43 (.map (some b)) (.int .i64 k) true).run Try.prog w = .ok (.tuple #[v, .bool true]) w := by
  have hk : MapKept.IsKey (.int .i64) (.int .i64 k) := rfl
  simp [Instr.lookup, run_underlying do_underlying, MapKept.run_getObj_map h, MapKept.run_checkKey do_int hk, MapKept.run_findKey do_int hf, Result.andThen]
set_option maxRecDepth 100000 in
theorem drun_look_no {w : World} {b g : Nat} (h : Dmp w b g) : (Instr.lookup 43 (.map (some b)) (.int .i64 0) true).run Try.prog w = .ok (.tuple #[.nilFunc, .bool false]) w := by
  have hk : MapKept.IsKey (.int .i64) (.int .i64 0) := rfl
  have hf : Instr.findNow (.int .i64) (.int .i64 0) (dm3 g).toList 0 = some none := rfl
  have e := do_zero w
  simp [Instr.lookup, run_underlying do_underlying, MapKept.run_getObj_map h, MapKept.run_checkKey do_int hk, MapKept.run_findKey do_int hf, Result.andThen, e]
end Go.Proofs.Ytobcedlkmnmikaa.Fo
