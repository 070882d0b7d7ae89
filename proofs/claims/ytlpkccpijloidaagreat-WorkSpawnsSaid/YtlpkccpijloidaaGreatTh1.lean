/- Merged: ThE, ThF, ThG, ThK. -/
import Derived.Test.YtlpkccpijloidaaGreatTh0
import Derived.MapKept
namespace Go.Proofs.YtlpkccpijloidaaGreat.Fo
set_option maxRecDepth 100000
open Go.RowKit Go.Deep
/-- What a function hands back that makes a new row of items. -/
def RetS (w : World) (l : List Itm) (e : Ending) (w' : World) : Prop := ∃ A c, e = .returned (.slice A l.length c) ∧ Iow w' w.heap.size A l.length c l ∧ Below w.heap.size w w'
set_option maxHeartbeats 800000 in
theorem tstart_any (A S : Option Addr) (c cs n₀ : Nat) (T : List Tsk) (s : List Itm) (k : Int) (w : World) (hT : Tk n₀ w A T) (hS : Ir n₀ w S s) (hn₀ : n₀ ≤ w.heap.size) (hs : Sm T) (hl : s.length ≤ 1000) : Calls Tryz.prog 78 #[.slice A T.length c, .slice S s.length cs, .int .i64 k] w (RetS w (startS T s k)) := by
  have K0 := iclone_any S s.length cs n₀ s w hS hn₀ rfl hl
  have K1 := fun w1 (hb : Below w.heap.size w w1) => tmay_any A S c cs n₀ T s w1 (hT.below (hb.mono hn₀)) (hS.below (hb.mono hn₀)) (Nat.le_trans hn₀ hb.size) hs hl
  have K2 := fun w1 => istask_any A c T.length k w1
  have E0 : startS T s k = if mayS T s = true ∧ (decide (0 ≤ k) && decide (k < (T.length : Int))) = true then s ++ [(k, 0, 0)] else s := by
    unfold startS
    simp only [Bool.and_eq_true, decide_eq_true_eq]
  have KK0 := Lib.hid K0
  have EE := Lib.hid E0
  clear K0 E0 hT hS hs
  cases hm : mayS T s
  · simp only [hm] at K1
    have KK1 := Lib.hid K1
    have E := Lib.hid (show startS T s k = s by rw [EE.out, if_neg (by rw [hm]; simp)])
    clear K1 K2 hm
    go_enter Tryz.func78, Tryz.ntmps78
    go_wp2_with fail
    refine KK0.out.mono ?_
    rintro _ w1 ⟨A', c', rfl, ho, z1⟩
    have HO := Lib.hid ho
    have Z1 := Lib.hid z1
    clear ho z1
    go_wp2_with fail
    refine (KK1.out w1 Z1.out).mono ?_
    rintro _ w2 ⟨rfl, z2⟩
    have HO2 := Lib.hid (HO.out.below z2)
    have Z2 := Lib.hid (Z1.out.trans (z2.mono Z1.out.size))
    clear z2
    go_wp2
    go_ret
    rw [E.out]
    exact ⟨_, _, rfl, HO2.out, Z2.out⟩
  · simp only [hm] at K1
    have KK1 := Lib.hid K1
    cases hk : (decide (0 ≤ k) && decide (k < (T.length : Int)))
    · have E := Lib.hid (show startS T s k = s by rw [EE.out, if_neg (by rw [hk]; simp)])
      simp only [hk] at K2
      have KK2 := Lib.hid K2
      clear K1 K2 hm hk
      go_enter Tryz.func78, Tryz.ntmps78
      go_wp2_with fail
      refine KK0.out.mono ?_
      rintro _ w1 ⟨A', c', rfl, ho, z1⟩
      have HO := Lib.hid ho
      have Z1 := Lib.hid z1
      clear ho z1
      go_wp2_with fail
      refine (KK1.out w1 Z1.out).mono ?_
      rintro _ w2 ⟨rfl, z2⟩
      have HO2 := Lib.hid (HO.out.below z2)
      have Z2 := Lib.hid (Z1.out.trans (z2.mono Z1.out.size))
      clear z2
      go_wp2_with fail
      refine (KK2.out w2).mono ?_
      rintro _ w3 ⟨rfl, e3⟩
      subst e3
      go_wp2
      go_ret
      rw [E.out]
      exact ⟨_, _, rfl, HO2.out, Z2.out⟩
    · have E := Lib.hid (show startS T s k = s ++ [(k, 0, 0)] by rw [EE.out, if_pos ⟨hm, hk⟩])
      simp only [hk] at K2
      have KK2 := Lib.hid K2
      clear K1 K2 hm hk
      go_enter Tryz.func78, Tryz.ntmps78
      go_wp2_with fail
      refine KK0.out.mono ?_
      rintro _ w1 ⟨A', c', rfl, ho, z1⟩
      have HO := Lib.hid ho
      have Z1 := Lib.hid z1
      clear ho z1
      go_wp2_with fail
      refine (KK1.out w1 Z1.out).mono ?_
      rintro _ w2 ⟨rfl, z2⟩
      have HO2 := Lib.hid (HO.out.below z2)
      have Z2 := Lib.hid (Z1.out.trans (z2.mono Z1.out.size))
      clear z2
      go_wp2_with fail
      refine (KK2.out w2).mono ?_
      rintro _ w3 ⟨rfl, e3⟩
      subst e3
      obtain ⟨A2, c2, w4, hrun, hown, hb⟩ := iapp_one HO2.out (k, 0, 0) (by omega) Z2.out.size
      have HRUN := Lib.hid hrun
      have HOW := Lib.hid hown
      have HB := Lib.hid (Z2.out.trans hb)
      clear hrun hown hb
      go_wp2_with (at_builtin; (with_reducible refine wpList_append_run HRUN.out ?_ ?_ ?_ ?_); exact ⟨_, _, rfl, rfl, rfl⟩; rfl; rfl)
      go_ret
      rw [E.out]
      have el : (s ++ [(k, 0, 0)]).length = s.length + 1 := by simp
      refine ⟨A2, c2, by rw [el]; rfl, by rw [el]; exact HOW.out, HB.out⟩
end Go.Proofs.YtlpkccpijloidaaGreat.Fo
namespace Go.Proofs.YtlpkccpijloidaaGreat.Fo
set_option maxRecDepth 100000
open Go.RowKit Go.Deep
theorem iflat_set1 : ∀ (p : List Itm) (x : Itm) (v : Int), (iflat (p ++ [x])).set (p.length * 3 + 1) (.int .i64 v) = iflat (p ++ [(x.1, v, x.2.2)])
  | [], x, v => rfl
  | y :: p, x, v => by
    have := iflat_set1 p x v
    rw [show (y :: p).length * 3 + 1 = p.length * 3 + 1 + 1 + 1 + 1 by simp; omega]
    simp only [iflat, List.flatMap_cons, ic, List.cons_append, List.nil_append, List.set_cons_succ] at this ⊢
    rw [this]
theorem iflat_set2 : ∀ (p : List Itm) (x : Itm) (v : Int), (iflat (p ++ [x])).set (p.length * 3 + 2) (.int .i64 v) = iflat (p ++ [(x.1, x.2.1, v)])
  | [], x, v => rfl
  | y :: p, x, v => by
    have := iflat_set2 p x v
    rw [show (y :: p).length * 3 + 2 = p.length * 3 + 2 + 1 + 1 + 1 by simp; omega]
    simp only [iflat, List.flatMap_cons, ic, List.cons_append, List.nil_append, List.set_cons_succ] at this ⊢
    rw [this]
section
variable {w : World} {base gs m c : Nat} {p : List Itm} {x : Itm}
theorem Iow.last (h : Iow w base (some ⟨gs, 0, none⟩) (m + 1) c (p ++ [x])) (hm : p.length = m) : w.cell? ⟨gs, m * 3 + 1, none⟩ = some (.int .i64 x.2.1) ∧ w.cell? ⟨gs, m * 3 + 2, none⟩ = some (.int .i64 x.2.2) ∧ (∀ i, w.frozen? ⟨gs, i, none⟩ = false) ∧ base ≤ gs ∧ gs < w.heap.size ∧ m + 1 ≤ c := by
  obtain ⟨g, e, hb, hl, hc⟩ := Iow.at h (by omega)
  cases e
  obtain ⟨_, f1, f2⟩ := iflat_at (p ++ [x]) m x (by subst hm; simp)
  refine ⟨hc _ _ f1, hc _ _ f2, fun i => World.ownsRow.frozenAt h i, hb, hl, ?_⟩
  rcases h.2 with ⟨h', _⟩ | ⟨g', cap', cur, h', _, _, hnc, _⟩
  · simp at h'
  · injection h' with _ _ h3
    omega
theorem Iow.set1 (h : Iow w base (some ⟨gs, 0, none⟩) (m + 1) c (p ++ [x])) (hm : p.length = m) (v : Int) : Iow (w.setCell ⟨gs, m * 3 + 1, none⟩ (.int .i64 v)) base (some ⟨gs, 0, none⟩) (m + 1) c (p ++ [(x.1, v, x.2.2)]) := by
  have := (World.ownsRow.stored h (m * 3 + 1) (.int .i64 v)).1
  subst hm
  rw [iflat_set1] at this
  exact this
theorem Iow.set2 (h : Iow w base (some ⟨gs, 0, none⟩) (m + 1) c (p ++ [x])) (hm : p.length = m) (v : Int) : Iow (w.setCell ⟨gs, m * 3 + 2, none⟩ (.int .i64 v)) base (some ⟨gs, 0, none⟩) (m + 1) c (p ++ [(x.1, x.2.1, v)]) := by
  have := (World.ownsRow.stored h (m * 3 + 2) (.int .i64 v)).1
  subst hm
  rw [iflat_set2] at this
  exact this
theorem Iow.cut (h : Iow w base (some ⟨gs, 0, none⟩) (m + 1) c (p ++ [x])) (hm : p.length = m) : Iow w base (some ⟨gs, 0, none⟩) m c p := by
  refine ⟨by rw [iflat_len, hm], ?_⟩
  rcases h.2 with ⟨h', _⟩ | ⟨g', cap', cur, h', hb, hg, hnc, hcm, hcs, ht⟩
  · simp at h'
  · injection h' with h1 _ h3
    subst h3
    injection h1 with h1
    injection h1 with h1
    subst h1
    refine .inr ⟨gs, c, cur, rfl, hb, hg, by omega, hcm, hcs, ?_⟩
    have e := congrArg (List.take (m * 3)) ht
    rw [List.take_take, iflat_append, List.take_left' (by rw [iflat_len, hm]), show min (m * 3) ((m + 1) * 3) = m * 3 by omega] at e
    exact e
end
/-- What a closure of Do's map finds: its slice, and the last place. -/
structure DoW (w : World) (g gs m c : Nat) : Prop where
  s0 : w.cell? ⟨g, 0, none⟩ = some (.slice (some ⟨gs, 0, none⟩) (m + 1) c)
  s1 : w.cell? ⟨g + 1, 0, none⟩ = some (.int .i64 (m : Int))
  z0 : w.frozen? ⟨g, 0, none⟩ = false
theorem do1_any (g gs m c : Nat) (d : Int) (w : World) (h : DoW w g gs m c) (hd : w.cell? ⟨gs, m * 3 + 1, none⟩ = some (.int .i64 d)) (hz : w.frozen? ⟨gs, m * 3 + 1, none⟩ = false) (h0 : 0 ≤ d) (h1 : d ≤ 2000) (hm : m < 1000) : Calls Tryz.prog 97 #[.pointer (some ⟨g, 0, none⟩), .pointer (some ⟨g + 1, 0, none⟩)] w fun e w' => e = .returned (.tuple #[]) ∧ w' = w.setCell ⟨gs, m * 3 + 1, none⟩ (.int .i64 (d + 1)) := by
  obtain ⟨s0, s1, z0⟩ := h
  go_enter Tryz.func97, Tryz.ntmps97
  go_wp2
  go_end0
  exact ⟨rfl, rfl⟩
theorem do2_any (g gs m c : Nat) (d : Int) (w : World) (h : DoW w g gs m c) (hd : w.cell? ⟨gs, m * 3 + 2, none⟩ = some (.int .i64 d)) (hz : w.frozen? ⟨gs, m * 3 + 2, none⟩ = false) (h0 : 0 ≤ d) (h1 : d ≤ 2000) (hm : m < 1000) : Calls Tryz.prog 98 #[.pointer (some ⟨g, 0, none⟩), .pointer (some ⟨g + 1, 0, none⟩)] w fun e w' => e = .returned (.tuple #[]) ∧ w' = w.setCell ⟨gs, m * 3 + 2, none⟩ (.int .i64 (d + 1)) := by
  obtain ⟨s0, s1, z0⟩ := h
  go_enter Tryz.func98, Tryz.ntmps98
  go_wp2
  go_end0
  exact ⟨rfl, rfl⟩
theorem do3_any (g gs m c : Nat) (w : World) (h : DoW w g gs m c) (hm : m < 1000) (hc : m + 1 ≤ c) : Calls Tryz.prog 99 #[.pointer (some ⟨g, 0, none⟩), .pointer (some ⟨g + 1, 0, none⟩)] w fun e w' => e = .returned (.tuple #[]) ∧ w' = w.setCell ⟨g, 0, none⟩ (.slice (some ⟨gs, 0, none⟩) m c) := by
  obtain ⟨s0, s1, z0⟩ := h
  have hl := block_lt_of_cell s0
  go_enter Tryz.func99, Tryz.ntmps99
  go_wp2
  go_end0
  exact ⟨rfl, rfl⟩
theorem do_underlying : Tryz.prog.underlying 107 = some (.map 3 1) := by kernel_rfl
theorem do_int : Tryz.prog.underlying 3 = some (.int .i64) := by kernel_rfl
theorem do_zero (w : World) : (zeroValue 1).run Tryz.prog w = .ok .nilFunc w := by kernel_rfl
/-- A closure over both variables. -/
def fE (f g : Nat) : Value := .func (.func f) #[] #[.pointer (some ⟨g, 0, none⟩), .pointer (some ⟨g + 1, 0, none⟩)]
def dm1 (g : Nat) : Array MapEntry := #[⟨.int .i64 1, fE 97 g, 0⟩]
def dm2 (g : Nat) : Array MapEntry := #[⟨.int .i64 1, fE 97 g, 0⟩, ⟨.int .i64 2, fE 98 g, 1⟩]
def dm3 (g : Nat) : Array MapEntry := #[⟨.int .i64 1, fE 97 g, 0⟩, ⟨.int .i64 2, fE 98 g, 1⟩, ⟨.int .i64 3, fE 99 g, 2⟩]
theorem dset_last (w : World) (o p : Obj) : { w.alloc o with heap := (w.alloc o).heap.setIfInBounds w.heap.size p } = w.alloc p := by
  show World.mk ((w.heap.push o).setIfInBounds w.heap.size p) _ _ _ _ = World.mk (w.heap.push p) _ _ _ _
  congr 1
  apply Array.toList_inj.1
  simp
theorem drun_ins {w : World} {es : Array MapEntry} {clock : Nat} {k : Int} (v : Value) (hf : Instr.findNow (.int .i64) (.int .i64 k) es.toList 0 = some none) :
    (Instr.mapUpdate 107 (.map (some w.heap.size)) (.int .i64 k) v).run Tryz.prog (w.alloc (.map es clock)) = .ok () (w.alloc (.map (es.push ⟨.int .i64 k, v, clock⟩) (clock + 1))) := by
  have hb : (w.alloc (.map es clock)).heap[w.heap.size]? = some (.map es clock) := heap_alloc_new _ _
  have e := dset_last w (.map es clock) (.map (es.push ⟨.int .i64 k, v, clock⟩) (clock + 1))
  have hk : MapKept.IsKey (.int .i64) (.int .i64 k) := rfl
  simp [Instr.mapUpdate, run_underlying do_underlying, MapKept.run_getObj_map hb, MapKept.run_checkKey do_int hk, MapKept.run_findKey do_int hf, MapKept.run_setObj_map _ hb, Result.andThen]
  exact e
theorem drun_ins1 (w : World) (g : Nat) : (Instr.mapUpdate 107 (.map (some w.heap.size)) (.int .i64 1) (.func (.func 97) #[] #[.pointer (some ⟨g, 0, none⟩), .pointer (some ⟨g + 1, 0, none⟩)])).run Tryz.prog (w.alloc (.map #[] 0)) = .ok () (w.alloc (.map (dm1 g) 1)) := drun_ins _ rfl
theorem drun_ins2 (w : World) (g : Nat) : (Instr.mapUpdate 107 (.map (some w.heap.size)) (.int .i64 2) (.func (.func 98) #[] #[.pointer (some ⟨g, 0, none⟩), .pointer (some ⟨g + 1, 0, none⟩)])).run Tryz.prog (w.alloc (.map (dm1 g) 1)) = .ok () (w.alloc (.map (dm2 g) 2)) := drun_ins _ rfl
theorem drun_ins3 (w : World) (g : Nat) : (Instr.mapUpdate 107 (.map (some w.heap.size)) (.int .i64 3) (.func (.func 99) #[] #[.pointer (some ⟨g, 0, none⟩), .pointer (some ⟨g + 1, 0, none⟩)])).run Tryz.prog (w.alloc (.map (dm2 g) 2)) = .ok () (w.alloc (.map (dm3 g) 3)) := drun_ins _ rfl
/-- The map lies in block b. -/
def Dmp (w : World) (b g : Nat) : Prop := w.heap[b]? = some (.map (dm3 g) 3)
theorem drun_look {w : World} {b g : Nat} (h : Dmp w b g) {k : Int} {i : Nat} {v : Value} (hf : Instr.findNow (.int .i64) (.int .i64 k) (dm3 g).toList 0 = some (some (i, v))) :
    (Instr.lookup 107 (.map (some b)) (.int .i64 k) true).run Tryz.prog w = .ok (.tuple #[v, .bool true]) w := by
  have hk : MapKept.IsKey (.int .i64) (.int .i64 k) := rfl
  simp [Instr.lookup, run_underlying do_underlying, MapKept.run_getObj_map h, MapKept.run_checkKey do_int hk, MapKept.run_findKey do_int hf, Result.andThen]
theorem drun_look_no {w : World} {b g : Nat} (h : Dmp w b g) : (Instr.lookup 107 (.map (some b)) (.int .i64 0) true).run Tryz.prog w = .ok (.tuple #[.nilFunc, .bool false]) w := by
  have hk : MapKept.IsKey (.int .i64) (.int .i64 0) := rfl
  have hf : Instr.findNow (.int .i64) (.int .i64 0) (dm3 g).toList 0 = some none := rfl
  have e := do_zero w
  simp [Instr.lookup, run_underlying do_underlying, MapKept.run_getObj_map h, MapKept.run_checkKey do_int hk, MapKept.run_findKey do_int hf, Result.andThen, e]
end Go.Proofs.YtlpkccpijloidaaGreat.Fo
namespace Go.Proofs.YtlpkccpijloidaaGreat.Fo
set_option maxRecDepth 100000
open Go.RowKit Go.Deep
theorem kind_at {T : List Tsk} {x : Itm} : (actI T x).1 = 1 ∨ (actI T x).1 = 2 ∨ (actI T x).1 = 3 := by
  unfold actI
  split
  · exact .inl rfl
  split
  · exact .inr (.inl rfl)
  · exact .inr (.inr rfl)
theorem field_kind (a b : Int) (w : World) : (Instr.field 88 (.agg #[.int .i64 a, .int .i64 b]) 0).run Tryz.prog w = .ok (.int .i64 a) w := by kernel_rfl
attribute [local go_sem] field_kind
/-- What Do has at hand behind its first two lines. -/
structure DoZ (W : World) (n₀ g n : Nat) (A : Option Addr) (c : Nat) (s : List Itm) (w : World) : Prop where
  own : Iow w n₀ A n c s
  b0 : w.heap[g]? = some (.cells #[.slice A n c] 27 (0, 0))
  b1 : w.heap[g + 1]? = some (.cells #[.int .i64 ((n : Int) - 1)] 3 (0, 0))
  low : Below W.heap.size W w
  gt : n₀ ≤ g
  ap : ∀ k, (Value.slice A n c).ownBlock = some k → k < g
theorem DoZ.below {W w w' : World} {n₀ g n c : Nat} {A : Option Addr} {s : List Itm} (h : DoZ W n₀ g n A c s w) (hb : Below w.heap.size w w') : DoZ W n₀ g n A c s w' :=
  ⟨h.own.below hb, (hb.block g (Array.getElem?_eq_some_iff.1 h.b0).1).trans h.b0, (hb.block (g + 1) (Array.getElem?_eq_some_iff.1 h.b1).1).trans h.b1, h.low.trans (hb.mono h.low.size), h.gt, h.ap⟩
theorem DoZ.new {W w : World} {n c : Nat} {A : Option Addr} {s : List Itm} (ho : Iow w W.heap.size A n c s) (hb : Below W.heap.size W w) : DoZ W W.heap.size w.heap.size n A c s ((w.alloc (.cells #[.slice A n c] 27)).alloc (.cells #[.int .i64 ((n : Int) - 1)] 3)) := by
  refine ⟨(ho.alloc _).alloc _, ?_, ?_, (hb.alloc hb.size _).alloc (by have := hb.size; simp; omega) _, hb.size, fun k hk => (World.ownsRow.lt ho k hk).2⟩
  · rw [Below.heap_alloc _ _ _ (by simp)]; exact heap_alloc_new _ _
  · have := heap_alloc_new (w.alloc (.cells #[.slice A n c] 27)) (.cells #[.int .i64 ((n : Int) - 1)] 3)
    simpa using this
theorem DoZ.w {W w : World} {n₀ g gs m c : Nat} {s : List Itm} (h : DoZ W n₀ g (m + 1) (some ⟨gs, 0, none⟩) c s w) : DoW w g gs m c := by
  have h0 := h.b0
  have h1 := h.b1
  refine ⟨by simp [World.cell?, h0], ?_, by simp [World.frozen?, h0]⟩
  simp [World.cell?, h1]
theorem DoZ.cell {W w : World} {n₀ g n c : Nat} {A : Option Addr} {s : List Itm} (h : DoZ W n₀ g n A c s w) : w.cell? ⟨g, 0, none⟩ = some (.slice A n c) := by
  have h0 := h.b0
  simp [World.cell?, h0]
set_option maxHeartbeats 1600000 in
theorem tdo_any (A S : Option Addr) (c cs n₀ : Nat) (T : List Tsk) (s : List Itm) (w : World) (hT : Tk n₀ w A T) (hS : Ir n₀ w S s) (hn₀ : n₀ ≤ w.heap.size) (hs : Sm T) (hl : s.length ≤ 1000) : Calls Tryz.prog 85 #[.slice A T.length c, .slice S s.length cs] w (RetS w (doS T s)) := by
  have KK0 := Lib.hid (iclone_any S s.length cs n₀ s w hS hn₀ rfl hl)
  have KK1 := Lib.hid (fun w1 (hb : Below w.heap.size w w1) => tnext_any A S c cs n₀ T s w1 (hT.below (hb.mono hn₀)) (hS.below (hb.mono hn₀)) (Nat.le_trans hn₀ hb.size) hs hl)
  have HM := Lib.hid hs
  clear hT hS hs
  go_enter Tryz.func85, Tryz.ntmps85
  go_wp2_with fail
  refine KK0.out.mono ?_
  rintro _ w1 ⟨A', c', rfl, ho, z1⟩
  have DZ := Lib.hid (DoZ.new ho z1)
  clear ho z1
  go_upto_region 2 with fail
  generalize (w1.alloc (.cells #[.slice A' s.length c'] 27)).alloc (.cells #[.int .i64 ((s.length : Int) - 1)] 3) = w2 at *
  generalize w1.heap.size = g at *
  have h0 := @run_makeMap Tryz.prog
  have h1 := drun_ins1 w2 g
  have h2 := drun_ins2 w2 g
  have h3 := drun_ins3 w2 g
  have DM := Lib.hid (show Dmp (w2.alloc (.map (dm3 g) 3)) w2.heap.size g from heap_alloc_new _ _)
  have DZ2 := Lib.hid (DZ.out.below (bel_new w2 (.map (dm3 g) 3)))
  go_wp2_with fail
  generalize w2.alloc (.map (dm3 g) 3) = w3 at *
  generalize w2.heap.size = gm at *
  refine (KK1.out w3 DZ2.out.low).mono ?_
  rintro _ w4 ⟨rfl, z4⟩
  have DM4 := Lib.hid (show Dmp w4 gm g from (z4.block gm (Array.getElem?_eq_some_iff.1 DM.out).1).trans DM.out)
  have DZ4 := Lib.hid (DZ2.out.below z4)
  clear z4 h0 h1 h2 h3 DM DZ2 DZ
  rcases Classical.em (nextS T s = (0, 0)) with e | e
  · have hlook := drun_look_no DM4.out
    have hc := DZ4.out.cell
    have E := Lib.hid (show doS T s = s by
      rcases Classical.em (s = []) with rfl | e2
      · exact doS_nil
      · cases hm : mayS T s
        · exact doS_no hm
        · obtain ⟨p, x, rfl⟩ := snoc_of e2
          rw [nextS_snoc hm] at e
          have := kind_at (T := T) (x := x)
          rw [e] at this
          simp at this)
    rw [e, show av ((0 : Int), (0 : Int)) = Value.agg #[.int .i64 0, .int .i64 0] from rfl]
    clear e KK0 KK1
    go_wp2
    go_ret
    rw [E.out]
    exact ⟨_, _, rfl, DZ4.out.own, DZ4.out.low⟩
  · obtain ⟨p, x, rfl⟩ : ∃ p x, s = p ++ [x] := by
      rcases Classical.em (s = []) with rfl | e2
      · exact absurd nextS_nil e
      · exact snoc_of e2
    have hm : mayS T (p ++ [x]) = true := by
      cases hm : mayS T (p ++ [x])
      · exact absurd (nextS_no hm) e
      · rfl
    rw [nextS_snoc hm]
    have ED := Lib.hid (doS_snoc hm)
    obtain ⟨n, e0, hn, hd0, hd1, hk0, hk1⟩ := item_at hm
    have hw := (wk_at (may_parts (mayS_all hm).1).2.1 hn).2
    have hkl := HM.out.at hn
    have elen : (p ++ [x]).length = p.length + 1 := by simp
    rw [elen] at DZ4
    obtain ⟨gs, rfl⟩ : ∃ gs, A' = some ⟨gs, 0, none⟩ := by
      obtain ⟨gs, e, _⟩ := Iow.at DZ4.out.own (by omega)
      exact ⟨gs, e⟩
    obtain ⟨l1, l2, lz, lb, ll, lc⟩ := DZ4.out.own.last rfl
    have hgs := DZ4.out.ap gs rfl
    have hdw := DZ4.out.w
    have hm1 : p.length < 1000 := by omega
    have lz1 := lz (p.length * 3 + 1)
    have lz2 := lz (p.length * 3 + 2)
    have LOW := Lib.hid DZ4.out.low
    have hcell := DZ4.out.cell
    have ebump : bumpI T x = if (actI T x).1 = 1 then [(x.1, x.2.1 + 1, x.2.2)] else if (actI T x).1 = 2 then [(x.1, x.2.1, x.2.2 + 1)] else [] := by
      unfold bumpI actI
      split
      · simp
      split
      · simp
      · simp
    rcases kind_at (T := T) (x := x) with hk | hk | hk
    · have EB := Lib.hid (show doS T (p ++ [x]) = p ++ [(x.1, x.2.1 + 1, x.2.2)] by rw [ED.out, ebump, if_pos hk])
      have hlook := drun_look (k := 1) (i := 0) (v := .func (.func 97) #[] #[.pointer (some ⟨g, 0, none⟩), .pointer (some ⟨g + 1, 0, none⟩)]) DM4.out rfl
      have KC := Lib.hid (do1_any g gs p.length c' x.2.1 w4 hdw l1 lz1 hd0 (by omega) hm1)
      have OW := Lib.hid (DZ4.out.own.set1 rfl (x.2.1 + 1))
      have hne : g ≠ gs := by omega
      have hcell' : (w4.setCell ⟨gs, p.length * 3 + 1, none⟩ (.int .i64 (x.2.1 + 1))).cell? ⟨g, 0, none⟩ = some (.slice (some ⟨gs, 0, none⟩) (p.length + 1) c') := by rw [← hcell]; exact World.cell?_of_block (a := ⟨g, 0, none⟩) (Below.heap_setCell w4 _ _ g (by simpa using hne))
      have LOW2 := Lib.hid (LOW.out.setCell (p := ⟨gs, p.length * 3 + 1, none⟩) lb (.int .i64 (x.2.1 + 1)))
      generalize actI T x = q at *
      obtain ⟨q1, q2⟩ := q
      simp only at hk
      subst hk
      clear l1 l2 lz lz1 lz2 hdw hcell ebump KK0 KK1 ED
      rw [show av ((1 : Int), q2) = Value.agg #[.int .i64 1, .int .i64 q2] from rfl]
      go_wp2_with fail
      refine KC.out.mono ?_
      rintro _ w5 ⟨rfl, e5⟩
      subst e5
      generalize w4.setCell ⟨gs, p.length * 3 + 1, none⟩ (.int .i64 (x.2.1 + 1)) = w5 at *
      go_wp2
      go_ret
      rw [EB.out]
      have el : (p ++ [(x.1, x.2.1 + 1, x.2.2)]).length = p.length + 1 := by simp
      exact ⟨_, _, by rw [el]; rfl, by rw [el]; exact OW.out, LOW2.out⟩
    · have EB := Lib.hid (show doS T (p ++ [x]) = p ++ [(x.1, x.2.1, x.2.2 + 1)] by rw [ED.out, ebump, if_neg (by rw [hk]; decide), if_pos hk])
      have hlook := drun_look (k := 2) (i := 1) (v := .func (.func 98) #[] #[.pointer (some ⟨g, 0, none⟩), .pointer (some ⟨g + 1, 0, none⟩)]) DM4.out rfl
      have KC := Lib.hid (do2_any g gs p.length c' x.2.2 w4 hdw l2 lz2 hk0 (by omega) hm1)
      have OW := Lib.hid (DZ4.out.own.set2 rfl (x.2.2 + 1))
      have hne : g ≠ gs := by omega
      have hcell' : (w4.setCell ⟨gs, p.length * 3 + 2, none⟩ (.int .i64 (x.2.2 + 1))).cell? ⟨g, 0, none⟩ = some (.slice (some ⟨gs, 0, none⟩) (p.length + 1) c') := by rw [← hcell]; exact World.cell?_of_block (a := ⟨g, 0, none⟩) (Below.heap_setCell w4 _ _ g (by simpa using hne))
      have LOW2 := Lib.hid (LOW.out.setCell (p := ⟨gs, p.length * 3 + 2, none⟩) lb (.int .i64 (x.2.2 + 1)))
      generalize actI T x = q at *
      obtain ⟨q1, q2⟩ := q
      simp only at hk
      subst hk
      clear l1 l2 lz lz1 lz2 hdw hcell ebump KK0 KK1 ED
      rw [show av ((2 : Int), q2) = Value.agg #[.int .i64 2, .int .i64 q2] from rfl]
      go_wp2_with fail
      refine KC.out.mono ?_
      rintro _ w5 ⟨rfl, e5⟩
      subst e5
      generalize w4.setCell ⟨gs, p.length * 3 + 2, none⟩ (.int .i64 (x.2.2 + 1)) = w5 at *
      go_wp2
      go_ret
      rw [EB.out]
      have el : (p ++ [(x.1, x.2.1, x.2.2 + 1)]).length = p.length + 1 := by simp
      exact ⟨_, _, by rw [el]; rfl, by rw [el]; exact OW.out, LOW2.out⟩
    · have EB := Lib.hid (show doS T (p ++ [x]) = p by rw [ED.out, ebump, if_neg (by rw [hk]; decide), if_neg (by rw [hk]; decide), List.append_nil])
      have hlook := drun_look (k := 3) (i := 2) (v := .func (.func 99) #[] #[.pointer (some ⟨g, 0, none⟩), .pointer (some ⟨g + 1, 0, none⟩)]) DM4.out rfl
      have KC := Lib.hid (do3_any g gs p.length c' w4 hdw hm1 lc)
      have hne : gs ≠ g := by omega
      have OW := Lib.hid (Iow.kept (w' := w4.setCell ⟨g, 0, none⟩ (.slice (some ⟨gs, 0, none⟩) p.length c')) (DZ4.out.own.cut rfl) (fun k hk => by cases hk; exact Below.heap_setCell w4 _ _ gs (by simpa using hne)))
      have hlg := block_lt_of_cell hcell
      have hcell' : (w4.setCell ⟨g, 0, none⟩ (.slice (some ⟨gs, 0, none⟩) p.length c')).cell? ⟨g, 0, none⟩ = some (.slice (some ⟨gs, 0, none⟩) p.length c') := by
        have := DZ4.out.b0
        simp [World.cell?, World.setCell, Array.getElem?_modify, this]
      have LOW2 := Lib.hid (LOW.out.setCell (p := ⟨g, 0, none⟩) DZ4.out.gt (.slice (some ⟨gs, 0, none⟩) p.length c'))
      generalize actI T x = q at *
      obtain ⟨q1, q2⟩ := q
      simp only at hk
      subst hk
      clear l1 l2 lz lz1 lz2 hdw hcell ebump KK0 KK1 ED
      rw [show av ((3 : Int), q2) = Value.agg #[.int .i64 3, .int .i64 q2] from rfl]
      go_wp2_with fail
      refine KC.out.mono ?_
      rintro _ w5 ⟨rfl, e5⟩
      subst e5
      generalize w4.setCell ⟨g, 0, none⟩ (.slice (some ⟨gs, 0, none⟩) p.length c') = w5 at *
      go_wp2
      go_ret
      rw [EB.out]
      exact ⟨_, _, rfl, OW.out, LOW2.out⟩
end Go.Proofs.YtlpkccpijloidaaGreat.Fo
namespace Go.Proofs.YtlpkccpijloidaaGreat.Fo
set_option maxRecDepth 100000
open Go.RowKit Go.Deep
theorem hd_drew {S : World → Prop} {n : Nat} {w0 w : World} (K : ∀ x, Below n w0 x → S x) (G : ∀ x, S x → Below n w0 x) (h : S w) : S w.drew := K _ (G _ h).drew
theorem Tk.later {w w' : World} {A : Option Addr} {T : List Tsk} (h : Tk w.heap.size w A T) (hb : Below w.heap.size w w') : Tk w'.heap.size w' A T := (h.below hb).mono hb.size
theorem Ir.later {w w' : World} {A : Option Addr} {l : List Itm} (h : Ir w.heap.size w A l) (hb : Below w.heap.size w w') : Ir w'.heap.size w' A l := (h.below hb).mono hb.size
/-- What hands back a row of items, to be read. -/
def GotS (w : World) (m : Nat) (l : List Itm) (e : Ending) (w' : World) : Prop := ∃ A c, e = .returned (.slice A m c) ∧ Ir w'.heap.size w' A l ∧ m ≤ c ∧ ((A = none ∧ c = 0) ∨ ∃ g, A = some ⟨g, 0, none⟩) ∧ Below w.heap.size w w'
theorem Iow.room {w : World} {base n c : Nat} {A : Option Addr} {l : List Itm} (h : Iow w base A n c l) : n ≤ c ∧ ((A = none ∧ c = 0) ∨ ∃ g, A = some ⟨g, 0, none⟩) := by
  rcases h.2 with ⟨hv, hx⟩ | ⟨g, cap, cur, hv, hbg, hg, hr⟩
  · injection hv with hA hn hc
    subst hA hn hc
    exact ⟨Nat.le_refl _, .inl ⟨rfl, rfl⟩⟩
  · injection hv with hA _ hc
    subst hA hc
    exact ⟨hr.1, .inr ⟨g, rfl⟩⟩
section
variable {A S : Option Addr} {c cs lt n : Nat} {T : List Tsk} {s : List Itm} {w : World}
theorem kmay (hT : Tk w.heap.size w A T) (hS : Ir w.heap.size w S s) (hs : Sm T) (hlt : T.length = lt) (hn : s.length = n) (hl : n ≤ 1000) {q : Bool} (hq : mayS T s = q) : Tells 27 #[.slice A lt c, .slice S n cs] w (.bool q) := by
  subst hlt hn hq
  exact tmay_any A S c cs _ T s w hT hS (Nat.le_refl _) hs hl
theorem knext (hT : Tk w.heap.size w A T) (hS : Ir w.heap.size w S s) (hs : Sm T) (hlt : T.length = lt) (hn : s.length = n) (hl : n ≤ 1000) {a b : Int} (hq : nextS T s = (a, b)) : Tells 84 #[.slice A lt c, .slice S n cs] w (.agg #[.int .i64 a, .int .i64 b]) := by
  subst hlt hn
  have := tnext_any A S c cs _ T s w hT hS (Nat.le_refl _) hs hl
  rw [hq] at this
  exact this
theorem ksame {X : Option Addr} {d m : Nat} {k : List Itm} (hS : Ir w.heap.size w S s) (hX : Ir w.heap.size w X k) (hn : s.length = n) (hm : k.length = m) (hl : n ≤ 1000) {q : Bool} (hq : decide (s = k) = q) : Tells 28 #[.slice S n cs, .slice X m d] w (.bool q) := by
  subst hn hm hq
  exact tsame_any S X cs d _ s k w hS hX hl
theorem kfew (w : World) (hT : Tk w.heap.size w A T) (hl : T.length ≤ maxLen) (hk : ∀ x ∈ T, x.2.length ≤ maxLen) (hlt : T.length = lt) {q : Bool} (hq : few T = q) : Gives 19 #[.slice A lt c] w (.bool q) := by
  subst hlt hq
  exact few_any A c _ T w hT hl hk
end
end Go.Proofs.YtlpkccpijloidaaGreat.Fo
