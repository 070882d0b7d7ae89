/- Merged: ItA, ItQ. -/
import Derived.Test.YtlpkccpijloidaaGreatFo0
import Derived.Maps.AppendAt
import Derived.Laws.MakeOwn
import Derived.Laws.StructEq
namespace Go.Proofs.YtlpkccpijloidaaGreat.Fo
set_option maxRecDepth 100000
open Go.RowKit Go.Deep

/-- A pick as a value. -/
abbrev iv (p : Itm) : Value := .agg #[.int .i64 p.1, .int .i64 p.2.1, .int .i64 p.2.2]
def ic (p : Itm) : List Value := [.int .i64 p.1, .int .i64 p.2.1, .int .i64 p.2.2]
/-- The cells of picks. -/
def iflat (l : List Itm) : List Value := l.flatMap ic
theorem iflat_len (l : List Itm) : (iflat l).length = l.length * 3 := by
  induction l with
  | nil => rfl
  | cons x l ih => simp [iflat, ic] at ih ⊢; omega
theorem iflat_append (l k : List Itm) : iflat (l ++ k) = iflat l ++ iflat k := by simp [iflat]
theorem iflat_one (l : List Itm) : ∀ v ∈ iflat l, v.oneCell' = true := by
  intro v hv
  simp only [iflat, List.mem_flatMap] at hv
  obtain ⟨x, _, hx⟩ := hv
  simp only [ic, List.mem_cons, List.not_mem_nil, or_false] at hx
  rcases hx with rfl | rfl | rfl <;> rfl
theorem iflat_at : ∀ (l : List Itm) (i : Nat) (x : Itm), l[i]? = some x →
    (iflat l)[i * 3]? = some (.int .i64 x.1) ∧ (iflat l)[i * 3 + 1]? = some (.int .i64 x.2.1) ∧ (iflat l)[i * 3 + 2]? = some (.int .i64 x.2.2)
  | y :: l, 0, x, h => by simp at h; subst h; exact ⟨rfl, rfl, rfl⟩
  | y :: l, i + 1, x, h => by
    have := iflat_at l i x (by simpa using h)
    rw [show (i + 1) * 3 = i * 3 + 1 + 1 + 1 by omega]
    simp only [iflat, List.flatMap_cons, ic, List.cons_append, List.nil_append] at this ⊢
    simpa using this
  | [], _, _, h => by simp at h
/-- The slice at A reads as the picks l, in a block below n. -/
def Ir (n : Nat) (w : World) (A : Option Addr) (l : List Itm) : Prop :=
  0 < l.length → ∃ b off, A = some ⟨b, off, none⟩ ∧ b < n ∧ ∀ i x, l[i]? = some x →
    w.cell? ⟨b, off + i * 3, none⟩ = some (.int .i64 x.1) ∧ w.cell? ⟨b, off + i * 3 + 1, none⟩ = some (.int .i64 x.2.1) ∧ w.cell? ⟨b, off + i * 3 + 2, none⟩ = some (.int .i64 x.2.2)
theorem Ir.nil (n : Nat) (w : World) (A : Option Addr) : Ir n w A [] := fun h => by simp at h
theorem Ir.below {n : Nat} {w w' : World} {A : Option Addr} {l : List Itm} (h : Ir n w A l) (hb : Below n w w') : Ir n w' A l := fun hp => by
  obtain ⟨b, off, e, hlt, hc⟩ := h hp
  refine ⟨b, off, e, hlt, fun i x hx => ?_⟩
  obtain ⟨h1, h2, h3⟩ := hc i x hx
  exact ⟨(hb.cell (p := ⟨b, off + i * 3, none⟩) hlt).trans h1, (hb.cell (p := ⟨b, off + i * 3 + 1, none⟩) hlt).trans h2, (hb.cell (p := ⟨b, off + i * 3 + 2, none⟩) hlt).trans h3⟩
theorem Ir.mono {n m : Nat} {w : World} {A : Option Addr} {l : List Itm} (h : Ir n w A l) (hn : n ≤ m) : Ir m w A l := fun hp => by
  obtain ⟨b, off, e, hlt, hc⟩ := h hp
  exact ⟨b, off, e, by omega, hc⟩
theorem Ir.at {n : Nat} {w : World} {A : Option Addr} {l : List Itm} (h : Ir n w A l) {i : Nat} (hi : i < l.length) :
    ∃ b off, A = some ⟨b, off, none⟩ ∧ b < n ∧ w.cell? ⟨b, off + i * 3, none⟩ = some (.int .i64 l[i].1) ∧ w.cell? ⟨b, off + i * 3 + 1, none⟩ = some (.int .i64 l[i].2.1) ∧ w.cell? ⟨b, off + i * 3 + 2, none⟩ = some (.int .i64 l[i].2.2) := by
  obtain ⟨b, off, e, hlt, hc⟩ := h (by omega)
  obtain ⟨h1, h2, h3⟩ := hc i l[i] (List.getElem?_eq_getElem hi)
  exact ⟨b, off, e, hlt, h1, h2, h3⟩
/-- A part of a row of picks. -/
theorem Ir.part {n : Nat} {w : World} {b off : Nat} {l : List Itm} (h : Ir n w (some ⟨b, off, none⟩) l) (i k : Nat) : Ir n w (some ⟨b, off + i * 3, none⟩) ((l.drop i).take k) := fun hp => by
  have hl : 0 < l.length := by simp at hp; omega
  obtain ⟨b', off', e, hlt, hc⟩ := h hl
  cases e
  refine ⟨b, off + i * 3, rfl, hlt, fun j x hx => ?_⟩
  rw [List.getElem?_take] at hx
  split at hx
  · rw [List.getElem?_drop] at hx
    have := hc (i + j) x hx
    rw [show off + (i + j) * 3 = off + i * 3 + j * 3 by omega] at this
    exact this
  · cases hx
/-- The call owns the picks l, in a block from number 'base' on. -/
def Iow (w : World) (base : Nat) (A : Option Addr) (n c : Nat) (l : List Itm) : Prop := w.ownsRow base 53 3 (.slice A n c) n (iflat l)
theorem Iow.len {w : World} {base : Nat} {A : Option Addr} {n c : Nat} {l : List Itm} (h : Iow w base A n c l) : l.length = n := by
  have := h.1
  rw [iflat_len] at this
  omega
theorem Iow.nil (w : World) (base : Nat) : Iow w base none 0 0 [] := World.ownsRow_nil _ _ _ _
theorem Iow.alloc {w : World} {base : Nat} {A : Option Addr} {n c : Nat} {l : List Itm} (h : Iow w base A n c l) (o : Obj) : Iow (w.alloc o) base A n c l := World.ownsRow.alloc h _
theorem Iow.kept {w w' : World} {base : Nat} {A : Option Addr} {n c : Nat} {l : List Itm} (h : Iow w base A n c l) (hk : ∀ k, (Value.slice A n c).ownBlock = some k → w'.heap[k]? = w.heap[k]?) : Iow w' base A n c l := by
  refine ⟨h.1, ?_⟩
  rcases h.2 with h2 | ⟨g, cap, cur, hv, hbg, hg, hr⟩
  · exact .inl h2
  · exact .inr ⟨g, cap, cur, hv, hbg, (hk g (by rw [hv]; rfl)).trans hg, hr⟩
theorem Iow.below {w w' : World} {base : Nat} {A : Option Addr} {n c : Nat} {l : List Itm} (h : Iow w base A n c l) (hb : Below w.heap.size w w') : Iow w' base A n c l :=
  h.kept fun k hk => hb.block k (World.ownsRow.lt h k hk).2
theorem Iow.at {w : World} {base : Nat} {A : Option Addr} {n c : Nat} {l : List Itm} (h : Iow w base A n c l) (hp : 0 < n) :
    ∃ g, A = some ⟨g, 0, none⟩ ∧ base ≤ g ∧ g < w.heap.size ∧ ∀ j v, (iflat l)[j]? = some v → w.cell? ⟨g, j, none⟩ = some v := by
  rcases h.2 with ⟨hv, hx⟩ | ⟨g, cap, cur, hv, hbg, hg, hr⟩
  · omega
  · injection hv with hA _ hc
    subst hA
    refine ⟨g, rfl, hbg, (Array.getElem?_eq_some_iff.1 hg).1, fun j v hv => ?_⟩
    have := World.ownsRow.cells h (g := g) rfl j v hv
    rwa [add_zero'] at this
theorem Iow.ir {w : World} {base : Nat} {A : Option Addr} {n c : Nat} {l : List Itm} (h : Iow w base A n c l) : Ir w.heap.size w A l := fun hp => by
  have hl := h.len
  obtain ⟨g, rfl, hbg, hlt, hc⟩ := h.at (by omega)
  refine ⟨g, 0, rfl, hlt, fun i x hx => ?_⟩
  obtain ⟨f1, f2, f3⟩ := iflat_at l i x hx
  rw [Nat.zero_add]
  exact ⟨hc _ _ f1, hc _ _ f2, hc _ _ f3⟩
/-- Where picks to be appended are. -/
def Isrc (w : World) (B : Option Addr) (l : List Itm) : Prop := (B = none → l = []) ∧ ∀ ad, B = some ad → ∀ j v, (iflat l)[j]? = some v → w.cell? (ad.add j) = some v
theorem Ir.src {n : Nat} {w : World} {A : Option Addr} {l : List Itm} (h : Ir n w A l) : Isrc w A l := by
  refine ⟨fun e => ?_, fun ad e j v hv => ?_⟩
  · cases l with
    | nil => rfl
    | cons x l => obtain ⟨b, off, e', _⟩ := h (by simp); rw [e] at e'; cases e'
  · have hj := (List.getElem?_eq_some_iff.1 hv).1
    rw [iflat_len] at hj
    obtain ⟨b, off, e', hlt, hc⟩ := h (by omega)
    rw [e'] at e
    cases e
    rw [add_plain']
    have hi : j / 3 < l.length := by omega
    have hx : l[j / 3]? = some l[j / 3] := List.getElem?_eq_getElem hi
    obtain ⟨f1, f2, f3⟩ := iflat_at l (j / 3) _ hx
    obtain ⟨c1, c2, c3⟩ := hc (j / 3) _ hx
    have h3 : j % 3 = 0 ∨ j % 3 = 1 ∨ j % 3 = 2 := by omega
    rcases h3 with e | e | e
    · rw [show j / 3 * 3 = j by omega] at f1 c1
      rw [f1] at hv; cases hv; exact c1
    · rw [show j / 3 * 3 + 1 = j by omega] at f2
      rw [show off + j / 3 * 3 + 1 = off + j by omega] at c2
      rw [f2] at hv; cases hv; exact c2
    · rw [show j / 3 * 3 + 2 = j by omega] at f3
      rw [show off + j / 3 * 3 + 2 = off + j by omega] at c3
      rw [f3] at hv; cases hv; exact c3
theorem isrc_new (w : World) (x : Itm) : Isrc (w.alloc (.cells #[.int .i64 x.1, .int .i64 x.2.1, .int .i64 x.2.2] 53)) (some ⟨w.heap.size, 0, none⟩) [x] := by
  refine ⟨(fun e => by cases e), fun ad e j v hv => ?_⟩
  cases e
  rw [add_zero']
  have h := heap_alloc_new w (.cells #[.int .i64 x.1, .int .i64 x.2.1, .int .i64 x.2.2] 53)
  simp only [World.cell?, h]
  have hj := (List.getElem?_eq_some_iff.1 hv).1
  rw [iflat_len] at hj
  simp at hj
  match j, hj, hv with
  | 0, _, hv => simpa [iflat, ic] using hv
  | 1, _, hv => simpa [iflat, ic] using hv
  | 2, _, hv => simpa [iflat, ic] using hv
theorem Tryz.info53 : (Tryz.prog.info? 53).map (fun i => (i.zero, i.size, i.bytes)) = some (some (.agg #[.int .i64 0, .int .i64 0, .int .i64 0]), 3, 24) := by kernel_rfl
/-- Picks appended to picks. -/
theorem app_items {w : World} {base : Nat} {Q : Option Addr} {n d : Nat} {l k : List Itm} (h : Iow w base Q n d l) {B : Option Addr} (c : Nat) (hs : Isrc w B k) {m : Nat} (hm : k.length = m) (hz : n + m ≤ 100000) (hb : base ≤ w.heap.size) :
    ∃ Q' d' w', (Builtin.append_ #[27, 27] 27 #[.slice Q n d, .slice B m c]).run Tryz.prog w = .ok (.slice Q' (n + m) d') w' ∧ Iow w' base Q' (n + m) d' (l ++ k) ∧ w.grownBy w' (Value.slice Q n d).ownBlock ∧ Below base w w' := by
  obtain ⟨i0, hi0, hz'⟩ := Option.map_eq_some_iff.1 Tryz.info53
  simp only [Prod.mk.injEq] at hz'
  obtain ⟨hz0, hz1, hz2⟩ := hz'
  obtain ⟨s2, s3⟩ := hs
  rcases B with _ | ad
  · obtain rfl := s2 rfl
    simp at hm
    subst hm
    refine ⟨Q, d, w, ?_, by simpa using h, ⟨rfl, rfl, rfl, Nat.le_refl _, fun _ _ _ => rfl⟩, Below.refl _ _⟩
    rcases h.2 with ⟨hv, _⟩ | ⟨g, cap, cur, hv, _, _, hnc, _⟩
    · injection hv with hA hn hc
      subst hA hn hc
      simp [Builtin.append_, run_underlying Tryz.underlying27, sizeOf, typeInfo, hi0, Builtin.lenOf, Builtin.firstCells]
    · injection hv with hA hn hc
      subst hA hc
      simp [Builtin.append_, run_underlying Tryz.underlying27, sizeOf, typeInfo, hi0, Builtin.lenOf, Builtin.firstCells, hnc, storeCells]
  · obtain ⟨v', w', hrun, g2, g3, _, g5⟩ := run_append_own_at (P := Tryz.prog) w base 27 27 53 i0 (.agg #[.int .i64 0, .int .i64 0, .int .i64 0]) 3 24 Tryz.underlying27 hi0 hz0 hz1 hz2 rfl (by omega) _ n _ h ad m c (iflat k) (by rw [iflat_len, hm])
      (s3 ad rfl) (iflat_one k) (by simp only [maxLen]; omega) (by omega) hb
    have fin : ∃ Q' d', v' = .slice Q' (n + m) d' := by
      rcases g2.2 with ⟨e1, e2⟩ | ⟨g, cap, cur, e1, _⟩
      · exact ⟨none, 0, by rw [e1, show n + m = 0 from e2]⟩
      · exact ⟨_, cap, e1⟩
    obtain ⟨Q', d', rfl⟩ := fin
    exact ⟨Q', d', w', hrun, by unfold Iow; rw [iflat_append]; exact g2, g3, (Below.refl base w).grown g3 hb (fun j hj => (World.ownsRow.lt h j hj).1)⟩
/-- One pick more: a box of its own, then the append. -/
theorem iapp_one {w : World} {base : Nat} {Q : Option Addr} {n d : Nat} {l : List Itm} (h : Iow w base Q n d l) (x : Itm) (hz : n + 1 ≤ 100000) (hb : base ≤ w.heap.size) :
    ∃ Q' d' w', (Builtin.append_ #[27, 27] 27 #[.slice Q n d, .slice (some ⟨w.heap.size, 0, none⟩) 1 1]).run Tryz.prog (w.alloc (.cells #[.int .i64 x.1, .int .i64 x.2.1, .int .i64 x.2.2] 53)) = .ok (.slice Q' (n + 1) d') w' ∧ Iow w' base Q' (n + 1) d' (l ++ [x]) ∧ Below base w w' := by
  obtain ⟨Q', d', w', h1, h2, _, h4⟩ := app_items (h.alloc (.cells #[.int .i64 x.1, .int .i64 x.2.1, .int .i64 x.2.2] 53)) 1 (isrc_new w x) (m := 1) rfl hz (by simp; omega)
  exact ⟨Q', d', w', h1, h2, ((Below.refl base w).alloc hb _).trans h4⟩
/-- A call that hands back a row of picks, in new memory. -/
def RetI (w : World) (l : List Itm) (e : Ending) (w' : World) : Prop := ∃ A c, e = .returned (.slice A l.length c) ∧ Iow w' w.heap.size A l.length c l ∧ Below w.heap.size w w'
end Go.Proofs.YtlpkccpijloidaaGreat.Fo
namespace Go.Proofs.YtlpkccpijloidaaGreat.Fo
set_option maxRecDepth 100000
open Go.RowKit Go.Deep
theorem Tryz.struct53 : Tryz.prog.underlying 53 = some (.struct (Tryz.prog.fieldsOf 53)) := by kernel_rfl
theorem Tryz.held53 : Tryz.prog.stoodInHeld 53 = false := by kernel_rfl
theorem Tryz.guard53 : Tryz.prog.eqGuardType Tryz.prog.depth 53 = false := by kernel_rfl
theorem ieq_in (a b c a' b' c' : Int) (w : World) : (Op.equalIn 10000 53 (.agg #[.int .i64 a, .int .i64 b, .int .i64 c]) (.agg #[.int .i64 a', .int .i64 b', .int .i64 c'])).run Tryz.prog w = .ok (decide ((a, b, c) = (a', b', c'))) w := by
  have u3 := Tryz.underlying3
  have a3 := Tryz.isAgg3
  have z3 := Tryz.sizeOf3
  rw [show (10000 : Nat) = 9999 + 1 from rfl, run_equalIn_agg w 9999 53 _ _ Tryz.struct53 Tryz.held53]
  simp only [Program.fieldsOf, Tryz.underlying53]
  go_simp
  by_cases h1 : a = a' <;> by_cases h2 : b = b' <;> by_cases h3 : c = c' <;> simp [h1, h2, h3]
/-- Are two items the same? -/
def ie (a b c a' b' c' : Int) : Bool := decide ((a, b, c) = (a', b', c'))
theorem ie_yes {x y : Itm} (h : x = y) : ie x.1 x.2.1 x.2.2 y.1 y.2.1 y.2.2 = true := decide_eq_true h
theorem ie_no {x y : Itm} (h : ¬ x = y) : ie x.1 x.2.1 x.2.2 y.1 y.2.1 y.2.2 = false := decide_eq_false h
theorem eql_it (a b c a' b' c' : Int) (w : World) : (binOp .eql 53 (.agg #[.int .i64 a, .int .i64 b, .int .i64 c]) (.agg #[.int .i64 a', .int .i64 b', .int .i64 c'])).run Tryz.prog w = .ok (.bool (ie a b c a' b' c')) w := by
  rw [run_eql_struct, ieq_in]; rfl
theorem neq_it (a b c a' b' c' : Int) (w : World) : (binOp .neq 53 (.agg #[.int .i64 a, .int .i64 b, .int .i64 c]) (.agg #[.int .i64 a', .int .i64 b', .int .i64 c'])).run Tryz.prog w = .ok (.bool (!ie a b c a' b' c')) w := by
  rw [run_neq_struct, ieq_in]; rfl
theorem guard_it (op : BinOp) (x y : Operand) (xs ys : Array Value) (w : World) : (eqGuard op 53 x y (.agg xs) (.agg ys)).run Tryz.prog w = .ok () w := run_eqGuard_agg w op 53 x y xs ys Tryz.guard53
end Go.Proofs.YtlpkccpijloidaaGreat.Fo
