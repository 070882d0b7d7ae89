/- Merged: DeA, DeR, DeC, DeW, DeD. -/
import Derived.Test.YtppllanmgdhabaaFrB
import Derived.Maps.AppendAt
import Derived.Laws.MakeOwn
import Derived.RangeFuncOwn
import Derived.RangeFuncNested
import Derived.RangeFuncBound
import Derived.RangeFuncCalls
import Derived.RangeFuncLeaves
import Derived.Shelf.Abstract
import Derived.Shelf.RegionOpen
import Derived.OwnWalkIn
import Derived.TacticsInMore
import Derived.LoopNIn
import Derived.LoopIn
import Derived.Test.YtppllanmgdhabaaFrH2
import Derived.Laws.OwnMore
import Derived.Laws.CopyRow
import Derived.Deep.RegionLaw
import Derived.Laws.Bits64b
import Derived.Test.YtppllanmgdhabaaPuE
import Derived.Test.YtppllanmgdhabaaPuF
import Derived.Deep.RegionHeld3
import Derived.OrdersIn
import Derived.Test.YtppllanmgdhabaaCellR
import Derived.BigQuiet
namespace Go.Proofs.Ytppllanmgdhabaa
open Go.RowKit Go.Deep
/-- A call's cells. -/
def pc (f : Fr) : List Value := [.int .i64 f.op, .int .i64 f.pc, .int .i64 f.who, .int .u64 f.val, .int .u64 f.x, .int .u64 f.y, .int .i64 f.res]
/-- The cells of calls. -/
def flat (l : List Fr) : List Value := l.flatMap pc
set_option maxRecDepth 100000 in
theorem flat_len (l : List Fr) : (flat l).length = l.length * 7 := by
  induction l with
  | nil => rfl
  | cons x l ih => simp [flat, pc] at ih ⊢; omega
set_option maxRecDepth 100000 in
theorem flat_append (l k : List Fr) : flat (l ++ k) = flat l ++ flat k := by simp [flat]
set_option maxRecDepth 100000 in
theorem flat_one (l : List Fr) : ∀ v ∈ flat l, v.oneCell' = true := by
  intro v hv
  simp only [flat, List.mem_flatMap] at hv
  obtain ⟨x, _, hx⟩ := hv
  simp only [pc, List.mem_cons, List.not_mem_nil, or_false] at hx
  rcases hx with rfl | rfl | rfl | rfl | rfl | rfl | rfl <;> rfl
set_option maxRecDepth 100000 in
theorem flat_get : ∀ (l : List Fr) (i : Nat) (x : Fr), l[i]? = some x → ∀ j, j < 7 → (flat l)[i * 7 + j]? = (pc x)[j]?
  | y :: l, 0, x, h => fun j hj => by
    simp at h; subst h
    rw [Nat.zero_mul, Nat.zero_add]
    simp only [flat, List.flatMap_cons]
    rw [List.getElem?_append_left (by simp [pc]; omega)]
  | y :: l, i + 1, x, h => fun j hj => by
    have := flat_get l i x (by simpa using h) j hj
    have e : flat (y :: l) = pc y ++ flat l := by simp [flat]
    rw [e, List.getElem?_append_right (by simp [pc]; omega), ← this]
    congr 1
    simp [pc]; omega
  | [], _, _, h => by simp at h
/-- The seven cells of a call, from place k of block b on. -/
structure C7 (w : World) (b k : Nat) (f : Fr) : Prop where
  c0 : w.cell? ⟨b, k, none⟩ = some (.int .i64 f.op)
  c1 : w.cell? ⟨b, k + 1, none⟩ = some (.int .i64 f.pc)
  c2 : w.cell? ⟨b, k + 2, none⟩ = some (.int .i64 f.who)
  c3 : w.cell? ⟨b, k + 3, none⟩ = some (.int .u64 f.val)
  c4 : w.cell? ⟨b, k + 4, none⟩ = some (.int .u64 f.x)
  c5 : w.cell? ⟨b, k + 5, none⟩ = some (.int .u64 f.y)
  c6 : w.cell? ⟨b, k + 6, none⟩ = some (.int .i64 f.res)
set_option maxRecDepth 100000 in
theorem C7.all {w : World} {b k : Nat} {f : Fr} (h : C7 w b k f) : ∀ j v, (pc f)[j]? = some v → w.cell? ⟨b, k + j, none⟩ = some v := by
  intro j v hv
  have hj := (List.getElem?_eq_some_iff.1 hv).1
  have hj : j < 7 := by simpa [pc] using hj
  have hc : j = 0 ∨ j = 1 ∨ j = 2 ∨ j = 3 ∨ j = 4 ∨ j = 5 ∨ j = 6 := by omega
  rcases hc with rfl | rfl | rfl | rfl | rfl | rfl | rfl <;> (simp [pc] at hv; subst hv)
  · exact h.c0
  · exact h.c1
  · exact h.c2
  · exact h.c3
  · exact h.c4
  · exact h.c5
  · exact h.c6
set_option maxRecDepth 100000 in
theorem C7.of {w : World} {b k : Nat} {f : Fr} (h : ∀ j v, (pc f)[j]? = some v → w.cell? ⟨b, k + j, none⟩ = some v) : C7 w b k f :=
  ⟨h 0 _ rfl, h 1 _ rfl, h 2 _ rfl, h 3 _ rfl, h 4 _ rfl, h 5 _ rfl, h 6 _ rfl⟩
set_option maxRecDepth 100000 in
theorem C7.same {w w' : World} {b k : Nat} {f : Fr} (h : C7 w b k f) (e : w'.heap[b]? = w.heap[b]?) : C7 w' b k f :=
  C7.of fun j v hv => (World.cell?_of_block e).trans (h.all j v hv)
/-- The slice at A reads as the calls l, in a block below n. -/
def Pr (n : Nat) (w : World) (A : Option Addr) (l : List Fr) : Prop :=
  0 < l.length → ∃ b off, A = some ⟨b, off, none⟩ ∧ b < n ∧ ∀ i x, l[i]? = some x → C7 w b (off + i * 7) x
set_option maxRecDepth 100000 in
theorem add_plain' (b off j : Nat) : (⟨b, off, none⟩ : Addr).add j = ⟨b, off + j, none⟩ := by
  unfold Addr.add; split
  · rename_i h; subst h; rfl
  · rfl
set_option maxRecDepth 100000 in
theorem Pr.nil (n : Nat) (w : World) (A : Option Addr) : Pr n w A [] := fun h => by simp at h
set_option maxRecDepth 100000 in
theorem Pr.same {n : Nat} {w w' : World} {A : Option Addr} {l : List Fr} (h : Pr n w A l) (hb : ∀ b, b < n → (∃ o, w.heap[b]? = some o ∧ o.isCells = true) → w'.heap[b]? = w.heap[b]?) : Pr n w' A l := fun hp => by
  obtain ⟨b, off, e, hlt, hc⟩ := h hp
  have := (hc 0 l[0] (List.getElem?_eq_getElem hp)).c0
  exact ⟨b, off, e, hlt, fun i x hx => (hc i x hx).same (hb b hlt (cells_of_cell this))⟩
set_option maxRecDepth 100000 in
theorem Pr.below {n : Nat} {w w' : World} {A : Option Addr} {l : List Fr} (h : Pr n w A l) (hb : Below n w w') : Pr n w' A l :=
  h.same fun b hlt _ => hb.block b hlt
set_option maxRecDepth 100000 in
theorem Pr.mono {n m : Nat} {w : World} {A : Option Addr} {l : List Fr} (h : Pr n w A l) (hn : n ≤ m) : Pr m w A l := fun hp => by
  obtain ⟨b, off, e, hlt, hc⟩ := h hp
  exact ⟨b, off, e, by omega, hc⟩
set_option maxRecDepth 100000 in
theorem Pr.later {w w' : World} {A : Option Addr} {l : List Fr} (h : Pr w.heap.size w A l) (hb : Below w.heap.size w w') : Pr w'.heap.size w' A l := (h.below hb).mono hb.size
set_option maxRecDepth 100000 in
theorem Pr.at {n : Nat} {w : World} {A : Option Addr} {l : List Fr} (h : Pr n w A l) {i : Nat} (hi : i < l.length) :
    ∃ b off, A = some ⟨b, off, none⟩ ∧ b < n ∧ C7 w b (off + i * 7) l[i] := by
  obtain ⟨b, off, e, hlt, hc⟩ := h (by omega)
  exact ⟨b, off, e, hlt, hc i l[i] (List.getElem?_eq_getElem hi)⟩
set_option maxRecDepth 100000 in
/-- A part of a row of calls. -/
theorem Pr.part {n : Nat} {w : World} {b off : Nat} {l : List Fr} (h : Pr n w (some ⟨b, off, none⟩) l) (i k : Nat) : Pr n w (some ⟨b, off + i * 7, none⟩) ((l.drop i).take k) := fun hp => by
  have hl : 0 < l.length := by simp at hp; omega
  obtain ⟨b', off', e, hlt, hc⟩ := h hl
  cases e
  refine ⟨b, off + i * 7, rfl, hlt, fun j x hx => ?_⟩
  rw [List.getElem?_take] at hx
  split at hx
  · rw [List.getElem?_drop] at hx
    have := hc (i + j) x hx
    rw [show off + (i + j) * 7 = off + i * 7 + j * 7 by omega] at this
    exact this
  · cases hx
set_option maxRecDepth 100000 in
theorem Pr.tail {n : Nat} {w : World} {b off : Nat} {x : Fr} {l : List Fr} (h : Pr n w (some ⟨b, off, none⟩) (x :: l)) : Pr n w (some ⟨b, off + 7, none⟩) l := by
  have := h.part 1 l.length
  simpa using this
/-- The call owns the row l, in a block from number 'base' on. -/
def Ow (w : World) (base : Nat) (A : Option Addr) (n c : Nat) (l : List Fr) : Prop := w.ownsRow base 28 7 (.slice A n c) n (flat l)
set_option maxRecDepth 100000 in
theorem Ow.len {w : World} {base : Nat} {A : Option Addr} {n c : Nat} {l : List Fr} (h : Ow w base A n c l) : l.length = n := by
  have := h.1
  rw [flat_len] at this
  omega
set_option maxRecDepth 100000 in
theorem Ow.nil (w : World) (base : Nat) : Ow w base none 0 0 [] := World.ownsRow_nil _ _ _ _
set_option maxRecDepth 100000 in
theorem Ow.alloc {w : World} {base : Nat} {A : Option Addr} {n c : Nat} {l : List Fr} (h : Ow w base A n c l) (o : Obj) : Ow (w.alloc o) base A n c l := World.ownsRow.alloc h _
set_option maxRecDepth 100000 in
theorem Ow.kept {w w' : World} {base : Nat} {A : Option Addr} {n c : Nat} {l : List Fr} (h : Ow w base A n c l) (hk : ∀ k, (Value.slice A n c).ownBlock = some k → w'.heap[k]? = w.heap[k]?) : Ow w' base A n c l := by
  refine ⟨h.1, ?_⟩
  rcases h.2 with h2 | ⟨g, cap, cur, hv, hbg, hg, hr⟩
  · exact .inl h2
  · exact .inr ⟨g, cap, cur, hv, hbg, (hk g (by rw [hv]; rfl)).trans hg, hr⟩
set_option maxRecDepth 100000 in
theorem Ow.below {w w' : World} {base : Nat} {A : Option Addr} {n c : Nat} {l : List Fr} (h : Ow w base A n c l) (hb : Below w.heap.size w w') : Ow w' base A n c l :=
  h.kept fun k hk => hb.block k (World.ownsRow.lt h k hk).2
set_option maxRecDepth 100000 in
theorem Ow.at {w : World} {base : Nat} {A : Option Addr} {n c : Nat} {l : List Fr} (h : Ow w base A n c l) (hp : 0 < n) :
    ∃ g, A = some ⟨g, 0, none⟩ ∧ base ≤ g ∧ g < w.heap.size ∧ ∀ j v, (flat l)[j]? = some v → w.cell? ⟨g, j, none⟩ = some v := by
  rcases h.2 with ⟨hv, hx⟩ | ⟨g, cap, cur, hv, hbg, hg, hr⟩
  · omega
  · injection hv with hA _ hc
    subst hA
    refine ⟨g, rfl, hbg, (Array.getElem?_eq_some_iff.1 hg).1, fun j v hv => ?_⟩
    have := World.ownsRow.cells h (g := g) rfl j v hv
    rwa [add_zero'] at this
set_option maxRecDepth 100000 in
theorem Ow.pr {w : World} {base : Nat} {A : Option Addr} {n c : Nat} {l : List Fr} (h : Ow w base A n c l) : Pr w.heap.size w A l := fun hp => by
  have hl := h.len
  obtain ⟨g, rfl, hbg, hlt, hc⟩ := h.at (by omega)
  refine ⟨g, 0, rfl, hlt, fun i x hx => C7.of fun j v hv => ?_⟩
  have hj : j < 7 := by have := (List.getElem?_eq_some_iff.1 hv).1; simpa [pc] using this
  rw [Nat.zero_add]
  exact hc _ _ ((flat_get l i x hx j hj).trans hv)
/-- Where calls to be appended are. -/
def Src (w : World) (B : Option Addr) (l : List Fr) : Prop := (B = none → l = []) ∧ ∀ ad, B = some ad → ∀ j v, (flat l)[j]? = some v → w.cell? (ad.add j) = some v
set_option maxRecDepth 100000 in
theorem Pr.src {n : Nat} {w : World} {A : Option Addr} {l : List Fr} (h : Pr n w A l) : Src w A l := by
  refine ⟨fun e => ?_, fun ad e j v hv => ?_⟩
  · cases l with
    | nil => rfl
    | cons x l => obtain ⟨b, off, e', _⟩ := h (by simp); rw [e] at e'; cases e'
  · have hj := (List.getElem?_eq_some_iff.1 hv).1
    rw [flat_len] at hj
    obtain ⟨b, off, e', hlt, hc⟩ := h (by omega)
    rw [e'] at e
    cases e
    rw [add_plain']
    have hi : j / 7 < l.length := by omega
    have hx : l[j / 7]? = some l[j / 7] := List.getElem?_eq_getElem hi
    have hm : j % 7 < 7 := Nat.mod_lt _ (by omega)
    have hg := flat_get l (j / 7) _ hx (j % 7) hm
    have ej : j / 7 * 7 + j % 7 = j := by omega
    rw [ej] at hg
    rw [hg] at hv
    have := (hc (j / 7) _ hx).all (j % 7) v hv
    rw [Nat.add_assoc, ej] at this
    exact this
set_option maxRecDepth 100000 in
theorem pc_new (w : World) (x : Fr) : ∀ j v, (pc x)[j]? = some v → (w.alloc (.cells #[.int .i64 x.op, .int .i64 x.pc, .int .i64 x.who, .int .u64 x.val, .int .u64 x.x, .int .u64 x.y, .int .i64 x.res] 28)).cell? ⟨w.heap.size, j, none⟩ = some v := by
  intro j v hv
  have h := heap_alloc_new w (.cells #[.int .i64 x.op, .int .i64 x.pc, .int .i64 x.who, .int .u64 x.val, .int .u64 x.x, .int .u64 x.y, .int .i64 x.res] 28)
  simp only [World.cell?, h]
  have hj : j < 7 := by have := (List.getElem?_eq_some_iff.1 hv).1; simpa [pc] using this
  have hc : j = 0 ∨ j = 1 ∨ j = 2 ∨ j = 3 ∨ j = 4 ∨ j = 5 ∨ j = 6 := by omega
  rcases hc with rfl | rfl | rfl | rfl | rfl | rfl | rfl <;> simpa [pc] using hv
set_option maxRecDepth 100000 in
theorem src_new (w : World) (x : Fr) : Src (w.alloc (.cells #[.int .i64 x.op, .int .i64 x.pc, .int .i64 x.who, .int .u64 x.val, .int .u64 x.x, .int .u64 x.y, .int .i64 x.res] 28)) (some ⟨w.heap.size, 0, none⟩) [x] := by
  refine ⟨(fun e => by cases e), fun ad e j v hv => ?_⟩
  cases e
  rw [add_zero']
  exact pc_new w x j v (by simpa [flat] using hv)
set_option maxRecDepth 100000 in
theorem Try.info28 : (Try.prog.info? 28).map (fun i => (i.zero, i.size, i.bytes)) = some (some (.agg #[.int .i64 0, .int .i64 0, .int .i64 0, .int .u64 0, .int .u64 0, .int .u64 0, .int .i64 0]), 7, 56) := by kernel_rfl
set_option maxRecDepth 100000 in
theorem Try.size28 : (Try.prog.info? 28).map (·.size) = some 7 := by kernel_rfl
set_option maxRecDepth 100000 in
/-- Calls appended to calls. -/
theorem app_frs {w : World} {base : Nat} {Q : Option Addr} {n d : Nat} {l k : List Fr} (h : Ow w base Q n d l) {B : Option Addr} (c : Nat) (hs : Src w B k) {m : Nat} (hm : k.length = m) (hz : n + m ≤ 10000) (hb : base ≤ w.heap.size) :
    ∃ Q' d' w', (Builtin.append_ #[31, 31] 31 #[.slice Q n d, .slice B m c]).run Try.prog w = .ok (.slice Q' (n + m) d') w' ∧ Ow w' base Q' (n + m) d' (l ++ k) ∧ w.grownBy w' (Value.slice Q n d).ownBlock ∧ Below base w w' ∧ ((Value.slice Q' (n + m) d').ownBlock = (Value.slice Q n d).ownBlock ∨ (Value.slice Q' (n + m) d').ownBlock = some w.heap.size) := by
  obtain ⟨i0, hi0, hz'⟩ := Option.map_eq_some_iff.1 Try.info28
  simp only [Prod.mk.injEq] at hz'
  obtain ⟨hz0, hz1, hz2⟩ := hz'
  obtain ⟨s2, s3⟩ := hs
  rcases B with _ | ad
  · obtain rfl := s2 rfl
    simp at hm
    subst hm
    refine ⟨Q, d, w, ?_, by simpa using h, ⟨rfl, rfl, rfl, Nat.le_refl _, fun _ _ _ => rfl⟩, Below.refl _ _, .inl ?_⟩
    rotate_left
    · rw [Nat.add_zero]
    rcases h.2 with ⟨hv, _⟩ | ⟨g, cap, cur, hv, _, _, hnc, _⟩
    · injection hv with hA hn hc
      subst hA hn hc
      simp [Builtin.append_, run_underlying Try.underlying31, sizeOf, typeInfo, hi0, Builtin.lenOf, Builtin.firstCells]
    · injection hv with hA hn hc
      subst hA hc
      simp [Builtin.append_, run_underlying Try.underlying31, sizeOf, typeInfo, hi0, Builtin.lenOf, Builtin.firstCells, hnc, storeCells]
  · obtain ⟨v', w', hrun, g2, g3, _, g5⟩ := run_append_own_at (P := Try.prog) w base 31 31 28 i0 (.agg #[.int .i64 0, .int .i64 0, .int .i64 0, .int .u64 0, .int .u64 0, .int .u64 0, .int .i64 0]) 7 56 Try.underlying31 hi0 hz0 hz1 hz2 rfl (by omega) _ n _ h ad m c (flat k) (by rw [flat_len, hm])
      (s3 ad rfl) (flat_one k) (by simp only [maxLen]; omega) (by omega) hb
    have fin : ∃ Q' d', v' = .slice Q' (n + m) d' := by
      rcases g2.2 with ⟨e1, e2⟩ | ⟨g, cap, cur, e1, _⟩
      · exact ⟨none, 0, by rw [e1, show n + m = 0 from e2]⟩
      · exact ⟨_, cap, e1⟩
    obtain ⟨Q', d', rfl⟩ := fin
    exact ⟨Q', d', w', hrun, by unfold Ow; rw [flat_append]; exact g2, g3, (Below.refl base w).grown g3 hb (fun j hj => (World.ownsRow.lt h j hj).1), g5⟩
set_option maxRecDepth 100000 in
/-- One call more: a box of its own, then the append. -/
theorem app_one {w : World} {base : Nat} {Q : Option Addr} {n d : Nat} {l : List Fr} (h : Ow w base Q n d l) (x : Fr) (hz : n + 1 ≤ 10000) (hb : base ≤ w.heap.size) :
    ∃ Q' d' w', (Builtin.append_ #[31, 31] 31 #[.slice Q n d, .slice (some ⟨w.heap.size, 0, none⟩) 1 1]).run Try.prog (w.alloc (.cells #[.int .i64 x.op, .int .i64 x.pc, .int .i64 x.who, .int .u64 x.val, .int .u64 x.x, .int .u64 x.y, .int .i64 x.res] 28)) = .ok (.slice Q' (n + 1) d') w' ∧ Ow w' base Q' (n + 1) d' (l ++ [x]) ∧ (w.alloc (.cells #[.int .i64 x.op, .int .i64 x.pc, .int .i64 x.who, .int .u64 x.val, .int .u64 x.x, .int .u64 x.y, .int .i64 x.res] 28)).grownBy w' (Value.slice Q n d).ownBlock ∧ Below base w w' ∧ ((Value.slice Q' (n + 1) d').ownBlock = (Value.slice Q n d).ownBlock ∨ (Value.slice Q' (n + 1) d').ownBlock = some (w.heap.size + 1)) := by
  obtain ⟨Q', d', w', h1, h2, h3, h4, h5⟩ := app_frs (h.alloc (.cells #[.int .i64 x.op, .int .i64 x.pc, .int .i64 x.who, .int .u64 x.val, .int .u64 x.x, .int .u64 x.y, .int .i64 x.res] 28)) 1 (src_new w x) (m := 1) rfl hz (by simp; omega)
  exact ⟨Q', d', w', h1, h2, h3, ((Below.refl base w).alloc hb _).trans h4, by simpa using h5⟩
set_option maxRecDepth 100000 in
/-- An append whose run is known, at a list of operations, guarded or not. -/
theorem wpList_append_fr {P : Program} {w : World} {ops : Array Oper} {rest : List Oper} {o : Oper} {a : Act} {Q : Exit → Act → World → Prop} {t u : TypeId} {v xv v' : Value} {w' : World}
    (hrun : (Builtin.append_ #[t, t] u #[v, xv]).run P w = .ok v' w')
    (ho : ∃ s x, o.op = .call { callee := .builtin .append, args := #[s, x], argTypes := #[t, t] } ∧ a.eval s = v ∧ a.eval x = xv) (hu : o.type = u) (hw : Region.wanted o (yielded ops a.tmps) = true)
    (h : wpList P ops Q rest (a.put o.dst v') w') : wpList P ops Q (o :: rest) a w := by
  obtain ⟨s, x, ho, hs, hx⟩ := ho
  refine wpList_step fun K hK => ?_
  rw [if_pos hw]
  unfold Oper.wp execOp
  simp only [ho, hu, resolve, invoke, builtin, Sem.run_bind, Sem.run_pure, Result.andThen_ok, List.map_toArray, List.map_cons, List.map_nil, hs, hx, hrun]
  exact hK _ _ h
/-- Block g holds the calls l, and nothing else. -/
def Bg (w : World) (g : Nat) (l : List Fr) : Prop := w.heap[g]? = some (.cells (flat l).toArray 28 (0, 0))
set_option maxRecDepth 100000 in
theorem Bg.lt {w : World} {g : Nat} {l : List Fr} (h : Bg w g l) : g < w.heap.size := (Array.getElem?_eq_some_iff.1 h).1
set_option maxRecDepth 100000 in
theorem Bg.c7 {w : World} {g : Nat} {l : List Fr} (h : Bg w g l) {i : Nat} {x : Fr} (hx : l[i]? = some x) : C7 w g (i * 7) x := C7.of fun j v hv => by
  have hj : j < 7 := by have := (List.getElem?_eq_some_iff.1 hv).1; simpa [pc] using this
  unfold Bg at h
  simp only [World.cell?, h]
  have := (flat_get l i x hx j hj).trans hv
  simpa using this
set_option maxRecDepth 100000 in
theorem Bg.free {w : World} {g : Nat} {l : List Fr} (h : Bg w g l) (i : Nat) : w.frozen? ⟨g, i, none⟩ = false := by
  unfold Bg at h
  simp [World.frozen?, h]
set_option maxRecDepth 100000 in
theorem Bg.pr {w : World} {g : Nat} {l : List Fr} (h : Bg w g l) {n : Nat} (hn : g < n) : Pr n w (some ⟨g, 0, none⟩) l := fun _ =>
  ⟨g, 0, rfl, hn, fun i x hx => by rw [Nat.zero_add]; exact h.c7 hx⟩
/-- The call f, laid into block g from place k on. -/
def pk7 (w : World) (g k : Nat) (f : Fr) : World := ((((((w.setCell ⟨g, k, none⟩ (.int .i64 f.op)).setCell ⟨g, k + 1, none⟩ (.int .i64 f.pc)).setCell ⟨g, k + 2, none⟩ (.int .i64 f.who)).setCell ⟨g, k + 3, none⟩ (.int .u64 f.val)).setCell ⟨g, k + 4, none⟩ (.int .u64 f.x)).setCell ⟨g, k + 5, none⟩ (.int .u64 f.y)).setCell ⟨g, k + 6, none⟩ (.int .i64 f.res)
set_option maxRecDepth 100000 in
theorem pk7_other {w : World} {g k : Nat} {f : Fr} (j : Nat) (h : j ≠ g) : (pk7 w g k f).heap[j]? = w.heap[j]? := by
  unfold pk7
  iterate 7 rw [Below.heap_setCell _ _ _ j h]
set_option maxRecDepth 100000 in
theorem pk7_size (w : World) (g k : Nat) (f : Fr) : (pk7 w g k f).heap.size = w.heap.size := by
  unfold pk7; simp
set_option maxRecDepth 100000 in
theorem below_pk7 {n : Nat} {w w' : World} (h : Below n w w') {g : Nat} (hg : n ≤ g) (k : Nat) (f : Fr) : Below n w (pk7 w' g k f) :=
  ((((((h.setCell hg _).setCell hg _).setCell hg _).setCell hg _).setCell hg _).setCell hg _).setCell hg _
set_option maxRecDepth 100000 in
theorem keeps_pk7 (w : World) (g k : Nat) (f : Fr) : KeepsOthers w (pk7 w g k f) :=
  ((((((KeepsOthers.setCell w _ _).trans (KeepsOthers.setCell _ _ _)).trans (KeepsOthers.setCell _ _ _)).trans (KeepsOthers.setCell _ _ _)).trans (KeepsOthers.setCell _ _ _)).trans (KeepsOthers.setCell _ _ _)).trans (KeepsOthers.setCell _ _ _)
set_option maxRecDepth 100000 in
theorem flat_set : ∀ (l : List Fr) (i : Nat) (f : Fr), i < l.length → flat (l.set i f) = ((((((((flat l).set (i * 7) (.int .i64 f.op)).set (i * 7 + 1) (.int .i64 f.pc)).set (i * 7 + 2) (.int .i64 f.who)).set (i * 7 + 3) (.int .u64 f.val)).set (i * 7 + 4) (.int .u64 f.x)).set (i * 7 + 5) (.int .u64 f.y)).set (i * 7 + 6) (.int .i64 f.res))
  | y :: l, 0, f, _ => by simp [flat, pc]
  | y :: l, i + 1, f, h => by
    have ih := flat_set l i f (by simpa using h)
    have e : ∀ x (m : List Fr), flat (x :: m) = pc x ++ flat m := fun x m => by simp [flat]
    rw [List.set_cons_succ, e, e, ih]
    have s : ∀ (m : List Value) (j : Nat) v, (pc y ++ m).set (7 + j) v = pc y ++ m.set j v := fun m j v => by
      rw [List.set_append_right _ _ (by simp [pc])]; simp [pc]
    rw [show (i + 1) * 7 = 7 + i * 7 by omega]
    simp only [Nat.add_assoc]
    rw [s, s, s, s, s, s, s]
  | [], _, _, h => by simp at h
set_option maxRecDepth 100000 in
theorem Bg.set {w : World} {g : Nat} {l : List Fr} (h : Bg w g l) {i : Nat} (hi : i < l.length) (f : Fr) : Bg (pk7 w g (i * 7) f) g (l.set i f) := by
  unfold Bg at h ⊢
  rw [flat_set l i f hi]
  unfold pk7
  simp [World.setCell, Array.getElem?_modify, h]
set_option maxRecDepth 100000 in
theorem Bg.other {w : World} {g g' k : Nat} {l : List Fr} (h : Bg w g l) (hne : g ≠ g') (f : Fr) : Bg (pk7 w g' k f) g l := (pk7_other g hne).trans h
end Go.Proofs.Ytppllanmgdhabaa
namespace Go.Proofs.Ytppllanmgdhabaa
open Go.RowKit Go.Deep Go.Shelf
/-- All cells that there were are as they were, and so is all that lies below n₀. -/
structure Cl (n₀ : Nat) (W W' : World) : Prop where
  low : Below n₀ W W'
  same : ∀ (k : Nat) (o : Obj), W.heap[k]? = some o → o.isCells = true → W'.heap[k]? = some o
set_option maxRecDepth 100000 in
theorem Cl.size {n₀ : Nat} {W W' : World} (h : Cl n₀ W W') : W.heap.size ≤ W'.heap.size := h.low.size
set_option maxRecDepth 100000 in
theorem Cl.refl (n₀ : Nat) (W : World) : Cl n₀ W W := ⟨Below.refl _ _, fun _ _ h _ => h⟩
set_option maxRecDepth 100000 in
theorem Cl.trans {n₀ : Nat} {A B C : World} (h : Cl n₀ A B) (k : Cl n₀ B C) : Cl n₀ A C := ⟨h.low.trans k.low, fun i o hi ho => k.same i o (h.same i o hi ho) ho⟩
set_option maxRecDepth 100000 in
theorem Cl.of_below {n₀ : Nat} {W W' : World} (h : Below W.heap.size W W') (hn : n₀ ≤ W.heap.size) : Cl n₀ W W' := ⟨h.mono hn, fun k _ hk _ => (h.block k (Array.getElem?_eq_some_iff.1 hk).1).trans hk⟩
set_option maxRecDepth 100000 in
theorem below_put {n₀ l : Nat} (W : World) (o : Obj) (hl : n₀ ≤ l) (hz : l < W.heap.size) : Below n₀ W (W.putObj l o) :=
  (Below.refl n₀ W).grown (grownBy_putObj' W l o) (by omega) (fun k e => by cases e; exact hl)
set_option maxRecDepth 100000 in
theorem Cl.put {n₀ : Nat} {W : World} {l : Nat} {o : Obj} (o' : Obj) (h : W.heap[l]? = some o) (ho : o.isCells = false) (hn : n₀ ≤ l) : Cl n₀ W (W.putObj l o') := by
  refine ⟨below_put W o' hn (Array.getElem?_eq_some_iff.1 h).1, fun k o2 hk h2 => ?_⟩
  have hne : k ≠ l := fun e => by
    rw [e, h] at hk
    cases hk
    rw [ho] at h2
    cases h2
  exact (World.putObj_heap_other hne).trans hk
set_option maxRecDepth 100000 in
theorem keeps_below {W W' : World} (h : Below W.heap.size W W') : KeepsOthers W W' := ⟨h.size, fun k _ hk _ => (h.block k (Array.getElem?_eq_some_iff.1 hk).1).trans hk⟩
/-- A mark among the deferred calls. -/
abbrev mark (D : Nat) : Deferred := { target := .collected D, args := #[] }
set_option maxRecDepth 100000 in
theorem leaves_mark {F : Fence} {n n₀ : Nat} {P : Program} {fn : Func} {tmps : Array Value} {R : Ending → World → Prop} (D : Nat) (W : World) (h4 : W.heap[D]? = some (.deferred (some []))) (hn : n₀ ≤ D)
    (h : ∀ W', Cl n₀ W W' → (∀ k, k ≠ D → W'.heap[k]? = W.heap[k]?) → W'.heap.size = W.heap.size → ∃ v, (results fn tmps).run P W' = .ok v W' ∧ R (.returned v) W') : LeavesInM F n P fn tmps R [mark D] .returning W := by
  refine ⟨by simp, .inl ⟨D, _, rfl, run_takeDeferred h4, ?_⟩⟩
  exact h _ (Cl.put _ h4 rfl hn) (fun k hk => World.putObj_heap_other hk) World.putObj_size

/-- How a round's body ends: it goes on. -/
def onP (I : List Int → World → Prop) (pre : List Int) (W : World) : Exit → Act → World → Prop
  | .normal, _, W' => I pre W' ∧ KeepsOthers W W'
  | _, _, _ => False
set_option maxRecDepth 100000 in
theorem onP_mk {I : List Int → World → Prop} {pre : List Int} {W W' : World} {a : Act} (h : I pre W') (hk : KeepsOthers W W') : onP I pre W .normal a W' := ⟨h, hk⟩

set_option maxRecDepth 100000 in
theorem range_pre {n n₀ gf : Nat} {g : Operand} {p : Tmp} {assign body : Code} {Q : Exit → Act → World → Prop} {a : Act} {w : World} {lb : Array Value} {xs : List Int}
    (hg : a.eval g = .func (.func gf) #[] lb) (eg : ∀ args w, (callFunc gf args).run Try.prog w = .ok (.enter gf args) w)
    (I : List Int → World → Prop) (hn₀ : n₀ ≤ w.heap.size) (hI : ∀ pre W W', I pre W → Cl n₀ W W' → I pre W') (h0 : I [] w)
    (hseq : ∀ (l : Nat) (J : List Int → World → Prop) (W : World), (∀ pre W W', J pre W → Below W.heap.size W W' → J pre W') → (∀ pre W, J pre W → I pre W) →
      (∀ (m : Nat) (pre : List Int) (x : Int) (rest : List Int) (W : World), J pre W → xs = pre ++ x :: rest → YieldAt Fence.wide m Try.prog l #[.int .i64 x] W fun e W' => e = .returned (.bool true) ∧ J (pre ++ [x]) W') → J [] W →
      CallsIn Fence.wide (n - 1) Try.prog gf (#[.func (.yield l) #[] #[]] ++ lb) W fun e W' => (∃ v, e = .returned v) ∧ J xs W')
    (a₁ : Int → Act)
    (hassign : ∀ (l m : Nat) (x : Int) (W : World) (K : Act → World → Prop), K (a₁ x) W →
      assign.wpIn (Fence.wide.inRound l) m Try.prog (Exit.then K (fun _ _ _ => False)) { tmps := a.tmps.setIfInBounds p (.int .i64 x), defers := [] } W)
    (hbody : ∀ (l m : Nat) (pre : List Int) (x : Int) (rest : List Int) (W : World), I pre W → xs = pre ++ x :: rest →
      body.wpIn (Fence.wide.inRound l) m Try.prog (onP I (pre ++ [x]) W) (a₁ x) W)
    (hdone : ∀ (D : Nat) (W : World), w.heap.size ≤ D → I xs W → W.heap[D]? = some (.deferred (some [])) → Q .normal { a with defers := mark D :: a.defers } W) :
    (Code.rangeFunc g #[p] assign body).wpIn Fence.wide n Try.prog Q a w := by
  refine wpIn_rangeFunc ?_
  intro fn hfn
  obtain ⟨rec, hrec⟩ : ∃ rec : LoopState → Option Code → Loop, rec = fun st pe => { state := st, pending := pe, fn, tmps := a.tmps, params := #[p], assign, body, defers := w.heap.size } := ⟨_, rfl⟩
  have hD1 := World.alloc_heap_new w (.deferred (some []))
  have hL1 := World.alloc_heap_new (w.alloc (.deferred (some []))) (.loop (rec .ready none))
  have hD2 := (Below.heap_alloc (w.alloc (.deferred (some []))) (.loop (rec .ready none)) w.heap.size (by simp)).trans hD1
  have hB1 := ((Below.refl w.heap.size w).alloc (Nat.le_refl _) (.deferred (some []))).alloc (by simp) (.loop (rec .ready none))
  rw [World.size_alloc] at hL1
  have henter := run_enterLoop_outer (P := Try.prog) (w := w) fn a.tmps #[p] assign body
  have hrd : (.loop { state := .ready, pending := none, fn, tmps := a.tmps, params := #[p], assign, body, defers := w.heap.size } : Obj) = .loop (rec .ready none) := by rw [hrec]
  rw [hrd] at henter
  generalize (w.alloc (.deferred (some []))).alloc (.loop (rec .ready none)) = W1 at *
  refine ⟨w.heap.size + 1, [{ target := .collected w.heap.size, args := #[] }], W1, { target := .fn (.func gf) lb, args := #[.func (.yield (w.heap.size + 1)) #[] #[]] }, W1, gf, #[.func (.yield (w.heap.size + 1)) #[] #[]] ++ lb, W1, henter, ?_, fun _ _ => trivial, ?_, (fun h => by cases h), ?_⟩
  · simp only [resolve, hg]
    simp [go_sem]
  · simp [invoke, go_sem, eg]
  · refine (hseq (w.heap.size + 1)
      (fun pre W => I pre W ∧ W.heap[w.heap.size + 1]? = some (.loop (rec .ready none)) ∧ W.heap[w.heap.size]? = some (.deferred (some [])))
      W1 ?ab (fun _ _ h => h.1) ?yields ⟨hI _ _ _ h0 (Cl.of_below hB1 hn₀), hL1, hD2⟩).mono ?fin
    case ab =>
      rintro pre W W' ⟨hi, hL, hK⟩ hb
      have hlt := (Array.getElem?_eq_some_iff.1 hL).1
      exact ⟨hI _ _ _ hi (Cl.of_below hb (by omega)), (hb.block _ (Array.getElem?_eq_some_iff.1 hL).1).trans hL, (hb.block _ (Array.getElem?_eq_some_iff.1 hK).1).trans hK⟩
    case yields =>
      rintro m pre x rest W ⟨hi, hL, hK⟩ hx
      have hlt : w.heap.size + 1 < W.heap.size := (Array.getElem?_eq_some_iff.1 hL).1
      have hy := run_yield (P := Try.prog) (args := #[.int .i64 x]) hL (by rw [hrec]; rfl)
      rw [hrec] at hy
      have et : (#[p].zip #[Value.int .i64 x]).foldl (fun tmps (y : Tmp × Value) => tmps.setIfInBounds y.1 y.2) a.tmps = a.tmps.setIfInBounds p (.int .i64 x) := by simp
      refine ⟨fn, a.tmps.setIfInBounds p (.int .i64 x), assign, body, by rw [← et]; exact hy, roundIn_of_wpIn hfn (hassign _ m x W _ ?_)⟩
      clear hy
      refine ⟨_, run_beginRound hL (by rw [hrec]), ?_⟩
      have hL2 : (W.putObj (w.heap.size + 1) (.loop { rec .ready none with state := .busy })).heap[w.heap.size + 1]? = some (.loop { rec .ready none with state := .busy }) := World.putObj_heap_same hlt
      have hK2 : (W.putObj (w.heap.size + 1) (.loop { rec .ready none with state := .busy })).heap[w.heap.size]? = some (.deferred (some [])) := (World.putObj_heap_other (by omega)).trans hK
      have hi2 := hI _ _ _ hi (Cl.put (.loop { rec .ready none with state := .busy }) hL rfl (by omega))
      generalize W.putObj (w.heap.size + 1) (.loop { rec .ready none with state := .busy }) = W2 at *
      refine wpIn_mono (hbody _ m pre x rest W2 hi2 hx) ?_
      rintro e a3 W3 hp
      obtain ⟨rfl, hi3, hk⟩ : e = .normal ∧ I (pre ++ [x]) W3 ∧ KeepsOthers W2 W3 := by
        cases e with
        | normal => exact ⟨rfl, hp⟩
        | ret => exact hp.elim
        | exit id => exact hp.elim
        | goto t => exact hp.elim
        | panic ch => exact hp.elim
        | outgrown => exact hp.elim
      have hL3 := hk.same _ _ hL2 rfl
      have hK3 := hk.same _ _ hK2 rfl
      have hlt3 := (Array.getElem?_eq_some_iff.1 hL3).1
      have hend := run_endRound (P := Try.prog) none hL3
      have hre : ({ rec .ready none with state := .busy } : Loop) = rec .busy none := by rw [hrec]
      have hre2 : ({ rec .busy none with state := if (none : Option Code).isNone = true then .ready else .done, pending := none } : Loop) = rec .ready none := by rw [hrec]; rfl
      rw [hre] at hL3
      rw [hre, hre2] at hend
      exact ⟨_, _, hend, rfl, hI _ _ _ hi3 (Cl.put _ hL3 rfl (by omega)), World.putObj_heap_same hlt3, (World.putObj_heap_other (by omega)).trans hK3⟩
    case fin =>
      rintro e W2 ⟨⟨v, rfl⟩, hi, hL, hK⟩
      obtain ⟨o, hend⟩ : ∃ o, (Instr.endLoop (w.heap.size + 1)).run Try.prog W2 = .ok none (W2.putObj (w.heap.size + 1) o) := by
        have h := run_endLoop (P := Try.prog) hL (by rw [hrec]; simp)
        have hre : (rec .ready none).pending = none := by rw [hrec]
        rw [hre] at h
        exact ⟨_, h⟩
      refine ⟨none, _, hend, ?_⟩
      exact hdone w.heap.size _ (Nat.le_refl _) (hI _ _ _ hi (Cl.put _ hL rfl (by omega))) ((World.putObj_heap_other (by omega)).trans hK)
set_option maxRecDepth 100000 in
/-- The same, where the loop's variable is set from the parameter at once. -/
theorem range_pre2 {n n₀ gf p2 : Nat} {g : Operand} {p : Tmp} {assign body : Code} {Q : Exit → Act → World → Prop} {a : Act} {w : World} {lb : Array Value} {xs : List Int}
    (hg : a.eval g = .func (.func gf) #[] lb) (eg : ∀ args w, (callFunc gf args).run Try.prog w = .ok (.enter gf args) w)
    (I : List Int → World → Prop) (hn₀ : n₀ ≤ w.heap.size) (hI : ∀ pre W W', I pre W → Cl n₀ W W' → I pre W') (h0 : I [] w)
    (hseq : ∀ (l : Nat) (J : List Int → World → Prop) (W : World), (∀ pre W W', J pre W → Below W.heap.size W W' → J pre W') → (∀ pre W, J pre W → I pre W) →
      (∀ (m : Nat) (pre : List Int) (x : Int) (rest : List Int) (W : World), J pre W → xs = pre ++ x :: rest → YieldAt Fence.wide m Try.prog l #[.int .i64 x] W fun e W' => e = .returned (.bool true) ∧ J (pre ++ [x]) W') → J [] W →
      CallsIn Fence.wide (n - 1) Try.prog gf (#[.func (.yield l) #[] #[]] ++ lb) W fun e W' => (∃ v, e = .returned v) ∧ J xs W')
    (hassign : ∀ (l m : Nat) (x : Int) (W : World) (K : Act → World → Prop), K { tmps := (a.tmps.setIfInBounds p (.int .i64 x)).setIfInBounds p2 (.int .i64 x), defers := [] } W →
      assign.wpIn (Fence.wide.inRound l) m Try.prog (Exit.then K (fun _ _ _ => False)) { tmps := a.tmps.setIfInBounds p (.int .i64 x), defers := [] } W)
    (hbody : ∀ (l m : Nat) (pre : List Int) (x : Int) (rest : List Int) (W : World), I pre W → xs = pre ++ x :: rest →
      body.wpIn (Fence.wide.inRound l) m Try.prog (onP I (pre ++ [x]) W) { tmps := (a.tmps.setIfInBounds p (.int .i64 x)).setIfInBounds p2 (.int .i64 x), defers := [] } W)
    (hdone : ∀ (D : Nat) (W : World), w.heap.size ≤ D → I xs W → W.heap[D]? = some (.deferred (some [])) → Q .normal { a with defers := mark D :: a.defers } W) :
    (Code.rangeFunc g #[p] assign body).wpIn Fence.wide n Try.prog Q a w :=
  range_pre hg eg I hn₀ hI h0 hseq _ hassign hbody hdone
end Go.Proofs.Ytppllanmgdhabaa
namespace Go.Proofs.Ytppllanmgdhabaa
open Go.RowKit Go.Deep
set_option maxRecDepth 100000 in
theorem Ow.set {w : World} {base g n c : Nat} {l : List Fr} (h : Ow w base (some ⟨g, 0, none⟩) n c l) {i : Nat} (hi : i < n) (f : Fr) : Ow (pk7 w g (i * 7) f) base (some ⟨g, 0, none⟩) n c (l.set i f) := by
  unfold Ow
  rw [flat_set l i f (by rw [h.len]; exact hi)]
  unfold Ow at h
  have h1 := (World.ownsRow.stored h (i * 7) (.int .i64 f.op)).1
  have h2 := (World.ownsRow.stored h1 (i * 7 + 1) (.int .i64 f.pc)).1
  have h3 := (World.ownsRow.stored h2 (i * 7 + 2) (.int .i64 f.who)).1
  have h4 := (World.ownsRow.stored h3 (i * 7 + 3) (.int .u64 f.val)).1
  have h5 := (World.ownsRow.stored h4 (i * 7 + 4) (.int .u64 f.x)).1
  have h6 := (World.ownsRow.stored h5 (i * 7 + 5) (.int .u64 f.y)).1
  exact (World.ownsRow.stored h6 (i * 7 + 6) (.int .i64 f.res)).1
set_option maxRecDepth 100000 in
theorem Ow.free {w : World} {base g n c : Nat} {l : List Fr} (h : Ow w base (some ⟨g, 0, none⟩) n c l) (j : Nat) : w.frozen? ⟨g, j, none⟩ = false := World.ownsRow.frozenAt h j
set_option maxRecDepth 100000 in
theorem Bg.ow {w : World} {g : Nat} {l : List Fr} (h : Bg w g l) {base : Nat} (hb : base ≤ g) {n : Nat} (hn : l.length = n) (hs : n ≤ 10000) : Ow w base (some ⟨g, 0, none⟩) n n l := by
  subst hn
  refine ⟨flat_len l, .inr ⟨g, l.length, _, rfl, hb, h, ?_⟩⟩
  refine ⟨Nat.le_refl _, by simp only [maxLen]; omega, by simp [flat_len], ?_⟩
  rw [← flat_len]
  simp
set_option maxRecDepth 100000 in
theorem bits_low (n : Nat) (hn : n ≤ 1000) : bits .and .u64 (n : Int) 4294967295 = (n : Int) := by
  have h := bits_and_u64_nat n 4294967295 (by omega) (by omega)
  have e : n &&& 4294967295 = n % 4294967296 := Nat.and_two_pow_sub_one_eq_mod n 32
  rw [e, Nat.mod_eq_of_lt (by omega)] at h
  exact h
set_option maxRecDepth 100000 in
theorem bits_one : bits .and .u64 1 4294967295 = 1 := by decide +kernel
set_option maxRecDepth 100000 in
theorem bits_zero : bits .and .u64 0 4294967295 = 0 := by decide +kernel
set_option maxRecDepth 100000 in
set_option maxHeartbeats 1000000 in
theorem mul64_one (n : Nat) (w : World) (hn : n ≤ 1000) : Gives 94 #[.int .u64 1, .int .u64 n] w (.tuple #[.int .u64 0, .int .u64 n]) := by
  have a1 := bits_low n hn
  have a2 := bits_one
  have a3 := bits_zero
  have s1 : (n : Int) / 4294967296 = 0 := by omega
  go_enter Try.func94, Try.ntmps94
  go_wp2
  go_ret2
  exact ⟨rfl, rfl⟩
set_option maxRecDepth 100000 in
theorem mul_one' (n : Nat) (w : World) (hn : n ≤ 1000) : Gives 71 #[.int .u64 1, .int .u64 n] w (.tuple #[.int .u64 0, .int .u64 n]) := by
  go_enter Try.func71, Try.ntmps71
  go_wp2_with (go_at_call 94; refine (mul64_one n _ hn).mono ?_; rintro _ w1 ⟨rfl, e1⟩; rw [e1]; clear e1 w1)
  go_ret2
  exact ⟨rfl, rfl⟩
/-- A row of N calls, the first j of which are f, the others noughts. -/
def fl (f : Fr) (N j : Nat) : List Fr := List.replicate j f ++ List.replicate (N - j) f0
set_option maxRecDepth 100000 in
theorem fl_len {f : Fr} {N j : Nat} (h : j ≤ N) : (fl f N j).length = N := by simp [fl]; omega
set_option maxRecDepth 100000 in
theorem flat_rep (f : Fr) (n : Nat) : flat (List.replicate n f) = (List.replicate n (pc f)).flatten := by
  unfold flat; rw [List.flatMap_def]; simp
set_option maxRecDepth 100000 in
theorem made_flat (N : Nat) : madeCells #[.int .i64 0, .int .i64 0, .int .i64 0, .int .u64 0, .int .u64 0, .int .u64 0, .int .i64 0] (N * 7) = (flat (List.replicate N f0)).toArray := by
  apply Array.ext
  · rw [size_madeCells]; simp [flat_len]
  · intro i h1 h2
    rw [size_madeCells] at h1
    have hx : (List.replicate N f0)[i / 7]? = some f0 := by rw [List.getElem?_replicate, if_pos (by omega)]
    have hm : i % 7 < 7 := Nat.mod_lt _ (by omega)
    have hg := flat_get _ _ _ hx (i % 7) hm
    rw [show i / 7 * 7 + i % 7 = i by omega] at hg
    have hl : i < (flat (List.replicate N f0)).length := by rw [flat_len, List.length_replicate]; exact h1
    have hr : (flat (List.replicate N f0)).toArray[i] = (flat (List.replicate N f0))[i] := by simp
    rw [hr]
    rw [List.getElem?_eq_getElem hl] at hg
    have hc : i % 7 = 0 ∨ i % 7 = 1 ∨ i % 7 = 2 ∨ i % 7 = 3 ∨ i % 7 = 4 ∨ i % 7 = 5 ∨ i % 7 = 6 := by omega
    simp only [madeCells, Array.getElem_map, Array.getElem_range, List.size_toArray, List.length_cons, List.length_nil, Nat.zero_add, Nat.reduceAdd]
    generalize (flat (List.replicate N f0))[i] = v at hg ⊢
    rcases hc with e | e | e | e | e | e | e <;> (rw [e] at hg ⊢; simp [pc, f0] at hg; rw [hg]; rfl)
set_option maxRecDepth 100000 in
theorem make_frs (N : Nat) (w : World) (hN : N ≤ 9) : (Instr.makeSlice 31 (.int .i64 N) (.int .i64 N)).run Try.prog w = .ok (.slice (some ⟨w.heap.size, 0, none⟩) N N) (w.alloc (.cells (flat (List.replicate N f0)).toArray 28)) := by
  obtain ⟨i0, hi0, hz'⟩ := Option.map_eq_some_iff.1 Try.info28
  simp only [Prod.mk.injEq] at hz'
  obtain ⟨hz0, hz1, hz2⟩ := hz'
  have := run_makeSlice (P := Try.prog) w 31 28 i0 _ Try.underlying31 hi0 hz0 .i64 .i64 N N (by omega) (Int.le_refl _) (by rw [hz1]; omega) (by rw [hz2]; omega) (by omega)
  rw [hz1] at this
  simp only [Int.toNat_natCast] at this
  rw [← made_flat N]
  exact this
set_option maxRecDepth 100000 in
theorem run_copy_frs (w : World) (ty : TypeId) (g o dLen dCap : Nat) (a : Addr) (sLen sCap : Nat) (cur : Array Value) (t : TypeId) (cs : List Value) (hg : w.heap[g]? = some (.cells cur t (0, 0))) (hn : cs.length = Nat.min sLen dLen * 7)
    (hsrc : ∀ j v, cs[j]? = some v → w.cell? (a.add j) = some v) (hfit : o + cs.length ≤ cur.size) (h1 : ∀ v ∈ cs, v.oneCell' = true) :
    (Builtin.copy_ #[31, 31] ty #[.slice (some ⟨g, o, none⟩) dLen dCap, .slice (some a) sLen sCap]).run Try.prog w =
      .ok (goInt (Nat.min sLen dLen)) (w.setRow g (cur.toList.take o ++ cs ++ cur.toList.drop (o + cs.length)).toArray) := by
  have hl := run_loadCells_list (P := Try.prog) w a cs hsrc
  have hst := run_storeCells_at Try.prog g o t cs 0 cur w hg (by simpa using hfit) h1
  obtain ⟨i0, hi0, hz'⟩ := Option.map_eq_some_iff.1 Try.info28
  simp only [Prod.mk.injEq] at hz'
  obtain ⟨hz0, hz1, hz2⟩ := hz'
  simp [Builtin.copy_, run_underlying Try.underlying31, Builtin.lenOf, Builtin.firstCells, sizeOf, typeInfo, hi0, hz1, ← hn, hl, hst]
set_option maxRecDepth 100000 in
theorem fl_splice {f : Fr} {N j k : Nat} (h : j + k ≤ N) : ((flat (fl f N j)).take (j * 7) ++ flat (List.replicate k f) ++ (flat (fl f N j)).drop (j * 7 + (flat (List.replicate k f)).length)) = flat (fl f N (j + k)) := by
  have e1 : (flat (fl f N j)).take (j * 7) = flat (List.replicate j f) := by
    unfold fl
    rw [flat_append, List.take_left' (by rw [flat_len]; simp)]
  have e2 : (flat (fl f N j)).drop (j * 7 + (flat (List.replicate k f)).length) = flat (List.replicate (N - (j + k)) f0) := by
    unfold fl
    rw [flat_append, flat_len, List.length_replicate, ← List.drop_drop, List.drop_left' (by rw [flat_len]; simp)]
    have : List.replicate (N - j) f0 = List.replicate k f0 ++ List.replicate (N - (j + k)) f0 := by
      rw [List.replicate_append_replicate]; congr 1; omega
    rw [this, flat_append, List.drop_left' (by rw [flat_len]; simp)]
  rw [e1, e2, ← flat_append, List.replicate_append_replicate, ← flat_append]
  rfl
set_option maxRecDepth 100000 in
theorem Bg.fl_cell {w : World} {g : Nat} {f : Fr} {N j : Nat} (h : Bg w g (fl f N j)) {k : Nat} (hk : k ≤ j) : ∀ i v, (flat (List.replicate k f))[i]? = some v → w.cell? ⟨g, i, none⟩ = some v := by
  intro i v hv
  have hi := (List.getElem?_eq_some_iff.1 hv).1
  rw [flat_len, List.length_replicate] at hi
  unfold Bg at h
  simp only [World.cell?, h]
  have e : List.replicate j f = List.replicate k f ++ List.replicate (j - k) f := by rw [List.replicate_append_replicate]; congr 1; omega
  have : (flat (fl f N j))[i]? = some v := by
    unfold fl
    rw [e, List.append_assoc, flat_append, List.getElem?_append_left (by rw [flat_len]; simpa using hi)]
    exact hv
  simpa using this
set_option maxRecDepth 100000 in
/-- The first j calls copied behind themselves. -/
theorem copy_more {w : World} {g N j B : Nat} {f : Fr} (hg : Bg w g (fl f N j)) (h0 : 1 ≤ j) (hj : j < N) (hB : B ≤ g) :
    ∃ k w', 1 ≤ k ∧ j + k ≤ N ∧ (Builtin.copy_ #[31, 31] 3 #[.slice (some ⟨g, j * 7, none⟩) (N - j) (N - j), .slice (some ⟨g, 0, none⟩) j N]).run Try.prog w = .ok (.int .i64 (k : Int)) w' ∧ Bg w' g (fl f N (j + k)) ∧ Below B w w' := by
  have hk2 : Nat.min j (N - j) ≤ N - j := Nat.min_le_right _ _
  have hk3 : 1 ≤ Nat.min j (N - j) := Nat.le_min.2 ⟨h0, by omega⟩
  have hr := run_copy_frs w 3 g (j * 7) (N - j) (N - j) ⟨g, 0, none⟩ j N (flat (fl f N j)).toArray 28 (flat (List.replicate (Nat.min j (N - j)) f)) hg (by rw [flat_len, List.length_replicate])
    (fun i v hv => by rw [add_zero']; exact hg.fl_cell (Nat.min_le_left _ _) i v hv) (by simp [flat_len, fl_len (show j ≤ N by omega)]; omega) (flat_one _)
  have e := fl_splice (f := f) (N := N) (j := j) (k := Nat.min j (N - j)) (by omega)
  simp only at hr
  rw [e] at hr
  exact ⟨Nat.min j (N - j), _, hk3, by omega, hr, setRow_heap w g _ _ 28 _ hg, below_setRow (Below.refl B w) hB _⟩
set_option maxRecDepth 100000 in
/-- The first copy. -/
theorem copy_first {w : World} {g N B X : Nat} {f : Fr} (hg : Bg w g (fl f N 0)) (hX : ∀ j v, (pc f)[j]? = some v → w.cell? ⟨X, j, none⟩ = some v) (hN : 1 ≤ N) (hB : B ≤ g) :
    ∃ w', (Builtin.copy_ #[31, 31] 3 #[.slice (some ⟨g, 0, none⟩) N N, .slice (some ⟨X, 0, none⟩) 1 1]).run Try.prog w = .ok (.int .i64 1) w' ∧ Bg w' g (fl f N 1) ∧ Below B w w' := by
  have h1 : Nat.min 1 N = 1 := Nat.min_eq_left hN
  have hr := run_copy_frs w 3 g 0 N N ⟨X, 0, none⟩ 1 1 (flat (fl f N 0)).toArray 28 (flat (List.replicate 1 f)) hg (by rw [flat_len, List.length_replicate, h1])
    (fun i v hv => by rw [add_zero']; exact hX i v (by simpa [flat] using hv)) (by simp [flat_len, fl_len (show 0 ≤ N by omega)]; omega) (flat_one _)
  have e := fl_splice (f := f) (N := N) (j := 0) (k := 1) (by omega)
  rw [Nat.zero_mul, Nat.zero_add] at e
  simp only [Nat.zero_add] at hr e
  rw [e, h1] at hr
  exact ⟨_, hr, setRow_heap w g _ _ 28 _ hg, below_setRow (Below.refl B w) hB _⟩
set_option maxRecDepth 100000 in
set_option maxHeartbeats 1000000 in
theorem repeat_any (X N : Nat) (f : Fr) (w : World) (hN : 1 ≤ N ∧ N ≤ 9) (hlt : X < w.heap.size) (hX : ∀ j v, (pc f)[j]? = some v → w.cell? ⟨X, j, none⟩ = some v) :
    Calls Try.prog 35 #[.slice (some ⟨X, 0, none⟩) 1 1, .int .i64 N] w fun e w' => e = .returned (.slice (some ⟨w.heap.size, 0, none⟩) N N) ∧ Bg w' w.heap.size (List.replicate N f) ∧ Below w.heap.size w w' := by
  have hmk := make_frs N w hN.2
  have hB0 : Bg (w.alloc (.cells (flat (List.replicate N f0)).toArray 28)) w.heap.size (fl f N 0) := by
    have := heap_alloc_new w (.cells (flat (List.replicate N f0)).toArray 28)
    unfold Bg fl
    simpa using this
  obtain ⟨w1, hcp, hg1, hb1⟩ := copy_first (B := w.heap.size) hB0 (fun j v hv => (Below.cell (p := ⟨X, j, none⟩) ((Below.refl w.heap.size w).alloc (Nat.le_refl _) _) hlt).trans (hX j v hv)) hN.1 (Nat.le_refl _)
  have HG := Lib.hid hg1
  have HB := Lib.hid (((Below.refl w.heap.size w).alloc (Nat.le_refl _) _).trans hb1)
  clear hg1 hb1 hB0
  obtain ⟨hN1, hN9⟩ := hN
  go_enter Try.func35, Try.ntmps35
  go_wp2_with (go_at_call 71; refine (mul_one' N _ (by omega)).mono ?_; rintro _ w1 ⟨rfl, e1⟩; rw [e1]; clear e1 w1)
  clear hmk hcp
  go_loopw [8] (fun x wr => ∃ j : Nat, x = .int .i64 j ∧ j ≤ N ∧ 1 ≤ j ∧ Bg wr w.heap.size (fl f N j) ∧ Below w.heap.size w wr) (fun x _ => N - (intOf x).toNat)
  case atStart => exact ⟨1, rfl, hN1, Nat.le_refl _, HG.out, HB.out⟩
  case round =>
    obtain ⟨j, rfl, hj, hj1, hg, hb⟩ := hrel
    by_cases hlt : j < N
    · have hne : ¬ N = j := by omega
      have i1 : (0 : Int) ≤ (j : Int) := by omega
      have i2 : (j : Int) ≤ (N : Int) := by omega
      obtain ⟨k, w2, hk1, hk2, hrun, hg2, hb2⟩ := copy_more (w := wr.drew) hg hj1 hlt (Nat.le_refl w.heap.size)
      have G2 := Lib.hid hg2
      have B2 := Lib.hid (hb.drew.trans hb2)
      clear hg hb hg2 hb2
      go_wp2
      go_region
      all_goals
        go_wp2
        go_roundw
        case rel => exact ⟨j + k, by go_num, by omega, by omega, G2.out, B2.out⟩
        case measure => simp [intOf]; omega
    · have G := Lib.hid hg
      have B := Lib.hid hb
      have E := Lib.hid (show j = N by omega)
      clear hg hb
      go_wp2
      go_ret
      refine ⟨rfl, ?_, B.out⟩
      have := G.out
      rw [E.out] at this
      simpa [fl] using this
end Go.Proofs.Ytppllanmgdhabaa
namespace Go.Proofs.Ytppllanmgdhabaa
open Go.RowKit Go.Deep Go.Shelf
set_option maxRecDepth 100000 in
theorem rowsIn_round {l n : Nat} {P : Program} {row : String} {args : Array Value} {w : World} {R : Value → World → Prop} (h : Rows P row args w R) : RowsIn (Fence.wide.inRound l) n P row args w R :=
  fun c cs _ => let ⟨v, w', r, s⟩ := h c cs; ⟨v, w', r, stepsIn_wide.2 s⟩
set_option maxRecDepth 100000 in
theorem oper_round {l n : Nat} {P : Program} {o : Oper} {a : Act} {w : World} {K : Act → World → Prop} {Q : Exit → Act → World → Prop} (hd : ∀ c, o.op ≠ .defer c) (h : o.wp P a w K Q) : o.wpIn (Fence.wide.inRound l) n P a w K Q := by
  refine ⟨fun _ _ => trivial, ?_⟩
  rw [Oper.semAt_eq _ _ _ hd]
  unfold Oper.wp at h
  generalize (execOp a.eval o).run P w = r at h ⊢
  cases r with
  | ok x w' =>
    cases x with
    | value v => exact h
    | skip => exact h
    | defer d => exact h
    | enter f args => exact ⟨(fun e => by cases e), CallsIn.inRound _ (callsIn_wide.2 h)⟩
    | row row args => exact ⟨(fun e => by cases e), rowsIn_round h⟩
    | _ => exact h.elim
  | halt hl w' =>
    cases hl <;> exact h
set_option maxRecDepth 100000 in
theorem wpAnyIn_round {l n : Nat} {P : Program} {md : Region.Mode} {ops : Array Oper} {Q : Exit → Act → World → Prop} (hd : ∀ (i : Nat) o, ops[i]? = some o → ∀ c, o.op ≠ .defer c) (hlo : ¬ LetsOut Q) :
    ∀ (fuel : Nat) (listed : Array Bool) (a : Act) (w : World), wpAny P md ops Q fuel listed a w → wpAnyIn (Fence.wide.inRound l) n P md ops Q fuel listed a w
  | 0, _, _, _, h => h
  | fuel + 1, listed, a, w, h => by
    refine ⟨h.1, fun i hi => ?_⟩
    have h2 := h.2 i hi
    unfold wpOp at h2
    unfold wpOpIn
    cases ho : ops[i]? with
    | none => rw [ho] at h2; exact wpAnyIn_round hd hlo fuel _ _ _ h2
    | some o =>
      rw [ho] at h2
      simp only at h2 ⊢
      split at h2
      · rename_i hw
        rw [if_pos hw]
        rcases h2 with h2 | h2
        · exact Oper.wpIn_mono (fun a w hh => wpAnyIn_round hd hlo fuel _ _ _ hh) (oper_round (hd i o ho) h2)
        · exact absurd h2.2 hlo
      · rename_i hw
        rw [if_neg hw]
        exact ⟨fun _ _ => trivial, wpAnyIn_round hd hlo fuel _ _ _ h2⟩
set_option maxRecDepth 100000 in
theorem wpIn_region_held_round {l n : Nat} {P : Program} {ops : Array Oper} {Q : Exit → Act → World → Prop} {S : World → Prop} {id : Nat} {a : Act} {w : World} (hm : P.follows .mixedOrders = true) (hd : ∀ (i : Nat) o, ops[i]? = some o → ∀ c, o.op ≠ .defer c) (hlo : ¬ LetsOut Q) (hS : S w.drew)
    (h : S w.drew → wpAnyH P .any ops Q S ops.size (Array.replicate ops.size false) a w.drew) : (Code.region id ops true).wpIn (Fence.wide.inRound l) n P Q a w :=
  wpIn_region_any hm (wpAnyIn_round hd hlo _ _ _ _ (wpAny_of_held _ _ _ _ (h hS)))
end Go.Proofs.Ytppllanmgdhabaa
namespace Go.Proofs.Ytppllanmgdhabaa
open Go.RowKit Go.Deep
set_option maxRecDepth 100000 in
theorem own_madeF (w : World) (base : Nat) (hb : base ≤ w.heap.size) : Ow (w.alloc (.cells #[] 28)) base (some ⟨w.heap.size, 0, none⟩) 0 0 [] := by
  refine ⟨rfl, .inr ⟨w.heap.size, 0, #[], rfl, hb, heap_alloc_new _ _, ?_⟩⟩
  exact ⟨by omega, by decide, rfl, rfl⟩
set_option maxRecDepth 100000 in
theorem eql_nilF (w : World) (a : Option Addr) (n c : Nat) : (binOp .eql 31 (.slice a n c) (.slice none 0 0)).run Try.prog w = .ok (.bool a.isNone) w := Lib.run_eql_slice_nil w 31 28 a n c 0 0 Try.underlying31
attribute [local go_sem] eql_nilF
set_option maxRecDepth 100000 in
theorem clonef_any (A : Option Addr) (n c : Nat) (l : List Fr) (w : World) (h : Pr w.heap.size w A l) (hn : l.length = n) (hs : n ≤ 500) : Calls Try.prog 45 #[.slice A n c] w fun e w' => ∃ A' c', e = .returned (.slice A' n c') ∧ Ow w' w.heap.size A' n c' l ∧ Below w.heap.size w w' := by
  have H := Lib.hid h
  have HN := Lib.hid hn
  rcases A with _ | a
  · obtain rfl : n = 0 := by
      rcases Nat.eq_zero_or_pos n with h0 | h0
      · exact h0
      · obtain ⟨_, _, e, _⟩ := h (by omega); cases e
    clear h hn
    go_enter Try.func45, Try.ntmps45
    go_wp2
    go_ret
    exact ⟨none, 0, rfl, by rw [List.eq_nil_of_length_eq_zero HN.out]; exact Ow.nil _ _, Below.refl _ _⟩
  · have hm : Below w.heap.size w (w.alloc (.cells #[] 28)) := (Below.refl _ _).alloc (Nat.le_refl _) _
    obtain ⟨A', c', w1, hrun, hown, _, hb, _⟩ := app_frs (own_madeF w w.heap.size (Nat.le_refl _)) c (h.below hm).src hn (by omega) (by simp)
    simp only [Nat.zero_add, List.nil_append] at hrun hown
    have HO := Lib.hid hown
    have HB := Lib.hid (hm.trans (hb.mono (by simp)))
    have HRUN := Lib.hid hrun
    clear hrun hown hb h hn hm
    go_enter Try.func45, Try.ntmps45
    go_wp2_with (at_builtin; (with_reducible refine wpList_append_fr HRUN.out ?_ ?_ ?_ ?_); exact ⟨_, _, rfl, rfl, rfl⟩; rfl; rfl)
    go_ret
    exact ⟨_, _, rfl, HO.out, HB.out⟩
set_option maxRecDepth 100000 in
theorem neq_fr (a b c d e g h : Int) (w : World) : (binOp .neq 28 (.agg #[.int .i64 a, .int .i64 b, .int .i64 c, .int .u64 d, .int .u64 e, .int .u64 g, .int .i64 h]) (.agg #[.int .i64 a, .int .i64 b, .int .i64 c, .int .u64 d, .int .u64 e, .int .u64 g, .int .i64 h])).run Try.prog w = .ok (.bool false) w := by
  rw [run_neq_struct, eq_in]; rfl
attribute [local go_sem] neq_fr guard_fr
set_option maxRecDepth 100000 in
set_option maxHeartbeats 1000000 in
theorem frames_same (A B : Option Addr) (n c d : Nat) (l : List Fr) (w : World) (ha : Pr w.heap.size w A l) (hb : Pr w.heap.size w B l) (hn : l.length = n) (hs : n ≤ 1000) :
    Calls Try.prog 19 #[.slice A n c, .slice B n d] w fun e w' => e = .returned (.bool true) ∧ Below w.heap.size w w' := by
  have HA := Lib.hid ha
  have HB := Lib.hid hb
  have HN := Lib.hid hn
  clear ha hb hn
  go_enter Try.func19, Try.ntmps19
  go_wp2
  go_loopw [5] (fun x wr => ∃ j q : Nat, j ≤ n ∧ x = .int .i64 j ∧ wr = w.drewN q) (fun x _ => n - (intOf x).toNat)
  case atStart => exact ⟨0, 0, Nat.zero_le _, rfl, rfl⟩
  case round =>
    obtain ⟨j, q, hj, rfl, rfl⟩ := hrel
    by_cases hlt : j < n
    · have hL : j < l.length := by rw [HN.out]; exact hlt
      obtain ⟨b1, o1, rfl, l1, h1⟩ := HA.out.at hL
      obtain ⟨b2, o2, rfl, l2, h2⟩ := HB.out.at hL
      generalize l[j] = f at h1 h2
      obtain ⟨o, p, q', v, x, y, s⟩ := f
      obtain ⟨a0, a1, a2, a3, a4, a5, a6⟩ := h1
      obtain ⟨d0, d1, d2, d3, d4, d5, d6⟩ := h2
      simp only at a0 a1 a2 a3 a4 a5 a6 d0 d1 d2 d3 d4 d5 d6
      go_wp2
      go_quiet (fail)
      go_wp2
      go_roundw
      case rel => exact ⟨j + 1, _, by omega, by go_num, rfl⟩
      case measure => simp [intOf]; omega
    · go_wp2
      go_ret
      exact ⟨rfl, below_drewN _ _⟩
end Go.Proofs.Ytppllanmgdhabaa
