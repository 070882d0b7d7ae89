/- Rows of calls in memory: read, owned, built by append, stored into. -/
import Derived.Test.YtgemaeibmgkneaaFrB
import Derived.Maps.AppendAt
import Derived.Laws.MakeOwn
import Derived.RangeFuncOwn
namespace Go.Proofs.Ytgemaeibmgkneaa
open Go.RowKit Go.Deep
/-- A call's cells. -/
def pc (f : Fr) : List Value := [.int .i64 f.op, .int .i64 f.pc, .int .i64 f.who, .int .u64 f.val, .int .u64 f.x, .int .u64 f.y, .int .i64 f.res]
/-- The cells of calls. -/
def flat (l : List Fr) : List Value := l.flatMap pc
set_option maxRecDepth 100000 in
theorem flat_len (l : List Fr) : (flat l).length = l.length * 7 := by
  induction l with
  | nil => rfl
  | cons x l ih => simp [flat, pc] at ih ⊢; omega
set_option maxRecDepth 100000 in
theorem flat_append (l k : List Fr) : flat (l ++ k) = flat l ++ flat k := by simp [flat]
set_option maxRecDepth 100000 in
theorem flat_one (l : List Fr) : ∀ v ∈ flat l, v.oneCell' = true := by
  intro v hv
  simp only [flat, List.mem_flatMap] at hv
  obtain ⟨x, _, hx⟩ := hv
  simp only [pc, List.mem_cons, List.not_mem_nil, or_false] at hx
  rcases hx with rfl | rfl | rfl | rfl | rfl | rfl | rfl <;> rfl
set_option maxRecDepth 100000 in
theorem flat_get : ∀ (l : List Fr) (i : Nat) (x : Fr), l[i]? = some x → ∀ j, j < 7 → (flat l)[i * 7 + j]? = (pc x)[j]?
  | y :: l, 0, x, h => fun j hj => by
    simp at h; subst h
    rw [Nat.zero_mul, Nat.zero_add]
    simp only [flat, List.flatMap_cons]
    rw [List.getElem?_append_left (by simp [pc]; omega)]
  | y :: l, i + 1, x, h => fun j hj => by
    have := flat_get l i x (by simpa using h) j hj
    have e : flat (y :: l) = pc y ++ flat l := by simp [flat]
    rw [e, List.getElem?_append_right (by simp [pc]; omega), ← this]
    congr 1
    simp [pc]; omega
  | [], _, _, h => by simp at h
/-- The seven cells of a call, from place k of block b on. -/
structure C7 (w : World) (b k : Nat) (f : Fr) : Prop where
  c0 : w.cell? ⟨b, k, none⟩ = some (.int .i64 f.op)
  c1 : w.cell? ⟨b, k + 1, none⟩ = some (.int .i64 f.pc)
  c2 : w.cell? ⟨b, k + 2, none⟩ = some (.int .i64 f.who)
  c3 : w.cell? ⟨b, k + 3, none⟩ = some (.int .u64 f.val)
  c4 : w.cell? ⟨b, k + 4, none⟩ = some (.int .u64 f.x)
  c5 : w.cell? ⟨b, k + 5, none⟩ = some (.int .u64 f.y)
  c6 : w.cell? ⟨b, k + 6, none⟩ = some (.int .i64 f.res)
set_option maxRecDepth 100000 in
theorem C7.all {w : World} {b k : Nat} {f : Fr} (h : C7 w b k f) : ∀ j v, (pc f)[j]? = some v → w.cell? ⟨b, k + j, none⟩ = some v := by
  intro j v hv
  have hj := (List.getElem?_eq_some_iff.1 hv).1
  have hj : j < 7 := by simpa [pc] using hj
  have hc : j = 0 ∨ j = 1 ∨ j = 2 ∨ j = 3 ∨ j = 4 ∨ j = 5 ∨ j = 6 := by omega
  rcases hc with rfl | rfl | rfl | rfl | rfl | rfl | rfl <;> (simp [pc] at hv; subst hv)
  · exact h.c0
  · exact h.c1
  · exact h.c2
  · exact h.c3
  · exact h.c4
  · exact h.c5
  · exact h.c6
set_option maxRecDepth 100000 in
theorem C7.of {w : World} {b k : Nat} {f : Fr} (h : ∀ j v, (pc f)[j]? = some v → w.cell? ⟨b, k + j, none⟩ = some v) : C7 w b k f :=
  ⟨h 0 _ rfl, h 1 _ rfl, h 2 _ rfl, h 3 _ rfl, h 4 _ rfl, h 5 _ rfl, h 6 _ rfl⟩
set_option maxRecDepth 100000 in
theorem C7.same {w w' : World} {b k : Nat} {f : Fr} (h : C7 w b k f) (e : w'.heap[b]? = w.heap[b]?) : C7 w' b k f :=
  C7.of fun j v hv => (World.cell?_of_block e).trans (h.all j v hv)
/-- The slice at A reads as the calls l, in a block below n. -/
def Pr (n : Nat) (w : World) (A : Option Addr) (l : List Fr) : Prop :=
  0 < l.length → ∃ b off, A = some ⟨b, off, none⟩ ∧ b < n ∧ ∀ i x, l[i]? = some x → C7 w b (off + i * 7) x
set_option maxRecDepth 100000 in
theorem add_plain' (b off j : Nat) : (⟨b, off, none⟩ : Addr).add j = ⟨b, off + j, none⟩ := by
  unfold Addr.add; split
  · rename_i h; subst h; rfl
  · rfl
set_option maxRecDepth 100000 in
theorem Pr.nil (n : Nat) (w : World) (A : Option Addr) : Pr n w A [] := fun h => by simp at h
set_option maxRecDepth 100000 in
theorem Pr.same {n : Nat} {w w' : World} {A : Option Addr} {l : List Fr} (h : Pr n w A l) (hb : ∀ b, b < n → (∃ o, w.heap[b]? = some o ∧ o.isCells = true) → w'.heap[b]? = w.heap[b]?) : Pr n w' A l := fun hp => by
  obtain ⟨b, off, e, hlt, hc⟩ := h hp
  have := (hc 0 l[0] (List.getElem?_eq_getElem hp)).c0
  exact ⟨b, off, e, hlt, fun i x hx => (hc i x hx).same (hb b hlt (cells_of_cell this))⟩
set_option maxRecDepth 100000 in
theorem Pr.below {n : Nat} {w w' : World} {A : Option Addr} {l : List Fr} (h : Pr n w A l) (hb : Below n w w') : Pr n w' A l :=
  h.same fun b hlt _ => hb.block b hlt
set_option maxRecDepth 100000 in
theorem Pr.mono {n m : Nat} {w : World} {A : Option Addr} {l : List Fr} (h : Pr n w A l) (hn : n ≤ m) : Pr m w A l := fun hp => by
  obtain ⟨b, off, e, hlt, hc⟩ := h hp
  exact ⟨b, off, e, by omega, hc⟩
set_option maxRecDepth 100000 in
theorem Pr.later {w w' : World} {A : Option Addr} {l : List Fr} (h : Pr w.heap.size w A l) (hb : Below w.heap.size w w') : Pr w'.heap.size w' A l := (h.below hb).mono hb.size
set_option maxRecDepth 100000 in
theorem Pr.at {n : Nat} {w : World} {A : Option Addr} {l : List Fr} (h : Pr n w A l) {i : Nat} (hi : i < l.length) :
    ∃ b off, A = some ⟨b, off, none⟩ ∧ b < n ∧ C7 w b (off + i * 7) l[i] := by
  obtain ⟨b, off, e, hlt, hc⟩ := h (by omega)
  exact ⟨b, off, e, hlt, hc i l[i] (List.getElem?_eq_getElem hi)⟩
set_option maxRecDepth 100000 in
/-- A part of a row of calls. -/
theorem Pr.part {n : Nat} {w : World} {b off : Nat} {l : List Fr} (h : Pr n w (some ⟨b, off, none⟩) l) (i k : Nat) : Pr n w (some ⟨b, off + i * 7, none⟩) ((l.drop i).take k) := fun hp => by
  have hl : 0 < l.length := by simp at hp; omega
  obtain ⟨b', off', e, hlt, hc⟩ := h hl
  cases e
  refine ⟨b, off + i * 7, rfl, hlt, fun j x hx => ?_⟩
  rw [List.getElem?_take] at hx
  split at hx
  · rw [List.getElem?_drop] at hx
    have := hc (i + j) x hx
    rw [show off + (i + j) * 7 = off + i * 7 + j * 7 by omega] at this
    exact this
  · cases hx
set_option maxRecDepth 100000 in
theorem Pr.tail {n : Nat} {w : World} {b off : Nat} {x : Fr} {l : List Fr} (h : Pr n w (some ⟨b, off, none⟩) (x :: l)) : Pr n w (some ⟨b, off + 7, none⟩) l := by
  have := h.part 1 l.length
  simpa using this
/-- The call owns the row l, in a block from number 'base' on. -/
def Ow (w : World) (base : Nat) (A : Option Addr) (n c : Nat) (l : List Fr) : Prop := w.ownsRow base 34 7 (.slice A n c) n (flat l)
set_option maxRecDepth 100000 in
theorem Ow.len {w : World} {base : Nat} {A : Option Addr} {n c : Nat} {l : List Fr} (h : Ow w base A n c l) : l.length = n := by
  have := h.1
  rw [flat_len] at this
  omega
set_option maxRecDepth 100000 in
theorem Ow.nil (w : World) (base : Nat) : Ow w base none 0 0 [] := World.ownsRow_nil _ _ _ _
set_option maxRecDepth 100000 in
theorem Ow.alloc {w : World} {base : Nat} {A : Option Addr} {n c : Nat} {l : List Fr} (h : Ow w base A n c l) (o : Obj) : Ow (w.alloc o) base A n c l := World.ownsRow.alloc h _
set_option maxRecDepth 100000 in
theorem Ow.kept {w w' : World} {base : Nat} {A : Option Addr} {n c : Nat} {l : List Fr} (h : Ow w base A n c l) (hk : ∀ k, (Value.slice A n c).ownBlock = some k → w'.heap[k]? = w.heap[k]?) : Ow w' base A n c l := by
  refine ⟨h.1, ?_⟩
  rcases h.2 with h2 | ⟨g, cap, cur, hv, hbg, hg, hr⟩
  · exact .inl h2
  · exact .inr ⟨g, cap, cur, hv, hbg, (hk g (by rw [hv]; rfl)).trans hg, hr⟩
set_option maxRecDepth 100000 in
theorem Ow.below {w w' : World} {base : Nat} {A : Option Addr} {n c : Nat} {l : List Fr} (h : Ow w base A n c l) (hb : Below w.heap.size w w') : Ow w' base A n c l :=
  h.kept fun k hk => hb.block k (World.ownsRow.lt h k hk).2
set_option maxRecDepth 100000 in
theorem Ow.at {w : World} {base : Nat} {A : Option Addr} {n c : Nat} {l : List Fr} (h : Ow w base A n c l) (hp : 0 < n) :
    ∃ g, A = some ⟨g, 0, none⟩ ∧ base ≤ g ∧ g < w.heap.size ∧ ∀ j v, (flat l)[j]? = some v → w.cell? ⟨g, j, none⟩ = some v := by
  rcases h.2 with ⟨hv, hx⟩ | ⟨g, cap, cur, hv, hbg, hg, hr⟩
  · omega
  · injection hv with hA _ hc
    subst hA
    refine ⟨g, rfl, hbg, (Array.getElem?_eq_some_iff.1 hg).1, fun j v hv => ?_⟩
    have := World.ownsRow.cells h (g := g) rfl j v hv
    rwa [add_zero'] at this
set_option maxRecDepth 100000 in
theorem Ow.pr {w : World} {base : Nat} {A : Option Addr} {n c : Nat} {l : List Fr} (h : Ow w base A n c l) : Pr w.heap.size w A l := fun hp => by
  have hl := h.len
  obtain ⟨g, rfl, hbg, hlt, hc⟩ := h.at (by omega)
  refine ⟨g, 0, rfl, hlt, fun i x hx => C7.of fun j v hv => ?_⟩
  have hj : j < 7 := by have := (List.getElem?_eq_some_iff.1 hv).1; simpa [pc] using this
  rw [Nat.zero_add]
  exact hc _ _ ((flat_get l i x hx j hj).trans hv)
/-- Where calls to be appended are. -/
def Src (w : World) (B : Option Addr) (l : List Fr) : Prop := (B = none → l = []) ∧ ∀ ad, B = some ad → ∀ j v, (flat l)[j]? = some v → w.cell? (ad.add j) = some v
set_option maxRecDepth 100000 in
theorem Pr.src {n : Nat} {w : World} {A : Option Addr} {l : List Fr} (h : Pr n w A l) : Src w A l := by
  refine ⟨fun e => ?_, fun ad e j v hv => ?_⟩
  · cases l with
    | nil => rfl
    | cons x l => obtain ⟨b, off, e', _⟩ := h (by simp); rw [e] at e'; cases e'
  · have hj := (List.getElem?_eq_some_iff.1 hv).1
    rw [flat_len] at hj
    obtain ⟨b, off, e', hlt, hc⟩ := h (by omega)
    rw [e'] at e
    cases e
    rw [add_plain']
    have hi : j / 7 < l.length := by omega
    have hx : l[j / 7]? = some l[j / 7] := List.getElem?_eq_getElem hi
    have hm : j % 7 < 7 := Nat.mod_lt _ (by omega)
    have hg := flat_get l (j / 7) _ hx (j % 7) hm
    have ej : j / 7 * 7 + j % 7 = j := by omega
    rw [ej] at hg
    rw [hg] at hv
    have := (hc (j / 7) _ hx).all (j % 7) v hv
    rw [Nat.add_assoc, ej] at this
    exact this
set_option maxRecDepth 100000 in
theorem pc_new (w : World) (x : Fr) : ∀ j v, (pc x)[j]? = some v → (w.alloc (.cells #[.int .i64 x.op, .int .i64 x.pc, .int .i64 x.who, .int .u64 x.val, .int .u64 x.x, .int .u64 x.y, .int .i64 x.res] 34)).cell? ⟨w.heap.size, j, none⟩ = some v := by
  intro j v hv
  have h := heap_alloc_new w (.cells #[.int .i64 x.op, .int .i64 x.pc, .int .i64 x.who, .int .u64 x.val, .int .u64 x.x, .int .u64 x.y, .int .i64 x.res] 34)
  simp only [World.cell?, h]
  have hj : j < 7 := by have := (List.getElem?_eq_some_iff.1 hv).1; simpa [pc] using this
  have hc : j = 0 ∨ j = 1 ∨ j = 2 ∨ j = 3 ∨ j = 4 ∨ j = 5 ∨ j = 6 := by omega
  rcases hc with rfl | rfl | rfl | rfl | rfl | rfl | rfl <;> simpa [pc] using hv
set_option maxRecDepth 100000 in
theorem src_new (w : World) (x : Fr) : Src (w.alloc (.cells #[.int .i64 x.op, .int .i64 x.pc, .int .i64 x.who, .int .u64 x.val, .int .u64 x.x, .int .u64 x.y, .int .i64 x.res] 34)) (some ⟨w.heap.size, 0, none⟩) [x] := by
  refine ⟨(fun e => by cases e), fun ad e j v hv => ?_⟩
  cases e
  rw [add_zero']
  exact pc_new w x j v (by simpa [flat] using hv)
set_option maxRecDepth 100000 in
theorem Try.info34 : (Try.prog.info? 34).map (fun i => (i.zero, i.size, i.bytes)) = some (some (.agg #[.int .i64 0, .int .i64 0, .int .i64 0, .int .u64 0, .int .u64 0, .int .u64 0, .int .i64 0]), 7, 56) := by kernel_rfl
set_option maxRecDepth 100000 in
theorem Try.size34 : (Try.prog.info? 34).map (·.size) = some 7 := by kernel_rfl
set_option maxRecDepth 100000 in
/-- Calls appended to calls. -/
theorem app_frs {w : World} {base : Nat} {Q : Option Addr} {n d : Nat} {l k : List Fr} (h : Ow w base Q n d l) {B : Option Addr} (c : Nat) (hs : Src w B k) {m : Nat} (hm : k.length = m) (hz : n + m ≤ 10000) (hb : base ≤ w.heap.size) :
    ∃ Q' d' w', (Builtin.append_ #[28, 28] 28 #[.slice Q n d, .slice B m c]).run Try.prog w = .ok (.slice Q' (n + m) d') w' ∧ Ow w' base Q' (n + m) d' (l ++ k) ∧ w.grownBy w' (Value.slice Q n d).ownBlock ∧ Below base w w' ∧ ((Value.slice Q' (n + m) d').ownBlock = (Value.slice Q n d).ownBlock ∨ (Value.slice Q' (n + m) d').ownBlock = some w.heap.size) := by
  obtain ⟨i0, hi0, hz'⟩ := Option.map_eq_some_iff.1 Try.info34
  simp only [Prod.mk.injEq] at hz'
  obtain ⟨hz0, hz1, hz2⟩ := hz'
  obtain ⟨s2, s3⟩ := hs
  rcases B with _ | ad
  · obtain rfl := s2 rfl
    simp at hm
    subst hm
    refine ⟨Q, d, w, ?_, by simpa using h, ⟨rfl, rfl, rfl, Nat.le_refl _, fun _ _ _ => rfl⟩, Below.refl _ _, .inl ?_⟩
    rotate_left
    · rw [Nat.add_zero]
    rcases h.2 with ⟨hv, _⟩ | ⟨g, cap, cur, hv, _, _, hnc, _⟩
    · injection hv with hA hn hc
      subst hA hn hc
      simp [Builtin.append_, run_underlying Try.underlying28, sizeOf, typeInfo, hi0, Builtin.lenOf, Builtin.firstCells]
    · injection hv with hA hn hc
      subst hA hc
      simp [Builtin.append_, run_underlying Try.underlying28, sizeOf, typeInfo, hi0, Builtin.lenOf, Builtin.firstCells, hnc, storeCells]
  · obtain ⟨v', w', hrun, g2, g3, _, g5⟩ := run_append_own_at (P := Try.prog) w base 28 28 34 i0 (.agg #[.int .i64 0, .int .i64 0, .int .i64 0, .int .u64 0, .int .u64 0, .int .u64 0, .int .i64 0]) 7 56 Try.underlying28 hi0 hz0 hz1 hz2 rfl (by omega) _ n _ h ad m c (flat k) (by rw [flat_len, hm])
      (s3 ad rfl) (flat_one k) (by simp only [maxLen]; omega) (by omega) hb
    have fin : ∃ Q' d', v' = .slice Q' (n + m) d' := by
      rcases g2.2 with ⟨e1, e2⟩ | ⟨g, cap, cur, e1, _⟩
      · exact ⟨none, 0, by rw [e1, show n + m = 0 from e2]⟩
      · exact ⟨_, cap, e1⟩
    obtain ⟨Q', d', rfl⟩ := fin
    exact ⟨Q', d', w', hrun, by unfold Ow; rw [flat_append]; exact g2, g3, (Below.refl base w).grown g3 hb (fun j hj => (World.ownsRow.lt h j hj).1), g5⟩
set_option maxRecDepth 100000 in
/-- One call more: a box of its own, then the append. -/
theorem app_one {w : World} {base : Nat} {Q : Option Addr} {n d : Nat} {l : List Fr} (h : Ow w base Q n d l) (x : Fr) (hz : n + 1 ≤ 10000) (hb : base ≤ w.heap.size) :
    ∃ Q' d' w', (Builtin.append_ #[28, 28] 28 #[.slice Q n d, .slice (some ⟨w.heap.size, 0, none⟩) 1 1]).run Try.prog (w.alloc (.cells #[.int .i64 x.op, .int .i64 x.pc, .int .i64 x.who, .int .u64 x.val, .int .u64 x.x, .int .u64 x.y, .int .i64 x.res] 34)) = .ok (.slice Q' (n + 1) d') w' ∧ Ow w' base Q' (n + 1) d' (l ++ [x]) ∧ (w.alloc (.cells #[.int .i64 x.op, .int .i64 x.pc, .int .i64 x.who, .int .u64 x.val, .int .u64 x.x, .int .u64 x.y, .int .i64 x.res] 34)).grownBy w' (Value.slice Q n d).ownBlock ∧ Below base w w' ∧ ((Value.slice Q' (n + 1) d').ownBlock = (Value.slice Q n d).ownBlock ∨ (Value.slice Q' (n + 1) d').ownBlock = some (w.heap.size + 1)) := by
  obtain ⟨Q', d', w', h1, h2, h3, h4, h5⟩ := app_frs (h.alloc (.cells #[.int .i64 x.op, .int .i64 x.pc, .int .i64 x.who, .int .u64 x.val, .int .u64 x.x, .int .u64 x.y, .int .i64 x.res] 34)) 1 (src_new w x) (m := 1) rfl hz (by simp; omega)
  exact ⟨Q', d', w', h1, h2, h3, ((Below.refl base w).alloc hb _).trans h4, by simpa using h5⟩
set_option maxRecDepth 100000 in
/-- An append whose run is known, at a list of operations, guarded or not. -/
theorem wpList_append_fr {P : Program} {w : World} {ops : Array Oper} {rest : List Oper} {o : Oper} {a : Act} {Q : Exit → Act → World → Prop} {t u : TypeId} {v xv v' : Value} {w' : World}
    (hrun : (Builtin.append_ #[t, t] u #[v, xv]).run P w = .ok v' w')
    (ho : ∃ s x, o.op = .call { callee := .builtin .append, args := #[s, x], argTypes := #[t, t] } ∧ a.eval s = v ∧ a.eval x = xv) (hu : o.type = u) (hw : Region.wanted o (yielded ops a.tmps) = true)
    (h : wpList P ops Q rest (a.put o.dst v') w') : wpList P ops Q (o :: rest) a w := by
  obtain ⟨s, x, ho, hs, hx⟩ := ho
  refine wpList_step fun K hK => ?_
  rw [if_pos hw]
  unfold Oper.wp execOp
  simp only [ho, hu, resolve, invoke, builtin, Sem.run_bind, Sem.run_pure, Result.andThen_ok, List.map_toArray, List.map_cons, List.map_nil, hs, hx, hrun]
  exact hK _ _ h
/-- Block g holds the calls l, and nothing else. -/
def Bg (w : World) (g : Nat) (l : List Fr) : Prop := w.heap[g]? = some (.cells (flat l).toArray 34 (0, 0))
set_option maxRecDepth 100000 in
theorem Bg.lt {w : World} {g : Nat} {l : List Fr} (h : Bg w g l) : g < w.heap.size := (Array.getElem?_eq_some_iff.1 h).1
set_option maxRecDepth 100000 in
theorem Bg.c7 {w : World} {g : Nat} {l : List Fr} (h : Bg w g l) {i : Nat} {x : Fr} (hx : l[i]? = some x) : C7 w g (i * 7) x := C7.of fun j v hv => by
  have hj : j < 7 := by have := (List.getElem?_eq_some_iff.1 hv).1; simpa [pc] using this
  unfold Bg at h
  simp only [World.cell?, h]
  have := (flat_get l i x hx j hj).trans hv
  simpa using this
set_option maxRecDepth 100000 in
theorem Bg.free {w : World} {g : Nat} {l : List Fr} (h : Bg w g l) (i : Nat) : w.frozen? ⟨g, i, none⟩ = false := by
  unfold Bg at h
  simp [World.frozen?, h]
set_option maxRecDepth 100000 in
theorem Bg.pr {w : World} {g : Nat} {l : List Fr} (h : Bg w g l) {n : Nat} (hn : g < n) : Pr n w (some ⟨g, 0, none⟩) l := fun _ =>
  ⟨g, 0, rfl, hn, fun i x hx => by rw [Nat.zero_add]; exact h.c7 hx⟩
/-- The call f, laid into block g from place k on. -/
def pk7 (w : World) (g k : Nat) (f : Fr) : World := ((((((w.setCell ⟨g, k, none⟩ (.int .i64 f.op)).setCell ⟨g, k + 1, none⟩ (.int .i64 f.pc)).setCell ⟨g, k + 2, none⟩ (.int .i64 f.who)).setCell ⟨g, k + 3, none⟩ (.int .u64 f.val)).setCell ⟨g, k + 4, none⟩ (.int .u64 f.x)).setCell ⟨g, k + 5, none⟩ (.int .u64 f.y)).setCell ⟨g, k + 6, none⟩ (.int .i64 f.res)
set_option maxRecDepth 100000 in
theorem pk7_other {w : World} {g k : Nat} {f : Fr} (j : Nat) (h : j ≠ g) : (pk7 w g k f).heap[j]? = w.heap[j]? := by
  unfold pk7
  iterate 7 rw [Below.heap_setCell _ _ _ j h]
set_option maxRecDepth 100000 in
theorem pk7_size (w : World) (g k : Nat) (f : Fr) : (pk7 w g k f).heap.size = w.heap.size := by
  unfold pk7; simp
set_option maxRecDepth 100000 in
theorem below_pk7 {n : Nat} {w w' : World} (h : Below n w w') {g : Nat} (hg : n ≤ g) (k : Nat) (f : Fr) : Below n w (pk7 w' g k f) :=
  ((((((h.setCell hg _).setCell hg _).setCell hg _).setCell hg _).setCell hg _).setCell hg _).setCell hg _
set_option maxRecDepth 100000 in
theorem keeps_pk7 (w : World) (g k : Nat) (f : Fr) : KeepsOthers w (pk7 w g k f) :=
  ((((((KeepsOthers.setCell w _ _).trans (KeepsOthers.setCell _ _ _)).trans (KeepsOthers.setCell _ _ _)).trans (KeepsOthers.setCell _ _ _)).trans (KeepsOthers.setCell _ _ _)).trans (KeepsOthers.setCell _ _ _)).trans (KeepsOthers.setCell _ _ _)
set_option maxRecDepth 100000 in
theorem flat_set : ∀ (l : List Fr) (i : Nat) (f : Fr), i < l.length → flat (l.set i f) = ((((((((flat l).set (i * 7) (.int .i64 f.op)).set (i * 7 + 1) (.int .i64 f.pc)).set (i * 7 + 2) (.int .i64 f.who)).set (i * 7 + 3) (.int .u64 f.val)).set (i * 7 + 4) (.int .u64 f.x)).set (i * 7 + 5) (.int .u64 f.y)).set (i * 7 + 6) (.int .i64 f.res))
  | y :: l, 0, f, _ => by simp [flat, pc]
  | y :: l, i + 1, f, h => by
    have ih := flat_set l i f (by simpa using h)
    have e : ∀ x (m : List Fr), flat (x :: m) = pc x ++ flat m := fun x m => by simp [flat]
    rw [List.set_cons_succ, e, e, ih]
    have s : ∀ (m : List Value) (j : Nat) v, (pc y ++ m).set (7 + j) v = pc y ++ m.set j v := fun m j v => by
      rw [List.set_append_right _ _ (by simp [pc])]; simp [pc]
    rw [show (i + 1) * 7 = 7 + i * 7 by omega]
    simp only [Nat.add_assoc]
    rw [s, s, s, s, s, s, s]
  | [], _, _, h => by simp at h
set_option maxRecDepth 100000 in
theorem Bg.set {w : World} {g : Nat} {l : List Fr} (h : Bg w g l) {i : Nat} (hi : i < l.length) (f : Fr) : Bg (pk7 w g (i * 7) f) g (l.set i f) := by
  unfold Bg at h ⊢
  rw [flat_set l i f hi]
  unfold pk7
  simp [World.setCell, Array.getElem?_modify, h]
set_option maxRecDepth 100000 in
theorem Bg.other {w : World} {g g' k : Nat} {l : List Fr} (h : Bg w g l) (hne : g ≠ g') (f : Fr) : Bg (pk7 w g' k f) g l := (pk7_other g hne).trans h
end Go.Proofs.Ytgemaeibmgkneaa
