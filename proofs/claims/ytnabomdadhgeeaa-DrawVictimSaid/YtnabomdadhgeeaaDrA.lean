/- Picks and bytes in memory: rows of structs of three numbers, rows of bytes, and what a call builds by append. -/
import Derived.Test.YtnabomdadhgeeaaBase
import Derived.Maps.AppendAt
import Derived.Laws.MakeOwn
namespace Go.Proofs.Ytnabomdadhgeeaa
open Go.RowKit Go.Deep

/-- A pick: its kind, who, and the draw. -/
abbrev Pk := Int × Int × Int
/-- A pick as a value. -/
abbrev pv (p : Pk) : Value := .agg #[.int .i64 p.1, .int .i64 p.2.1, .int .u64 p.2.2]
def pc (p : Pk) : List Value := [.int .i64 p.1, .int .i64 p.2.1, .int .u64 p.2.2]
/-- The cells of picks. -/
def flat (l : List Pk) : List Value := l.flatMap pc
theorem flat_len (l : List Pk) : (flat l).length = l.length * 3 := by
  induction l with
  | nil => rfl
  | cons x l ih => simp [flat, pc] at ih ⊢; omega
theorem flat_append (l k : List Pk) : flat (l ++ k) = flat l ++ flat k := by simp [flat]
theorem flat_one (l : List Pk) : ∀ v ∈ flat l, v.oneCell' = true := by
  intro v hv
  simp only [flat, List.mem_flatMap] at hv
  obtain ⟨x, _, hx⟩ := hv
  simp only [pc, List.mem_cons, List.not_mem_nil, or_false] at hx
  rcases hx with rfl | rfl | rfl <;> rfl
theorem flat_at : ∀ (l : List Pk) (i : Nat) (x : Pk), l[i]? = some x →
    (flat l)[i * 3]? = some (.int .i64 x.1) ∧ (flat l)[i * 3 + 1]? = some (.int .i64 x.2.1) ∧ (flat l)[i * 3 + 2]? = some (.int .u64 x.2.2)
  | y :: l, 0, x, h => by simp at h; subst h; exact ⟨rfl, rfl, rfl⟩
  | y :: l, i + 1, x, h => by
    have := flat_at l i x (by simpa using h)
    rw [show (i + 1) * 3 = i * 3 + 1 + 1 + 1 by omega]
    simp only [flat, List.flatMap_cons, pc, List.cons_append, List.nil_append] at this ⊢
    simpa using this
  | [], _, _, h => by simp at h
/-- The slice at A reads as the picks l, in a block below n. -/
def Pr (n : Nat) (w : World) (A : Option Addr) (l : List Pk) : Prop :=
  0 < l.length → ∃ b off, A = some ⟨b, off, none⟩ ∧ b < n ∧ ∀ i x, l[i]? = some x →
    w.cell? ⟨b, off + i * 3, none⟩ = some (.int .i64 x.1) ∧ w.cell? ⟨b, off + i * 3 + 1, none⟩ = some (.int .i64 x.2.1) ∧ w.cell? ⟨b, off + i * 3 + 2, none⟩ = some (.int .u64 x.2.2)
theorem add_plain' (b off j : Nat) : (⟨b, off, none⟩ : Addr).add j = ⟨b, off + j, none⟩ := by
  unfold Addr.add; split
  · rename_i h; subst h; rfl
  · rfl
theorem add_zero' (g k : Nat) : (⟨g, 0, none⟩ : Addr).add k = ⟨g, k, none⟩ := by rw [add_plain', Nat.zero_add]
theorem Pr.nil (n : Nat) (w : World) (A : Option Addr) : Pr n w A [] := fun h => by simp at h
theorem Pr.below {n : Nat} {w w' : World} {A : Option Addr} {l : List Pk} (h : Pr n w A l) (hb : Below n w w') : Pr n w' A l := fun hp => by
  obtain ⟨b, off, e, hlt, hc⟩ := h hp
  refine ⟨b, off, e, hlt, fun i x hx => ?_⟩
  obtain ⟨h1, h2, h3⟩ := hc i x hx
  exact ⟨(hb.cell (p := ⟨b, off + i * 3, none⟩) hlt).trans h1, (hb.cell (p := ⟨b, off + i * 3 + 1, none⟩) hlt).trans h2, (hb.cell (p := ⟨b, off + i * 3 + 2, none⟩) hlt).trans h3⟩
theorem Pr.mono {n m : Nat} {w : World} {A : Option Addr} {l : List Pk} (h : Pr n w A l) (hn : n ≤ m) : Pr m w A l := fun hp => by
  obtain ⟨b, off, e, hlt, hc⟩ := h hp
  exact ⟨b, off, e, by omega, hc⟩
theorem Pr.at {n : Nat} {w : World} {A : Option Addr} {l : List Pk} (h : Pr n w A l) {i : Nat} (hi : i < l.length) :
    ∃ b off, A = some ⟨b, off, none⟩ ∧ b < n ∧ w.cell? ⟨b, off + i * 3, none⟩ = some (.int .i64 l[i].1) ∧ w.cell? ⟨b, off + i * 3 + 1, none⟩ = some (.int .i64 l[i].2.1) ∧ w.cell? ⟨b, off + i * 3 + 2, none⟩ = some (.int .u64 l[i].2.2) := by
  obtain ⟨b, off, e, hlt, hc⟩ := h (by omega)
  obtain ⟨h1, h2, h3⟩ := hc i l[i] (List.getElem?_eq_getElem hi)
  exact ⟨b, off, e, hlt, h1, h2, h3⟩
/-- A part of a row of picks. -/
theorem Pr.part {n : Nat} {w : World} {b off : Nat} {l : List Pk} (h : Pr n w (some ⟨b, off, none⟩) l) (i k : Nat) : Pr n w (some ⟨b, off + i * 3, none⟩) ((l.drop i).take k) := fun hp => by
  have hl : 0 < l.length := by simp at hp; omega
  obtain ⟨b', off', e, hlt, hc⟩ := h hl
  cases e
  refine ⟨b, off + i * 3, rfl, hlt, fun j x hx => ?_⟩
  rw [List.getElem?_take] at hx
  split at hx
  · rw [List.getElem?_drop] at hx
    have := hc (i + j) x hx
    rw [show off + (i + j) * 3 = off + i * 3 + j * 3 by omega] at this
    exact this
  · cases hx
/-- The slice at A reads as the bytes l, in a block below n. -/
def By (n : Nat) (w : World) (A : Option Addr) (l : List Int) : Prop :=
  0 < l.length → ∃ b off, A = some ⟨b, off, none⟩ ∧ b < n ∧ ∀ i x, l[i]? = some x → w.cell? ⟨b, off + i, none⟩ = some (.int .u8 x)
theorem By.below {n : Nat} {w w' : World} {A : Option Addr} {l : List Int} (h : By n w A l) (hb : Below n w w') : By n w' A l := fun hp => by
  obtain ⟨b, off, e, hlt, hc⟩ := h hp
  exact ⟨b, off, e, hlt, fun i x hx => (hb.cell (p := ⟨b, off + i, none⟩) hlt).trans (hc i x hx)⟩
theorem By.mono {n m : Nat} {w : World} {A : Option Addr} {l : List Int} (h : By n w A l) (hn : n ≤ m) : By m w A l := fun hp => by
  obtain ⟨b, off, e, hlt, hc⟩ := h hp
  exact ⟨b, off, e, by omega, hc⟩
theorem By.at {n : Nat} {w : World} {A : Option Addr} {l : List Int} (h : By n w A l) {i : Nat} (hi : i < l.length) :
    ∃ b off, A = some ⟨b, off, none⟩ ∧ b < n ∧ w.cell? ⟨b, off + i, none⟩ = some (.int .u8 l[i]) := by
  obtain ⟨b, off, e, hlt, hc⟩ := h (by omega)
  exact ⟨b, off, e, hlt, hc i l[i] (List.getElem?_eq_getElem hi)⟩

/-- The call owns the picks l, in a block from number 'base' on. -/
def Ow (w : World) (base : Nat) (A : Option Addr) (n c : Nat) (l : List Pk) : Prop := w.ownsRow base 25 3 (.slice A n c) n (flat l)
theorem Ow.len {w : World} {base : Nat} {A : Option Addr} {n c : Nat} {l : List Pk} (h : Ow w base A n c l) : l.length = n := by
  have := h.1
  rw [flat_len] at this
  omega
theorem Ow.nil (w : World) (base : Nat) : Ow w base none 0 0 [] := World.ownsRow_nil _ _ _ _
theorem Ow.alloc {w : World} {base : Nat} {A : Option Addr} {n c : Nat} {l : List Pk} (h : Ow w base A n c l) (o : Obj) : Ow (w.alloc o) base A n c l := World.ownsRow.alloc h _
theorem Ow.kept {w w' : World} {base : Nat} {A : Option Addr} {n c : Nat} {l : List Pk} (h : Ow w base A n c l) (hk : ∀ k, (Value.slice A n c).ownBlock = some k → w'.heap[k]? = w.heap[k]?) : Ow w' base A n c l := by
  refine ⟨h.1, ?_⟩
  rcases h.2 with h2 | ⟨g, cap, cur, hv, hbg, hg, hr⟩
  · exact .inl h2
  · exact .inr ⟨g, cap, cur, hv, hbg, (hk g (by rw [hv]; rfl)).trans hg, hr⟩
theorem Ow.below {w w' : World} {base : Nat} {A : Option Addr} {n c : Nat} {l : List Pk} (h : Ow w base A n c l) (hb : Below w.heap.size w w') : Ow w' base A n c l :=
  h.kept fun k hk => hb.block k (World.ownsRow.lt h k hk).2
theorem Ow.at {w : World} {base : Nat} {A : Option Addr} {n c : Nat} {l : List Pk} (h : Ow w base A n c l) (hp : 0 < n) :
    ∃ g, A = some ⟨g, 0, none⟩ ∧ base ≤ g ∧ g < w.heap.size ∧ ∀ j v, (flat l)[j]? = some v → w.cell? ⟨g, j, none⟩ = some v := by
  rcases h.2 with ⟨hv, hx⟩ | ⟨g, cap, cur, hv, hbg, hg, hr⟩
  · omega
  · injection hv with hA _ hc
    subst hA
    refine ⟨g, rfl, hbg, (Array.getElem?_eq_some_iff.1 hg).1, fun j v hv => ?_⟩
    have := World.ownsRow.cells h (g := g) rfl j v hv
    rwa [add_zero'] at this
theorem Ow.pr {w : World} {base : Nat} {A : Option Addr} {n c : Nat} {l : List Pk} (h : Ow w base A n c l) : Pr w.heap.size w A l := fun hp => by
  have hl := h.len
  obtain ⟨g, rfl, hbg, hlt, hc⟩ := h.at (by omega)
  refine ⟨g, 0, rfl, hlt, fun i x hx => ?_⟩
  obtain ⟨f1, f2, f3⟩ := flat_at l i x hx
  rw [Nat.zero_add]
  exact ⟨hc _ _ f1, hc _ _ f2, hc _ _ f3⟩
/-- Where picks to be appended are. -/
def Src (w : World) (B : Option Addr) (l : List Pk) : Prop := (B = none → l = []) ∧ ∀ ad, B = some ad → ∀ j v, (flat l)[j]? = some v → w.cell? (ad.add j) = some v
theorem Pr.src {n : Nat} {w : World} {A : Option Addr} {l : List Pk} (h : Pr n w A l) : Src w A l := by
  refine ⟨fun e => ?_, fun ad e j v hv => ?_⟩
  · cases l with
    | nil => rfl
    | cons x l => obtain ⟨b, off, e', _⟩ := h (by simp); rw [e] at e'; cases e'
  · have hj := (List.getElem?_eq_some_iff.1 hv).1
    rw [flat_len] at hj
    obtain ⟨b, off, e', hlt, hc⟩ := h (by omega)
    rw [e'] at e
    cases e
    rw [add_plain']
    have hi : j / 3 < l.length := by omega
    have hx : l[j / 3]? = some l[j / 3] := List.getElem?_eq_getElem hi
    obtain ⟨f1, f2, f3⟩ := flat_at l (j / 3) _ hx
    obtain ⟨c1, c2, c3⟩ := hc (j / 3) _ hx
    have h3 : j % 3 = 0 ∨ j % 3 = 1 ∨ j % 3 = 2 := by omega
    rcases h3 with e | e | e
    · rw [show j / 3 * 3 = j by omega] at f1 c1
      rw [f1] at hv; cases hv; exact c1
    · rw [show j / 3 * 3 + 1 = j by omega] at f2
      rw [show off + j / 3 * 3 + 1 = off + j by omega] at c2
      rw [f2] at hv; cases hv; exact c2
    · rw [show j / 3 * 3 + 2 = j by omega] at f3
      rw [show off + j / 3 * 3 + 2 = off + j by omega] at c3
      rw [f3] at hv; cases hv; exact c3
theorem src_new (w : World) (x : Pk) : Src (w.alloc (.cells #[.int .i64 x.1, .int .i64 x.2.1, .int .u64 x.2.2] 25)) (some ⟨w.heap.size, 0, none⟩) [x] := by
  refine ⟨(fun e => by cases e), fun ad e j v hv => ?_⟩
  cases e
  rw [add_zero']
  have h := heap_alloc_new w (.cells #[.int .i64 x.1, .int .i64 x.2.1, .int .u64 x.2.2] 25)
  simp only [World.cell?, h]
  have hj := (List.getElem?_eq_some_iff.1 hv).1
  rw [flat_len] at hj
  simp at hj
  match j, hj, hv with
  | 0, _, hv => simpa [flat, pc] using hv
  | 1, _, hv => simpa [flat, pc] using hv
  | 2, _, hv => simpa [flat, pc] using hv
theorem Try.info25 : (Try.prog.info? 25).map (fun i => (i.zero, i.size, i.bytes)) = some (some (.agg #[.int .i64 0, .int .i64 0, .int .u64 0]), 3, 24) := by kernel_rfl
/-- Picks appended to picks. -/
theorem app_picks {w : World} {base : Nat} {Q : Option Addr} {n d : Nat} {l k : List Pk} (h : Ow w base Q n d l) {B : Option Addr} (c : Nat) (hs : Src w B k) {m : Nat} (hm : k.length = m) (hz : n + m ≤ 100000) (hb : base ≤ w.heap.size) :
    ∃ Q' d' w', (Builtin.append_ #[26, 26] 26 #[.slice Q n d, .slice B m c]).run Try.prog w = .ok (.slice Q' (n + m) d') w' ∧ Ow w' base Q' (n + m) d' (l ++ k) ∧ w.grownBy w' (Value.slice Q n d).ownBlock ∧ Below base w w' := by
  obtain ⟨i0, hi0, hz'⟩ := Option.map_eq_some_iff.1 Try.info25
  simp only [Prod.mk.injEq] at hz'
  obtain ⟨hz0, hz1, hz2⟩ := hz'
  obtain ⟨s2, s3⟩ := hs
  rcases B with _ | ad
  · obtain rfl := s2 rfl
    simp at hm
    subst hm
    refine ⟨Q, d, w, ?_, by simpa using h, ⟨rfl, rfl, rfl, Nat.le_refl _, fun _ _ _ => rfl⟩, Below.refl _ _⟩
    rcases h.2 with ⟨hv, _⟩ | ⟨g, cap, cur, hv, _, _, hnc, _⟩
    · injection hv with hA hn hc
      subst hA hn hc
      simp [Builtin.append_, run_underlying Try.underlying26, sizeOf, typeInfo, hi0, Builtin.lenOf, Builtin.firstCells]
    · injection hv with hA hn hc
      subst hA hc
      simp [Builtin.append_, run_underlying Try.underlying26, sizeOf, typeInfo, hi0, Builtin.lenOf, Builtin.firstCells, hnc, storeCells]
  · obtain ⟨v', w', hrun, g2, g3, _, g5⟩ := run_append_own_at (P := Try.prog) w base 26 26 25 i0 (.agg #[.int .i64 0, .int .i64 0, .int .u64 0]) 3 24 Try.underlying26 hi0 hz0 hz1 hz2 rfl (by omega) _ n _ h ad m c (flat k) (by rw [flat_len, hm])
      (s3 ad rfl) (flat_one k) (by simp only [maxLen]; omega) (by omega) hb
    have fin : ∃ Q' d', v' = .slice Q' (n + m) d' := by
      rcases g2.2 with ⟨e1, e2⟩ | ⟨g, cap, cur, e1, _⟩
      · exact ⟨none, 0, by rw [e1, show n + m = 0 from e2]⟩
      · exact ⟨_, cap, e1⟩
    obtain ⟨Q', d', rfl⟩ := fin
    exact ⟨Q', d', w', hrun, by unfold Ow; rw [flat_append]; exact g2, g3, (Below.refl base w).grown g3 hb (fun j hj => (World.ownsRow.lt h j hj).1)⟩
/-- One pick more: a box of its own, then the append. -/
theorem app_one {w : World} {base : Nat} {Q : Option Addr} {n d : Nat} {l : List Pk} (h : Ow w base Q n d l) (x : Pk) (hz : n + 1 ≤ 100000) (hb : base ≤ w.heap.size) :
    ∃ Q' d' w', (Builtin.append_ #[26, 26] 26 #[.slice Q n d, .slice (some ⟨w.heap.size, 0, none⟩) 1 1]).run Try.prog (w.alloc (.cells #[.int .i64 x.1, .int .i64 x.2.1, .int .u64 x.2.2] 25)) = .ok (.slice Q' (n + 1) d') w' ∧ Ow w' base Q' (n + 1) d' (l ++ [x]) ∧ Below base w w' := by
  obtain ⟨Q', d', w', h1, h2, _, h4⟩ := app_picks (h.alloc (.cells #[.int .i64 x.1, .int .i64 x.2.1, .int .u64 x.2.2] 25)) 1 (src_new w x) (m := 1) rfl hz (by simp; omega)
  exact ⟨Q', d', w', h1, h2, ((Below.refl base w).alloc hb _).trans h4⟩
/-- A new row with room for n picks. -/
theorem make_row (n : Nat) (hn : n ≤ 100000) (base : Nat) (w : World) (hb : base ≤ w.heap.size) :
    ∃ w', (Instr.makeSlice 26 (.int .i64 0) (.int .i64 (n : Int))).run Try.prog w = .ok (.slice (some ⟨w.heap.size, 0, none⟩) 0 n) w' ∧ Ow w' base (some ⟨w.heap.size, 0, none⟩) 0 n [] ∧ Below w.heap.size w w' := by
  obtain ⟨i0, hi0, hz'⟩ := Option.map_eq_some_iff.1 Try.info25
  simp only [Prod.mk.injEq] at hz'
  obtain ⟨hz0, hz1, hz2⟩ := hz'
  obtain ⟨w', h1, h2, h3⟩ := run_make_own (P := Try.prog) w base 26 25 i0 _ 3 Try.underlying26 hi0 hz0 hz1 .i64 .i64 n (by rw [hz2]; omega) (by simp only [maxLen]; omega) hb
  exact ⟨w', h1, h2, (Below.refl _ w).grown h3 (Nat.le_refl _) (fun j hj => by cases hj)⟩
/-- A call that hands back a row of picks, in new memory. -/
def RetP (w : World) (l : List Pk) (e : Ending) (w' : World) : Prop := ∃ A c, e = .returned (.slice A l.length c) ∧ Ow w' w.heap.size A l.length c l ∧ Below w.heap.size w w'
/-- An append whose run is known, at a list of operations, guarded or not. -/
theorem wpList_append_run {P : Program} {w : World} {ops : Array Oper} {rest : List Oper} {o : Oper} {a : Act} {Q : Exit → Act → World → Prop} {t u : TypeId} {v xv v' : Value} {w' : World}
    (hrun : (Builtin.append_ #[t, t] u #[v, xv]).run P w = .ok v' w')
    (ho : ∃ s x, o.op = .call { callee := .builtin .append, args := #[s, x], argTypes := #[t, t] } ∧ a.eval s = v ∧ a.eval x = xv) (hu : o.type = u) (hw : Region.wanted o (yielded ops a.tmps) = true)
    (h : wpList P ops Q rest (a.put o.dst v') w') : wpList P ops Q (o :: rest) a w := by
  obtain ⟨s, x, ho, hs, hx⟩ := ho
  refine wpList_step fun K hK => ?_
  rw [if_pos hw]
  unfold Oper.wp execOp
  simp only [ho, hu, resolve, invoke, builtin, Sem.run_bind, Sem.run_pure, Result.andThen_ok, List.map_toArray, List.map_cons, List.map_nil, hs, hx, hrun]
  exact hK _ _ h
/-- An append whose run is known, as one step of a region that draws. -/
theorem step_append_run {P : Program} {ops : Array Oper} {o : Oper} {a : Act} {w : World} {K : Act → World → Prop} {Q : Exit → Act → World → Prop} {E : Prop} {t u : TypeId} {v xv v' : Value} {w' : World}
    (hrun : (Builtin.append_ #[t, t] u #[v, xv]).run P w = .ok v' w')
    (ho : ∃ s x, o.op = .call { callee := .builtin .append, args := #[s, x], argTypes := #[t, t] } ∧ a.eval s = v ∧ a.eval x = xv) (hu : o.type = u) (hg : o.guard = none)
    (hK : K (a.put o.dst v') w') : if Region.wanted o (yielded ops a.tmps) = true then Oper.wp P o a w K Q else E := by
  obtain ⟨s, x, hop, hs, hx⟩ := ho
  subst hu
  have hw : Region.wanted o (yielded ops a.tmps) = true := by simp [Region.wanted, hg]
  rw [if_pos hw]
  unfold Oper.wp
  simp [execOp, hop, resolve, invoke, builtin, hs, hx, hrun, Result.andThen]
  exact hK
end Go.Proofs.Ytnabomdadhgeeaa
