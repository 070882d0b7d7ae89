/- Rows of numbers in memory: what they read as, what a call makes by append, and what becomes of them. -/
import Derived.Test.YtobcedlkmnmikaaBase
import Derived.Maps.AppendAt
namespace Go.Proofs.Ytobcedlkmnmikaa.Fo
open Go.RowKit Go.Deep
/-- The slice at address A reads as the numbers l. -/
def Rd (w : World) (A : Option Addr) (l : List Int) : Prop :=
  0 < l.length → ∃ ad, A = some ad ∧ ad.block < w.heap.size ∧ ∀ j u, l[j]? = some u → w.cell? (ad.add j) = some (.int .i64 u)
/-- Block g is just these numbers, not frozen. -/
def Bk (w : World) (g : Nat) (l : List Int) : Prop := w.heap[g]? = some (.cells (l.map (Value.int .i64)).toArray 3 (0, 0))
theorem Try.info3 : (Try.prog.info? 3).map (fun i => (i.zero, i.size, i.bytes)) = some (some (.int .i64 0), 1, 8) := by kernel_rfl
theorem Try.size3 : (Try.prog.info? 3).map (·.size) = some 1 := by kernel_rfl
theorem Rd.below {w w' : World} {A : Option Addr} {l : List Int} (h : Rd w A l) (hb : Below w.heap.size w w') : Rd w' A l := fun hp => by
  obtain ⟨ad, e, hlt, hc⟩ := h hp
  exact ⟨ad, e, Nat.lt_of_lt_of_le hlt hb.size, fun j u hu => (hb.cell (p := ad.add j) (by unfold Addr.add; split <;> exact hlt)).trans (hc j u hu)⟩
theorem Bk.lt {w : World} {g : Nat} {l : List Int} (h : Bk w g l) : g < w.heap.size := by
  rcases Nat.lt_or_ge g w.heap.size with hlt | hge
  · exact hlt
  · unfold Bk at h; rw [Array.getElem?_eq_none hge] at h; cases h
theorem Bk.cell {w : World} {g : Nat} {l : List Int} (h : Bk w g l) (k : Nat) (u : Int) (hu : l[k]? = some u) : w.cell? ⟨g, k, none⟩ = some (.int .i64 u) := by
  have := cell_of_row w g k _ 3 (0, 0) h
  rw [this]; simp [hu]
theorem Bk.frozen {w : World} {g : Nat} {l : List Int} (h : Bk w g l) (i : Nat) : w.frozen? ⟨g, i, none⟩ = false := by
  unfold Bk at h
  simp [World.frozen?, h]
theorem add_zero' (g k : Nat) : (⟨g, 0, none⟩ : Addr).add k = ⟨g, k, none⟩ := by
  unfold Addr.add; split
  · rename_i h; simp_all
  · simp
theorem Bk.rd {w : World} {g : Nat} {l : List Int} (h : Bk w g l) : Rd w (some ⟨g, 0, none⟩) l := fun _ =>
  ⟨_, rfl, h.lt, fun j u hu => by rw [add_zero']; exact h.cell j u hu⟩
theorem Bk.set {w : World} {g : Nat} {l : List Int} (h : Bk w g l) (k : Nat) (u : Int) : Bk (w.setCell ⟨g, k, none⟩ (.int .i64 u)) g (l.set k u) := by
  unfold Bk at h ⊢
  simp [World.setCell, Array.getElem?_modify, h, List.map_set]
theorem Bk.alloc {w : World} {g : Nat} {l : List Int} (h : Bk w g l) (o : Obj) : Bk (w.alloc o) g l := (Below.heap_alloc w o g h.lt).trans h
theorem Bk.below {w w' : World} {g B : Nat} {l : List Int} (h : Bk w g l) (hb : Below B w w') (hg : g < B) : Bk w' g l := (hb.block g hg).trans h
theorem block_add (a : Addr) (n : Nat) : (a.add n).block = a.block := by unfold Addr.add; split <;> rfl
/-- The slice owns the numbers l, in a block from number 'base' on. -/
def Own (w : World) (base : Nat) (A : Option Addr) (n c : Nat) (l : List Int) : Prop := w.ownsRow base 3 1 (.slice A n c) n (l.map (Value.int .i64))
theorem Own.len {w : World} {base : Nat} {A : Option Addr} {n c : Nat} {l : List Int} (h : Own w base A n c l) : l.length = n := by
  have := h.1
  simpa using this
theorem Own.rd {w : World} {base : Nat} {A : Option Addr} {n c : Nat} {l : List Int} (h : Own w base A n c l) : Rd w A l := fun hp => by
  rcases h.2 with ⟨hv, hx⟩ | ⟨g, cap, cur, hv, hb, hg, _⟩
  · have := h.len; omega
  · injection hv with hA _ _
    subst hA
    refine ⟨_, rfl, (Array.getElem?_eq_some_iff.1 hg).1, fun j u hu => ?_⟩
    exact World.ownsRow.cells h (g := g) rfl j _ (by simp [hu])
theorem Own.set {w : World} {base : Nat} {A : Option Addr} {n c : Nat} {l : List Int} (h : Own w base A n c l) {k : Nat} (hk : k < n) :
    ∃ g u, A = some ⟨g, 0, none⟩ ∧ base ≤ g ∧ w.cell? ⟨g, k, none⟩ = some (.int .i64 u) ∧ w.frozen? ⟨g, k, none⟩ = false ∧ ∀ v, Own (w.setCell ⟨g, k, none⟩ (.int .i64 v)) base A n c (l.set k v) := by
  have hl := h.len
  rcases h.2 with ⟨hv, hx⟩ | ⟨g, cap, cur, hv, hb, hg, hr⟩
  · omega
  · injection hv with hA _ hc
    subst hA
    subst hc
    refine ⟨g, l[k]'(by omega), rfl, hb, ?_, ?_, fun v => ⟨by simp [hl], .inr ⟨g, c, cur.setIfInBounds k (.int .i64 v), rfl, hb, ?_, ?_⟩⟩⟩
    · have := World.ownsRow.cells h (g := g) rfl k (.int .i64 (l[k]'(by omega))) (by simp [show k < l.length by omega])
      rw [add_zero'] at this
      exact this
    · simp [World.frozen?, hg]
    · simp [World.setCell, Array.getElem?_modify, hg]
    · obtain ⟨h1, h2, h3, h4⟩ := hr
      refine ⟨h1, h2, by simpa using h3, ?_⟩
      simp only [Array.toList_setIfInBounds, List.take_set, h4, List.map_set]
theorem run_app {w : World} {base : Nat} {A : Option Addr} {n c : Nat} {l : List Int} (ho : Own w base A n c l) {B : Option Addr} {m : Nat} (d : Nat) {k : List Int} (hk : Rd w B k) (hm : k.length = m) (hs : n + m ≤ 1000000) (hb : base ≤ w.heap.size) :
    ∃ A' c' w', (Builtin.append_ #[35, 35] 35 #[.slice A n c, .slice B m d]).run Try.prog w = .ok (.slice A' (n + m) c') w' ∧ Own w' base A' (n + m) c' (l ++ k) ∧ Below base w w' := by
  obtain ⟨i0, hi0, hz⟩ := Option.map_eq_some_iff.1 Try.info3
  simp only [Prod.mk.injEq] at hz
  obtain ⟨hz0, hz1, hz2⟩ := hz
  have fin : ∀ v' w', w'.ownsRow base 3 1 v' (n + m) (l.map (Value.int .i64) ++ k.map (Value.int .i64)) → ∃ A' c', v' = .slice A' (n + m) c' ∧ Own w' base A' (n + m) c' (l ++ k) := by
    intro v' w' h'
    rcases h'.2 with ⟨rfl, hx⟩ | ⟨g, cap, cur, rfl, hr⟩
    · have h0 : n + m = 0 := hx
      rw [h0] at h'
      exact ⟨none, 0, by rw [h0], by rw [h0]; unfold Own; rw [List.map_append]; exact h'⟩
    · exact ⟨_, cap, rfl, by unfold Own; rw [List.map_append]; exact h'⟩
  rcases B with _ | ad
  · have h0 : m = 0 := by
      rcases Nat.eq_zero_or_pos m with h | h
      · exact h
      · obtain ⟨_, h, _⟩ := hk (by omega)
        cases h
    subst h0
    obtain rfl : k = [] := List.eq_nil_of_length_eq_zero hm
    refine ⟨A, c, w, ?_, by simpa using ho, Below.refl _ _⟩
    rcases ho.2 with ⟨hv, _⟩ | ⟨g, cap, cur, hv, _, _, hnc, _⟩
    · injection hv with hA hn hc
      subst hA hn hc
      simp [Builtin.append_, run_underlying Try.underlying35, sizeOf, typeInfo, hi0, Builtin.lenOf, Builtin.firstCells]
    · injection hv with hA hn hc
      subst hA hc
      simp [Builtin.append_, run_underlying Try.underlying35, sizeOf, typeInfo, hi0, Builtin.lenOf, Builtin.firstCells, hnc, storeCells]
  · have hc : ∀ j u, k[j]? = some u → w.cell? (ad.add j) = some (.int .i64 u) := fun j u hu => by
      obtain ⟨_, h, _, h'⟩ := hk (by have := (List.getElem?_eq_some_iff.1 hu).1; omega)
      injection h with h
      subst h
      exact h' j u hu
    obtain ⟨v', w', hrun, h2, h3, _, h5⟩ := run_append_own_at (P := Try.prog) w base 35 35 3 i0 (.int .i64 0) 1 8 Try.underlying35 hi0 hz0 hz1 hz2 rfl (by omega) _ n _ ho ad m d (k.map (Value.int .i64)) (by simp [hm])
      (fun j u hu => by
        simp only [List.getElem?_map, Option.map_eq_some_iff] at hu
        obtain ⟨x, hx, rfl⟩ := hu
        exact hc j x hx) (fun u hu => by simp only [List.mem_map] at hu; obtain ⟨x, _, rfl⟩ := hu; rfl) (by simp only [maxLen]; omega) (by omega) hb
    obtain ⟨A', c', rfl, h6⟩ := fin v' w' h2
    exact ⟨A', c', w', hrun, h6, (Below.refl base w).grown h3 hb (fun j hj => (World.ownsRow.lt ho j hj).1)⟩
/-- An append whose run is known, at a list of operations, guarded or not. -/
theorem wpList_append_run {P : Program} {w : World} {ops : Array Oper} {rest : List Oper} {o : Oper} {a : Act} {Q : Exit → Act → World → Prop} {t u : TypeId} {v xv v' : Value} {w' : World}
    (hrun : (Builtin.append_ #[t, t] u #[v, xv]).run P w = .ok v' w')
    (ho : ∃ s x, o.op = .call { callee := .builtin .append, args := #[s, x], argTypes := #[t, t] } ∧ a.eval s = v ∧ a.eval x = xv) (hu : o.type = u) (hw : Region.wanted o (yielded ops a.tmps) = true)
    (h : wpList P ops Q rest (a.put o.dst v') w') : wpList P ops Q (o :: rest) a w := by
  obtain ⟨s, x, ho, hs, hx⟩ := ho
  refine wpList_step fun K hK => ?_
  rw [if_pos hw]
  unfold Oper.wp execOp
  simp only [ho, hu, resolve, invoke, builtin, Sem.run_bind, Sem.run_pure, Result.andThen_ok, List.map_toArray, List.map_cons, List.map_nil, hs, hx, hrun]
  exact hK _ _ h
theorem rd_of_row {w : World} {a : Option Addr} {len cap : Nat} {zs : List Int}
    (h : (a = none ∧ len = 0 ∧ cap = 0 ∧ zs = []) ∨ ∃ x, a = some x ∧ len ≤ cap ∧ cap ≤ maxLen ∧ zs.length = cap ∧ (∀ i, i < zs.length → w.cell? (x.add i) = some (.int .i64 (zs.getD i 0))) ∧ ∀ n ∈ zs, (Lit.int .i64 n).wf = true) :
    Rd w a (zs.take len) ∧ (zs.take len).length = len ∧ ∀ n ∈ zs.take len, (Lit.int .i64 n).wf = true := by
  rcases h with ⟨rfl, rfl, rfl, rfl⟩ | ⟨x, rfl, hl, hm, hz, hc, hw⟩
  · exact ⟨fun hp => by simp at hp, by simp, by simp⟩
  · refine ⟨fun hp => ⟨x, rfl, ?_, fun j u hu => ?_⟩, by simp; omega, fun n hn => hw n (List.mem_of_mem_take hn)⟩
    · have h0 := hc 0 (by simp at hp; omega)
      have : (x.add 0) = x := by simp [Addr.add]
      rw [this] at h0
      exact block_lt_of_cell h0
    · rw [List.getElem?_take] at hu
      split at hu
      · have hj := (List.getElem?_eq_some_iff.1 hu).1
        rw [hc j hj, List.getD_eq_getElem?_getD, hu]; rfl
      · cases hu
end Go.Proofs.Ytobcedlkmnmikaa.Fo
