/- Merged: FoI, FoA, FoM, FoF, ThM. -/
import Derived.Test.YtlpkccpijloidaaGreatBaM
import Derived.Maps.AppendAt
import Derived.IntWalk
namespace Go.Proofs.YtlpkccpijloidaaGreat.Fo
set_option maxRecDepth 100000
open Go.RowKit Go.Deep
/-- The slice at address A reads as the numbers l. -/
def Rd (w : World) (A : Option Addr) (l : List Int) : Prop :=
  0 < l.length → ∃ ad, A = some ad ∧ ad.block < w.heap.size ∧ ∀ j u, l[j]? = some u → w.cell? (ad.add j) = some (.int .i64 u)
/-- Block g is just these numbers, not frozen. -/
def Bk (w : World) (g : Nat) (l : List Int) : Prop := w.heap[g]? = some (.cells (l.map (Value.int .i64)).toArray 3 (0, 0))
theorem Tryz.info3 : (Tryz.prog.info? 3).map (fun i => (i.zero, i.size, i.bytes)) = some (some (.int .i64 0), 1, 8) := by kernel_rfl
theorem Rd.below {w w' : World} {A : Option Addr} {l : List Int} (h : Rd w A l) (hb : Below w.heap.size w w') : Rd w' A l := fun hp => by
  obtain ⟨ad, e, hlt, hc⟩ := h hp
  exact ⟨ad, e, Nat.lt_of_lt_of_le hlt hb.size, fun j u hu => (hb.cell (p := ad.add j) (by unfold Addr.add; split <;> exact hlt)).trans (hc j u hu)⟩
theorem Bk.lt {w : World} {g : Nat} {l : List Int} (h : Bk w g l) : g < w.heap.size := by
  rcases Nat.lt_or_ge g w.heap.size with hlt | hge
  · exact hlt
  · unfold Bk at h; rw [Array.getElem?_eq_none hge] at h; cases h
theorem Bk.cell {w : World} {g : Nat} {l : List Int} (h : Bk w g l) (k : Nat) (u : Int) (hu : l[k]? = some u) : w.cell? ⟨g, k, none⟩ = some (.int .i64 u) := by
  have := cell_of_row w g k _ 3 (0, 0) h
  rw [this]; simp [hu]
theorem Bk.frozen {w : World} {g : Nat} {l : List Int} (h : Bk w g l) (i : Nat) : w.frozen? ⟨g, i, none⟩ = false := by
  unfold Bk at h
  simp [World.frozen?, h]
theorem add_zero' (g k : Nat) : (⟨g, 0, none⟩ : Addr).add k = ⟨g, k, none⟩ := by
  unfold Addr.add; split
  · rename_i h; simp_all
  · simp
theorem Bk.rd {w : World} {g : Nat} {l : List Int} (h : Bk w g l) : Rd w (some ⟨g, 0, none⟩) l := fun _ =>
  ⟨_, rfl, h.lt, fun j u hu => by rw [add_zero']; exact h.cell j u hu⟩
theorem Bk.set {w : World} {g : Nat} {l : List Int} (h : Bk w g l) (k : Nat) (u : Int) : Bk (w.setCell ⟨g, k, none⟩ (.int .i64 u)) g (l.set k u) := by
  unfold Bk at h ⊢
  simp [World.setCell, Array.getElem?_modify, h, List.map_set]
theorem Bk.alloc {w : World} {g : Nat} {l : List Int} (h : Bk w g l) (o : Obj) : Bk (w.alloc o) g l := (Below.heap_alloc w o g h.lt).trans h
theorem Bk.below {w w' : World} {g B : Nat} {l : List Int} (h : Bk w g l) (hb : Below B w w') (hg : g < B) : Bk w' g l := (hb.block g hg).trans h
theorem block_add (a : Addr) (n : Nat) : (a.add n).block = a.block := by unfold Addr.add; split <;> rfl
/-- The slice owns the numbers l, in a block from number 'base' on. -/
def Own (w : World) (base : Nat) (A : Option Addr) (n c : Nat) (l : List Int) : Prop := w.ownsRow base 3 1 (.slice A n c) n (l.map (Value.int .i64))
theorem Own.len {w : World} {base : Nat} {A : Option Addr} {n c : Nat} {l : List Int} (h : Own w base A n c l) : l.length = n := by
  have := h.1
  simpa using this
theorem Own.rd {w : World} {base : Nat} {A : Option Addr} {n c : Nat} {l : List Int} (h : Own w base A n c l) : Rd w A l := fun hp => by
  rcases h.2 with ⟨hv, hx⟩ | ⟨g, cap, cur, hv, hb, hg, _⟩
  · have := h.len; omega
  · injection hv with hA _ _
    subst hA
    refine ⟨_, rfl, (Array.getElem?_eq_some_iff.1 hg).1, fun j u hu => ?_⟩
    exact World.ownsRow.cells h (g := g) rfl j _ (by simp [hu])
theorem Own.set {w : World} {base : Nat} {A : Option Addr} {n c : Nat} {l : List Int} (h : Own w base A n c l) {k : Nat} (hk : k < n) :
    ∃ g u, A = some ⟨g, 0, none⟩ ∧ base ≤ g ∧ w.cell? ⟨g, k, none⟩ = some (.int .i64 u) ∧ w.frozen? ⟨g, k, none⟩ = false ∧ ∀ v, Own (w.setCell ⟨g, k, none⟩ (.int .i64 v)) base A n c (l.set k v) := by
  have hl := h.len
  rcases h.2 with ⟨hv, hx⟩ | ⟨g, cap, cur, hv, hb, hg, hr⟩
  · omega
  · injection hv with hA _ hc
    subst hA
    subst hc
    refine ⟨g, l[k]'(by omega), rfl, hb, ?_, ?_, fun v => ⟨by simp [hl], .inr ⟨g, c, cur.setIfInBounds k (.int .i64 v), rfl, hb, ?_, ?_⟩⟩⟩
    · have := World.ownsRow.cells h (g := g) rfl k (.int .i64 (l[k]'(by omega))) (by simp [show k < l.length by omega])
      rw [add_zero'] at this
      exact this
    · simp [World.frozen?, hg]
    · simp [World.setCell, Array.getElem?_modify, hg]
    · obtain ⟨h1, h2, h3, h4⟩ := hr
      refine ⟨h1, h2, by simpa using h3, ?_⟩
      simp only [Array.toList_setIfInBounds, List.take_set, h4, List.map_set]
theorem run_app {w : World} {base : Nat} {A : Option Addr} {n c : Nat} {l : List Int} (ho : Own w base A n c l) {B : Option Addr} {m : Nat} (d : Nat) {k : List Int} (hk : Rd w B k) (hm : k.length = m) (hs : n + m ≤ 1000000) (hb : base ≤ w.heap.size) :
    ∃ A' c' w', (Builtin.append_ #[69, 69] 69 #[.slice A n c, .slice B m d]).run Tryz.prog w = .ok (.slice A' (n + m) c') w' ∧ Own w' base A' (n + m) c' (l ++ k) ∧ Below base w w' := by
  obtain ⟨i0, hi0, hz⟩ := Option.map_eq_some_iff.1 Tryz.info3
  simp only [Prod.mk.injEq] at hz
  obtain ⟨hz0, hz1, hz2⟩ := hz
  have fin : ∀ v' w', w'.ownsRow base 3 1 v' (n + m) (l.map (Value.int .i64) ++ k.map (Value.int .i64)) → ∃ A' c', v' = .slice A' (n + m) c' ∧ Own w' base A' (n + m) c' (l ++ k) := by
    intro v' w' h'
    rcases h'.2 with ⟨rfl, hx⟩ | ⟨g, cap, cur, rfl, hr⟩
    · have h0 : n + m = 0 := hx
      rw [h0] at h'
      exact ⟨none, 0, by rw [h0], by rw [h0]; unfold Own; rw [List.map_append]; exact h'⟩
    · exact ⟨_, cap, rfl, by unfold Own; rw [List.map_append]; exact h'⟩
  rcases B with _ | ad
  · have h0 : m = 0 := by
      rcases Nat.eq_zero_or_pos m with h | h
      · exact h
      · obtain ⟨_, h, _⟩ := hk (by omega)
        cases h
    subst h0
    obtain rfl : k = [] := List.eq_nil_of_length_eq_zero hm
    refine ⟨A, c, w, ?_, by simpa using ho, Below.refl _ _⟩
    rcases ho.2 with ⟨hv, _⟩ | ⟨g, cap, cur, hv, _, _, hnc, _⟩
    · injection hv with hA hn hc
      subst hA hn hc
      simp [Builtin.append_, run_underlying Tryz.underlying69, sizeOf, typeInfo, hi0, Builtin.lenOf, Builtin.firstCells]
    · injection hv with hA hn hc
      subst hA hc
      simp [Builtin.append_, run_underlying Tryz.underlying69, sizeOf, typeInfo, hi0, Builtin.lenOf, Builtin.firstCells, hnc, storeCells]
  · have hc : ∀ j u, k[j]? = some u → w.cell? (ad.add j) = some (.int .i64 u) := fun j u hu => by
      obtain ⟨_, h, _, h'⟩ := hk (by have := (List.getElem?_eq_some_iff.1 hu).1; omega)
      injection h with h
      subst h
      exact h' j u hu
    obtain ⟨v', w', hrun, h2, h3, _, h5⟩ := run_append_own_at (P := Tryz.prog) w base 69 69 3 i0 (.int .i64 0) 1 8 Tryz.underlying69 hi0 hz0 hz1 hz2 rfl (by omega) _ n _ ho ad m d (k.map (Value.int .i64)) (by simp [hm])
      (fun j u hu => by
        simp only [List.getElem?_map, Option.map_eq_some_iff] at hu
        obtain ⟨x, hx, rfl⟩ := hu
        exact hc j x hx) (fun u hu => by simp only [List.mem_map] at hu; obtain ⟨x, _, rfl⟩ := hu; rfl) (by simp only [maxLen]; omega) (by omega) hb
    obtain ⟨A', c', rfl, h6⟩ := fin v' w' h2
    exact ⟨A', c', w', hrun, h6, (Below.refl base w).grown h3 hb (fun j hj => (World.ownsRow.lt ho j hj).1)⟩
/-- An append whose run is known, at a list of operations, guarded or not. -/
theorem wpList_append_run {P : Program} {w : World} {ops : Array Oper} {rest : List Oper} {o : Oper} {a : Act} {Q : Exit → Act → World → Prop} {t u : TypeId} {v xv v' : Value} {w' : World}
    (hrun : (Builtin.append_ #[t, t] u #[v, xv]).run P w = .ok v' w')
    (ho : ∃ s x, o.op = .call { callee := .builtin .append, args := #[s, x], argTypes := #[t, t] } ∧ a.eval s = v ∧ a.eval x = xv) (hu : o.type = u) (hw : Region.wanted o (yielded ops a.tmps) = true)
    (h : wpList P ops Q rest (a.put o.dst v') w') : wpList P ops Q (o :: rest) a w := by
  obtain ⟨s, x, ho, hs, hx⟩ := ho
  refine wpList_step fun K hK => ?_
  rw [if_pos hw]
  unfold Oper.wp execOp
  simp only [ho, hu, resolve, invoke, builtin, Sem.run_bind, Sem.run_pure, Result.andThen_ok, List.map_toArray, List.map_cons, List.map_nil, hs, hx, hrun]
  exact hK _ _ h
theorem rd_of_row {w : World} {a : Option Addr} {len cap : Nat} {zs : List Int}
    (h : (a = none ∧ len = 0 ∧ cap = 0 ∧ zs = []) ∨ ∃ x, a = some x ∧ len ≤ cap ∧ cap ≤ maxLen ∧ zs.length = cap ∧ (∀ i, i < zs.length → w.cell? (x.add i) = some (.int .i64 (zs.getD i 0))) ∧ ∀ n ∈ zs, (Lit.int .i64 n).wf = true) :
    Rd w a (zs.take len) ∧ (zs.take len).length = len ∧ ∀ n ∈ zs.take len, (Lit.int .i64 n).wf = true := by
  rcases h with ⟨rfl, rfl, rfl, rfl⟩ | ⟨x, rfl, hl, hm, hz, hc, hw⟩
  · exact ⟨fun hp => by simp at hp, by simp, by simp⟩
  · refine ⟨fun hp => ⟨x, rfl, ?_, fun j u hu => ?_⟩, by simp; omega, fun n hn => hw n (List.mem_of_mem_take hn)⟩
    · have h0 := hc 0 (by simp at hp; omega)
      have : (x.add 0) = x := by simp [Addr.add]
      rw [this] at h0
      exact block_lt_of_cell h0
    · rw [List.getElem?_take] at hu
      split at hu
      · have hj := (List.getElem?_eq_some_iff.1 hu).1
        rw [hc j hj, List.getD_eq_getElem?_getD, hu]; rfl
      · cases hu
end Go.Proofs.YtlpkccpijloidaaGreat.Fo
namespace Go.Proofs.YtlpkccpijloidaaGreat.Fo
set_option maxRecDepth 100000
open Go.RowKit Go.Deep
/-- A task: its work and its kids. -/
abbrev Tsk := Int × List Int
/-- The slice at A reads as the numbers l, in a block below n. -/
def RdB (n : Nat) (w : World) (A : Option Addr) (l : List Int) : Prop :=
  0 < l.length → ∃ b off, A = some ⟨b, off, none⟩ ∧ b < n ∧ ∀ j u, l[j]? = some u → w.cell? ⟨b, off + j, none⟩ = some (.int .i64 u)
/-- The slice at A reads as the tasks T, all of it in blocks below n. -/
def Tk (n : Nat) (w : World) (A : Option Addr) (T : List Tsk) : Prop :=
  0 < T.length → ∃ b off, A = some ⟨b, off, none⟩ ∧ b < n ∧ ∀ i x, T[i]? = some x → w.cell? ⟨b, off + i * 2, none⟩ = some (.int .i64 x.1) ∧ ∃ K c, w.cell? ⟨b, off + i * 2 + 1, none⟩ = some (.slice K x.2.length c) ∧ RdB n w K x.2
theorem add_plain' (b off j : Nat) : (⟨b, off, none⟩ : Addr).add j = ⟨b, off + j, none⟩ := by
  unfold Addr.add; split
  · rename_i h; subst h; rfl
  · rfl
theorem RdB.below {n : Nat} {w w' : World} {A : Option Addr} {l : List Int} (h : RdB n w A l) (hb : Below n w w') : RdB n w' A l := fun hp => by
  obtain ⟨b, off, e, hlt, hc⟩ := h hp
  exact ⟨b, off, e, hlt, fun j u hu => (hb.cell (p := ⟨b, off + j, none⟩) hlt).trans (hc j u hu)⟩
theorem RdB.mono {n m : Nat} {w : World} {A : Option Addr} {l : List Int} (h : RdB n w A l) (hn : n ≤ m) : RdB m w A l := fun hp => by
  obtain ⟨b, off, e, hlt, hc⟩ := h hp
  exact ⟨b, off, e, by omega, hc⟩
theorem RdB.rd {n : Nat} {w : World} {A : Option Addr} {l : List Int} (h : RdB n w A l) (hn : n ≤ w.heap.size) : Rd w A l := fun hp => by
  obtain ⟨b, off, e, hlt, hc⟩ := h hp
  exact ⟨⟨b, off, none⟩, e, Nat.lt_of_lt_of_le hlt hn, fun j u hu => by rw [add_plain']; exact hc j u hu⟩
theorem Rd.rdB {w : World} {A : Option Addr} {l : List Int} (h : Rd w A l) : RdB w.heap.size w A l := fun hp => by
  obtain ⟨⟨b, off, spot⟩, e, hlt, hc⟩ := h hp
  have h0 := hc 0 l[0] (List.getElem?_eq_getElem hp)
  have hspot : spot = none := by simpa [Addr.add] using World.cell?_spot h0
  subst hspot
  exact ⟨b, off, e, hlt, fun j u hu => by rw [← add_plain']; exact hc j u hu⟩
theorem Tk.below {n : Nat} {w w' : World} {A : Option Addr} {T : List Tsk} (h : Tk n w A T) (hb : Below n w w') : Tk n w' A T := fun hp => by
  obtain ⟨b, off, e, hlt, hc⟩ := h hp
  refine ⟨b, off, e, hlt, fun i x hx => ?_⟩
  obtain ⟨h1, K, c, h2, h3⟩ := hc i x hx
  exact ⟨(hb.cell (p := ⟨b, off + i * 2, none⟩) hlt).trans h1, K, c, (hb.cell (p := ⟨b, off + i * 2 + 1, none⟩) hlt).trans h2, h3.below hb⟩
theorem Tk.mono {n m : Nat} {w : World} {A : Option Addr} {T : List Tsk} (h : Tk n w A T) (hn : n ≤ m) : Tk m w A T := fun hp => by
  obtain ⟨b, off, e, hlt, hc⟩ := h hp
  refine ⟨b, off, e, by omega, fun i x hx => ?_⟩
  obtain ⟨h1, K, c, h2, h3⟩ := hc i x hx
  exact ⟨h1, K, c, h2, h3.mono hn⟩
/-- What a walk wants at one task. -/
theorem Tk.at {n : Nat} {w : World} {A : Option Addr} {T : List Tsk} (h : Tk n w A T) {i : Nat} (hi : i < T.length) :
    ∃ b off K c, A = some ⟨b, off, none⟩ ∧ b < n ∧ w.cell? ⟨b, off + i * 2, none⟩ = some (.int .i64 T[i].1) ∧ w.cell? ⟨b, off + i * 2 + 1, none⟩ = some (.slice K T[i].2.length c) ∧ RdB n w K T[i].2 := by
  obtain ⟨b, off, e, hlt, hc⟩ := h (by omega)
  obtain ⟨h1, K, c, h2, h3⟩ := hc i T[i] (List.getElem?_eq_getElem hi)
  exact ⟨b, off, K, c, e, hlt, h1, h2, h3⟩
theorem RdB.at {n : Nat} {w : World} {A : Option Addr} {l : List Int} (h : RdB n w A l) {i : Nat} (hi : i < l.length) :
    ∃ b off, A = some ⟨b, off, none⟩ ∧ b < n ∧ w.cell? ⟨b, off + i, none⟩ = some (.int .i64 l[i]) := by
  obtain ⟨b, off, e, hlt, hc⟩ := h (by omega)
  exact ⟨b, off, e, hlt, hc i l[i] (List.getElem?_eq_getElem hi)⟩
/-- Few tasks, of few kids. -/
def Sm (T : List Tsk) : Prop := T.length ≤ 1000 ∧ ∀ x ∈ T, x.2.length ≤ 1000
theorem Sm.at {T : List Tsk} (h : Sm T) {i : Nat} (hi : i < T.length) : T[i].2.length ≤ 1000 := h.2 _ (List.getElem_mem hi)
end Go.Proofs.YtlpkccpijloidaaGreat.Fo
namespace Go.Proofs.YtlpkccpijloidaaGreat.Fo
set_option maxRecDepth 100000
/-- Is the work of all right? -/
def wk (T : List Tsk) : Bool := T.all fun x => decide (0 ≤ x.1) && decide (x.1 ≤ 20)
/-- The kids of task j. -/
def kids (T : List Tsk) (j : Nat) : List Int := (T.getD j (0, [])).2
/-- Parents with their kids, of the first j tasks. -/
def spN (T : List Tsk) : Nat → List (Nat × Int)
  | 0 => []
  | j + 1 => spN T j ++ (kids T j).map fun k => (j, k)
def sp (T : List Tsk) : List (Nat × Int) := spN T T.length
/-- Kids stand behind their parents, are tasks, and no kid is twice. -/
def okP (n : Nat) (l : List (Nat × Int)) : Prop := (∀ p ∈ l, (p.1 : Int) < p.2 ∧ p.2 < (n : Int)) ∧ (l.map Prod.snd).Nodup
instance (n : Nat) (l : List (Nat × Int)) : Decidable (okP n l) := by unfold okP; infer_instance
def kd (T : List Tsk) : Bool := decide (okP T.length (sp T))
/-- May they be? -/
def may (T : List Tsk) : Bool := decide (T.length ≤ 30) && (wk T && kd T)
/-- Who has k among its kids. -/
def pa (T : List Tsk) (k : Int) : Int := match (sp T).find? (fun p => p.2 == k) with
  | some p => p.1
  | none => -1
def par (T : List Tsk) (k : Int) : Int := if may T then pa T k else -1
theorem kids_eq {T : List Tsk} {j : Nat} (h : j < T.length) : kids T j = T[j].2 := by
  unfold kids; rw [List.getD_eq_getElem?_getD, List.getElem?_eq_getElem h]; rfl
theorem okP_snoc {n : Nat} {l : List (Nat × Int)} {p : Nat} {k : Int} : okP n (l ++ [(p, k)]) ↔ okP n l ∧ (p : Int) < k ∧ k < (n : Int) ∧ ¬ k ∈ l.map Prod.snd := by
  unfold okP
  simp only [List.mem_append, List.mem_singleton, List.map_append, List.map_cons, List.map_nil, List.nodup_append]
  constructor
  · rintro ⟨h1, h2, _, h3⟩
    have h4 := h1 (p, k) (.inr rfl)
    exact ⟨⟨fun q hq => h1 q (.inl hq), h2⟩, h4.1, h4.2, fun hk => h3 k hk k (by simp) rfl⟩
  · rintro ⟨⟨h1, h2⟩, h3, h4, h5⟩
    refine ⟨?_, h2, by simp, ?_⟩
    · rintro q (hq | rfl)
      · exact h1 q hq
      · exact ⟨h3, h4⟩
    · intro a ha b hb e
      have hb' : b = k := by simpa using hb
      exact h5 (by rw [← hb', ← e]; exact ha)
theorem okP_nil (n : Nat) : okP n [] := by simp [okP]
theorem okP_pre {n : Nat} {l k : List (Nat × Int)} (h : l <+: k) (hk : okP n k) : okP n l := by
  obtain ⟨r, rfl⟩ := h
  unfold okP at hk ⊢
  simp only [List.mem_append, List.map_append, List.nodup_append] at hk
  exact ⟨fun p hp => hk.1 p (.inl hp), hk.2.1⟩
theorem spN_pre (T : List Tsk) {i j : Nat} (h : i ≤ j) : spN T i <+: spN T j := by
  induction j with
  | zero => obtain rfl : i = 0 := by omega
            exact List.prefix_refl _
  | succ j ih =>
    by_cases e : i = j + 1
    · subst e; exact List.prefix_refl _
    · exact (ih (by omega)).trans (List.prefix_append _ _)
/-- A part of a task's kids. -/
theorem sp_pre' (T : List Tsk) {i j : Nat} (h : i < T.length) : spN T i ++ (T[i].2.take j).map (fun k => (i, k)) <+: sp T := by
  refine List.IsPrefix.trans ?_ (spN_pre T (show i + 1 ≤ T.length from h))
  rw [spN, kids_eq h]
  refine (List.prefix_append_right_inj _).2 ?_
  rw [List.map_take]
  exact List.take_prefix _ _
theorem map_take_succ {i j : Nat} {l : List Int} (h : j < l.length) : (l.take (j + 1)).map (fun k => (i, k)) = (l.take j).map (fun k => (i, k)) ++ [(i, l[j])] := by
  rw [List.take_succ_eq_append_getElem h, List.map_append]; rfl
theorem wk_take {T : List Tsk} {j : Nat} (h : j < T.length) : wk (T.take (j + 1)) = (wk (T.take j) && (decide (0 ≤ T[j].1) && decide (T[j].1 ≤ 20))) := by
  rw [List.take_succ_eq_append_getElem h]; unfold wk; rw [List.all_append, List.all_cons, List.all_nil, Bool.and_true]
theorem wk_no {T : List Tsk} {j : Nat} (h : j < T.length) (hx : ¬ (0 ≤ T[j].1 ∧ T[j].1 ≤ 20)) : wk T = false := by
  cases e : wk T
  · rfl
  · unfold wk at e
    rw [List.all_eq_true] at e
    have := e T[j] (List.getElem_mem h)
    simp only [Bool.and_eq_true, decide_eq_true_eq] at this
    exact absurd this hx
end Go.Proofs.YtlpkccpijloidaaGreat.Fo
namespace Go.Proofs.YtlpkccpijloidaaGreat.Fo
set_option maxRecDepth 100000
open Go.RowKit Go.Deep
theorem wk_at {T : List Tsk} (h : wk T = true) {j : Nat} (hj : j < T.length) : 0 ≤ T[j].1 ∧ T[j].1 ≤ 20 := by
  by_cases e : 0 ≤ T[j].1 ∧ T[j].1 ≤ 20
  · exact e
  · rw [wk_no hj e] at h; cases h
theorem may_parts {T : List Tsk} (h : may T = true) : T.length ≤ 30 ∧ wk T = true ∧ okP T.length (sp T) := by
  unfold may kd at h
  simpa using h
/-- Are there few tasks of few kids? -/
def few (T : List Tsk) : Bool := decide (T.length ≤ 40) && T.all fun x => decide (x.2.length ≤ 40)
theorem few_sm {T : List Tsk} (h : few T = true) : Sm T := by
  unfold few at h
  simp only [Bool.and_eq_true, decide_eq_true_eq, List.all_eq_true] at h
  exact ⟨by omega, fun x hx => by have := h.2 x hx; omega⟩
theorem few_no {T : List Tsk} {j : Nat} (h : j < T.length) (hx : 40 < T[j].2.length) : few T = false := by
  cases e : few T
  · rfl
  · unfold few at e
    simp only [Bool.and_eq_true, decide_eq_true_eq, List.all_eq_true] at e
    have := e.2 _ (List.getElem_mem h)
    omega
theorem few_yes {T : List Tsk} (hl : T.length ≤ 40) (h : ∀ j, (hj : j < T.length) → T[j].2.length ≤ 40) : few T = true := by
  unfold few
  simp only [Bool.and_eq_true, decide_eq_true_eq, List.all_eq_true]
  refine ⟨hl, fun x hx => ?_⟩
  obtain ⟨j, hj, rfl⟩ := List.getElem_of_mem hx
  exact h j hj
theorem few_len {T : List Tsk} (hl : 40 < T.length) : few T = false := by
  unfold few
  rw [decide_eq_false (by omega)]; rfl
set_option maxHeartbeats 400000 in
theorem few_any (A : Option Addr) (c n₀ : Nat) (T : List Tsk) (w : World) (hT : Tk n₀ w A T) (hl : T.length ≤ maxLen) (hk : ∀ x ∈ T, x.2.length ≤ maxLen) : Gives 19 #[.slice A T.length c] w (.bool (few T)) := by
  have HT := Lib.hid hT
  have HK := Lib.hid hk
  clear hT hk
  unfold maxLen at hl
  go_enter Tryz.func19, Tryz.ntmps19
  go_wp2
  go_loop [3] (fun i => ∃ j : Nat, j ≤ 41 ∧ j ≤ T.length ∧ i = .int .i64 j ∧ ∀ i, (hi : i < T.length) → i < j → T[i].2.length ≤ 40) (fun i => 41 - (intOf i).toNat)
  case atStart => exact ⟨0, by omega, by omega, rfl, fun i hi h => by omega⟩
  case round =>
    obtain ⟨j, hj, hjl, rfl, hall⟩ := hrel
    have HA := Lib.hid hall
    clear hall
    by_cases hlt : j < T.length
    · have hlt' : decide (j < T.length) = true := decide_eq_true hlt
      by_cases h4 : j ≤ 40
      · obtain ⟨b, off, K, c', rfl, hal, c0, c1, _⟩ := HT.out.at hlt
        have hm := HK.out _ (List.getElem_mem hlt)
        unfold maxLen at hm
        by_cases hx : T[j].2.length ≤ 40
        · go_wp2
          go_round
          case rel => exact ⟨j + 1, by omega, by omega, by go_num, fun i hi h => by
            by_cases e : i = j
            · subst e; exact hx
            · exact HA.out i hi (by omega)⟩
          case measure => simp [intOf]; omega
        · have E := Lib.hid (few_no hlt (by omega))
          go_wp2
          go_ret
          exact ⟨by rw [E.out]; rfl, rfl⟩
      · have E := Lib.hid (few_len (T := T) (by omega))
        go_wp2
        go_ret
        exact ⟨by rw [E.out]; show Ending.returned (.bool (decide ((T.length : Int) ≤ 40))) = _; rw [decide_eq_false (by omega)], rfl⟩
    · by_cases h4 : T.length ≤ 40
      · have E := Lib.hid (few_yes h4 (fun i hi => HA.out i hi (by omega)))
        go_wp2
        go_ret
        exact ⟨by rw [E.out]; show Ending.returned (.bool (decide ((T.length : Int) ≤ 40))) = _; rw [decide_eq_true (by omega)], rfl⟩
      · have E := Lib.hid (few_len (T := T) (by omega))
        go_wp2
        go_ret
        exact ⟨by rw [E.out]; show Ending.returned (.bool (decide ((T.length : Int) ≤ 40))) = _; rw [decide_eq_false (by omega)], rfl⟩
end Go.Proofs.YtlpkccpijloidaaGreat.Fo
namespace Go.Proofs.YtlpkccpijloidaaGreat.Fo
set_option maxRecDepth 100000
open Go.RowKit Go.Deep
/-- A task that is run: which, how much of it is done, how many it has spawned. -/
abbrev Itm := Int × Int × Int
def wkA (T : List Tsk) (i : Int) : Int := (T.getD i.toNat (0, [])).1
def kdA (T : List Tsk) (i : Int) : List Int := (T.getD i.toNat (0, [])).2
/-- May an item be? -/
def okI (T : List Tsk) (x : Itm) : Bool := (decide (0 ≤ x.1) && decide (x.1 < T.length)) && (decide (0 ≤ x.2.1) && decide (x.2.1 ≤ wkA T x.1)) && (decide (0 ≤ x.2.2) && decide (x.2.2 ≤ (kdA T x.1).length)) && (decide (x.2.2 = 0) || decide (wkA T x.1 ≤ x.2.1))
/-- May a stack be? -/
def mayS (T : List Tsk) (s : List Itm) : Bool := may T && s.all (okI T)
/-- What an item does: a kind, and a task. -/
def actI (T : List Tsk) (x : Itm) : Int × Int := if x.2.1 < wkA T x.1 then (1, x.1) else if x.2.2 < (kdA T x.1).length then (2, (kdA T x.1).getD x.2.2.toNat 0) else (3, x.1)
/-- What is left of an item behind that. -/
def bumpI (T : List Tsk) (x : Itm) : List Itm := if x.2.1 < wkA T x.1 then [(x.1, x.2.1 + 1, x.2.2)] else if x.2.2 < (kdA T x.1).length then [(x.1, x.2.1, x.2.2 + 1)] else []
def nextS (T : List Tsk) (s : List Itm) : Int × Int := if mayS T s = true then (match s.getLast? with
  | some x => actI T x
  | none => (0, 0)) else (0, 0)
def doS (T : List Tsk) (s : List Itm) : List Itm := if mayS T s = true then (match s.getLast? with
  | some x => s.dropLast ++ bumpI T x
  | none => s) else s
def startS (T : List Tsk) (s : List Itm) (k : Int) : List Itm := if mayS T s = true ∧ 0 ≤ k ∧ k < T.length then s ++ [(k, 0, 0)] else s
def leftI (T : List Tsk) (x : Itm) : Int := wkA T x.1 - x.2.1 + ((kdA T x.1).length - x.2.2) + 1
def leftN (T : List Tsk) : List Itm → Int
  | [] => 0
  | x :: s => leftI T x + leftN T s
def leftS (T : List Tsk) (s : List Itm) : Int := if mayS T s = true then leftN T s else 0
section
variable {T : List Tsk}
theorem okI_iff {x : Itm} : okI T x = true ↔ (0 ≤ x.1 ∧ x.1 < T.length) ∧ (0 ≤ x.2.1 ∧ x.2.1 ≤ wkA T x.1) ∧ (0 ≤ x.2.2 ∧ x.2.2 ≤ (kdA T x.1).length) ∧ (x.2.2 = 0 ∨ wkA T x.1 ≤ x.2.1) := by
  unfold okI
  simp only [Bool.and_eq_true, Bool.or_eq_true, decide_eq_true_eq, and_assoc]
theorem mayS_snoc (p : List Itm) (x : Itm) : mayS T (p ++ [x]) = (mayS T p && okI T x) := by
  unfold mayS
  rw [List.all_append, Bool.and_assoc]
  simp
theorem mayS_nil : mayS T [] = may T := by unfold mayS; simp
theorem mayS_app (p q : List Itm) : mayS T (p ++ q) = (mayS T p && q.all (okI T)) := by
  unfold mayS
  rw [List.all_append, Bool.and_assoc]
theorem leftN_app (p q : List Itm) : leftN T (p ++ q) = leftN T p + leftN T q := by
  induction p with
  | nil => simp [leftN]
  | cons x p ih => simp only [List.cons_append, leftN, ih]; omega
theorem leftI_pos {x : Itm} (h : okI T x = true) : 1 ≤ leftI T x := by
  have := okI_iff.1 h
  unfold leftI; omega
theorem leftN_ge : ∀ {s : List Itm}, s.all (okI T) = true → (s.length : Int) ≤ leftN T s
  | [], _ => by simp [leftN]
  | x :: s, h => by
    rw [List.all_cons, Bool.and_eq_true] at h
    have h1 := leftI_pos h.1
    have h2 := leftN_ge h.2
    simp only [leftN, List.length_cons]; omega
theorem mayS_all {s : List Itm} (h : mayS T s = true) : may T = true ∧ s.all (okI T) = true := by
  unfold mayS at h
  exact Bool.and_eq_true_iff.1 h
/-- What the last item does. -/
theorem nextS_snoc {p : List Itm} {x : Itm} (h : mayS T (p ++ [x]) = true) : nextS T (p ++ [x]) = actI T x := by
  unfold nextS
  rw [if_pos h]
  simp
theorem doS_snoc {p : List Itm} {x : Itm} (h : mayS T (p ++ [x]) = true) : doS T (p ++ [x]) = p ++ bumpI T x := by
  unfold doS
  rw [if_pos h]
  simp
theorem nextS_no {s : List Itm} (h : mayS T s = false) : nextS T s = (0, 0) := by unfold nextS; rw [if_neg (by rw [h]; simp)]
theorem doS_no {s : List Itm} (h : mayS T s = false) : doS T s = s := by unfold doS; rw [if_neg (by rw [h]; simp)]
theorem nextS_nil : nextS T [] = (0, 0) := by unfold nextS; split <;> rfl
theorem doS_nil : doS T [] = [] := by unfold doS; split <;> rfl
/-- What is behind an item may be, and has one less. -/
theorem bumpI_ok {x : Itm} (h : okI T x = true) : (bumpI T x).all (okI T) = true ∧ leftN T (bumpI T x) = leftI T x - 1 ∧ (bumpI T x).length ≤ 1 := by
  have h1 := okI_iff.1 h
  unfold bumpI
  split
  · rename_i c
    refine ⟨?_, ?_, by simp⟩
    · rw [List.all_cons, List.all_nil, Bool.and_true, okI_iff]
      simp only
      refine ⟨h1.1, ⟨by omega, by omega⟩, h1.2.2.1, ?_⟩
      left; omega
    · simp only [leftN, leftI]; omega
  split
  · rename_i c c2
    refine ⟨?_, ?_, by simp⟩
    · rw [List.all_cons, List.all_nil, Bool.and_true, okI_iff]
      simp only
      refine ⟨h1.1, h1.2.1, ⟨by omega, by omega⟩, ?_⟩
      right; omega
    · simp only [leftN, leftI]; omega
  · rename_i c c2
    refine ⟨rfl, ?_, by simp⟩
    simp only [leftN, leftI]; omega
theorem snoc_of {s : List Itm} (h : s ≠ []) : ∃ p x, s = p ++ [x] := ⟨s.dropLast, s.getLast h, (List.dropLast_concat_getLast h).symm⟩
/-- Each Do leaves one less. -/
theorem less_S {s : List Itm} (h : mayS T s = true) (hs : s ≠ []) : mayS T (doS T s) = true ∧ leftS T (doS T s) = leftS T s - 1 ∧ (doS T s).length ≤ s.length ∧ s.length ≤ (doS T s).length + 1 ∧ 1 ≤ leftS T s := by
  obtain ⟨p, x, rfl⟩ := snoc_of hs
  have h2 := h
  rw [mayS_snoc, Bool.and_eq_true] at h2
  obtain ⟨b1, b2, b3⟩ := bumpI_ok h2.2
  have hm : mayS T (p ++ bumpI T x) = true := by rw [mayS_app, h2.1, b1]; rfl
  have hg := leftN_ge (mayS_all h).2
  rw [doS_snoc h]
  unfold leftS
  rw [if_pos hm, if_pos h, leftN_app, leftN_app, b2]
  simp only [leftN, List.length_append, List.length_singleton] at hg ⊢
  rw [leftN_app] at hg
  simp only [leftN] at hg
  exact ⟨hm, by omega, by omega, by omega, by omega⟩
/-- A task that is started. -/
theorem start_S {s : List Itm} (h : mayS T s = true) {k : Int} (h0 : 0 ≤ k) (h1 : k < T.length) : startS T s k = s ++ [(k, 0, 0)] ∧ mayS T (s ++ [(k, 0, 0)]) = true ∧ leftS T (s ++ [(k, 0, 0)]) = leftS T s + wkA T k + (kdA T k).length + 1 := by
  have hw : 0 ≤ wkA T k := by
    obtain ⟨n, rfl⟩ := Int.eq_ofNat_of_zero_le h0
    have hn : n < T.length := by omega
    have := (wk_at (may_parts (mayS_all h).1).2.1 hn).1
    unfold wkA
    rw [Int.toNat_natCast, List.getD_eq_getElem?_getD, List.getElem?_eq_getElem hn]
    exact this
  have ho : okI T (k, 0, 0) = true := okI_iff.2 ⟨⟨h0, h1⟩, ⟨Int.le_refl _, hw⟩, ⟨Int.le_refl _, by simp only; omega⟩, .inl rfl⟩
  have hm : mayS T (s ++ [(k, 0, 0)]) = true := by rw [mayS_snoc, h, ho]; rfl
  refine ⟨by unfold startS; rw [if_pos ⟨h, h0, h1⟩], hm, ?_⟩
  unfold leftS
  rw [if_pos hm, if_pos h, leftN_app]
  simp only [leftN, leftI]
  omega
end
end Go.Proofs.YtlpkccpijloidaaGreat.Fo
