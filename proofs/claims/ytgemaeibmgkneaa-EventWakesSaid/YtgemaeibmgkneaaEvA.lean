/- Rows of rows of numbers in memory, clones of them, the iterator of turns; memory laws. -/
import Derived.Test.YtgemaeibmgkneaaDeA
import Derived.Test.YtgemaeibmgkneaaDeC
import Derived.Test.YtgemaeibmgkneaaDeR
import Derived.Test.YtgemaeibmgkneaaDeW
import Derived.Test.YtgemaeibmgkneaaNtD
import Derived.Test.YtgemaeibmgkneaaEvM
import Derived.Deep.CutRange
import Derived.Deep.DeepCutAuto
import Derived.Stop.RegionWithIn
namespace Go.Proofs.Ytgemaeibmgkneaa
open Go.RowKit Go.Deep
/-- The values lie at A, a cell each. -/
def Rv (w : World) (A : Option Addr) (vs : List Value) : Prop := 0 < vs.length → ∃ ad, A = some ad ∧ ad.block < w.heap.size ∧ ∀ j v, vs[j]? = some v → w.cell? (ad.add j) = some v
set_option maxRecDepth 100000 in
theorem Rv.below {w w' : World} {A : Option Addr} {vs : List Value} (h : Rv w A vs) (hb : Below w.heap.size w w') : Rv w' A vs := fun hp => by
  obtain ⟨ad, e, hlt, hc⟩ := h hp
  exact ⟨ad, e, Nat.lt_of_lt_of_le hlt hb.size, fun j v hv => (hb.cell (p := ad.add j) (by rw [block_add]; exact hlt)).trans (hc j v hv)⟩
/-- The slice at A reads as the numbers l (of int), in a block below n. -/
def Pn (n : Nat) (w : World) (A : Option Addr) (l : List Int) : Prop :=
  0 < l.length → ∃ b off, A = some ⟨b, off, none⟩ ∧ b < n ∧ ∀ j u, l[j]? = some u → w.cell? ⟨b, off + j, none⟩ = some (.int .i64 u)
set_option maxRecDepth 100000 in
theorem Pn.nil (n : Nat) (w : World) (A : Option Addr) : Pn n w A [] := fun h => by simp at h
set_option maxRecDepth 100000 in
theorem Pn.same {n : Nat} {w w' : World} {A : Option Addr} {l : List Int} (h : Pn n w A l) (hb : ∀ b, b < n → (∃ o, w.heap[b]? = some o ∧ o.isCells = true) → w'.heap[b]? = w.heap[b]?) : Pn n w' A l := fun hp => by
  obtain ⟨b, off, e, hlt, hc⟩ := h hp
  have := hc 0 l[0] (List.getElem?_eq_getElem hp)
  exact ⟨b, off, e, hlt, fun i x hx => (World.cell?_of_block (hb b hlt (cells_of_cell this))).trans (hc i x hx)⟩
set_option maxRecDepth 100000 in
theorem Pn.below {n : Nat} {w w' : World} {A : Option Addr} {l : List Int} (h : Pn n w A l) (hb : Below n w w') : Pn n w' A l :=
  h.same fun b hlt _ => hb.block b hlt
set_option maxRecDepth 100000 in
theorem Pn.mono {n m : Nat} {w : World} {A : Option Addr} {l : List Int} (h : Pn n w A l) (hn : n ≤ m) : Pn m w A l := fun hp => by
  obtain ⟨b, off, e, hlt, hc⟩ := h hp
  exact ⟨b, off, e, by omega, hc⟩
set_option maxRecDepth 100000 in
theorem Pn.tail {n : Nat} {w : World} {b off : Nat} {x : Int} {l : List Int} (h : Pn n w (some ⟨b, off, none⟩) (x :: l)) : Pn n w (some ⟨b, off + 1, none⟩) l := fun _ => by
  obtain ⟨b', off', e, hlt, hc⟩ := h (by simp)
  cases e
  refine ⟨b, off + 1, rfl, hlt, fun j u hu => ?_⟩
  have := hc (j + 1) u (by simpa using hu)
  rwa [show off + (j + 1) = off + 1 + j by omega] at this
/-- The values are slices that read as the lists of numbers, in blocks below n. -/
structure Lr (n : Nat) (w : World) (vs : List Value) (ls : List (List Int)) : Prop where
  len : vs.length = ls.length
  at_ : ∀ (i : Nat) (l : List Int), ls[i]? = some l → ∃ (A : Option Addr) (c : Nat), vs[i]? = some (Value.slice A l.length c) ∧ l.length ≤ c ∧ Pn n w A l
set_option maxRecDepth 100000 in
theorem Lr.same {n : Nat} {w w' : World} {vs : List Value} {ls : List (List Int)} (h : Lr n w vs ls) (hb : ∀ b, b < n → (∃ o, w.heap[b]? = some o ∧ o.isCells = true) → w'.heap[b]? = w.heap[b]?) : Lr n w' vs ls :=
  ⟨h.len, fun i l hl => by obtain ⟨A, c, h1, h2, h3⟩ := h.at_ i l hl; exact ⟨A, c, h1, h2, h3.same hb⟩⟩
set_option maxRecDepth 100000 in
theorem Lr.below {n : Nat} {w w' : World} {vs : List Value} {ls : List (List Int)} (h : Lr n w vs ls) (hb : Below n w w') : Lr n w' vs ls := h.same fun b hlt _ => hb.block b hlt
set_option maxRecDepth 100000 in
theorem Lr.mono {n m : Nat} {w : World} {vs : List Value} {ls : List (List Int)} (h : Lr n w vs ls) (hn : n ≤ m) : Lr m w vs ls :=
  ⟨h.len, fun i l hl => by obtain ⟨A, c, h1, h2, h3⟩ := h.at_ i l hl; exact ⟨A, c, h1, h2, h3.mono hn⟩⟩
set_option maxRecDepth 100000 in
theorem Lr.later {w w' : World} {vs : List Value} {ls : List (List Int)} (h : Lr w.heap.size w vs ls) (hb : Below w.heap.size w w') : Lr w'.heap.size w' vs ls := (h.below hb).mono hb.size
set_option maxRecDepth 100000 in
theorem Lr.set {n : Nat} {w : World} {vs : List Value} {ls : List (List Int)} (h : Lr n w vs ls) (i : Nat) {A : Option Addr} {l : List Int} {c : Nat} (hc : l.length ≤ c) (hp : Pn n w A l) : Lr n w (vs.set i (.slice A l.length c)) (ls.set i l) := by
  refine ⟨by simp [h.len], fun j k hk => ?_⟩
  rw [List.getElem?_set] at hk
  split at hk
  · rename_i e; subst e
    split at hk
    · rename_i hlt
      cases hk
      exact ⟨A, c, by rw [List.getElem?_set_self (by rw [h.len]; exact hlt)], hc, hp⟩
    · cases hk
  · rename_i e
    obtain ⟨B, d, h1, h2, h3⟩ := h.at_ j k hk
    exact ⟨B, d, by rw [List.getElem?_set_ne e]; exact h1, h2, h3⟩
/-- The call owns the row of slices vs, in a block from number 'base' on. -/
def Os (w : World) (base : Nat) (A : Option Addr) (n c : Nat) (vs : List Value) : Prop := w.ownsRow base 23 1 (.slice A n c) n vs
set_option maxRecDepth 100000 in
theorem Os.len {w : World} {base : Nat} {A : Option Addr} {n c : Nat} {vs : List Value} (h : Os w base A n c vs) : vs.length = n := by
  have := h.1
  omega
set_option maxRecDepth 100000 in
theorem Os.nil (w : World) (base : Nat) : Os w base none 0 0 [] := World.ownsRow_nil _ _ _ _
set_option maxRecDepth 100000 in
theorem Os.kept {w w' : World} {base : Nat} {A : Option Addr} {n c : Nat} {vs : List Value} (h : Os w base A n c vs) (hk : ∀ k, (Value.slice A n c).ownBlock = some k → w'.heap[k]? = w.heap[k]?) : Os w' base A n c vs := by
  refine ⟨h.1, ?_⟩
  rcases h.2 with h2 | ⟨g, cap, cur, hv, hbg, hg, hr⟩
  · exact .inl h2
  · exact .inr ⟨g, cap, cur, hv, hbg, (hk g (by rw [hv]; rfl)).trans hg, hr⟩
set_option maxRecDepth 100000 in
theorem Os.below {w w' : World} {base : Nat} {A : Option Addr} {n c : Nat} {vs : List Value} (h : Os w base A n c vs) (hb : Below w.heap.size w w') : Os w' base A n c vs :=
  h.kept fun k hk => hb.block k (World.ownsRow.lt h k hk).2
set_option maxRecDepth 100000 in
theorem Os.at {w : World} {base : Nat} {A : Option Addr} {n c : Nat} {vs : List Value} (h : Os w base A n c vs) (hp : 0 < n) :
    ∃ g, A = some ⟨g, 0, none⟩ ∧ base ≤ g ∧ g < w.heap.size ∧ ∀ j v, vs[j]? = some v → w.cell? ⟨g, j, none⟩ = some v := by
  rcases h.2 with ⟨hv, hx⟩ | ⟨g, cap, cur, hv, hbg, hg, hr⟩
  · omega
  · injection hv with hA _ hc
    subst hA
    refine ⟨g, rfl, hbg, (Array.getElem?_eq_some_iff.1 hg).1, fun j v hv => ?_⟩
    have := World.ownsRow.cells h (g := g) rfl j v hv
    rwa [add_zero'] at this
set_option maxRecDepth 100000 in
theorem Os.rv {w : World} {base : Nat} {A : Option Addr} {n c : Nat} {vs : List Value} (h : Os w base A n c vs) : Rv w A vs := fun hp => by
  have hl := h.len
  obtain ⟨g, rfl, hbg, hlt, hc⟩ := h.at (by omega)
  exact ⟨⟨g, 0, none⟩, rfl, hlt, fun j v hv => by rw [add_zero']; exact hc j v hv⟩
set_option maxRecDepth 100000 in
theorem Os.cells_own {w : World} {base : Nat} {A : Option Addr} {n c : Nat} {vs : List Value} (h : Os w base A n c vs) {k : Nat} (hk : (Value.slice A n c).ownBlock = some k) : ∃ o, w.heap[k]? = some o ∧ o.isCells = true := by
  rcases h.2 with ⟨hv, _⟩ | ⟨g, cap, cur, hv, _, hg, _⟩
  · rw [hv] at hk; cases hk
  · rw [hv] at hk
    have : k = g := by
      have h2 : (Value.slice (some ⟨g, 0, none⟩) n cap).ownBlock = some g := rfl
      rw [h2] at hk; cases hk; rfl
    subst this
    exact ⟨_, hg, rfl⟩
set_option maxRecDepth 100000 in
theorem Os.set {w : World} {base g n c : Nat} {vs : List Value} (h : Os w base (some ⟨g, 0, none⟩) n c vs) (i : Nat) (v : Value) : Os (w.setCell ⟨g, i, none⟩ v) base (some ⟨g, 0, none⟩) n c (vs.set i v) :=
  (World.ownsRow.stored h i v).1
set_option maxRecDepth 100000 in
theorem Os.free {w : World} {base g n c : Nat} {vs : List Value} (h : Os w base (some ⟨g, 0, none⟩) n c vs) (j : Nat) : w.frozen? ⟨g, j, none⟩ = false := World.ownsRow.frozenAt h j
set_option maxRecDepth 100000 in
theorem Try.info23 : (Try.prog.info? 23).map (fun i => (i.zero, i.size, i.bytes)) = some (some (.slice none 0 0), 1, 24) := by kernel_rfl
set_option maxRecDepth 100000 in
theorem own_madeS (w : World) (base : Nat) (hb : base ≤ w.heap.size) : Os (w.alloc (.cells #[] 23)) base (some ⟨w.heap.size, 0, none⟩) 0 0 [] := by
  refine ⟨rfl, .inr ⟨w.heap.size, 0, #[], rfl, hb, heap_alloc_new _ _, ?_⟩⟩
  exact ⟨by omega, by decide, rfl, rfl⟩
set_option maxRecDepth 100000 in
theorem eql_nilS (w : World) (a : Option Addr) (n c : Nat) : (binOp .eql 22 (.slice a n c) (.slice none 0 0)).run Try.prog w = .ok (.bool a.isNone) w := Lib.run_eql_slice_nil w 22 23 a n c 0 0 Try.underlying22
attribute [local go_sem] eql_nilS
/-- Slices. -/
def Sli (vs : List Value) : Prop := ∀ v ∈ vs, v.oneCell' = true
set_option maxRecDepth 100000 in
theorem Lr.sli {n : Nat} {w : World} {vs : List Value} {ls : List (List Int)} (h : Lr n w vs ls) : Sli vs := fun v hv => by
  obtain ⟨i, hi, e⟩ := List.mem_iff_getElem.1 hv
  have hl : i < ls.length := by rw [← h.len]; exact hi
  obtain ⟨A, c, h1, _⟩ := h.at_ i ls[i] (List.getElem?_eq_getElem hl)
  rw [List.getElem?_eq_getElem hi, e] at h1
  cases h1; rfl
set_option maxRecDepth 100000 in
/-- Slices appended to slices. -/
theorem app_sls {w : World} {base : Nat} {Q : Option Addr} {n d : Nat} {l k : List Value} (h : Os w base Q n d l) {B : Option Addr} (c : Nat) (hs : Rv w B k) (h1 : Sli k) {m : Nat} (hm : k.length = m) (hz : n + m ≤ 10000) (hb : base ≤ w.heap.size) :
    ∃ Q' d' w', (Builtin.append_ #[22, 22] 22 #[.slice Q n d, .slice B m c]).run Try.prog w = .ok (.slice Q' (n + m) d') w' ∧ Os w' base Q' (n + m) d' (l ++ k) ∧ w.grownBy w' (Value.slice Q n d).ownBlock ∧ Below base w w' ∧ ((Value.slice Q' (n + m) d').ownBlock = (Value.slice Q n d).ownBlock ∨ (Value.slice Q' (n + m) d').ownBlock = some w.heap.size) := by
  obtain ⟨i0, hi0, hz'⟩ := Option.map_eq_some_iff.1 Try.info23
  simp only [Prod.mk.injEq] at hz'
  obtain ⟨hz0, hz1, hz2⟩ := hz'
  have same : m = 0 → ∀ B : Option Addr, ∃ Q' d' w', (Builtin.append_ #[22, 22] 22 #[.slice Q n d, .slice none m c]).run Try.prog w = .ok (.slice Q' (n + m) d') w' ∧ Os w' base Q' (n + m) d' (l ++ k) ∧ w.grownBy w' (Value.slice Q n d).ownBlock ∧ Below base w w' ∧ ((Value.slice Q' (n + m) d').ownBlock = (Value.slice Q n d).ownBlock ∨ (Value.slice Q' (n + m) d').ownBlock = some w.heap.size) := by
    intro e _
    subst e
    obtain rfl : k = [] := List.eq_nil_of_length_eq_zero hm
    refine ⟨Q, d, w, ?_, by simpa using h, ⟨rfl, rfl, rfl, Nat.le_refl _, fun _ _ _ => rfl⟩, Below.refl _ _, .inl ?_⟩
    rotate_left
    · rw [Nat.add_zero]
    rcases h.2 with ⟨hv, _⟩ | ⟨g, cap, cur, hv, _, _, hnc, _⟩
    · injection hv with hA hn hc
      subst hA hn hc
      simp [Builtin.append_, run_underlying Try.underlying22, sizeOf, typeInfo, hi0, Builtin.lenOf, Builtin.firstCells]
    · injection hv with hA hn hc
      subst hA hc
      simp [Builtin.append_, run_underlying Try.underlying22, sizeOf, typeInfo, hi0, Builtin.lenOf, Builtin.firstCells, hnc, storeCells]
  rcases B with _ | ad
  · have h0 : m = 0 := by
      rcases Nat.eq_zero_or_pos m with h0 | h0
      · exact h0
      · obtain ⟨_, e, _⟩ := hs (by omega); cases e
    exact same h0 none
  · have hsrc : ∀ j u, k[j]? = some u → w.cell? (ad.add j) = some u := fun j u hu => by
      have := (List.getElem?_eq_some_iff.1 hu).1
      obtain ⟨ad', e, _, hc⟩ := hs (by omega)
      cases e
      exact hc j u hu
    obtain ⟨v', w', hrun, g2, g3, _, g5⟩ := run_append_own_at (P := Try.prog) w base 22 22 23 i0 (.slice none 0 0) 1 24 Try.underlying22 hi0 hz0 hz1 hz2 rfl (by omega) _ n _ h ad m c k (by omega)
      hsrc h1 (by simp only [maxLen]; omega) (by omega) hb
    have fin : ∃ Q' d', v' = .slice Q' (n + m) d' := by
      rcases g2.2 with ⟨e1, e2⟩ | ⟨g, cap, cur, e1, _⟩
      · exact ⟨none, 0, by rw [e1, show n + m = 0 from e2]⟩
      · exact ⟨_, cap, e1⟩
    obtain ⟨Q', d', rfl⟩ := fin
    exact ⟨Q', d', w', hrun, g2, g3, (Below.refl base w).grown g3 hb (fun j hj => (World.ownsRow.lt h j hj).1), g5⟩
set_option maxRecDepth 100000 in
theorem clones_any (A : Option Addr) (n c : Nat) (vs : List Value) (w : World) (h : Rv w A vs) (h1 : Sli vs) (hn : vs.length = n) (hs : n ≤ 500) : Calls Try.prog 43 #[.slice A n c] w fun e w' => ∃ A' c', e = .returned (.slice A' n c') ∧ Os w' w.heap.size A' n c' vs ∧ Below w.heap.size w w' := by
  have HN := Lib.hid hn
  rcases A with _ | a
  · obtain rfl : n = 0 := by
      rcases Nat.eq_zero_or_pos n with h0 | h0
      · exact h0
      · obtain ⟨_, e, _⟩ := h (by omega); cases e
    clear h hn h1
    go_enter Try.func43, Try.ntmps43
    go_wp2
    go_ret
    exact ⟨none, 0, rfl, by rw [List.eq_nil_of_length_eq_zero HN.out]; exact Os.nil _ _, Below.refl _ _⟩
  · have hm : Below w.heap.size w (w.alloc (.cells #[] 23)) := (Below.refl _ _).alloc (Nat.le_refl _) _
    obtain ⟨A', c', w1, hrun, hown, _, hb, _⟩ := app_sls (own_madeS w w.heap.size (Nat.le_refl _)) c (h.below hm) h1 hn (by omega) (by simp)
    simp only [Nat.zero_add, List.nil_append] at hrun hown
    have HO := Lib.hid hown
    have HB := Lib.hid (hm.trans (hb.mono (by simp)))
    have HRUN := Lib.hid hrun
    clear hrun hown hb h hn hm h1
    go_enter Try.func43, Try.ntmps43
    go_wp2_with (at_builtin; (with_reducible refine wpList_append_fr HRUN.out ?_ ?_ ?_ ?_); exact ⟨_, _, rfl, rfl, rfl⟩; rfl; rfl)
    go_ret
    exact ⟨_, _, rfl, HO.out, HB.out⟩
end Go.Proofs.Ytgemaeibmgkneaa
namespace Go.Proofs.Ytgemaeibmgkneaa
open Go.RowKit Go.Deep Go.Shelf
attribute [local go_sem] Oper.semAt_some
/-- The slice at A reads as the numbers l (of int). -/
def Ri (w : World) (A : Option Addr) (l : List Int) : Prop :=
  0 < l.length → ∃ ad, A = some ad ∧ ad.block < w.heap.size ∧ ∀ j u, l[j]? = some u → w.cell? (ad.add j) = some (.int .i64 u)
set_option maxRecDepth 100000 in
theorem Ri.cl {n₀ : Nat} {w w' : World} {A : Option Addr} {l : List Int} (h : Ri w A l) (hc : Cl n₀ w w') : Ri w' A l := fun hp => by
  obtain ⟨ad, e, hlt, hh⟩ := h hp
  have h0 := hh 0 l[0] (List.getElem?_eq_getElem hp)
  obtain ⟨o, ho, hoc⟩ := cells_of_cell h0
  rw [block_add] at ho
  have hsame : w'.heap[ad.block]? = w.heap[ad.block]? := (hc.same _ _ ho hoc).trans ho.symm
  exact ⟨ad, e, Nat.lt_of_lt_of_le hlt hc.size, fun j u hu => (World.cell?_of_block (by rw [block_add]; exact hsame)).trans (hh j u hu)⟩
set_option maxRecDepth 100000 in
theorem Ri.below {w w' : World} {A : Option Addr} {l : List Int} (h : Ri w A l) (hb : Below w.heap.size w w') : Ri w' A l := h.cl (Cl.of_below hb (Nat.le_refl _))
set_option maxRecDepth 100000 in
theorem boxed_cl {n₀ : Nat} {W W' : World} {B : Nat} {t : TypeId} {v : Value} (h : Boxed W B t v) (hc : Cl n₀ W W') : Boxed W' B t v := hc.same _ _ h rfl
set_option maxRecDepth 100000 in
theorem turns_in (n : Nat) (A : Option Addr) (k c : Nat) (m : Int) (w : World) :
    CallsIn Fence.wide n Try.prog 26 #[.slice A k c, .int .i64 m] w fun e w' =>
      e = .returned (.func (.func 46) #[] #[.pointer (some ⟨w.heap.size, 0, none⟩), .pointer (some ⟨w.heap.size + 1, 0, none⟩)]) ∧
      w' = (w.alloc (.cells #[.slice A k c] 23)).alloc (.cells #[.int .i64 m] 3) := by
  refine callsIn_of_wp Try.func26 rfl trivial ?_ rfl
  simp only [Try.ntmps26, List.size_toArray, List.length_cons, List.length_nil, Nat.reduceAdd, Nat.reduceSub, Array.replicate_succ, Array.replicate_zero, List.push_toArray, List.append_toArray, List.nil_append, List.cons_append]
  gi_wp2
  go_ret
  exact ⟨rfl, rfl⟩
/-- Those of who whose turn counts. -/
def val (m : Int) (who : List Int) : List Int := who.filter fun i => decide (0 ≤ i) && decide (i < m)
set_option maxRecDepth 100000 in
theorem val_snoc {m : Int} {who : List Int} {j : Nat} (h : j < who.length) : val m (who.take (j + 1)) = val m (who.take j) ++ (if 0 ≤ who[j] ∧ who[j] < m then [who[j]] else []) := by
  unfold val
  rw [List.take_succ_eq_append_getElem h, List.filter_append]
  congr 1
  by_cases h1 : 0 ≤ who[j] ∧ who[j] < m
  · rw [if_pos h1]; simp [h1]
  · rw [if_neg h1]
    simp only [List.filter_cons, List.filter_nil]
    rw [if_neg (by simpa using h1)]
set_option maxRecDepth 100000 in
theorem val_split {m : Int} {who : List Int} {j : Nat} (h : j < who.length) (h1 : 0 ≤ who[j] ∧ who[j] < m) : val m who = val m (who.take j) ++ who[j] :: val m (who.drop (j + 1)) := by
  have e : who = who.take j ++ who[j] :: who.drop (j + 1) := by rw [← List.drop_eq_getElem_cons h, List.take_append_drop]
  have e2 : val m (who.take j ++ who[j] :: who.drop (j + 1)) = val m (who.take j) ++ who[j] :: val m (who.drop (j + 1)) := by
    unfold val
    rw [List.filter_append, List.filter_cons, if_pos (by simp [h1])]
  rw [← e2, ← e]
set_option maxRecDepth 100000 in
set_option maxHeartbeats 4000000 in
theorem turns1_in (n l bw bm k c : Nat) (m : Int) (A : Option Addr) (who : List Int) (hk : who.length = k) (hl : k ≤ 1000) (J : List Int → World → Prop) (W : World)
    (hR : ∀ pre W, J pre W → Boxed W bw 23 (.slice A k c) ∧ Boxed W bm 3 (.int .i64 m) ∧ Ri W A who)
    (hY : ∀ (m' : Nat) (pre : List Int) (x : Int) (rest : List Int) (W : World), J pre W → val m who = pre ++ x :: rest → YieldAt Fence.wide m' Try.prog l #[.int .i64 x] W fun e W' => e = .returned (.bool true) ∧ J (pre ++ [x]) W') (h0 : J [] W) :
    CallsIn Fence.wide n Try.prog 46 #[.func (.yield l) #[] #[], .pointer (some ⟨bw, 0, none⟩), .pointer (some ⟨bm, 0, none⟩)] W fun e W' => (∃ v, e = .returned v) ∧ J (val m who) W' := by
  obtain ⟨q1, q2, q3⟩ := hR [] W h0
  have k1 := q1.cell
  have HK := Lib.hid hk
  have HR := Lib.hid hR
  have HY := Lib.hid hY
  have H0 := Lib.hid h0
  clear q1 q2 q3 hk hR hY h0
  refine callsIn_of_wp Try.func46 rfl trivial ?_ rfl
  simp only [Try.ntmps46, List.size_toArray, List.length_cons, List.length_nil, Nat.reduceAdd, Nat.reduceSub, Array.replicate_succ, Array.replicate_zero, List.push_toArray, List.append_toArray, List.nil_append, List.cons_append]
  gi_wp2
  gi_loopw [8] (fun p wr => ∃ j : Nat, p = .int .i64 j ∧ j ≤ k ∧ J (val m (who.take j)) wr) (fun p _ => k - (intOf p).toNat)
  case atStart => exact ⟨0, rfl, Nat.zero_le _, H0.out⟩
  case round =>
    clear k1 H0
    obtain ⟨j, rfl, hj, hJ⟩ := hrel
    by_cases hlt : j < k
    · have hL : j < who.length := by rw [HK.out]; exact hlt
      obtain ⟨q1, q2, q3⟩ := HR.out _ _ hJ
      have k2 := q2.cell
      obtain ⟨ad, rfl, hal, hac⟩ := q3 (by omega)
      have hx := hac j _ (List.getElem?_eq_getElem hL)
      obtain ⟨x, hX⟩ : ∃ x, who[j] = x := ⟨_, rfl⟩
      rw [hX] at hx
      have hs := val_snoc (m := m) hL
      rw [hX] at hs
      clear q1 q2 q3 hac
      by_cases h1 : 0 ≤ x
      · by_cases h2 : x < m
        · have hsp := val_split (m := m) hL (by rw [hX]; exact ⟨h1, h2⟩)
          rw [hX] at hsp
          rw [if_pos ⟨h1, h2⟩] at hs
          obtain ⟨fn, tmps, assign, body, hy, hRd⟩ := HY.out (n - 1) _ _ _ _ hJ hsp
          have HS := Lib.hid hs
          clear hs hsp hJ
          have d1 : decide (0 ≤ x) = true := decide_eq_true h1
          have d2 : decide (x < m) = true := decide_eq_true h2
          gi_wp2_with fail
          refine ⟨(fun h => by cases h), hRd.mono ?_⟩
          rintro e W3 ⟨rfl, hJ3⟩
          have HJ3 := Lib.hid hJ3
          clear hJ3 hRd hy
          gi_wp2
          go_roundw
          case rel => exact ⟨j + 1, by go_num, by omega, by rw [HS.out]; exact HJ3.out⟩
          case measure => simp [intOf]; omega
        · rw [if_neg (fun h => h2 h.2), List.append_nil] at hs
          have HS := Lib.hid hs
          have HJ := Lib.hid hJ
          clear hs hJ
          have d1 : decide (0 ≤ x) = true := decide_eq_true h1
          have d2 : decide (x < m) = false := decide_eq_false h2
          gi_wp2
          refine ⟨(fun f h => by cases h), ?_⟩
          gi_wp2
          go_roundw
          case rel => exact ⟨j + 1, by go_num, by omega, by rw [HS.out]; exact HJ.out⟩
          case measure => simp [intOf]; omega
      · rw [if_neg (fun h => h1 h.1), List.append_nil] at hs
        have HS := Lib.hid hs
        have HJ := Lib.hid hJ
        clear hs hJ
        have d1 : decide (0 ≤ x) = false := decide_eq_false h1
        gi_wp2
        refine ⟨(fun f h => by cases h), ?_⟩
        gi_wp2
        go_roundw
        case rel => exact ⟨j + 1, by go_num, by omega, by rw [HS.out]; exact HJ.out⟩
        case measure => simp [intOf]; omega
    · have HJ := Lib.hid hJ
      have hje : j = k := by omega
      have e : val m (who.take j) = val m who := by rw [hje, ← HK.out, List.take_length]
      have HE := Lib.hid e
      clear hJ e
      gi_wp2
      go_end0
      exact ⟨⟨_, rfl⟩, by rw [← HE.out]; exact HJ.out⟩
end Go.Proofs.Ytgemaeibmgkneaa
namespace Go.Proofs.Ytgemaeibmgkneaa
open Go.RowKit Go.Deep Go.Shelf
set_option maxRecDepth 100000 in
theorem pf_other' (w : World) (g : Nat) (f : Fr) {j : Nat} (h : j ≠ g) : (pf w g f).heap[j]? = w.heap[j]? := by
  unfold pf
  iterate 7 rw [Below.heap_setCell _ _ _ j h]
set_option maxRecDepth 100000 in
theorem Bx.cl {n₀ : Nat} {W W' : World} {g : Nat} {a b c d : Int} (h : Bx W g a b c d) (hc : Cl n₀ W W') : Bx W' g a b c d := by
  obtain ⟨h1, h2, h3, h4, h5⟩ := h
  obtain ⟨o, ho, hoc⟩ := cells_of_cell h2
  have e : W'.heap[g]? = W.heap[g]? := (hc.same _ _ ho hoc).trans ho.symm
  exact ⟨Nat.lt_of_lt_of_le h1 hc.size, (World.cell?_of_block e).trans h2, (World.cell?_of_block e).trans h3, (World.cell?_of_block e).trans h4, (World.cell?_of_block e).trans h5⟩
set_option maxRecDepth 100000 in
theorem Ow.cells_own {w : World} {base : Nat} {A : Option Addr} {n c : Nat} {l : List Fr} (h : Ow w base A n c l) {k : Nat} (hk : (Value.slice A n c).ownBlock = some k) : ∃ o, w.heap[k]? = some o ∧ o.isCells = true := by
  rcases h.2 with ⟨hv, _⟩ | ⟨g, cap, cur, hv, _, hg, _⟩
  · rw [hv] at hk; cases hk
  · rw [hv] at hk
    have : k = g := by
      have h2 : (Value.slice (some ⟨g, 0, none⟩) n cap).ownBlock = some g := rfl
      rw [h2] at hk; cases hk; rfl
    subst this
    exact ⟨_, hg, rfl⟩
set_option maxRecDepth 100000 in
theorem Ow.cl {n₀ : Nat} {W W' : World} {base : Nat} {A : Option Addr} {n c : Nat} {l : List Fr} (h : Ow W base A n c l) (hc : Cl n₀ W W') : Ow W' base A n c l := h.kept fun k hk => by
  obtain ⟨o, ho, hoc⟩ := h.cells_own hk
  exact (hc.same _ _ ho hoc).trans ho.symm
set_option maxRecDepth 100000 in
/-- An append whose run is known, inside a fence. -/
theorem wpListIn_append_fr {F : Fence} {n : Nat} {P : Program} {w : World} {ops : Array Oper} {rest : List Oper} {o : Oper} {a : Act} {Q : Exit → Act → World → Prop} {t u : TypeId} {v xv v' : Value} {w' : World}
    (hrun : (Builtin.append_ #[t, t] u #[v, xv]).run P w = .ok v' w')
    (ho : ∃ s x, o.op = .call { callee := .builtin .append, args := #[s, x], argTypes := #[t, t] } ∧ a.eval s = v ∧ a.eval x = xv) (hu : o.type = u) (hg : o.guard = none)
    (h : wpListIn F n P ops Q rest (a.put o.dst v') w') : wpListIn F n P ops Q (o :: rest) a w := by
  obtain ⟨s, x, hop, hs, hx⟩ := ho
  subst hu
  refine wpListIn_plain hg fun K hK' => ?_
  unfold Oper.wpIn
  refine ⟨?_, ?_⟩
  · simp [Oper.about, hop, resolve, Target.leads, Sem.run_pure]
  · rw [Oper.semAt_plain F _ _ (by rw [hop]; intro c hc'; cases hc')]
    simp [execOp, hop, resolve, invoke, builtin, hs, hx, hrun, Result.andThen]
    exact hK' _ _ h
set_option maxRecDepth 100000 in
theorem Ow.c7 {w : World} {base g n c : Nat} {l : List Fr} (h : Ow w base (some ⟨g, 0, none⟩) n c l) {i : Nat} (hi : i < n) : C7 w g (i * 7) (l.getD i fnE) := by
  have hl := h.len
  obtain ⟨g0, hA0, _, _, hcs⟩ := h.at (by omega)
  cases hA0
  refine C7.of fun j v hv => ?_
  have hj : j < 7 := by have := (List.getElem?_eq_some_iff.1 hv).1; simpa [pc] using this
  have hg : l[i]? = some (l.getD i fnE) := by rw [List.getD_eq_getElem?_getD, List.getElem?_eq_getElem (by omega)]; rfl
  exact hcs _ _ ((flat_get l i _ hg j hj).trans hv)
set_option maxRecDepth 100000 in
theorem keeps_pf (w : World) (g : Nat) (f : Fr) : KeepsOthers w (pf w g f) :=
  ((((((KeepsOthers.setCell w _ _).trans (KeepsOthers.setCell _ _ _)).trans (KeepsOthers.setCell _ _ _)).trans (KeepsOthers.setCell _ _ _)).trans (KeepsOthers.setCell _ _ _)).trans (KeepsOthers.setCell _ _ _)).trans (KeepsOthers.setCell _ _ _)
set_option maxRecDepth 100000 in
theorem Bf.wWho {w : World} {g : Nat} {f : Fr} (h : Bf w g f) (z : Int) : Bf (w.setCell ⟨g, 2, none⟩ (.int .i64 z)) g { f with who := z } := by
  unfold Bf at h ⊢
  simp [World.setCell, Array.getElem?_modify, h]
set_option maxRecDepth 100000 in
theorem rd_cl {n₀ : Nat} {w w' : World} {A : Option Addr} {l : List Int} (h : Rd w A l) (hc : Cl n₀ w w') : Rd w' A l := fun hp => by
  obtain ⟨ad, e, hlt, hh⟩ := h hp
  have h0 := hh 0 l[0] (List.getElem?_eq_getElem hp)
  obtain ⟨o, ho, hoc⟩ := cells_of_cell h0
  rw [block_add] at ho
  have hsame : w'.heap[ad.block]? = w.heap[ad.block]? := (hc.same _ _ ho hoc).trans ho.symm
  exact ⟨ad, e, Nat.lt_of_lt_of_le hlt hc.size, fun j u hu => (World.cell?_of_block (by rw [block_add]; exact hsame)).trans (hh j u hu)⟩
set_option maxRecDepth 100000 in
theorem ow_cap {w : World} {base : Nat} {A : Option Addr} {n c : Nat} {l : List Fr} (h : Ow w base A n c l) : n ≤ c := by
  rcases h.2 with ⟨hv, hx⟩ | ⟨g, cap, cur, hv, _, _, hnc, _⟩
  · omega
  · injection hv with _ _ hc
    omega
set_option maxRecDepth 100000 in
theorem uf_fnE : UF fnE := by unfold UF U fnE; simp
set_option maxRecDepth 100000 in
theorem uf_set {a : List Fr} (h : ∀ i, UF (a.getD i fnE)) {f : Fr} (hf : UF f) (j : Nat) : ∀ i, UF ((a.set j f).getD i fnE) := by
  intro i
  by_cases e : j = i
  · subst e
    rcases Nat.lt_or_ge j a.length with hl | hl
    · rw [getE_eq hl]; exact hf
    · rw [List.set_eq_of_length_le (by omega)]; exact h j
  · rw [getE_ne e]; exact h i
def notDefer (o : Oper) : Bool := match o.op with
  | .defer _ => false
  | _ => true
set_option maxRecDepth 100000 in
theorem no_defer {ops : Array Oper} (h : ops.all notDefer = true) : ∀ (i : Nat) o, ops[i]? = some o → ∀ c, o.op ≠ .defer c := by
  intro i o ho c hc
  have hm := Array.all_eq_true.1 h i (Array.getElem?_eq_some_iff.1 ho).1
  rw [(Array.getElem?_eq_some_iff.1 ho).2] at hm
  unfold notDefer at hm
  rw [hc] at hm
  cases hm
/-- All blocks below lo but one stay. -/
structure Kq (lo bm : Nat) (W x : World) : Prop where
  size : W.heap.size ≤ x.heap.size
  same : ∀ k, k < lo → k ≠ bm → x.heap[k]? = W.heap[k]?
set_option maxRecDepth 100000 in
theorem Kq.refl (lo bm : Nat) (W : World) : Kq lo bm W W := ⟨Nat.le_refl _, fun _ _ _ => rfl⟩
set_option maxRecDepth 100000 in
theorem kq_drew {S : World → Prop} {lo bm : Nat} {W x : World} (K : ∀ x, Kq lo bm W x → S x) (G : ∀ x, S x → Kq lo bm W x) (h : S x) : S x.drew := K _ ⟨(G _ h).size, (G _ h).same⟩
set_option maxRecDepth 100000 in
theorem kq_call {S : World → Prop} {lo bm : Nat} {W x x' : World} (K : ∀ x, Kq lo bm W x → S x) (G : ∀ x, S x → Kq lo bm W x) (hl : lo ≤ W.heap.size) (hb : Below x.heap.size x x') (h : S x) : S x' :=
  K _ ⟨Nat.le_trans (G _ h).size hb.size, fun k hk hne => (hb.block k (Nat.lt_of_lt_of_le (Nat.lt_of_lt_of_le hk hl) (G _ h).size)).trans ((G _ h).same k hk hne)⟩
set_option maxRecDepth 100000 in
theorem kq_set {S : World → Prop} {lo bm : Nat} {W x : World} (K : ∀ x, Kq lo bm W x → S x) (G : ∀ x, S x → Kq lo bm W x) (v : Value) (h : S x) : S (x.setCell ⟨bm, 0, none⟩ v) :=
  K _ ⟨by simpa using (G _ h).size, fun k hk hne => (Below.heap_setCell x ⟨bm, 0, none⟩ v k hne).trans ((G _ h).same k hk hne)⟩
set_option maxRecDepth 100000 in
theorem kq_pk7 {S : World → Prop} {lo bm g k : Nat} {W x : World} {f : Fr} (K : ∀ x, Kq lo bm W x → S x) (G : ∀ x, S x → Kq lo bm W x) (hg : lo ≤ g) (h : S x) : S (pk7 x g k f) :=
  K _ ⟨by rw [pk7_size]; exact (G _ h).size, fun k hk hne => (pk7_other k (by omega)).trans ((G _ h).same k hk hne)⟩
set_option maxRecDepth 100000 in
theorem Bx.stay {w w' : World} {g : Nat} {a b c d : Int} (h : Bx w g a b c d) (e : w'.heap[g]? = w.heap[g]?) (hz : w.heap.size ≤ w'.heap.size) : Bx w' g a b c d :=
  ⟨Nat.lt_of_lt_of_le h.1 hz, (World.cell?_of_block e).trans h.2.1, (World.cell?_of_block e).trans h.2.2.1, (World.cell?_of_block e).trans h.2.2.2.1, (World.cell?_of_block e).trans h.2.2.2.2⟩
set_option maxRecDepth 100000 in
/-- An append whose run is known, as one step of a region that draws. -/
theorem step_append_run {P : Program} {ops : Array Oper} {o : Oper} {a : Act} {w : World} {K : Act → World → Prop} {Q : Exit → Act → World → Prop} {E : Prop} {t u : TypeId} {v xv v' : Value} {w' : World}
    (hrun : (Builtin.append_ #[t, t] u #[v, xv]).run P w = .ok v' w')
    (ho : ∃ s x, o.op = .call { callee := .builtin .append, args := #[s, x], argTypes := #[t, t] } ∧ a.eval s = v ∧ a.eval x = xv) (hu : o.type = u) (hg : o.guard = none)
    (hK : K (a.put o.dst v') w') : if Region.wanted o (yielded ops a.tmps) = true then Oper.wp P o a w K Q else E := by
  obtain ⟨s, x, hop, hs, hx⟩ := ho
  subst hu
  have hw : Region.wanted o (yielded ops a.tmps) = true := by simp [Region.wanted, hg]
  rw [if_pos hw]
  unfold Oper.wp
  simp [execOp, hop, resolve, invoke, builtin, hs, hx, hrun, Result.andThen]
  exact hK
end Go.Proofs.Ytgemaeibmgkneaa
namespace Go.Proofs.Ytgemaeibmgkneaa
open Go.RowKit Go.Deep Go.Shelf
/-- The slice owns the numbers l (of int), in a block from number 'base' on. -/
def OwI (w : World) (base : Nat) (A : Option Addr) (n c : Nat) (l : List Int) : Prop := w.ownsRow base 3 1 (.slice A n c) n (l.map (Value.int .i64))
set_option maxRecDepth 100000 in
theorem OwI.nil (w : World) (base : Nat) : OwI w base none 0 0 [] := World.ownsRow_nil _ _ _ _
set_option maxRecDepth 100000 in
theorem OwI.len {w : World} {base : Nat} {A : Option Addr} {n c : Nat} {l : List Int} (h : OwI w base A n c l) : l.length = n := by
  have := h.1
  simpa using this
set_option maxRecDepth 100000 in
theorem OwI.ri {w : World} {base : Nat} {A : Option Addr} {n c : Nat} {l : List Int} (h : OwI w base A n c l) : Ri w A l := fun hp => by
  rcases h.2 with ⟨hv, hx⟩ | ⟨g, cap, cur, hv, hb, hg, _⟩
  · have := h.len; omega
  · injection hv with hA _ _
    subst hA
    refine ⟨_, rfl, (Array.getElem?_eq_some_iff.1 hg).1, fun j u hu => ?_⟩
    exact World.ownsRow.cells h (g := g) rfl j _ (by simp [hu])
set_option maxRecDepth 100000 in
theorem Try.info3 : (Try.prog.info? 3).map (fun i => (i.zero, i.size, i.bytes)) = some (some (.int .i64 0), 1, 8) := by kernel_rfl
set_option maxRecDepth 100000 in
/-- Numbers appended to numbers. -/
theorem app_ints {w : World} {base : Nat} {A : Option Addr} {n c : Nat} {l : List Int} (ho : OwI w base A n c l) {B : Option Addr} {m : Nat} (d : Nat) {k : List Int} (hk : Ri w B k) (hm : k.length = m) (hs : n + m ≤ 1000000) (hb : base ≤ w.heap.size) :
    ∃ A' c' w', (Builtin.append_ #[23, 23] 23 #[.slice A n c, .slice B m d]).run Try.prog w = .ok (.slice A' (n + m) c') w' ∧ OwI w' base A' (n + m) c' (l ++ k) ∧ Below base w w' := by
  obtain ⟨i0, hi0, hz⟩ := Option.map_eq_some_iff.1 Try.info3
  simp only [Prod.mk.injEq] at hz
  obtain ⟨hz0, hz1, hz2⟩ := hz
  have fin : ∀ v' w', w'.ownsRow base 3 1 v' (n + m) (l.map (Value.int .i64) ++ k.map (Value.int .i64)) → ∃ A' c', v' = .slice A' (n + m) c' ∧ OwI w' base A' (n + m) c' (l ++ k) := by
    intro v' w' h'
    rcases h'.2 with ⟨rfl, hx⟩ | ⟨g, cap, cur, rfl, hr⟩
    · have h0 : n + m = 0 := hx
      rw [h0] at h'
      exact ⟨none, 0, by rw [h0], by rw [h0]; unfold OwI; rw [List.map_append]; exact h'⟩
    · exact ⟨_, cap, rfl, by unfold OwI; rw [List.map_append]; exact h'⟩
  rcases B with _ | ad
  · have h0 : m = 0 := by
      rcases Nat.eq_zero_or_pos m with h | h
      · exact h
      · obtain ⟨_, h, _⟩ := hk (by omega)
        cases h
    subst h0
    obtain rfl : k = [] := List.eq_nil_of_length_eq_zero hm
    refine ⟨A, c, w, ?_, by simpa using ho, Below.refl _ _⟩
    rcases ho.2 with ⟨hv, _⟩ | ⟨g, cap, cur, hv, _, _, hnc, _⟩
    · injection hv with hA hn hc
      subst hA hn hc
      simp [Builtin.append_, run_underlying Try.underlying23, sizeOf, typeInfo, hi0, Builtin.lenOf, Builtin.firstCells]
    · injection hv with hA hn hc
      subst hA hc
      simp [Builtin.append_, run_underlying Try.underlying23, sizeOf, typeInfo, hi0, Builtin.lenOf, Builtin.firstCells, hnc, storeCells]
  · have hc : ∀ j u, k[j]? = some u → w.cell? (ad.add j) = some (.int .i64 u) := fun j u hu => by
      obtain ⟨_, h, _, h'⟩ := hk (by have := (List.getElem?_eq_some_iff.1 hu).1; omega)
      injection h with h
      subst h
      exact h' j u hu
    obtain ⟨v', w', hrun, h2, h3, _, h5⟩ := run_append_own_at (P := Try.prog) w base 23 23 3 i0 (.int .i64 0) 1 8 Try.underlying23 hi0 hz0 hz1 hz2 rfl (by omega) _ n _ ho ad m d (k.map (Value.int .i64)) (by simp [hm])
      (fun j u hu => by
        simp only [List.getElem?_map, Option.map_eq_some_iff] at hu
        obtain ⟨x, hx, rfl⟩ := hu
        exact hc j x hx) (fun u hu => by simp only [List.mem_map] at hu; obtain ⟨x, _, rfl⟩ := hu; rfl) (by simp only [maxLen]; omega) (by omega) hb
    obtain ⟨A', c', rfl, h6⟩ := fin v' w' h2
    exact ⟨A', c', w', hrun, h6, (Below.refl base w).grown h3 hb (fun j hj => (World.ownsRow.lt ho j hj).1)⟩
set_option maxRecDepth 100000 in
/-- A literal's numbers. -/
theorem ri_new (w : World) (l : List Int) : Ri (w.alloc (.cells (l.map (Value.int .i64)).toArray 3)) (some ⟨w.heap.size, 0, none⟩) l := fun _ => by
  have hg := heap_alloc_new w (.cells (l.map (Value.int .i64)).toArray 3)
  refine ⟨_, rfl, (Array.getElem?_eq_some_iff.1 hg).1, fun j u hu => ?_⟩
  rw [add_zero']
  unfold World.cell?
  rw [hg]
  simp [hu]
set_option maxRecDepth 100000 in
theorem owi_new {w : World} {base n : Nat} (hb : base ≤ w.heap.size) (l : List Int) (hn : l.length = n) (hm : n ≤ 1000) : OwI (w.alloc (.cells (l.map (Value.int .i64)).toArray 3)) base (some ⟨w.heap.size, 0, none⟩) n n l :=
  ⟨by simpa using hn, .inr ⟨w.heap.size, n, (l.map (Value.int .i64)).toArray, rfl, hb, heap_alloc_new _ _, Nat.le_refl _, by simp only [maxLen]; omega, by simp [hn], by subst hn; rw [List.take_of_length_le (by simp)]⟩⟩
end Go.Proofs.Ytgemaeibmgkneaa
