/- Numbers (of int) that a law gathers. -/
import Derived.Test.YtpeaahihjeplmaaDeT
namespace Go.Proofs.Ytpeaahihjeplmaa
open Go.RowKit Go.Deep Go.Shelf
/-- The slice owns the numbers l (of int), in a block from number 'base' on. -/
def OwI (w : World) (base : Nat) (A : Option Addr) (n c : Nat) (l : List Int) : Prop := w.ownsRow base 3 1 (.slice A n c) n (l.map (Value.int .i64))
theorem OwI.nil (w : World) (base : Nat) : OwI w base none 0 0 [] := World.ownsRow_nil _ _ _ _
theorem OwI.len {w : World} {base : Nat} {A : Option Addr} {n c : Nat} {l : List Int} (h : OwI w base A n c l) : l.length = n := by
  have := h.1
  simpa using this
theorem OwI.ri {w : World} {base : Nat} {A : Option Addr} {n c : Nat} {l : List Int} (h : OwI w base A n c l) : Ri w A l := fun hp => by
  rcases h.2 with ⟨hv, hx⟩ | ⟨g, cap, cur, hv, hb, hg, _⟩
  · have := h.len; omega
  · injection hv with hA _ _
    subst hA
    refine ⟨_, rfl, (Array.getElem?_eq_some_iff.1 hg).1, fun j u hu => ?_⟩
    exact World.ownsRow.cells h (g := g) rfl j _ (by simp [hu])
theorem Try.info3 : (Try.prog.info? 3).map (fun i => (i.zero, i.size, i.bytes)) = some (some (.int .i64 0), 1, 8) := by kernel_rfl
set_option maxRecDepth 100000 in
/-- Numbers appended to numbers. -/
theorem app_ints {w : World} {base : Nat} {A : Option Addr} {n c : Nat} {l : List Int} (ho : OwI w base A n c l) {B : Option Addr} {m : Nat} (d : Nat) {k : List Int} (hk : Ri w B k) (hm : k.length = m) (hs : n + m ≤ 1000000) (hb : base ≤ w.heap.size) :
    ∃ A' c' w', (Builtin.append_ #[30, 30] 30 #[.slice A n c, .slice B m d]).run Try.prog w = .ok (.slice A' (n + m) c') w' ∧ OwI w' base A' (n + m) c' (l ++ k) ∧ Below base w w' := by
  obtain ⟨i0, hi0, hz⟩ := Option.map_eq_some_iff.1 Try.info3
  simp only [Prod.mk.injEq] at hz
  obtain ⟨hz0, hz1, hz2⟩ := hz
  have fin : ∀ v' w', w'.ownsRow base 3 1 v' (n + m) (l.map (Value.int .i64) ++ k.map (Value.int .i64)) → ∃ A' c', v' = .slice A' (n + m) c' ∧ OwI w' base A' (n + m) c' (l ++ k) := by
    intro v' w' h'
    rcases h'.2 with ⟨rfl, hx⟩ | ⟨g, cap, cur, rfl, hr⟩
    · have h0 : n + m = 0 := hx
      rw [h0] at h'
      exact ⟨none, 0, by rw [h0], by rw [h0]; unfold OwI; rw [List.map_append]; exact h'⟩
    · exact ⟨_, cap, rfl, by unfold OwI; rw [List.map_append]; exact h'⟩
  rcases B with _ | ad
  · have h0 : m = 0 := by
      rcases Nat.eq_zero_or_pos m with h | h
      · exact h
      · obtain ⟨_, h, _⟩ := hk (by omega)
        cases h
    subst h0
    obtain rfl : k = [] := List.eq_nil_of_length_eq_zero hm
    refine ⟨A, c, w, ?_, by simpa using ho, Below.refl _ _⟩
    rcases ho.2 with ⟨hv, _⟩ | ⟨g, cap, cur, hv, _, _, hnc, _⟩
    · injection hv with hA hn hc
      subst hA hn hc
      simp [Builtin.append_, run_underlying Try.underlying30, sizeOf, typeInfo, hi0, Builtin.lenOf, Builtin.firstCells]
    · injection hv with hA hn hc
      subst hA hc
      simp [Builtin.append_, run_underlying Try.underlying30, sizeOf, typeInfo, hi0, Builtin.lenOf, Builtin.firstCells, hnc, storeCells]
  · have hc : ∀ j u, k[j]? = some u → w.cell? (ad.add j) = some (.int .i64 u) := fun j u hu => by
      obtain ⟨_, h, _, h'⟩ := hk (by have := (List.getElem?_eq_some_iff.1 hu).1; omega)
      injection h with h
      subst h
      exact h' j u hu
    obtain ⟨v', w', hrun, h2, h3, _, h5⟩ := run_append_own_at (P := Try.prog) w base 30 30 3 i0 (.int .i64 0) 1 8 Try.underlying30 hi0 hz0 hz1 hz2 rfl (by omega) _ n _ ho ad m d (k.map (Value.int .i64)) (by simp [hm])
      (fun j u hu => by
        simp only [List.getElem?_map, Option.map_eq_some_iff] at hu
        obtain ⟨x, hx, rfl⟩ := hu
        exact hc j x hx) (fun u hu => by simp only [List.mem_map] at hu; obtain ⟨x, _, rfl⟩ := hu; rfl) (by simp only [maxLen]; omega) (by omega) hb
    obtain ⟨A', c', rfl, h6⟩ := fin v' w' h2
    exact ⟨A', c', w', hrun, h6, (Below.refl base w).grown h3 hb (fun j hj => (World.ownsRow.lt ho j hj).1)⟩
/-- A literal's numbers. -/
theorem ri_new (w : World) (l : List Int) : Ri (w.alloc (.cells (l.map (Value.int .i64)).toArray 3)) (some ⟨w.heap.size, 0, none⟩) l := fun _ => by
  have hg := heap_alloc_new w (.cells (l.map (Value.int .i64)).toArray 3)
  refine ⟨_, rfl, (Array.getElem?_eq_some_iff.1 hg).1, fun j u hu => ?_⟩
  rw [add_zero']
  unfold World.cell?
  rw [hg]
  simp [hu]
theorem owi_new {w : World} {base n : Nat} (hb : base ≤ w.heap.size) (l : List Int) (hn : l.length = n) (hm : n ≤ 1000) : OwI (w.alloc (.cells (l.map (Value.int .i64)).toArray 3)) base (some ⟨w.heap.size, 0, none⟩) n n l :=
  ⟨by simpa using hn, .inr ⟨w.heap.size, n, (l.map (Value.int .i64)).toArray, rfl, hb, heap_alloc_new _ _, Nat.le_refl _, by simp only [maxLen]; omega, by simp [hn], by subst hn; rw [List.take_of_length_le (by simp)]⟩⟩
end Go.Proofs.Ytpeaahihjeplmaa
