/- Contracts of put, takeLast and takeFirst. -/
import Derived.Test.YtgemaeibmgkneaaFrB
import Derived.Deep.AppendSrc
import Derived.Deep.RegionLaw
namespace Go.Proofs.Ytgemaeibmgkneaa
open Go.RowKit Go.Deep
set_option maxRecDepth 100000 in
/-- One number appended to a list that has no room left: the list lies in new memory. -/
theorem run_full {w : World} {A B : Option Addr} {n d : Nat} {l : List Int} {v : Int} (h : Rd w A l) (hn : l.length = n) (hs : n ≤ 1000) (hB : Rd w B [v]) :
    ∃ c w', (Builtin.append_ #[26, 26] 26 #[.slice A n n, .slice B 1 d]).run Try.prog w = .ok (.slice (some ⟨w.heap.size, 0, none⟩) (n + 1) c) w' ∧ n + 1 ≤ c ∧ Rn w.heap.size w' (some ⟨w.heap.size, 0, none⟩) (l ++ [v]) ∧ Below w.heap.size w w' := by
  obtain ⟨i0, hi0, hz'⟩ := Option.map_eq_some_iff.1 Try.info32
  simp only [Prod.mk.injEq] at hz'
  obtain ⟨hz0, hz1, hz2⟩ := hz'
  obtain ⟨b, rfl, hlt, hc⟩ := hB (by simp)
  have hold : (Builtin.firstCells i0.size n (.slice A n n)).run Try.prog w.drew = .ok (l.map (Value.int .u64)).toArray w.drew := by
    rcases A with _ | a
    · have h0 : l = [] := by
        cases l with
        | nil => rfl
        | cons x l => obtain ⟨_, e, _⟩ := h (by simp); cases e
      subst h0
      exact run_firstCells_none _ _ _ _ _
    · refine run_firstCells_some _ _ _ a n n _ (by rw [hz1]; simp [hn]) (fun j u hu => ?_)
      simp only [List.getElem?_map, Option.map_eq_some_iff] at hu
      obtain ⟨x, hx, rfl⟩ := hu
      obtain ⟨a', e, _, hc'⟩ := h (by have := (List.getElem?_eq_some_iff.1 hx).1; omega)
      cases e
      exact hc' j x hx
  have hsrc : Go.Src Try.prog i0.size 26 (.slice (some b) 1 d) 1 [.int .u64 v] w := Src.ofSlice w (e' := 32) Try.underlying26 b 1 d [.int .u64 v] (by rw [hz1]; rfl) (fun j u hu => by
    have hj : j = 0 := by have := (List.getElem?_eq_some_iff.1 hu).1; simp at this; omega
    subst hj
    simp at hu
    subst hu
    exact hc 0 v rfl) (fun u hu => by simp at hu; subst hu; rfl)
  have hr := run_append_grow_src (P := Try.prog) w 26 26 26 32 i0 (.int .u64 0) Try.underlying26 hi0 hz0 A n n _ hold _ 1 _ hsrc (by omega) (by omega) (growslice_fits (by omega) (by rw [hz2]; omega))
  refine ⟨_, _, hr, grownCap_ge _ _ _ _, fun _ => ⟨_, rfl, Nat.le_refl _, by simp, fun j u hu => ?_⟩, ((Below.refl _ _).drew).alloc (by simp) _⟩
  rw [add_zero', show w.heap.size = w.drew.heap.size from rfl, cell_of_row _ _ _ _ _ (0, 0) (heap_alloc_new _ _)]
  have hj := (List.getElem?_eq_some_iff.1 hu).1
  have e : (l.map (Value.int .u64) ++ [Value.int .u64 v])[j]? = some (.int .u64 u) := by
    rw [show l.map (Value.int .u64) ++ [Value.int .u64 v] = (l ++ [v]).map (Value.int .u64) by simp, List.getElem?_map, hu]; rfl
  rw [Array.getElem?_append_left (by simpa using hj)]
  simpa using e
set_option maxRecDepth 100000 in
/-- The same, as one step of a region that draws. -/
theorem step_full {ops : Array Oper} {o : Oper} {a : Act} {w : World} {K : Act → World → Prop} {Q : Exit → Act → World → Prop} {E : Prop} {A B : Option Addr} {n d : Nat} {l : List Int} {v : Int}
    (ho : ∃ s x, o.op = .call { callee := .builtin .append, args := #[s, x], argTypes := #[26, 26] } ∧ a.eval s = .slice A n n ∧ a.eval x = .slice B 1 d) (hu : o.type = 26) (hg : o.guard = none)
    (h : Rd w A l) (hn : l.length = n) (hs : n ≤ 1000) (hB : Rd w B [v])
    (hK : ∀ c w', n + 1 ≤ c → Rn w.heap.size w' (some ⟨w.heap.size, 0, none⟩) (l ++ [v]) → Below w.heap.size w w' → K (a.put o.dst (.slice (some ⟨w.heap.size, 0, none⟩) (n + 1) c)) w') :
    if Region.wanted o (yielded ops a.tmps) = true then Oper.wp Try.prog o a w K Q else E := by
  obtain ⟨c, w', hrun, h1, h2, h3⟩ := run_full (d := d) h hn hs hB
  obtain ⟨s, x, hop, hs, hx⟩ := ho
  have hw : Region.wanted o (yielded ops a.tmps) = true := by simp [Region.wanted, hg]
  rw [if_pos hw]
  unfold Oper.wp
  simp [execOp, hop, resolve, invoke, builtin, hs, hx, hu, hrun, Result.andThen]
  exact hK c w' h1 h2 h3
set_option maxRecDepth 100000 in
theorem room_fin {w w0 w1 w2 : World} {l : List Int} {u : Int} {c n : Nat} {f : Fr} {o : Obj} (Z : Below w.heap.size w w0) (hz : w0.heap.size = w.heap.size + 2) (z2 : Below w0.heap.size w0 w2) 
    (h1 : Rn (w0.alloc o).drew.heap.size w1 (some ⟨(w0.alloc o).drew.heap.size, 0, none⟩) (l ++ [u])) (hb : Below w1.heap.size w1 w2) (hn : l.length = n) (hc : n + 1 ≤ c) :
    RetO w (l ++ [u]) f (.returned (.tuple #[.slice (some ⟨w.heap.size + 2 + 1, 0, none⟩) (n + 1) c, fv f])) (pf w2 (w.heap.size + 1) f) := by
  have e : (w0.alloc o).drew.heap.size = w.heap.size + 2 + 1 := by simp [hz]
  rw [e] at h1
  have k : (l ++ [u]).length = n + 1 := by simp [hn]
  exact ⟨_, c, by rw [k], by rw [k]; exact hc, ((h1.below hb).pf (by omega) f).mono (by omega), below_pf (Z.trans (z2.mono (by omega))) (by omega) _⟩
end Go.Proofs.Ytgemaeibmgkneaa
