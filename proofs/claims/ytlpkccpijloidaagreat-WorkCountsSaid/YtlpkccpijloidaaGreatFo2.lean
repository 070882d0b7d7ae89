/- Merged: FoO, ItO. -/
import Derived.Test.YtlpkccpijloidaaGreatFo0
import Derived.Deep.Slices
import Derived.Deep.Fields
import Derived.ChangeSame
import Derived.Test.YtlpkccpijloidaaGreatIt0
namespace Go.Proofs.YtlpkccpijloidaaGreat.Fo
set_option maxRecDepth 100000
open Go.RowKit Go.Deep Go.ChangeShapes Go.WideShapes

theorem Tryz.cells71 : Tryz.prog.cellsOf 71 = 2 := by kernel_rfl
theorem Tryz.cells3 : Tryz.prog.cellsOf 3 = 1 := by kernel_rfl
theorem Tryz.cells69 : Tryz.prog.cellsOf 69 = 1 := by kernel_rfl
/-- What is known of tasks that came in. -/
def Came (w : World) (a : Option Addr) (len : Nat) (T : List Tsk) : Prop := T.length = len ∧ len ≤ maxLen ∧ (∀ x ∈ T, x.2.length ≤ maxLen) ∧ Tk w.heap.size w a T
section
variable {H : Type} {enc : TypeId × Value → H} {w : World}
theorem open_kids {fuel : Nat} {v : Value} {y : DataW H × List MemPlace} (h : DataW.trod enc Tryz.prog w 0 (fun _ => true) true fuel 69 [v] = some y) :
    ∃ (K : Option Addr) (l : List Int) (c : Nat), v = .slice K l.length c ∧ l.length ≤ maxLen ∧ RdB w.heap.size w K l := by
  rcases open_ints Tryz.underlying69 Tryz.underlying3 Tryz.cells3 h with ⟨hcs, _⟩ | ⟨x, l, c, zs, hcs, _, hl, hm, hz, _, hcell, _⟩
  · simp at hcs
    subst hcs
    exact ⟨none, [], 0, rfl, by simp, fun h => by simp at h⟩
  · simp at hcs
    subst hcs
    simp only [if_true] at hz
    have hle : (zs.take l).length = l := by simp; omega
    refine ⟨some x, zs.take l, c, by rw [hle], by rw [hle]; omega, ?_⟩
    refine Rd.rdB fun hp => ⟨x, rfl, ?_, fun j u hu => ?_⟩
    · have h0 := hcell 0 (by simp at hp; omega)
      have : (x.add 0) = x := by simp [Addr.add]
      rw [this] at h0
      exact block_lt_of_cell h0
    · rw [List.getElem?_take] at hu
      split at hu
      · have hj := (List.getElem?_eq_some_iff.1 hu).1
        rw [hcell j hj, List.getD_eq_getElem?_getD, hu]; rfl
      · cases hu
theorem open_tasks {fuel : Nat} {a : Option Addr} {len cap : Nat} {x : DataW H × List MemPlace} (h : DataW.trod enc Tryz.prog w 0 (fun _ => true) true fuel 24 [.slice a len cap] = some x) : ∃ T, Came w a len T := by
  rcases open_slice Tryz.underlying24 h with ⟨hcs, _⟩ | ⟨ad, l, c, m, n, D, Pl, hcs, _, hl, hm, hmm, _, hi⟩
  · simp at hcs
    obtain ⟨rfl, rfl, rfl⟩ := hcs
    exact ⟨[], rfl, by simp, by simp, fun h => by simp at h⟩
  · simp at hcs
    obtain ⟨rfl, rfl, rfl⟩ := hcs
    simp only [if_true] at hmm
    have each : ∀ i, i < len → ∃ t : Tsk, t.2.length ≤ maxLen ∧ w.cell? (ad.add (i * 2)) = some (.int .i64 t.1) ∧ ∃ K c, w.cell? (ad.add (i * 2 + 1)) = some (.slice K t.2.length c) ∧ RdB w.heap.size w K t.2 := by
      intro i hlt
      obtain ⟨cs', hc, ht⟩ := hi i (by omega)
      rw [Tryz.cells71] at hc
      obtain ⟨ys, n', _, _, _, hyl, hf⟩ := DataW.trod_struct Tryz.underlying71 ht
      obtain ⟨_, hcl, hat⟩ := World.cells?_some hc
      match cs', hcl, hat, hf with
      | [v0, v1], _, hat, hf =>
        have f0 : DataW.trod enc Tryz.prog w 0 (fun _ => true) true n' 3 (([v0, v1].drop 0).take (Tryz.prog.cellsOf 3)) = ys[0]? := hf 0 _ rfl
        have f1 : DataW.trod enc Tryz.prog w 0 (fun _ => true) true n' 69 (([v0, v1].drop 1).take (Tryz.prog.cellsOf 69)) = ys[1]? := hf 1 _ rfl
        rw [Tryz.cells3] at f0
        rw [Tryz.cells69] at f1
        match ys, hyl, f0, f1 with
        | [y0, y1], _, f0, f1 =>
          obtain ⟨z, e0, _, _⟩ := DataW.trod_int Tryz.underlying3 (show DataW.trod enc Tryz.prog w 0 (fun _ => true) true n' 3 [v0] = some y0 from f0)
          simp at e0
          subst e0
          obtain ⟨K, l', c', rfl, hll, hr⟩ := open_kids (show DataW.trod enc Tryz.prog w 0 (fun _ => true) true n' 69 [v1] = some y1 from f1)
          have a0 := hat 0 (by omega)
          have a1 := hat 1 (by omega)
          rw [Go.Deep.add_add] at a0 a1
          exact ⟨(z, l'), hll, by simpa using a0, K, c', by simpa using a1, hr⟩
    have hT : ∀ k, k ≤ len → ∃ T : List Tsk, T.length = k ∧ (∀ x ∈ T, x.2.length ≤ maxLen) ∧ ∀ i x, T[i]? = some x → w.cell? (ad.add (i * 2)) = some (.int .i64 x.1) ∧ ∃ K c, w.cell? (ad.add (i * 2 + 1)) = some (.slice K x.2.length c) ∧ RdB w.heap.size w K x.2 := by
      intro k
      induction k with
      | zero => intro _; exact ⟨[], rfl, by simp, fun i x hx => by simp at hx⟩
      | succ k ih =>
        intro hk
        obtain ⟨T, h1, h2, h3⟩ := ih (by omega)
        obtain ⟨t, g1, g2, g3⟩ := each k (by omega)
        refine ⟨T ++ [t], by simp [h1], fun x hx => ?_, fun i x hx => ?_⟩
        · rcases List.mem_append.1 hx with hx | hx
          · exact h2 x hx
          · have : x = t := by simpa using hx
            rw [this]; exact g1
        · by_cases e : i < T.length
          · rw [List.getElem?_append_left e] at hx
            exact h3 i x hx
          · rw [List.getElem?_append_right (by omega)] at hx
            have hi0 : i - T.length = 0 := by
              have := (List.getElem?_eq_some_iff.1 hx).1
              simp at this
              omega
            rw [hi0] at hx
            have hxt : t = x := by simpa using hx
            subst hxt
            obtain rfl : i = k := by omega
            exact ⟨g2, g3⟩
    obtain ⟨T, h1, h2, h3⟩ := hT len (Nat.le_refl _)
    refine ⟨T, h1, by omega, h2, fun hp => ?_⟩
    obtain ⟨b, off, spot⟩ := ad
    have h0 := (h3 0 T[0] (List.getElem?_eq_getElem hp)).1
    have hspot : spot = none := by simpa [Addr.add] using World.cell?_spot h0
    subst hspot
    refine ⟨b, off, rfl, ?_, fun i x hx => ?_⟩
    · have : (⟨b, off, none⟩ : Addr).add (0 * 2) = ⟨b, off, none⟩ := by simp [Addr.add]
      rw [this] at h0
      exact block_lt_of_cell h0
    · have := h3 i x hx
      rw [add_plain', add_plain'] at this
      exact this
end
end Go.Proofs.YtlpkccpijloidaaGreat.Fo
namespace Go.Proofs.YtlpkccpijloidaaGreat.Fo
set_option maxRecDepth 100000
open Go.RowKit Go.Deep Go.ChangeShapes Go.WideShapes

theorem Tryz.cells53 : Tryz.prog.cellsOf 53 = 3 := by kernel_rfl
/-- What is known of picks that came in. -/
def CameT (w : World) (a : Option Addr) (len cap : Nat) (l : List Itm) : Prop := l.length = len ∧ len ≤ cap ∧ cap ≤ maxLen ∧ Ir w.heap.size w a l ∧ (a = none → cap = 0)
section
variable {H : Type} {enc : TypeId × Value → H} {w : World}
theorem open_items {fuel : Nat} {a : Option Addr} {len cap : Nat} {x : DataW H × List MemPlace} (h : DataW.trod enc Tryz.prog w 0 (fun _ => true) true fuel 27 [.slice a len cap] = some x) : ∃ l, CameT w a len cap l := by
  rcases open_slice Tryz.underlying27 h with ⟨hcs, _⟩ | ⟨ad, l, c, m, n, D, Pl, hcs, _, hl, hm, hmm, _, hi⟩
  · simp at hcs
    obtain ⟨rfl, rfl, rfl⟩ := hcs
    exact ⟨[], rfl, Nat.le_refl _, by simp, Ir.nil _ _ _, fun _ => rfl⟩
  · simp at hcs
    obtain ⟨rfl, rfl, rfl⟩ := hcs
    simp only [if_true] at hmm
    have each : ∀ i, i < len → ∃ t : Itm, w.cell? (ad.add (i * 3)) = some (.int .i64 t.1) ∧ w.cell? (ad.add (i * 3 + 1)) = some (.int .i64 t.2.1) ∧ w.cell? (ad.add (i * 3 + 2)) = some (.int .i64 t.2.2) := by
      intro i hlt
      obtain ⟨cs', hc, ht⟩ := hi i (by omega)
      rw [Tryz.cells53] at hc
      obtain ⟨ys, n', _, _, _, hyl, hf⟩ := DataW.trod_struct Tryz.underlying53 ht
      obtain ⟨_, hcl, hat⟩ := World.cells?_some hc
      match cs', hcl, hat, hf with
      | [v0, v1, v2], _, hat, hf =>
        have f0 : DataW.trod enc Tryz.prog w 0 (fun _ => true) true n' 3 (([v0, v1, v2].drop 0).take (Tryz.prog.cellsOf 3)) = ys[0]? := hf 0 _ rfl
        have f1 : DataW.trod enc Tryz.prog w 0 (fun _ => true) true n' 3 (([v0, v1, v2].drop 1).take (Tryz.prog.cellsOf 3)) = ys[1]? := hf 1 _ rfl
        have f2 : DataW.trod enc Tryz.prog w 0 (fun _ => true) true n' 3 (([v0, v1, v2].drop 2).take (Tryz.prog.cellsOf 3)) = ys[2]? := hf 2 _ rfl
        rw [Tryz.cells3] at f0 f1
        rw [Tryz.cells3] at f2
        match ys, hyl, f0, f1, f2 with
        | [y0, y1, y2], _, f0, f1, f2 =>
          obtain ⟨z0, e0, _, _⟩ := DataW.trod_int Tryz.underlying3 (show DataW.trod enc Tryz.prog w 0 (fun _ => true) true n' 3 [v0] = some y0 from f0)
          obtain ⟨z1, e1, _, _⟩ := DataW.trod_int Tryz.underlying3 (show DataW.trod enc Tryz.prog w 0 (fun _ => true) true n' 3 [v1] = some y1 from f1)
          obtain ⟨z2, e2, _, _⟩ := DataW.trod_int Tryz.underlying3 (show DataW.trod enc Tryz.prog w 0 (fun _ => true) true n' 3 [v2] = some y2 from f2)
          simp at e0 e1 e2
          subst e0 e1 e2
          have a0 := hat 0 (by omega)
          have a1 := hat 1 (by omega)
          have a2 := hat 2 (by omega)
          rw [Go.Deep.add_add] at a0 a1 a2
          exact ⟨(z0, z1, z2), by simpa using a0, by simpa using a1, by simpa using a2⟩
    have hT : ∀ k, k ≤ len → ∃ T : List Itm, T.length = k ∧ ∀ i x, T[i]? = some x → w.cell? (ad.add (i * 3)) = some (.int .i64 x.1) ∧ w.cell? (ad.add (i * 3 + 1)) = some (.int .i64 x.2.1) ∧ w.cell? (ad.add (i * 3 + 2)) = some (.int .i64 x.2.2) := by
      intro k
      induction k with
      | zero => intro _; exact ⟨[], rfl, fun i x hx => by simp at hx⟩
      | succ k ih =>
        intro hk
        obtain ⟨T, h1, h3⟩ := ih (by omega)
        obtain ⟨t, g2⟩ := each k (by omega)
        refine ⟨T ++ [t], by simp [h1], fun i x hx => ?_⟩
        by_cases e : i < T.length
        · rw [List.getElem?_append_left e] at hx
          exact h3 i x hx
        · rw [List.getElem?_append_right (by omega)] at hx
          have hi0 : i - T.length = 0 := by
            have := (List.getElem?_eq_some_iff.1 hx).1
            simp at this
            omega
          rw [hi0] at hx
          have hxt : t = x := by simpa using hx
          subst hxt
          obtain rfl : i = k := by omega
          exact g2
    obtain ⟨T, h1, h3⟩ := hT len (Nat.le_refl _)
    refine ⟨T, h1, hl, hm, fun hp => ?_, fun e => by cases e⟩
    obtain ⟨b, off, spot⟩ := ad
    have h0 := (h3 0 T[0] (List.getElem?_eq_getElem hp)).1
    have hspot : spot = none := by simpa [Addr.add] using World.cell?_spot h0
    subst hspot
    refine ⟨b, off, rfl, ?_, fun i x hx => ?_⟩
    · rw [add_plain'] at h0
      exact block_lt_of_cell h0
    · have := h3 i x hx
      rw [add_plain', add_plain', add_plain'] at this
      exact this
end
end Go.Proofs.YtlpkccpijloidaaGreat.Fo
