/- Tasks in memory: a row of structs, each with its work and its row of kids. -/
import Derived.Test.YtobcedlkmnmikaaFoI
namespace Go.Proofs.Ytobcedlkmnmikaa.Fo
open Go.RowKit Go.Deep
/-- A task: its work and its kids. -/
abbrev Tsk := Int × List Int
/-- The slice at A reads as the numbers l, in a block below n. -/
def RdB (n : Nat) (w : World) (A : Option Addr) (l : List Int) : Prop :=
  0 < l.length → ∃ b off, A = some ⟨b, off, none⟩ ∧ b < n ∧ ∀ j u, l[j]? = some u → w.cell? ⟨b, off + j, none⟩ = some (.int .i64 u)
/-- The slice at A reads as the tasks T, all of it in blocks below n. -/
def Tk (n : Nat) (w : World) (A : Option Addr) (T : List Tsk) : Prop :=
  0 < T.length → ∃ b off, A = some ⟨b, off, none⟩ ∧ b < n ∧ ∀ i x, T[i]? = some x → w.cell? ⟨b, off + i * 2, none⟩ = some (.int .i64 x.1) ∧ ∃ K c, w.cell? ⟨b, off + i * 2 + 1, none⟩ = some (.slice K x.2.length c) ∧ RdB n w K x.2
theorem add_plain' (b off j : Nat) : (⟨b, off, none⟩ : Addr).add j = ⟨b, off + j, none⟩ := by
  unfold Addr.add; split
  · rename_i h; subst h; rfl
  · rfl
theorem RdB.below {n : Nat} {w w' : World} {A : Option Addr} {l : List Int} (h : RdB n w A l) (hb : Below n w w') : RdB n w' A l := fun hp => by
  obtain ⟨b, off, e, hlt, hc⟩ := h hp
  exact ⟨b, off, e, hlt, fun j u hu => (hb.cell (p := ⟨b, off + j, none⟩) hlt).trans (hc j u hu)⟩
theorem RdB.mono {n m : Nat} {w : World} {A : Option Addr} {l : List Int} (h : RdB n w A l) (hn : n ≤ m) : RdB m w A l := fun hp => by
  obtain ⟨b, off, e, hlt, hc⟩ := h hp
  exact ⟨b, off, e, by omega, hc⟩
theorem RdB.rd {n : Nat} {w : World} {A : Option Addr} {l : List Int} (h : RdB n w A l) (hn : n ≤ w.heap.size) : Rd w A l := fun hp => by
  obtain ⟨b, off, e, hlt, hc⟩ := h hp
  exact ⟨⟨b, off, none⟩, e, Nat.lt_of_lt_of_le hlt hn, fun j u hu => by rw [add_plain']; exact hc j u hu⟩
theorem Rd.rdB {w : World} {A : Option Addr} {l : List Int} (h : Rd w A l) : RdB w.heap.size w A l := fun hp => by
  obtain ⟨⟨b, off, spot⟩, e, hlt, hc⟩ := h hp
  have h0 := hc 0 l[0] (List.getElem?_eq_getElem hp)
  have hspot : spot = none := by simpa [Addr.add] using World.cell?_spot h0
  subst hspot
  exact ⟨b, off, e, hlt, fun j u hu => by rw [← add_plain']; exact hc j u hu⟩
theorem Tk.below {n : Nat} {w w' : World} {A : Option Addr} {T : List Tsk} (h : Tk n w A T) (hb : Below n w w') : Tk n w' A T := fun hp => by
  obtain ⟨b, off, e, hlt, hc⟩ := h hp
  refine ⟨b, off, e, hlt, fun i x hx => ?_⟩
  obtain ⟨h1, K, c, h2, h3⟩ := hc i x hx
  exact ⟨(hb.cell (p := ⟨b, off + i * 2, none⟩) hlt).trans h1, K, c, (hb.cell (p := ⟨b, off + i * 2 + 1, none⟩) hlt).trans h2, h3.below hb⟩
theorem Tk.mono {n m : Nat} {w : World} {A : Option Addr} {T : List Tsk} (h : Tk n w A T) (hn : n ≤ m) : Tk m w A T := fun hp => by
  obtain ⟨b, off, e, hlt, hc⟩ := h hp
  refine ⟨b, off, e, by omega, fun i x hx => ?_⟩
  obtain ⟨h1, K, c, h2, h3⟩ := hc i x hx
  exact ⟨h1, K, c, h2, h3.mono hn⟩
/-- What a walk wants at one task. -/
theorem Tk.at {n : Nat} {w : World} {A : Option Addr} {T : List Tsk} (h : Tk n w A T) {i : Nat} (hi : i < T.length) :
    ∃ b off K c, A = some ⟨b, off, none⟩ ∧ b < n ∧ w.cell? ⟨b, off + i * 2, none⟩ = some (.int .i64 T[i].1) ∧ w.cell? ⟨b, off + i * 2 + 1, none⟩ = some (.slice K T[i].2.length c) ∧ RdB n w K T[i].2 := by
  obtain ⟨b, off, e, hlt, hc⟩ := h (by omega)
  obtain ⟨h1, K, c, h2, h3⟩ := hc i T[i] (List.getElem?_eq_getElem hi)
  exact ⟨b, off, K, c, e, hlt, h1, h2, h3⟩
theorem RdB.at {n : Nat} {w : World} {A : Option Addr} {l : List Int} (h : RdB n w A l) {i : Nat} (hi : i < l.length) :
    ∃ b off, A = some ⟨b, off, none⟩ ∧ b < n ∧ w.cell? ⟨b, off + i, none⟩ = some (.int .i64 l[i]) := by
  obtain ⟨b, off, e, hlt, hc⟩ := h (by omega)
  exact ⟨b, off, e, hlt, hc i l[i] (List.getElem?_eq_getElem hi)⟩
/-- Few tasks, of few kids. -/
def Sm (T : List Tsk) : Prop := T.length ≤ 1000 ∧ ∀ x ∈ T, x.2.length ≤ 1000
theorem Sm.at {T : List Tsk} (h : Sm T) {i : Nat} (hi : i < T.length) : T[i].2.length ≤ 1000 := h.2 _ (List.getElem_mem hi)
end Go.Proofs.Ytobcedlkmnmikaa.Fo
