/- Contracts of the helpers of package cell: what 'copied' answers for any cells. -/
import Derived.Test.YtjoihkfjalggjaaRows
import Derived.WalkKit
import Derived.WalkSpells
import Derived.WalkLawsBesides
import Derived.Laws.CopyOwn
import Derived.Lib.Hide
import Derived.Deep.Draws
import Derived.Deep.OwnRows
namespace Go.Proofs.Ytjoihkfjalggjaa
open Go.RowKit Go.Deep

/-- The slice at address A reads as the numbers l. -/
def Rd (w : World) (A : Option Addr) (l : List Int) : Prop :=
  0 < l.length → ∃ ad, A = some ad ∧ ad.block < w.heap.size ∧ ∀ j u, l[j]? = some u → w.cell? (ad.add j) = some (.int .u64 u)

/-- Block g is just these numbers, not frozen. -/
def Bk (w : World) (g : Nat) (l : List Int) : Prop := w.heap[g]? = some (.cells (l.map (Value.int .u64)).toArray 24 (0, 0))

theorem Try.info24 : (Try.prog.info? 24).map (fun i => (i.zero, i.size, i.bytes)) = some (some (.int .u64 0), 1, 8) := by kernel_rfl
theorem Try.size24 : (Try.prog.info? 24).map (·.size) = some 1 := by kernel_rfl


theorem Rd.below {w w' : World} {A : Option Addr} {l : List Int} (h : Rd w A l) (hb : Below w.heap.size w w') : Rd w' A l := fun hp => by
  obtain ⟨ad, e, hlt, hc⟩ := h hp
  exact ⟨ad, e, Nat.lt_of_lt_of_le hlt hb.size, fun j u hu => (hb.cell (p := ad.add j) (by unfold Addr.add; split <;> exact hlt)).trans (hc j u hu)⟩
theorem Bk.lt {w : World} {g : Nat} {l : List Int} (h : Bk w g l) : g < w.heap.size := by
  rcases Nat.lt_or_ge g w.heap.size with hlt | hge
  · exact hlt
  · unfold Bk at h; rw [Array.getElem?_eq_none hge] at h; cases h
theorem Bk.cell {w : World} {g : Nat} {l : List Int} (h : Bk w g l) (k : Nat) (u : Int) (hu : l[k]? = some u) : w.cell? ⟨g, k, none⟩ = some (.int .u64 u) := by
  have := cell_of_row w g k _ 24 (0, 0) h
  rw [this]; simp [hu]
theorem Bk.frozen {w : World} {g : Nat} {l : List Int} (h : Bk w g l) (i : Nat) : w.frozen? ⟨g, i, none⟩ = false := by
  unfold Bk at h
  simp [World.frozen?, h]
theorem add_zero' (g k : Nat) : (⟨g, 0, none⟩ : Addr).add k = ⟨g, k, none⟩ := by
  unfold Addr.add; split
  · rename_i h; simp_all
  · simp
theorem Bk.rd {w : World} {g : Nat} {l : List Int} (h : Bk w g l) : Rd w (some ⟨g, 0, none⟩) l := fun _ =>
  ⟨_, rfl, h.lt, fun j u hu => by rw [add_zero']; exact h.cell j u hu⟩
theorem Bk.set {w : World} {g : Nat} {l : List Int} (h : Bk w g l) (k : Nat) (u : Int) : Bk (w.setCell ⟨g, k, none⟩ (.int .u64 u)) g (l.set k u) := by
  unfold Bk at h ⊢
  simp [World.setCell, Array.getElem?_modify, h, List.map_set]

theorem Bk.alloc {w : World} {g : Nat} {l : List Int} (h : Bk w g l) (o : Obj) : Bk (w.alloc o) g l := (Below.heap_alloc w o g h.lt).trans h
theorem Bk.below {w w' : World} {g B : Nat} {l : List Int} (h : Bk w g l) (hb : Below B w w') (hg : g < B) : Bk w' g l := (hb.block g hg).trans h
theorem block_add (a : Addr) (n : Nat) : (a.add n).block = a.block := by unfold Addr.add; split <;> rfl

set_option maxHeartbeats 400000 in
theorem copied_any (A : Option Addr) (n c g : Nat) (l : List Int) (w : World) (h : Rd w A l) (hn : l.length = n) (hs : n ≤ 500) (hg : w.heap.size = g) :
    Calls Try.prog 21 #[.slice A n c] w fun e w' => e = .returned (.slice (some ⟨g, 0, none⟩) n n) ∧ Bk w' g l ∧ Below g w w' := by
  subst hg
  have hmk := run_make_row' (P := Try.prog) 23 24 (.int .u64 0) 8 Try.underlying23 Try.info24 rfl .i64 .i64 n (by omega) (by omega)
  have HN := Lib.hid hn; clear hn
  have H := Lib.hid h; clear h
  go_enter Try.func21, Try.ntmps21
  go_wp2_with ((with_reducible show wpList _ _ _ _ _ _); refine wpList_copy_splice (o := ⟨some 9, _, _, _, _, _⟩) rfl (.tmp 7) (.tmp 8) 23 23 rfl 24 Try.underlying23 Try.size24 (some ⟨w.heap.size, 0, none⟩) A n n n c (by rfl) (by rfl) w.heap.size 0 (List.replicate n (.int .u64 0)) 24 ?c1 (l.map (Value.int .u64)) ?c2 ?c3 ?c4 ?c5 w.heap.size w ?c6 (Nat.le_refl _) ?_)
  case c1 => rw [heap_alloc_new]; simp [← toList_madeCells_one]
  case c2 => simp [HN.out]
  case c3 =>
    intro hp
    obtain ⟨ad, rfl, hlt, hc⟩ := H.out (by simpa using hp)
    refine ⟨ad, rfl, fun j v hv => ?_⟩
    rw [World.cell?_alloc_lt]
    · exact hc j v hv
    · unfold Addr.add; split <;> exact hlt
  case c4 => simp [HN.out]
  case c5 => intro v hv; simp at hv; obtain ⟨a, _, rfl⟩ := hv; rfl
  case c6 => exact (Below.refl _ _).alloc (Nat.le_refl _) _
  intro w1 hg hb
  go_wp2
  go_ret
  exact ⟨rfl, by have := hg.out; unfold Bk; simpa [splice, HN.out] using this, hb⟩
end Go.Proofs.Ytjoihkfjalggjaa
