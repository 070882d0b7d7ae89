/- Contracts of the helpers of package cell: what 'copied' answers for any cells. -/
import Derived.Test.YtfeccpfkpbminaaMem
import Derived.WalkKit
import Derived.WalkSpells
import Derived.WalkLawsBesides
import Derived.Laws.CopyOwn
import Derived.Lib.Hide
import Derived.Deep.Draws
import Derived.Deep.OwnRows
namespace Go.Proofs.Ytfeccpfkpbminaa
open Go.RowKit Go.Deep
set_option maxHeartbeats 400000 in
theorem copied_any (A : Option Addr) (n c g : Nat) (l : List Int) (w : World) (h : Rd w A l) (hn : l.length = n) (hs : n ≤ 500) (hg : w.heap.size = g) :
    Calls Try.prog 68 #[.slice A n c] w fun e w' => e = .returned (.slice (some ⟨g, 0, none⟩) n n) ∧ Bk w' g l ∧ Below g w w' := by
  subst hg
  have hmk := run_make_row' (P := Try.prog) 25 26 (.int .u64 0) 8 Try.underlying25 Try.info26 rfl .i64 .i64 n (by omega) (by omega)
  have HN := Lib.hid hn; clear hn
  have H := Lib.hid h; clear h
  go_enter Try.func68, Try.ntmps68
  go_wp2_with ((with_reducible show wpList _ _ _ _ _ _); refine wpList_copy_splice (o := ⟨some 9, _, _, _, _, _⟩) rfl (.tmp 7) (.tmp 8) 25 25 rfl 26 Try.underlying25 Try.size26 (some ⟨w.heap.size, 0, none⟩) A n n n c (by rfl) (by rfl) w.heap.size 0 (List.replicate n (.int .u64 0)) 26 ?c1 (l.map (Value.int .u64)) ?c2 ?c3 ?c4 ?c5 w.heap.size w ?c6 (Nat.le_refl _) ?_)
  case c1 => rw [heap_alloc_new]; simp [← toList_madeCells_one]
  case c2 => simp [HN.out]
  case c3 =>
    intro hp
    obtain ⟨ad, rfl, hlt, hc⟩ := H.out (by simpa using hp)
    refine ⟨ad, rfl, fun j v hv => ?_⟩
    rw [World.cell?_alloc_lt]
    · exact hc j v hv
    · unfold Addr.add; split <;> exact hlt
  case c4 => simp [HN.out]
  case c5 => intro v hv; simp at hv; obtain ⟨a, _, rfl⟩ := hv; rfl
  case c6 => exact (Below.refl _ _).alloc (Nat.le_refl _) _
  intro w1 hg hb
  go_wp2
  go_ret
  exact ⟨rfl, by have := hg.out; unfold Bk; simpa [splice, HN.out] using this, hb⟩
end Go.Proofs.Ytfeccpfkpbminaa
