/- Merged: CellA, CellB. -/
import Derived.Test.YtlpkccpijloidaaGreatBaM
import Derived.WalkKit
import Derived.WalkSpells
import Derived.WalkLawsBesides
import Derived.Laws.CopyOwn
import Derived.Lib.Hide
import Derived.Deep.Draws
import Derived.Deep.OwnRows
namespace Go.Proofs.YtlpkccpijloidaaGreat
set_option maxRecDepth 100000
open Go.RowKit Go.Deep
set_option maxHeartbeats 400000 in
theorem copied_any (A : Option Addr) (n c g : Nat) (l : List Int) (w : World) (h : Rd w A l) (hn : l.length = n) (hs : n ≤ 500) (hg : w.heap.size = g) :
    Calls Tryz.prog 94 #[.slice A n c] w fun e w' => e = .returned (.slice (some ⟨g, 0, none⟩) n n) ∧ Bk w' g l ∧ Below g w w' := by
  subst hg
  have hmk := run_make_row' (P := Tryz.prog) 26 28 (.int .u64 0) 8 Tryz.underlying26 Tryz.info28 rfl .i64 .i64 n (by omega) (by omega)
  have HN := Lib.hid hn; clear hn
  have H := Lib.hid h; clear h
  go_enter Tryz.func94, Tryz.ntmps94
  go_wp2_with ((with_reducible show wpList _ _ _ _ _ _); refine wpList_copy_splice (o := ⟨some 9, _, _, _, _, _⟩) rfl (.tmp 7) (.tmp 8) 26 26 rfl 28 Tryz.underlying26 Tryz.size28 (some ⟨w.heap.size, 0, none⟩) A n n n c (by rfl) (by rfl) w.heap.size 0 (List.replicate n (.int .u64 0)) 28 ?c1 (l.map (Value.int .u64)) ?c2 ?c3 ?c4 ?c5 w.heap.size w ?c6 (Nat.le_refl _) ?_)
  case c1 => rw [heap_alloc_new]; simp [← toList_madeCells_one]
  case c2 => simp [HN.out]
  case c3 =>
    intro hp
    obtain ⟨ad, rfl, hlt, hc⟩ := H.out (by simpa using hp)
    refine ⟨ad, rfl, fun j v hv => ?_⟩
    rw [World.cell?_alloc_lt]
    · exact hc j v hv
    · unfold Addr.add; split <;> exact hlt
  case c4 => simp [HN.out]
  case c5 => intro v hv; simp at hv; obtain ⟨a, _, rfl⟩ := hv; rfl
  case c6 => exact (Below.refl _ _).alloc (Nat.le_refl _) _
  intro w1 hg hb
  go_wp2
  go_ret
  exact ⟨rfl, by have := hg.out; unfold Bk; simpa [splice, HN.out] using this, hb⟩
end Go.Proofs.YtlpkccpijloidaaGreat
namespace Go.Proofs.YtlpkccpijloidaaGreat
set_option maxRecDepth 100000
open Go.RowKit Go.Deep
set_option maxHeartbeats 400000 in
theorem load_in (ad : Addr) (n c k : Nat) (u : Int) (w : World) (hc : w.cell? (ad.add k) = some (.int .u64 u)) (hk : k < n) (_ : n ≤ 500) (hlt : ad.block < w.heap.size) :
    Calls Tryz.prog 13 #[.slice (some ad) n c, .int .i64 k] w fun e w' => e = .returned (.int .u64 u) ∧ Below w.heap.size w w' := by
  have hc1 : ∀ o, (w.alloc o).cell? (ad.add k) = some (.int .u64 u) := fun o => (World.cell?_alloc_lt w o _ (by rw [block_add]; exact hlt)).trans hc
  clear hc
  go_enter Tryz.func13, Tryz.ntmps13
  go_wp2
  go_end0
  go_wp2
  go_end0
  go_wp2
  go_ret
  exact ⟨rfl, (Below.refl _ _).alloc (Nat.le_refl _) _⟩
set_option maxHeartbeats 400000 in
theorem load_out (A : Option Addr) (n c : Nat) (i : Int) (w : World) (hs : n ≤ 500) (hi : i < 0 ∨ (n : Int) ≤ i) :
    Calls Tryz.prog 13 #[.slice A n c, .int .i64 i] w fun e w' => e = .returned (.int .u64 0) ∧ Below w.heap.size w w' := by
  rcases hi with hi | hi
  all_goals
    go_enter Tryz.func13, Tryz.ntmps13
    go_wp2
    go_end0
    go_wp2
    go_ret
    exact ⟨rfl, (Below.refl _ _).alloc (Nat.le_refl _) _⟩
/-- The number at place i, or 0. -/
def at0 (l : List Int) (i : Int) : Int := if 0 ≤ i then l.getD i.toNat 0 else 0
/-- The numbers with v at place i, if there is one. -/
def put (l : List Int) (i : Int) (v : Int) : List Int := if 0 ≤ i then l.set i.toNat v else l
theorem load_any (A : Option Addr) (n c : Nat) (l : List Int) (i : Int) (w : World) (h : Rd w A l) (hn : l.length = n) (hs : n ≤ 500) :
    Calls Tryz.prog 13 #[.slice A n c, .int .i64 i] w fun e w' => e = .returned (.int .u64 (at0 l i)) ∧ Below w.heap.size w w' := by
  by_cases hi : 0 ≤ i ∧ i < n
  · obtain ⟨k, rfl⟩ := Int.eq_ofNat_of_zero_le hi.1
    have hk : k < n := by omega
    obtain ⟨ad, rfl, hlt, hc⟩ := h (by omega)
    have e : at0 l (k : Int) = l[k]'(by omega) := by simp [at0, hn, hk]
    rw [e]
    exact load_in ad n c k _ w (hc k _ (List.getElem?_eq_getElem (by omega))) hk hs hlt
  · have e : at0 l i = 0 := by
      unfold at0
      split
      · rw [List.getD_eq_getElem?_getD, List.getElem?_eq_none (by omega)]; rfl
      · rfl
    rw [e]
    exact load_out A n c i w hs (by omega)
/-- What a call that answers cells leaves: numbers of its own, and nothing that was there has changed. -/
def RetM (w : World) (n : Nat) (l : List Int) (e : Ending) (w' : World) : Prop :=
  ∃ g, e = .returned (.slice (some ⟨g, 0, none⟩) n n) ∧ Bk w' g l ∧ Below w.heap.size w w'
/-- What an exchange leaves. -/
def RetC (w : World) (n : Nat) (l : List Int) (b : Bool) (e : Ending) (w' : World) : Prop :=
  ∃ g, e = .returned (.tuple #[.slice (some ⟨g, 0, none⟩) n n, .bool b]) ∧ Bk w' g l ∧ Below w.heap.size w w'
/-- What an addition leaves. -/
def RetA (w : World) (n : Nat) (l : List Int) (u : Int) (e : Ending) (w' : World) : Prop :=
  ∃ g, e = .returned (.tuple #[.slice (some ⟨g, 0, none⟩) n n, .int .u64 u]) ∧ Bk w' g l ∧ Below w.heap.size w w'
end Go.Proofs.YtlpkccpijloidaaGreat
