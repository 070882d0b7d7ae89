/- Rows of picks beside each other: one grows by append, the others stay. -/
import Derived.Test.YtnabomdadhgeeaaDrO
namespace Go.Proofs.Ytnabomdadhgeeaa
open Go.RowKit Go.Deep
/-- Two rows lie in blocks of their own. -/
def Ap (V U : Value) : Prop := ∀ g, V.ownBlock = some g → U.ownBlock ≠ some g
theorem Ap.symm {V U : Value} (h : Ap V U) : Ap U V := fun g hu hv => h g hv hu
theorem Ap.nil (V : Value) : Ap (.slice none 0 0) V := fun g h => by cases h
theorem ap_fresh {w w' : World} {base : Nat} {Q X : Option Addr} {n c m d : Nat} {l k : List Pk} (h : Ow w base Q n c l) (hx : Ow w' w.heap.size X m d k) : Ap (.slice X m d) (.slice Q n c) := fun g hg hq => by
  have h1 := (World.ownsRow.lt hx g hg).1
  have h2 := (World.ownsRow.lt h g hq).2
  omega
theorem app_more {w : World} {base : Nat} {Q : Option Addr} {n d : Nat} {l k : List Pk} (h : Ow w base Q n d l) {B : Option Addr} (c : Nat) (hs : Src w B k) {m : Nat} (hm : k.length = m) (hz : n + m ≤ 100000) (hb : base ≤ w.heap.size) :
    ∃ Q' d' w', (Builtin.append_ #[26, 26] 26 #[.slice Q n d, .slice B m c]).run Try.prog w = .ok (.slice Q' (n + m) d') w' ∧ Ow w' base Q' (n + m) d' (l ++ k) ∧ Below base w w' ∧
      ∀ base2 V a b lv, Ow w base2 V a b lv → Ap (.slice V a b) (.slice Q n d) → Ow w' base2 V a b lv ∧ Ap (.slice V a b) (.slice Q' (n + m) d') := by
  obtain ⟨i0, hi0, hz'⟩ := Option.map_eq_some_iff.1 Try.info25
  simp only [Prod.mk.injEq] at hz'
  obtain ⟨hz0, hz1, hz2⟩ := hz'
  obtain ⟨s2, s3⟩ := hs
  rcases B with _ | ad
  · obtain rfl := s2 rfl
    simp at hm
    subst hm
    refine ⟨Q, d, w, ?_, by simpa using h, Below.refl _ _, fun base2 V a b lv hv ha => ⟨hv, ha⟩⟩
    rcases h.2 with ⟨hv, _⟩ | ⟨g, cap, cur, hv, _, _, hnc, _⟩
    · injection hv with hA hn hc
      subst hA hn hc
      simp [Builtin.append_, run_underlying Try.underlying26, sizeOf, typeInfo, hi0, Builtin.lenOf, Builtin.firstCells]
    · injection hv with hA hn hc
      subst hA hc
      simp [Builtin.append_, run_underlying Try.underlying26, sizeOf, typeInfo, hi0, Builtin.lenOf, Builtin.firstCells, hnc, storeCells]
  · obtain ⟨v', w', hrun, g2, g3, _, g5⟩ := run_append_own_at (P := Try.prog) w base 26 26 25 i0 (.agg #[.int .i64 0, .int .i64 0, .int .u64 0]) 3 24 Try.underlying26 hi0 hz0 hz1 hz2 rfl (by omega) _ n _ h ad m c (flat k) (by rw [flat_len, hm])
      (s3 ad rfl) (flat_one k) (by simp only [maxLen]; omega) (by omega) hb
    have fin : ∃ Q' d', v' = .slice Q' (n + m) d' := by
      rcases g2.2 with ⟨e1, e2⟩ | ⟨g, cap, cur, e1, _⟩
      · exact ⟨none, 0, by rw [e1, show n + m = 0 from e2]⟩
      · exact ⟨_, cap, e1⟩
    obtain ⟨Q', d', rfl⟩ := fin
    refine ⟨Q', d', w', hrun, by unfold Ow; rw [flat_append]; exact g2, (Below.refl base w).grown g3 hb (fun j hj => (World.ownsRow.lt h j hj).1), fun base2 V a b lv hv ha => ⟨hv.kept (fun g hg => g3.block g (World.ownsRow.lt hv g hg).2 (fun e => ha g hg e.symm)), fun g hg hq => ?_⟩⟩
    rcases g5 with e | e
    · rw [e] at hq; exact ha g hg hq
    · rw [e] at hq
      injection hq with hq
      have := (World.ownsRow.lt hv g hg).2
      omega
end Go.Proofs.Ytnabomdadhgeeaa
