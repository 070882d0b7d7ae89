/- Contract of slices.Repeat at one number. -/
import Derived.Test.YtnabomdadhgeeaaDrB
import Derived.Deep.RegionLaw
import Derived.Laws.Bits64b
namespace Go.Proofs.Ytnabomdadhgeeaa
open Go.RowKit Go.Deep
theorem and_low (n : Nat) (hn : n ≤ 1000) : bits .and .u64 (n : Int) 4294967295 = (n : Int) := by
  have h := bits_and_u64_nat n 4294967295 (by omega) (by omega)
  have e : n &&& 4294967295 = n % 4294967296 := Nat.and_two_pow_sub_one_eq_mod n 32
  rw [e, Nat.mod_eq_of_lt (by omega)] at h
  exact h
theorem and_one : bits .and .u64 1 4294967295 = 1 := by decide +kernel
theorem and_zero : bits .and .u64 0 4294967295 = 0 := by decide +kernel
set_option maxHeartbeats 1000000 in
theorem mul64_one (n : Nat) (w : World) (hn : n ≤ 1000) : Gives 31 #[.int .u64 1, .int .u64 n] w (.tuple #[.int .u64 0, .int .u64 n]) := by
  have a1 := and_low n hn
  have a2 := and_one
  have a3 := and_zero
  have s1 : (n : Int) / 4294967296 = 0 := by omega
  go_enter Try.func31, Try.ntmps31
  go_wp2
  go_ret2
  exact ⟨rfl, rfl⟩
theorem mul_one' (n : Nat) (w : World) (hn : n ≤ 1000) : Gives 29 #[.int .u64 1, .int .u64 n] w (.tuple #[.int .u64 0, .int .u64 n]) := by
  go_enter Try.func29, Try.ntmps29
  go_wp2_with (go_at_call 31; refine (mul64_one n _ hn).mono ?_; rintro _ w1 ⟨rfl, e1⟩; rw [e1]; clear e1 w1)
  go_ret2
  exact ⟨rfl, rfl⟩
theorem Try.info3 : (Try.prog.info? 3).map (fun i => (i.zero, i.size, i.bytes)) = some (some (.int .i64 0), 1, 8) := by kernel_rfl
theorem Try.size3 : (Try.prog.info? 3).map (·.size) = some 1 := by kernel_rfl
/-- A row of N numbers, the first j of which are -1, the others 0. -/
def fl (N j : Nat) : List Value := List.replicate j (.int .i64 (-1)) ++ List.replicate (N - j) (.int .i64 0)
theorem fl_len {N j : Nat} (h : j ≤ N) : (fl N j).length = N := by simp [fl]; omega
theorem fl_splice {N j k : Nat} (_h : j + k ≤ N) : splice (fl N j) j (List.replicate k (.int .i64 (-1))) = fl N (j + k) := by
  unfold splice fl
  rw [List.take_left' (by simp), List.length_replicate, List.drop_append, List.length_replicate, List.drop_eq_nil_of_le (by simp), List.nil_append, show j + k - j = k by omega, List.drop_replicate, ← List.append_assoc, List.replicate_append_replicate, show N - j - k = N - (j + k) by omega]
theorem fl_cell {w : World} {g N j : Nat} (h : w.heap[g]? = some (.cells (fl N j).toArray 3 (0, 0))) {i : Nat} (hi : i < j) : w.cell? ⟨g, i, none⟩ = some (.int .i64 (-1)) := by
  simp only [World.cell?, h]
  simp [fl, List.getElem?_append, hi]
/-- The first j numbers copied behind themselves. -/
theorem copy_more {w : World} {g N j B : Nat} (hg : w.heap[g]? = some (.cells (fl N j).toArray 3 (0, 0))) (h0 : 1 ≤ j) (hj : j < N) (hB : B ≤ g) :
    ∃ k w', 1 ≤ k ∧ j + k ≤ N ∧ (Builtin.copy_ #[45, 45] 3 #[.slice (some ⟨g, j, none⟩) (N - j) (N - j), .slice (some ⟨g, 0, none⟩) j N]).run Try.prog w = .ok (.int .i64 (k : Int)) w' ∧ w'.heap[g]? = some (.cells (fl N (j + k)).toArray 3 (0, 0)) ∧ Below B w w' := by
  have hk : Nat.min j (N - j) ≤ j := Nat.min_le_left _ _
  have hk2 : Nat.min j (N - j) ≤ N - j := Nat.min_le_right _ _
  have hk3 : 1 ≤ Nat.min j (N - j) := Nat.le_min.2 ⟨h0, by omega⟩
  have hr := run_copy_row (P := Try.prog) w 45 45 3 3 g j (N - j) (N - j) ⟨g, 0, none⟩ j N (fl N j).toArray 3 (List.replicate (Nat.min j (N - j)) (.int .i64 (-1))) Try.underlying45 Try.size3 hg (by simp)
    (fun i v hv => by
      have hi := (List.getElem?_eq_some_iff.1 hv).1
      rw [List.length_replicate] at hi
      rw [List.getElem?_replicate, if_pos hi] at hv
      cases hv
      rw [add_zero']
      exact fl_cell hg (by omega)) (by simp [fl_len (show j ≤ N by omega)]; omega) (fun v hv => by rw [(List.mem_replicate.1 hv).2]; rfl)
  have e := fl_splice (N := N) (j := j) (k := Nat.min j (N - j)) (by omega)
  unfold splice at e
  rw [List.length_replicate] at hr e
  simp only [List.append_assoc] at hr
  rw [e] at hr
  exact ⟨Nat.min j (N - j), _, hk3, by omega, hr, setRow_heap w g _ _ 3 _ hg, below_setRow (Below.refl B w) hB _⟩
set_option maxHeartbeats 1000000 in
theorem repeat_any (X N : Nat) (w : World) (hN : N ≤ 40) (hX : w.cell? ⟨X, 0, none⟩ = some (.int .i64 (-1))) :
    Calls Try.prog 27 #[.slice (some ⟨X, 0, none⟩) 1 1, .int .i64 N] w fun e w' => e = .returned (.slice (some ⟨w.heap.size, 0, none⟩) N N) ∧ w'.heap[w.heap.size]? = some (.cells (fl N N).toArray 3 (0, 0)) ∧ Below w.heap.size w w' := by
  have hXl := block_lt_of_cell hX
  have hmk := run_make_row' (P := Try.prog) 45 3 (.int .i64 0) 8 Try.underlying45 Try.info3 rfl .i64 .i64 N (by omega) (by omega)
  go_enter Try.func27, Try.ntmps27
  go_wp2_with (first
    | (go_at_call 29; refine (mul_one' N _ (by omega)).mono ?_; rintro _ w1 ⟨rfl, e1⟩; rw [e1]; clear e1 w1)
    | ((with_reducible show wpList _ _ _ _ _ _); refine wpList_copy_splice (o := ⟨some 33, _, _, _, _, _⟩) rfl (.tmp 31) (.tmp 32) 45 45 rfl 3 Try.underlying45 Try.size3 (some ⟨w.heap.size, 0, none⟩) (some ⟨X, 0, none⟩) N N 1 1 (by rfl) (by rfl) w.heap.size 0 (List.replicate N (.int .i64 0)) 3 ?c1 (List.replicate (Nat.min 1 N) (.int .i64 (-1))) ?c2 ?c3 ?c4 ?c5 w.heap.size w ?c6 (Nat.le_refl _) ?_))
  case c1 => rw [heap_alloc_new]; simp [← toList_madeCells_one]
  case c2 => simp
  case c3 =>
    intro hp j v hv
    have hj := (List.getElem?_eq_some_iff.1 hv).1
    rw [List.length_replicate] at hj
    have h1 : Nat.min 1 N ≤ 1 := Nat.min_le_left _ _
    obtain rfl : j = 0 := by omega
    rw [List.getElem?_replicate, if_pos hj] at hv
    cases hv
    exact hX
  case c4 =>
    simp only [List.length_replicate, Nat.zero_add]
    exact Nat.min_le_right _ _
  case c5 => intro v hv; rw [(List.mem_replicate.1 hv).2]; rfl
  case c6 => exact (Below.refl _ _).alloc (Nat.le_refl _) _
  intro w1 hg hb
  have hg' : Hid (w1.heap[w.heap.size]? = some (.cells (fl N (Nat.min 1 N)).toArray 3 (0, 0))) := by
    refine Lib.hid ?_
    have := hg.out
    have e := fl_splice (N := N) (j := 0) (k := Nat.min 1 N) (by have : Nat.min 1 N ≤ N := Nat.min_le_right 1 N; omega)
    rw [Nat.zero_add, show fl N 0 = List.replicate N (.int .i64 0) by simp [fl]] at e
    rw [e] at this
    exact this
  have HB := Lib.hid hb
  have hm1 : Nat.min 1 N ≤ N := Nat.min_le_right 1 N
  have hm2 : N = 0 ∨ Nat.min 1 N = 1 := by
    by_cases h : N = 0
    · exact .inl h
    · exact .inr (Nat.min_eq_left (by omega))
  generalize Nat.min 1 N = j0 at *
  clear hg hb hmk hX
  go_wp2
  go_loopw [8] (fun x wr => ∃ j : Nat, x = .int .i64 j ∧ j ≤ N ∧ (N = 0 ∨ 1 ≤ j) ∧ wr.heap[w.heap.size]? = some (.cells (fl N j).toArray 3 (0, 0)) ∧ Below w.heap.size w wr) (fun x _ => N - (intOf x).toNat)
  case atStart => exact ⟨j0, rfl, hm1, by omega, hg'.out, HB.out⟩
  case round =>
    obtain ⟨j, rfl, hj, hj1, hg, hb⟩ := hrel
    by_cases hlt : j < N
    · have hne : ¬ N = j := by omega
      have h0 : 1 ≤ j := by omega
      have i1 : (0 : Int) ≤ (j : Int) := by omega
      have i2 : (j : Int) ≤ (N : Int) := by omega
      obtain ⟨k, w2, hk1, hk2, hrun, hg2, hb2⟩ := copy_more (w := wr.drew) hg h0 hlt (Nat.le_refl w.heap.size)
      have G2 := Lib.hid hg2
      have B2 := Lib.hid (hb.drew.trans hb2)
      clear hg hb hg2 hb2
      go_wp2
      go_region
      all_goals
        go_wp2
        go_roundw
        case rel => exact ⟨j + k, by go_num, by omega, by omega, G2.out, B2.out⟩
        case measure => simp [intOf]; omega
    · have G := Lib.hid hg
      have B := Lib.hid hb
      have E := Lib.hid (show j = N by omega)
      clear hg hb
      go_wp2
      go_ret
      exact ⟨rfl, by have := G.out; rw [E.out] at this; exact this, B.out⟩
end Go.Proofs.Ytnabomdadhgeeaa
