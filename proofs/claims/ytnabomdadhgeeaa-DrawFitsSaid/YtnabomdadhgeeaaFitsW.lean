/- The walk of DrawFits. -/
import Derived.Test.YtnabomdadhgeeaaDrO
namespace Go.Proofs.Ytnabomdadhgeeaa
open Go.RowKit Go.Deep
/-- A pick in its box. -/
def Bx (w : World) (g : Nat) (p : Pk) : Prop := w.heap[g]? = some (.cells #[.int .i64 p.1, .int .i64 p.2.1, .int .u64 p.2.2] 25 (0, 0))
theorem Bx.cells {w : World} {g : Nat} {p : Pk} (h : Bx w g p) : w.cell? ⟨g, 0, none⟩ = some (.int .i64 p.1) ∧ w.cell? ⟨g, 1, none⟩ = some (.int .i64 p.2.1) ∧ w.cell? ⟨g, 2, none⟩ = some (.int .u64 p.2.2) ∧ w.frozen? ⟨g, 2, none⟩ = false := by
  unfold Bx at h
  refine ⟨?_, ?_, ?_, ?_⟩ <;> simp [World.cell?, World.frozen?, h]
theorem Bx.new (w : World) (p : Pk) : Bx (w.alloc (.cells #[.int .i64 p.1, .int .i64 p.2.1, .int .u64 p.2.2] 25)) w.heap.size p := World.alloc_heap_new w _
theorem Bx.below {w w' : World} {g : Nat} {p : Pk} (h : Bx w g p) (hb : Below w.heap.size w w') : Bx w' g p := (hb.block _ (Array.getElem?_eq_some_iff.1 h).1).trans h
theorem Bx.lt {w : World} {g : Nat} {p : Pk} (h : Bx w g p) : g < w.heap.size := (Array.getElem?_eq_some_iff.1 h).1
theorem fits_w_lo (q d n s : Int) (w : World) (h : q < 0) : Tells 9 #[.agg #[.int .i64 0, .int .i64 q, .int .u64 d], .int .i64 n, .int .i64 s] w (.bool true) := by
  have hd : decide (0 ≤ q) = false := decide_eq_false (by omega)
  have FV := Lib.hid (fun d' : Int => show fit (0, q, d') n s = false from by rw [fit_work rfl]; exact be_lo h)
  have BX := Lib.hid (Bx.new w (0, q, d))
  have Z := Lib.hid ((Below.refl w.heap.size w).alloc (Nat.le_refl _) (.cells #[.int .i64 (0 : Int), .int .i64 q, .int .u64 d] 25))
  go_enter Try.func9, Try.ntmps9
  go_wp2_with fail
  refine (awake_any _).mono ?_
  rintro _ w1 ⟨rfl, z1⟩
  replace Z := Lib.hid (Z.out.trans (z1.mono Z.out.size))
  replace BX := Lib.hid (BX.out.below z1)
  obtain ⟨c0, c1, c2, c3⟩ := BX.out.cells
  dsimp only at c0 c1 c2 c3
  clear z1
  go_wp2_with fail
  refine (Tells.of (fits_any (0, q, d) n s w1) (v' := .bool false) (by rw [FV.out])).mono ?_
  rintro _ w2 ⟨rfl, z2⟩
  replace Z := Lib.hid (Z.out.trans (z2.mono Z.out.size))
  replace BX := Lib.hid (BX.out.below z2)
  clear c0 c1 c2 c3
  obtain ⟨c0, c1, c2, c3⟩ := BX.out.cells
  dsimp only at c0 c1 c2 c3
  clear z2
  go_wp2_with fail
  refine (Tells.of (fits_any (0, q, _) n s _) (v' := .bool false) (by rw [FV.out])).mono ?_
  rintro _ w3 ⟨rfl, z3⟩
  replace Z := Lib.hid ((Z.out.setCell (p := ⟨w.heap.size, 2, none⟩) (Nat.le_refl _) _).trans (z3.mono (Nat.le_trans Z.out.size (by simp))))
  clear z3
  go_wp2
  go_ret
  exact ⟨rfl, Z.out⟩
theorem fits_w_in (q d n s : Int) (w : World) (h : 0 ≤ q) (h2 : q < n) : Tells 9 #[.agg #[.int .i64 0, .int .i64 q, .int .u64 d], .int .i64 n, .int .i64 s] w (.bool true) := by
  have hd : decide (0 ≤ q) = true := decide_eq_true h
  have hd2 : decide (q < n) = true := decide_eq_true h2
  have FV := Lib.hid (fun d' : Int => show fit (0, q, d') n s = true from by rw [fit_work rfl]; exact be_yes h h2)
  have BX := Lib.hid (Bx.new w (0, q, d))
  have Z := Lib.hid ((Below.refl w.heap.size w).alloc (Nat.le_refl _) (.cells #[.int .i64 (0 : Int), .int .i64 q, .int .u64 d] 25))
  go_enter Try.func9, Try.ntmps9
  go_wp2_with fail
  refine (awake_any _).mono ?_
  rintro _ w1 ⟨rfl, z1⟩
  replace Z := Lib.hid (Z.out.trans (z1.mono Z.out.size))
  replace BX := Lib.hid (BX.out.below z1)
  obtain ⟨c0, c1, c2, c3⟩ := BX.out.cells
  dsimp only at c0 c1 c2 c3
  clear z1
  go_wp2_with fail
  refine (Tells.of (fits_any (0, q, d) n s w1) (v' := .bool true) (by rw [FV.out])).mono ?_
  rintro _ w2 ⟨rfl, z2⟩
  replace Z := Lib.hid (Z.out.trans (z2.mono Z.out.size))
  replace BX := Lib.hid (BX.out.below z2)
  clear c0 c1 c2 c3
  obtain ⟨c0, c1, c2, c3⟩ := BX.out.cells
  dsimp only at c0 c1 c2 c3
  clear z2
  go_wp2_with fail
  refine (Tells.of (fits_any (0, q, _) n s _) (v' := .bool true) (by rw [FV.out])).mono ?_
  rintro _ w3 ⟨rfl, z3⟩
  replace Z := Lib.hid ((Z.out.setCell (p := ⟨w.heap.size, 2, none⟩) (Nat.le_refl _) _).trans (z3.mono (Nat.le_trans Z.out.size (by simp))))
  clear z3
  go_wp2
  go_ret
  exact ⟨rfl, Z.out⟩
theorem fits_w_hi (q d n s : Int) (w : World) (h : 0 ≤ q) (h2 : n ≤ q) : Tells 9 #[.agg #[.int .i64 0, .int .i64 q, .int .u64 d], .int .i64 n, .int .i64 s] w (.bool true) := by
  have hd : decide (0 ≤ q) = true := decide_eq_true h
  have hd2 : decide (q < n) = false := decide_eq_false (by omega)
  have FV := Lib.hid (fun d' : Int => show fit (0, q, d') n s = false from by rw [fit_work rfl]; exact be_hi h2)
  have BX := Lib.hid (Bx.new w (0, q, d))
  have Z := Lib.hid ((Below.refl w.heap.size w).alloc (Nat.le_refl _) (.cells #[.int .i64 (0 : Int), .int .i64 q, .int .u64 d] 25))
  go_enter Try.func9, Try.ntmps9
  go_wp2_with fail
  refine (awake_any _).mono ?_
  rintro _ w1 ⟨rfl, z1⟩
  replace Z := Lib.hid (Z.out.trans (z1.mono Z.out.size))
  replace BX := Lib.hid (BX.out.below z1)
  obtain ⟨c0, c1, c2, c3⟩ := BX.out.cells
  dsimp only at c0 c1 c2 c3
  clear z1
  go_wp2_with fail
  refine (Tells.of (fits_any (0, q, d) n s w1) (v' := .bool false) (by rw [FV.out])).mono ?_
  rintro _ w2 ⟨rfl, z2⟩
  replace Z := Lib.hid (Z.out.trans (z2.mono Z.out.size))
  replace BX := Lib.hid (BX.out.below z2)
  clear c0 c1 c2 c3
  obtain ⟨c0, c1, c2, c3⟩ := BX.out.cells
  dsimp only at c0 c1 c2 c3
  clear z2
  go_wp2_with fail
  refine (Tells.of (fits_any (0, q, _) n s _) (v' := .bool false) (by rw [FV.out])).mono ?_
  rintro _ w3 ⟨rfl, z3⟩
  replace Z := Lib.hid ((Z.out.setCell (p := ⟨w.heap.size, 2, none⟩) (Nat.le_refl _) _).trans (z3.mono (Nat.le_trans Z.out.size (by simp))))
  clear z3
  go_wp2
  go_ret
  exact ⟨rfl, Z.out⟩
theorem fits_s_lo (q d n s : Int) (w : World) (h : q < 0) : Tells 9 #[.agg #[.int .i64 1, .int .i64 q, .int .u64 d], .int .i64 n, .int .i64 s] w (.bool true) := by
  have hd : decide (0 ≤ q) = false := decide_eq_false (by omega)
  have FV := Lib.hid (fun d' : Int => show fit (1, q, d') n s = false from by rw [fit_sub rfl]; exact be_lo h)
  have BX := Lib.hid (Bx.new w (1, q, d))
  have Z := Lib.hid ((Below.refl w.heap.size w).alloc (Nat.le_refl _) (.cells #[.int .i64 (1 : Int), .int .i64 q, .int .u64 d] 25))
  go_enter Try.func9, Try.ntmps9
  go_wp2_with fail
  refine (awake_any _).mono ?_
  rintro _ w1 ⟨rfl, z1⟩
  replace Z := Lib.hid (Z.out.trans (z1.mono Z.out.size))
  replace BX := Lib.hid (BX.out.below z1)
  obtain ⟨c0, c1, c2, c3⟩ := BX.out.cells
  dsimp only at c0 c1 c2 c3
  clear z1
  go_wp2_with fail
  refine (Tells.of (fits_any (1, q, d) n s w1) (v' := .bool false) (by rw [FV.out])).mono ?_
  rintro _ w2 ⟨rfl, z2⟩
  replace Z := Lib.hid (Z.out.trans (z2.mono Z.out.size))
  replace BX := Lib.hid (BX.out.below z2)
  clear c0 c1 c2 c3
  obtain ⟨c0, c1, c2, c3⟩ := BX.out.cells
  dsimp only at c0 c1 c2 c3
  clear z2
  go_wp2_with fail
  refine (Tells.of (fits_any (1, q, _) n s _) (v' := .bool false) (by rw [FV.out])).mono ?_
  rintro _ w3 ⟨rfl, z3⟩
  replace Z := Lib.hid ((Z.out.setCell (p := ⟨w.heap.size, 2, none⟩) (Nat.le_refl _) _).trans (z3.mono (Nat.le_trans Z.out.size (by simp))))
  clear z3
  go_wp2
  go_ret
  exact ⟨rfl, Z.out⟩
theorem fits_s_in (q d n s : Int) (w : World) (h : 0 ≤ q) (h2 : q < s) : Tells 9 #[.agg #[.int .i64 1, .int .i64 q, .int .u64 d], .int .i64 n, .int .i64 s] w (.bool true) := by
  have hd : decide (0 ≤ q) = true := decide_eq_true h
  have hd2 : decide (q < s) = true := decide_eq_true h2
  have FV := Lib.hid (fun d' : Int => show fit (1, q, d') n s = true from by rw [fit_sub rfl]; exact be_yes h h2)
  have BX := Lib.hid (Bx.new w (1, q, d))
  have Z := Lib.hid ((Below.refl w.heap.size w).alloc (Nat.le_refl _) (.cells #[.int .i64 (1 : Int), .int .i64 q, .int .u64 d] 25))
  go_enter Try.func9, Try.ntmps9
  go_wp2_with fail
  refine (awake_any _).mono ?_
  rintro _ w1 ⟨rfl, z1⟩
  replace Z := Lib.hid (Z.out.trans (z1.mono Z.out.size))
  replace BX := Lib.hid (BX.out.below z1)
  obtain ⟨c0, c1, c2, c3⟩ := BX.out.cells
  dsimp only at c0 c1 c2 c3
  clear z1
  go_wp2_with fail
  refine (Tells.of (fits_any (1, q, d) n s w1) (v' := .bool true) (by rw [FV.out])).mono ?_
  rintro _ w2 ⟨rfl, z2⟩
  replace Z := Lib.hid (Z.out.trans (z2.mono Z.out.size))
  replace BX := Lib.hid (BX.out.below z2)
  clear c0 c1 c2 c3
  obtain ⟨c0, c1, c2, c3⟩ := BX.out.cells
  dsimp only at c0 c1 c2 c3
  clear z2
  go_wp2_with fail
  refine (Tells.of (fits_any (1, q, _) n s _) (v' := .bool true) (by rw [FV.out])).mono ?_
  rintro _ w3 ⟨rfl, z3⟩
  replace Z := Lib.hid ((Z.out.setCell (p := ⟨w.heap.size, 2, none⟩) (Nat.le_refl _) _).trans (z3.mono (Nat.le_trans Z.out.size (by simp))))
  clear z3
  go_wp2
  go_ret
  exact ⟨rfl, Z.out⟩
theorem fits_s_hi (q d n s : Int) (w : World) (h : 0 ≤ q) (h2 : s ≤ q) : Tells 9 #[.agg #[.int .i64 1, .int .i64 q, .int .u64 d], .int .i64 n, .int .i64 s] w (.bool true) := by
  have hd : decide (0 ≤ q) = true := decide_eq_true h
  have hd2 : decide (q < s) = false := decide_eq_false (by omega)
  have FV := Lib.hid (fun d' : Int => show fit (1, q, d') n s = false from by rw [fit_sub rfl]; exact be_hi h2)
  have BX := Lib.hid (Bx.new w (1, q, d))
  have Z := Lib.hid ((Below.refl w.heap.size w).alloc (Nat.le_refl _) (.cells #[.int .i64 (1 : Int), .int .i64 q, .int .u64 d] 25))
  go_enter Try.func9, Try.ntmps9
  go_wp2_with fail
  refine (awake_any _).mono ?_
  rintro _ w1 ⟨rfl, z1⟩
  replace Z := Lib.hid (Z.out.trans (z1.mono Z.out.size))
  replace BX := Lib.hid (BX.out.below z1)
  obtain ⟨c0, c1, c2, c3⟩ := BX.out.cells
  dsimp only at c0 c1 c2 c3
  clear z1
  go_wp2_with fail
  refine (Tells.of (fits_any (1, q, d) n s w1) (v' := .bool false) (by rw [FV.out])).mono ?_
  rintro _ w2 ⟨rfl, z2⟩
  replace Z := Lib.hid (Z.out.trans (z2.mono Z.out.size))
  replace BX := Lib.hid (BX.out.below z2)
  clear c0 c1 c2 c3
  obtain ⟨c0, c1, c2, c3⟩ := BX.out.cells
  dsimp only at c0 c1 c2 c3
  clear z2
  go_wp2_with fail
  refine (Tells.of (fits_any (1, q, _) n s _) (v' := .bool false) (by rw [FV.out])).mono ?_
  rintro _ w3 ⟨rfl, z3⟩
  replace Z := Lib.hid ((Z.out.setCell (p := ⟨w.heap.size, 2, none⟩) (Nat.le_refl _) _).trans (z3.mono (Nat.le_trans Z.out.size (by simp))))
  clear z3
  go_wp2
  go_ret
  exact ⟨rfl, Z.out⟩
theorem fits_two (q d n s : Int) (w : World) : Tells 9 #[.agg #[.int .i64 2, .int .i64 q, .int .u64 d], .int .i64 n, .int .i64 s] w (.bool true) := by
  have FV := Lib.hid (fun d' : Int => show fit (2, q, d') n s = true from rfl)
  have BX := Lib.hid (Bx.new w (2, q, d))
  have Z := Lib.hid ((Below.refl w.heap.size w).alloc (Nat.le_refl _) (.cells #[.int .i64 (2 : Int), .int .i64 q, .int .u64 d] 25))
  go_enter Try.func9, Try.ntmps9
  go_wp2_with fail
  refine (awake_any _).mono ?_
  rintro _ w1 ⟨rfl, z1⟩
  replace Z := Lib.hid (Z.out.trans (z1.mono Z.out.size))
  replace BX := Lib.hid (BX.out.below z1)
  obtain ⟨c0, c1, c2, c3⟩ := BX.out.cells
  dsimp only at c0 c1 c2 c3
  clear z1
  go_wp2_with fail
  refine (Tells.of (fits_any (2, q, d) n s w1) (v' := .bool true) (by rw [FV.out])).mono ?_
  rintro _ w2 ⟨rfl, z2⟩
  replace Z := Lib.hid (Z.out.trans (z2.mono Z.out.size))
  replace BX := Lib.hid (BX.out.below z2)
  clear c0 c1 c2 c3
  obtain ⟨c0, c1, c2, c3⟩ := BX.out.cells
  dsimp only at c0 c1 c2 c3
  clear z2
  go_wp2_with fail
  refine (Tells.of (fits_any (2, q, _) n s _) (v' := .bool true) (by rw [FV.out])).mono ?_
  rintro _ w3 ⟨rfl, z3⟩
  replace Z := Lib.hid ((Z.out.setCell (p := ⟨w.heap.size, 2, none⟩) (Nat.le_refl _) _).trans (z3.mono (Nat.le_trans Z.out.size (by simp))))
  clear z3
  go_wp2
  go_ret
  exact ⟨rfl, Z.out⟩
theorem fits_three (q d n s : Int) (w : World) : Tells 9 #[.agg #[.int .i64 3, .int .i64 q, .int .u64 d], .int .i64 n, .int .i64 s] w (.bool true) := by
  have FV := Lib.hid (fun d' : Int => show fit (3, q, d') n s = true from rfl)
  have BX := Lib.hid (Bx.new w (3, q, d))
  have Z := Lib.hid ((Below.refl w.heap.size w).alloc (Nat.le_refl _) (.cells #[.int .i64 (3 : Int), .int .i64 q, .int .u64 d] 25))
  go_enter Try.func9, Try.ntmps9
  go_wp2_with fail
  refine (awake_any _).mono ?_
  rintro _ w1 ⟨rfl, z1⟩
  replace Z := Lib.hid (Z.out.trans (z1.mono Z.out.size))
  replace BX := Lib.hid (BX.out.below z1)
  obtain ⟨c0, c1, c2, c3⟩ := BX.out.cells
  dsimp only at c0 c1 c2 c3
  clear z1
  go_wp2_with fail
  refine (Tells.of (fits_any (3, q, d) n s w1) (v' := .bool true) (by rw [FV.out])).mono ?_
  rintro _ w2 ⟨rfl, z2⟩
  replace Z := Lib.hid (Z.out.trans (z2.mono Z.out.size))
  replace BX := Lib.hid (BX.out.below z2)
  clear c0 c1 c2 c3
  obtain ⟨c0, c1, c2, c3⟩ := BX.out.cells
  dsimp only at c0 c1 c2 c3
  clear z2
  go_wp2_with fail
  refine (Tells.of (fits_any (3, q, _) n s _) (v' := .bool true) (by rw [FV.out])).mono ?_
  rintro _ w3 ⟨rfl, z3⟩
  replace Z := Lib.hid ((Z.out.setCell (p := ⟨w.heap.size, 2, none⟩) (Nat.le_refl _) _).trans (z3.mono (Nat.le_trans Z.out.size (by simp))))
  clear z3
  go_wp2
  go_ret
  exact ⟨rfl, Z.out⟩
theorem fits_else (k q d n s : Int) (w : World) (h0 : ¬ k = 0) (h1 : ¬ k = 1) (h2 : ¬ k = 2) (h3 : ¬ k = 3) : Tells 9 #[.agg #[.int .i64 k, .int .i64 q, .int .u64 d], .int .i64 n, .int .i64 s] w (.bool true) := by
  have e0 : (k == 0) = false := by simpa using h0
  have e1 : (k == 1) = false := by simpa using h1
  have e2 : (k == 2) = false := by simpa using h2
  have e3 : (k == 3) = false := by simpa using h3
  have FV := Lib.hid (fun d' : Int => show fit (k, q, d') n s = false from by rw [fit_else h0 h1]; exact decide_eq_false (by intro h; rcases h with h | h; exact h2 h; exact h3 h))
  have BX := Lib.hid (Bx.new w (k, q, d))
  have Z := Lib.hid ((Below.refl w.heap.size w).alloc (Nat.le_refl _) (.cells #[.int .i64 (k : Int), .int .i64 q, .int .u64 d] 25))
  go_enter Try.func9, Try.ntmps9
  go_wp2_with fail
  refine (awake_any _).mono ?_
  rintro _ w1 ⟨rfl, z1⟩
  replace Z := Lib.hid (Z.out.trans (z1.mono Z.out.size))
  replace BX := Lib.hid (BX.out.below z1)
  obtain ⟨c0, c1, c2, c3⟩ := BX.out.cells
  dsimp only at c0 c1 c2 c3
  clear z1
  go_wp2_with fail
  refine (Tells.of (fits_any (k, q, d) n s w1) (v' := .bool false) (by rw [FV.out])).mono ?_
  rintro _ w2 ⟨rfl, z2⟩
  replace Z := Lib.hid (Z.out.trans (z2.mono Z.out.size))
  replace BX := Lib.hid (BX.out.below z2)
  clear c0 c1 c2 c3
  obtain ⟨c0, c1, c2, c3⟩ := BX.out.cells
  dsimp only at c0 c1 c2 c3
  clear z2
  go_wp2_with fail
  refine (Tells.of (fits_any (k, q, _) n s _) (v' := .bool false) (by rw [FV.out])).mono ?_
  rintro _ w3 ⟨rfl, z3⟩
  replace Z := Lib.hid ((Z.out.setCell (p := ⟨w.heap.size, 2, none⟩) (Nat.le_refl _) _).trans (z3.mono (Nat.le_trans Z.out.size (by simp))))
  clear z3
  go_wp2
  go_ret
  exact ⟨rfl, Z.out⟩
theorem drawFits_walk (k q d n s : Int) (w : World) : Tells 9 #[.agg #[.int .i64 k, .int .i64 q, .int .u64 d], .int .i64 n, .int .i64 s] w (.bool true) := by
  by_cases h0 : k = 0
  · subst h0
    by_cases h : q < 0
    · exact fits_w_lo q d n s w h
    · by_cases h2 : q < n
      · exact fits_w_in q d n s w (by omega) h2
      · exact fits_w_hi q d n s w (by omega) (by omega)
  · by_cases h1 : k = 1
    · subst h1
      by_cases h : q < 0
      · exact fits_s_lo q d n s w h
      · by_cases h2 : q < s
        · exact fits_s_in q d n s w (by omega) h2
        · exact fits_s_hi q d n s w (by omega) (by omega)
    · by_cases h2 : k = 2
      · subst h2; exact fits_two q d n s w
      · by_cases h3 : k = 3
        · subst h3; exact fits_three q d n s w
        · exact fits_else k q d n s w h0 h1 h2 h3
end Go.Proofs.Ytnabomdadhgeeaa
