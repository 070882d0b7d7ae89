/- The document's own Once, where it hands a number out. -/
import Derived.Test.YtodilnleaodnpaaFrJ
namespace Go.Proofs.Ytodilnleaodnpaa
open Go.RowKit Go.Deep
set_option maxHeartbeats 4000000 in
theorem rref_pop (A : Option Addr) (n c : Nat) (l : List Int) (r p q v x y u : Int) (w : World) (h : Rd w A (l ++ [u])) (hn : l.length = n) (hc : n + 1 ≤ c) (hs : n + 1 ≤ 1000) : Calls Try.prog 11 #[.slice A (n + 1 : Nat) c, .int .i64 r, fv ⟨1, p, q, v, x, y, 0⟩] w (RetR w l ⟨1, 0, q, u, 0, 0, 1⟩) := by
  obtain ⟨ad, rfl, hlt, hcl⟩ := h (by simp)
  have u0 := hcl n u (by rw [← hn]; simp)
  have hlt' : (ad.add n).block < w.heap.size := by rw [block_add]; exact hlt
  clear hcl hlt
  have hc2 : n ≤ c := by omega
  have hc3 : (n : Int) ≤ (c : Int) := by omega
  have hwm : IntKind.i64.wrap (n : Int) = (n : Int) := by rw [IntKind.wrap_i64]; omega
  have H := Lib.hid h; clear h
  have HN := Lib.hid hn; clear hn
  obtain ⟨B5, B7, Z, hz⟩ := boxes w ⟨1, p, q, v, x, y, 0⟩
  replace u0 := (Z.cell hlt').trans u0
  replace hlt' := Nat.lt_of_lt_of_le hlt' Z.size
  go_enter Try.func11, Try.ntmps11
  go_wp2_with fail
  change Calls _ _ _ (bxs w ⟨1, p, q, v, x, y, 0⟩) _
  generalize bxs w ⟨1, p, q, v, x, y, 0⟩ = w0 at B5 B7 Z hz u0 hlt' ⊢
  refine (Tells.of (rover_any ⟨1, p, q, v, x, y, 0⟩ _) (v' := .bool false) (by first | rfl | rw [← HF.out])).mono ?_
  rintro _ w2 ⟨rfl, z2⟩
  have h5 : w.heap.size < w0.heap.size := by omega
  have h7 : w.heap.size + 1 < w0.heap.size := by omega
  have y5 : w.heap.size < w2.heap.size := Nat.lt_of_lt_of_le h5 z2.size
  obtain ⟨a0, a1, a2, a3, a4, a5, a6⟩ := (B5.below z2 h5).cells
  obtain ⟨d0, d1, d2, d3, d4, d5, d6⟩ := (B7.below z2 h7).cells
  have fz := (B7.below z2 h7).free
  simp only at a0 a1 a2 a3 a4 a5 a6 d0 d1 d2 d3 d4 d5 d6
  have u2 := (z2.cell hlt').trans u0
  go_wp2_with fail
  go_region_with (go_at_call 18; (refine (Tells.of (rend_any ⟨1, p, q, v, x, y, 0⟩ 1 u _) (v' := .agg #[.int .i64 1, .int .i64 0, .int .i64 q, .int .u64 u, .int .u64 0, .int .u64 0, .int .i64 1]) rfl).mono ?_); rintro _ w3 ⟨rfl, z3'⟩; have z3 := keep_call (w2 := w0) z3' z2.drew; obtain ⟨d0, d1, d2, d3, d4, d5, d6⟩ := (B7.below z3 h7).cells; have fz := (B7.below z3 h7).free; clear z3')
  all_goals
    go_wp2
    change bodyPost _ _ _ _ _ (pf w3 (w.heap.size + 1) ⟨1, 0, q, u, 0, 0, 1⟩)
    refine bodyPost_ret (results_fr Try.results11 _ rfl ((B7.below z3 h7).pf _)) rfl ?_
    exact ref_fin H.out Z hz z3 (fun h => h.init) HN.out
set_option maxHeartbeats 4000000 in
theorem rref_first2 (A : Option Addr) (n k : Nat) (l : List Int) (r p q v x y u : Int) (w : World) (h : Rd w A (u :: l)) (hn : l.length = n) (hc : n ≤ k) : Calls Try.prog 11 #[.slice A (n + 1 : Nat) (k + 1 : Nat), .int .i64 r, fv ⟨2, p, q, v, x, y, 0⟩] w (RetR w l ⟨2, 0, q, u, 0, 0, 1⟩) := by
  obtain ⟨ad, rfl, hlt, hcl⟩ := h (by simp)
  have u0 : w.cell? ad = some (.int .u64 u) := hcl 0 u rfl
  obtain ⟨A', hA', h'⟩ : ∃ A' : Option Addr, (if k = 0 then some ad else some ⟨ad.block, ad.off + 1, none⟩) = A' ∧ (Rd w (some ad) (u :: l) → Rd w A' l) := by
    refine ⟨_, rfl, ?_⟩
    split
    · intro _ hp; omega
    · exact Rd.tail
  have HP := Lib.hid h'
  clear hcl h'
  have hc5 : (1 : Int) ≤ (n : Int) + 1 := by omega
  have hlt' := hlt
  have H := Lib.hid h; clear h
  have HN := Lib.hid hn; clear hn
  obtain ⟨B5, B7, Z, hz⟩ := boxes w ⟨2, p, q, v, x, y, 0⟩
  replace u0 := (Z.cell hlt').trans u0
  replace hlt' := Nat.lt_of_lt_of_le hlt' Z.size
  go_enter Try.func11, Try.ntmps11
  go_wp2_with fail
  change Calls _ _ _ (bxs w ⟨2, p, q, v, x, y, 0⟩) _
  generalize bxs w ⟨2, p, q, v, x, y, 0⟩ = w0 at B5 B7 Z hz u0 hlt' ⊢
  refine (Tells.of (rover_any ⟨2, p, q, v, x, y, 0⟩ _) (v' := .bool false) (by first | rfl | rw [← HF.out])).mono ?_
  rintro _ w2 ⟨rfl, z2⟩
  have h5 : w.heap.size < w0.heap.size := by omega
  have h7 : w.heap.size + 1 < w0.heap.size := by omega
  have y5 : w.heap.size < w2.heap.size := Nat.lt_of_lt_of_le h5 z2.size
  obtain ⟨a0, a1, a2, a3, a4, a5, a6⟩ := (B5.below z2 h5).cells
  obtain ⟨d0, d1, d2, d3, d4, d5, d6⟩ := (B7.below z2 h7).cells
  have fz := (B7.below z2 h7).free
  simp only at a0 a1 a2 a3 a4 a5 a6 d0 d1 d2 d3 d4 d5 d6
  have u2 := (z2.cell hlt').trans u0
  go_wp2_with fail
  go_region_with (go_at_call 18; (refine (Tells.of (rend_any ⟨2, p, q, v, x, y, 0⟩ 1 u _) (v' := .agg #[.int .i64 2, .int .i64 0, .int .i64 q, .int .u64 u, .int .u64 0, .int .u64 0, .int .i64 1]) rfl).mono ?_); rintro _ w3 ⟨rfl, z3'⟩; have z3 := keep_call (w2 := w0) z3' z2.drew; obtain ⟨d0, d1, d2, d3, d4, d5, d6⟩ := (B7.below z3 h7).cells; have fz := (B7.below z3 h7).free; clear z3')
  all_goals
    go_wp2
    change bodyPost _ _ _ _ _ (pf w3 (w.heap.size + 1) ⟨2, 0, q, u, 0, 0, 1⟩)
    refine bodyPost_ret (results_fr Try.results11 _ rfl ((B7.below z3 h7).pf _)) rfl ?_
    exact ref_fin H.out Z hz z3 HP.out HN.out
set_option maxHeartbeats 4000000 in
theorem rref_first4 (A : Option Addr) (n k : Nat) (l : List Int) (r p q v x y u : Int) (w : World) (h : Rd w A (u :: l)) (hn : l.length = n) (hc : n ≤ k) : Calls Try.prog 11 #[.slice A (n + 1 : Nat) (k + 1 : Nat), .int .i64 r, fv ⟨4, p, q, v, x, y, 0⟩] w (RetR w l ⟨4, 0, q, u, 0, 0, 1⟩) := by
  obtain ⟨ad, rfl, hlt, hcl⟩ := h (by simp)
  have u0 : w.cell? ad = some (.int .u64 u) := hcl 0 u rfl
  obtain ⟨A', hA', h'⟩ : ∃ A' : Option Addr, (if k = 0 then some ad else some ⟨ad.block, ad.off + 1, none⟩) = A' ∧ (Rd w (some ad) (u :: l) → Rd w A' l) := by
    refine ⟨_, rfl, ?_⟩
    split
    · intro _ hp; omega
    · exact Rd.tail
  have HP := Lib.hid h'
  clear hcl h'
  have hc5 : (1 : Int) ≤ (n : Int) + 1 := by omega
  have hlt' := hlt
  have H := Lib.hid h; clear h
  have HN := Lib.hid hn; clear hn
  obtain ⟨B5, B7, Z, hz⟩ := boxes w ⟨4, p, q, v, x, y, 0⟩
  replace u0 := (Z.cell hlt').trans u0
  replace hlt' := Nat.lt_of_lt_of_le hlt' Z.size
  go_enter Try.func11, Try.ntmps11
  go_wp2_with fail
  change Calls _ _ _ (bxs w ⟨4, p, q, v, x, y, 0⟩) _
  generalize bxs w ⟨4, p, q, v, x, y, 0⟩ = w0 at B5 B7 Z hz u0 hlt' ⊢
  refine (Tells.of (rover_any ⟨4, p, q, v, x, y, 0⟩ _) (v' := .bool false) (by first | rfl | rw [← HF.out])).mono ?_
  rintro _ w2 ⟨rfl, z2⟩
  have h5 : w.heap.size < w0.heap.size := by omega
  have h7 : w.heap.size + 1 < w0.heap.size := by omega
  have y5 : w.heap.size < w2.heap.size := Nat.lt_of_lt_of_le h5 z2.size
  obtain ⟨a0, a1, a2, a3, a4, a5, a6⟩ := (B5.below z2 h5).cells
  obtain ⟨d0, d1, d2, d3, d4, d5, d6⟩ := (B7.below z2 h7).cells
  have fz := (B7.below z2 h7).free
  simp only at a0 a1 a2 a3 a4 a5 a6 d0 d1 d2 d3 d4 d5 d6
  have u2 := (z2.cell hlt').trans u0
  go_wp2_with fail
  go_region_with (go_at_call 18; (refine (Tells.of (rend_any ⟨4, p, q, v, x, y, 0⟩ 1 u _) (v' := .agg #[.int .i64 4, .int .i64 0, .int .i64 q, .int .u64 u, .int .u64 0, .int .u64 0, .int .i64 1]) rfl).mono ?_); rintro _ w3 ⟨rfl, z3'⟩; have z3 := keep_call (w2 := w0) z3' z2.drew; obtain ⟨d0, d1, d2, d3, d4, d5, d6⟩ := (B7.below z3 h7).cells; have fz := (B7.below z3 h7).free; clear z3')
  all_goals
    go_wp2
    change bodyPost _ _ _ _ _ (pf w3 (w.heap.size + 1) ⟨4, 0, q, u, 0, 0, 1⟩)
    refine bodyPost_ret (results_fr Try.results11 _ rfl ((B7.below z3 h7).pf _)) rfl ?_
    exact ref_fin H.out Z hz z3 HP.out HN.out
end Go.Proofs.Ytodilnleaodnpaa
