/- The document's own Once. -/
import Derived.Test.YtodilnleaodnpaaFrQ
namespace Go.Proofs.Ytodilnleaodnpaa
open Go.RowKit Go.Deep

/-- What the document's own Once hands back: a list, new or not, and a call; nothing that was there has changed. -/
def RetR (w : World) (l : List Int) (f : Fr) (e : Ending) (w' : World) : Prop :=
  ∃ A c, e = .returned (.tuple #[.slice A l.length c, fv f]) ∧ Rd w' A l ∧ Below w.heap.size w w'
theorem rd_setCell {w : World} {A : Option Addr} {l : List Int} {n : Nat} (h : Rd w A l) (hb : 0 < l.length → ∀ ad, A = some ad → ad.block ≠ n) {p : Addr} (hp : p.block = n) (v : Value) : Rd (w.setCell p v) A l := fun hq => by
  obtain ⟨ad, e, hlt, hc⟩ := h hq
  refine ⟨ad, e, by simpa using hlt, fun j u hu => ?_⟩
  refine Eq.trans ?_ (hc j u hu)
  have hne : (ad.add j).block ≠ p.block := by rw [block_add, hp]; exact hb hq ad e
  exact World.cell?_of_block (Below.heap_setCell w p v _ hne)
theorem Rd.pf {w : World} {A : Option Addr} {l : List Int} {n : Nat} (h : Rd w A l) (hb : 0 < l.length → ∀ ad, A = some ad → ad.block ≠ n) (f : Fr) : Rd (pf w n f) A l := by
  unfold Ytodilnleaodnpaa.pf
  exact rd_setCell (rd_setCell (rd_setCell (rd_setCell (rd_setCell (rd_setCell (rd_setCell h hb rfl _) hb rfl _) hb rfl _) hb rfl _) hb rfl _) hb rfl _) hb rfl _
/-- A list that was there ahead of the boxes does not lie in them. -/
theorem Rd.old {w : World} {A : Option Addr} {l : List Int} (h : Rd w A l) : 0 < l.length → ∀ ad, A = some ad → ad.block < w.heap.size := fun hp ad e => by
  obtain ⟨ad', e', hlt, _⟩ := h hp
  rw [e] at e'; cases e'; exact hlt
/-- What is left when the answer is a part of what came in. -/
theorem ref_fin {w w0 w2 : World} {l l' : List Int} {n c : Nat} {A A' : Option Addr} {f : Fr} (h : Rd w A l) (Z : Below w.heap.size w w0) (hz : w0.heap.size = w.heap.size + 2) (z2 : Below w0.heap.size w0 w2)
    (hp : Rd w A l → Rd w A' l') (hn : l'.length = n) : RetR w l' f (.returned (.tuple #[.slice A' n c, fv f])) (pf w2 (w.heap.size + 1) f) := by
  subst hn
  have h' := hp h
  have hB : Below w.heap.size w w2 := Z.trans (z2.mono (by omega))
  exact ⟨_, _, rfl, (h'.below hB).pf (fun hq ad e => by have := h'.old hq ad e; omega) f, below_pf hB (by omega) _⟩
theorem RetR.drew {w w' : World} {l : List Int} {f : Fr} {e : Ending} (h : RetR w l f e w') : RetR w l f e w'.drew := by
  obtain ⟨A, c, h1, h2, h3⟩ := h
  exact ⟨A, c, h1, h2, h3.drew⟩
set_option maxHeartbeats 4000000 in
theorem rref_over (A : Option Addr) (n c : Nat) (l : List Int) (r p q v x y o s : Int) (w : World) (h : Rd w A (l)) (hn : l.length = n) (hf : (s != 0) = true) : Calls Try.prog 11 #[.slice A n c, .int .i64 r, fv ⟨o, p, q, v, x, y, s⟩] w (RetR w (l) ⟨o, p, q, v, x, y, s⟩) := by
  have H := Lib.hid h; clear h
  have HN := Lib.hid hn; clear hn
  obtain ⟨B5, B7, Z, hz⟩ := boxes w ⟨o, p, q, v, x, y, s⟩
  have HF := Lib.hid hf; clear hf
  go_enter Try.func11, Try.ntmps11
  go_wp2_with fail
  change Calls _ _ _ (bxs w ⟨o, p, q, v, x, y, s⟩) _
  generalize bxs w ⟨o, p, q, v, x, y, s⟩ = w0 at B5 B7 Z hz ⊢
  refine (Tells.of (rover_any ⟨o, p, q, v, x, y, s⟩ _) (v' := .bool true) (by first | rfl | rw [← HF.out])).mono ?_
  rintro _ w2 ⟨rfl, z2⟩
  have h5 : w.heap.size < w0.heap.size := by omega
  have h7 : w.heap.size + 1 < w0.heap.size := by omega
  have y5 : w.heap.size < w2.heap.size := Nat.lt_of_lt_of_le h5 z2.size
  obtain ⟨a0, a1, a2, a3, a4, a5, a6⟩ := (B5.below z2 h5).cells
  obtain ⟨d0, d1, d2, d3, d4, d5, d6⟩ := (B7.below z2 h7).cells
  have fz := (B7.below z2 h7).free
  simp only at a0 a1 a2 a3 a4 a5 a6 d0 d1 d2 d3 d4 d5 d6
  go_wp2_with fail
  go_region
  all_goals
    go_wp2
    change bodyPost _ _ _ _ _ (pf w2 (w.heap.size + 1) ⟨o, p, q, v, x, y, s⟩).drew
    refine bodyPost_ret (results_fr Try.results11 _ rfl ((B7.below z2 h7).pf _).drew) rfl ?_
    exact (ref_fin H.out Z hz z2 id HN.out).drew
set_option maxHeartbeats 4000000 in
theorem rref_none (A : Option Addr) (n c : Nat) (l : List Int) (r p q v x y o : Int) (w : World) (h : Rd w A (l)) (hn : l.length = n) (h0 : (o == 0) = false) (h1 : (o == 1) = false) (h2 : (o == 2) = false) (h3 : (o == 3) = false) (h4 : (o == 4) = false) : Calls Try.prog 11 #[.slice A n c, .int .i64 r, fv ⟨o, p, q, v, x, y, 0⟩] w (RetR w (l) ⟨o, p, q, v, x, y, 0⟩) := by
  have H := Lib.hid h; clear h
  have HN := Lib.hid hn; clear hn
  obtain ⟨B5, B7, Z, hz⟩ := boxes w ⟨o, p, q, v, x, y, 0⟩
  go_enter Try.func11, Try.ntmps11
  go_wp2_with fail
  change Calls _ _ _ (bxs w ⟨o, p, q, v, x, y, 0⟩) _
  generalize bxs w ⟨o, p, q, v, x, y, 0⟩ = w0 at B5 B7 Z hz ⊢
  refine (Tells.of (rover_any ⟨o, p, q, v, x, y, 0⟩ _) (v' := .bool false) (by first | rfl | rw [← HF.out])).mono ?_
  rintro _ w2 ⟨rfl, z2⟩
  have h5 : w.heap.size < w0.heap.size := by omega
  have h7 : w.heap.size + 1 < w0.heap.size := by omega
  have y5 : w.heap.size < w2.heap.size := Nat.lt_of_lt_of_le h5 z2.size
  obtain ⟨a0, a1, a2, a3, a4, a5, a6⟩ := (B5.below z2 h5).cells
  obtain ⟨d0, d1, d2, d3, d4, d5, d6⟩ := (B7.below z2 h7).cells
  have fz := (B7.below z2 h7).free
  simp only at a0 a1 a2 a3 a4 a5 a6 d0 d1 d2 d3 d4 d5 d6
  go_wp2_with fail
  go_region
  all_goals
    go_wp2
    change bodyPost _ _ _ _ _ (pf w2 (w.heap.size + 1) ⟨o, p, q, v, x, y, 0⟩).drew
    refine bodyPost_ret (results_fr Try.results11 _ rfl ((B7.below z2 h7).pf _).drew) rfl ?_
    exact (ref_fin H.out Z hz z2 id HN.out).drew
set_option maxHeartbeats 4000000 in
theorem rref_full0 (A : Option Addr) (n c : Nat) (l : List Int) (r p q v x y : Int) (w : World) (h : Rd w A (l)) (hn : l.length = n) (hr : decide ((n : Int) ≥ r) = true) : Calls Try.prog 11 #[.slice A n c, .int .i64 r, fv ⟨0, p, q, v, x, y, 0⟩] w (RetR w (l) ⟨0, 0, q, v, 0, 0, 2⟩) := by
  have H := Lib.hid h; clear h
  have HN := Lib.hid hn; clear hn
  obtain ⟨B5, B7, Z, hz⟩ := boxes w ⟨0, p, q, v, x, y, 0⟩
  go_enter Try.func11, Try.ntmps11
  go_wp2_with fail
  change Calls _ _ _ (bxs w ⟨0, p, q, v, x, y, 0⟩) _
  generalize bxs w ⟨0, p, q, v, x, y, 0⟩ = w0 at B5 B7 Z hz ⊢
  refine (Tells.of (rover_any ⟨0, p, q, v, x, y, 0⟩ _) (v' := .bool false) (by first | rfl | rw [← HF.out])).mono ?_
  rintro _ w2 ⟨rfl, z2⟩
  have h5 : w.heap.size < w0.heap.size := by omega
  have h7 : w.heap.size + 1 < w0.heap.size := by omega
  have y5 : w.heap.size < w2.heap.size := Nat.lt_of_lt_of_le h5 z2.size
  obtain ⟨a0, a1, a2, a3, a4, a5, a6⟩ := (B5.below z2 h5).cells
  obtain ⟨d0, d1, d2, d3, d4, d5, d6⟩ := (B7.below z2 h7).cells
  have fz := (B7.below z2 h7).free
  simp only at a0 a1 a2 a3 a4 a5 a6 d0 d1 d2 d3 d4 d5 d6
  go_wp2_with fail
  refine (Tells.of (rend_any ⟨0, p, q, v, x, y, 0⟩ 2 v _) (v' := .agg #[.int .i64 0, .int .i64 0, .int .i64 q, .int .u64 v, .int .u64 0, .int .u64 0, .int .i64 2]) rfl).mono ?_
  rintro _ w3 ⟨rfl, z3'⟩
  have z3 := keep_call (w2 := w0) z3' z2
  obtain ⟨d0, d1, d2, d3, d4, d5, d6⟩ := (B7.below z3 h7).cells
  have fz := (B7.below z3 h7).free
  go_wp2
  change bodyPost _ _ _ _ _ (pf w3 (w.heap.size + 1) ⟨0, 0, q, v, 0, 0, 2⟩)
  refine bodyPost_ret (results_fr Try.results11 _ rfl ((B7.below z3 h7).pf _)) rfl ?_
  exact ref_fin H.out Z hz z3 id HN.out
set_option maxHeartbeats 4000000 in
theorem rref_full3 (A : Option Addr) (n c : Nat) (l : List Int) (r p q v x y : Int) (w : World) (h : Rd w A (l)) (hn : l.length = n) (hr : decide ((n : Int) ≥ r) = true) : Calls Try.prog 11 #[.slice A n c, .int .i64 r, fv ⟨3, p, q, v, x, y, 0⟩] w (RetR w (l) ⟨3, 0, q, v, 0, 0, 2⟩) := by
  have H := Lib.hid h; clear h
  have HN := Lib.hid hn; clear hn
  obtain ⟨B5, B7, Z, hz⟩ := boxes w ⟨3, p, q, v, x, y, 0⟩
  go_enter Try.func11, Try.ntmps11
  go_wp2_with fail
  change Calls _ _ _ (bxs w ⟨3, p, q, v, x, y, 0⟩) _
  generalize bxs w ⟨3, p, q, v, x, y, 0⟩ = w0 at B5 B7 Z hz ⊢
  refine (Tells.of (rover_any ⟨3, p, q, v, x, y, 0⟩ _) (v' := .bool false) (by first | rfl | rw [← HF.out])).mono ?_
  rintro _ w2 ⟨rfl, z2⟩
  have h5 : w.heap.size < w0.heap.size := by omega
  have h7 : w.heap.size + 1 < w0.heap.size := by omega
  have y5 : w.heap.size < w2.heap.size := Nat.lt_of_lt_of_le h5 z2.size
  obtain ⟨a0, a1, a2, a3, a4, a5, a6⟩ := (B5.below z2 h5).cells
  obtain ⟨d0, d1, d2, d3, d4, d5, d6⟩ := (B7.below z2 h7).cells
  have fz := (B7.below z2 h7).free
  simp only at a0 a1 a2 a3 a4 a5 a6 d0 d1 d2 d3 d4 d5 d6
  go_wp2_with fail
  refine (Tells.of (rend_any ⟨3, p, q, v, x, y, 0⟩ 2 v _) (v' := .agg #[.int .i64 3, .int .i64 0, .int .i64 q, .int .u64 v, .int .u64 0, .int .u64 0, .int .i64 2]) rfl).mono ?_
  rintro _ w3 ⟨rfl, z3'⟩
  have z3 := keep_call (w2 := w0) z3' z2
  obtain ⟨d0, d1, d2, d3, d4, d5, d6⟩ := (B7.below z3 h7).cells
  have fz := (B7.below z3 h7).free
  go_wp2
  change bodyPost _ _ _ _ _ (pf w3 (w.heap.size + 1) ⟨3, 0, q, v, 0, 0, 2⟩)
  refine bodyPost_ret (results_fr Try.results11 _ rfl ((B7.below z3 h7).pf _)) rfl ?_
  exact ref_fin H.out Z hz z3 id HN.out
set_option maxHeartbeats 4000000 in
theorem rref_nil1 (A : Option Addr) (n c : Nat) (l : List Int) (r p q v x y : Int) (w : World) (h : Rd w A (l)) (hn : l.length = n) (h0 : n = 0) : Calls Try.prog 11 #[.slice A n c, .int .i64 r, fv ⟨1, p, q, v, x, y, 0⟩] w (RetR w (l) ⟨1, 0, q, 0, 0, 0, 3⟩) := by
  have H := Lib.hid h; clear h
  have HN := Lib.hid hn; clear hn
  obtain ⟨B5, B7, Z, hz⟩ := boxes w ⟨1, p, q, v, x, y, 0⟩
  subst h0
  go_enter Try.func11, Try.ntmps11
  go_wp2_with fail
  change Calls _ _ _ (bxs w ⟨1, p, q, v, x, y, 0⟩) _
  generalize bxs w ⟨1, p, q, v, x, y, 0⟩ = w0 at B5 B7 Z hz ⊢
  refine (Tells.of (rover_any ⟨1, p, q, v, x, y, 0⟩ _) (v' := .bool false) (by first | rfl | rw [← HF.out])).mono ?_
  rintro _ w2 ⟨rfl, z2⟩
  have h5 : w.heap.size < w0.heap.size := by omega
  have h7 : w.heap.size + 1 < w0.heap.size := by omega
  have y5 : w.heap.size < w2.heap.size := Nat.lt_of_lt_of_le h5 z2.size
  obtain ⟨a0, a1, a2, a3, a4, a5, a6⟩ := (B5.below z2 h5).cells
  obtain ⟨d0, d1, d2, d3, d4, d5, d6⟩ := (B7.below z2 h7).cells
  have fz := (B7.below z2 h7).free
  simp only at a0 a1 a2 a3 a4 a5 a6 d0 d1 d2 d3 d4 d5 d6
  go_wp2_with fail
  refine (Tells.of (rend_any ⟨1, p, q, v, x, y, 0⟩ 3 0 _) (v' := .agg #[.int .i64 1, .int .i64 0, .int .i64 q, .int .u64 0, .int .u64 0, .int .u64 0, .int .i64 3]) rfl).mono ?_
  rintro _ w3 ⟨rfl, z3'⟩
  have z3 := keep_call (w2 := w0) z3' z2
  obtain ⟨d0, d1, d2, d3, d4, d5, d6⟩ := (B7.below z3 h7).cells
  have fz := (B7.below z3 h7).free
  go_wp2
  change bodyPost _ _ _ _ _ (pf w3 (w.heap.size + 1) ⟨1, 0, q, 0, 0, 0, 3⟩)
  refine bodyPost_ret (results_fr Try.results11 _ rfl ((B7.below z3 h7).pf _)) rfl ?_
  exact ref_fin H.out Z hz z3 id HN.out
set_option maxHeartbeats 4000000 in
theorem rref_nil2 (A : Option Addr) (n c : Nat) (l : List Int) (r p q v x y : Int) (w : World) (h : Rd w A (l)) (hn : l.length = n) (h0 : n = 0) : Calls Try.prog 11 #[.slice A n c, .int .i64 r, fv ⟨2, p, q, v, x, y, 0⟩] w (RetR w (l) ⟨2, 0, q, 0, 0, 0, 3⟩) := by
  have H := Lib.hid h; clear h
  have HN := Lib.hid hn; clear hn
  obtain ⟨B5, B7, Z, hz⟩ := boxes w ⟨2, p, q, v, x, y, 0⟩
  subst h0
  go_enter Try.func11, Try.ntmps11
  go_wp2_with fail
  change Calls _ _ _ (bxs w ⟨2, p, q, v, x, y, 0⟩) _
  generalize bxs w ⟨2, p, q, v, x, y, 0⟩ = w0 at B5 B7 Z hz ⊢
  refine (Tells.of (rover_any ⟨2, p, q, v, x, y, 0⟩ _) (v' := .bool false) (by first | rfl | rw [← HF.out])).mono ?_
  rintro _ w2 ⟨rfl, z2⟩
  have h5 : w.heap.size < w0.heap.size := by omega
  have h7 : w.heap.size + 1 < w0.heap.size := by omega
  have y5 : w.heap.size < w2.heap.size := Nat.lt_of_lt_of_le h5 z2.size
  obtain ⟨a0, a1, a2, a3, a4, a5, a6⟩ := (B5.below z2 h5).cells
  obtain ⟨d0, d1, d2, d3, d4, d5, d6⟩ := (B7.below z2 h7).cells
  have fz := (B7.below z2 h7).free
  simp only at a0 a1 a2 a3 a4 a5 a6 d0 d1 d2 d3 d4 d5 d6
  go_wp2_with fail
  refine (Tells.of (rend_any ⟨2, p, q, v, x, y, 0⟩ 3 0 _) (v' := .agg #[.int .i64 2, .int .i64 0, .int .i64 q, .int .u64 0, .int .u64 0, .int .u64 0, .int .i64 3]) rfl).mono ?_
  rintro _ w3 ⟨rfl, z3'⟩
  have z3 := keep_call (w2 := w0) z3' z2
  obtain ⟨d0, d1, d2, d3, d4, d5, d6⟩ := (B7.below z3 h7).cells
  have fz := (B7.below z3 h7).free
  go_wp2
  change bodyPost _ _ _ _ _ (pf w3 (w.heap.size + 1) ⟨2, 0, q, 0, 0, 0, 3⟩)
  refine bodyPost_ret (results_fr Try.results11 _ rfl ((B7.below z3 h7).pf _)) rfl ?_
  exact ref_fin H.out Z hz z3 id HN.out
set_option maxHeartbeats 4000000 in
theorem rref_nil4 (A : Option Addr) (n c : Nat) (l : List Int) (r p q v x y : Int) (w : World) (h : Rd w A (l)) (hn : l.length = n) (h0 : n = 0) : Calls Try.prog 11 #[.slice A n c, .int .i64 r, fv ⟨4, p, q, v, x, y, 0⟩] w (RetR w (l) ⟨4, 0, q, 0, 0, 0, 3⟩) := by
  have H := Lib.hid h; clear h
  have HN := Lib.hid hn; clear hn
  obtain ⟨B5, B7, Z, hz⟩ := boxes w ⟨4, p, q, v, x, y, 0⟩
  subst h0
  go_enter Try.func11, Try.ntmps11
  go_wp2_with fail
  change Calls _ _ _ (bxs w ⟨4, p, q, v, x, y, 0⟩) _
  generalize bxs w ⟨4, p, q, v, x, y, 0⟩ = w0 at B5 B7 Z hz ⊢
  refine (Tells.of (rover_any ⟨4, p, q, v, x, y, 0⟩ _) (v' := .bool false) (by first | rfl | rw [← HF.out])).mono ?_
  rintro _ w2 ⟨rfl, z2⟩
  have h5 : w.heap.size < w0.heap.size := by omega
  have h7 : w.heap.size + 1 < w0.heap.size := by omega
  have y5 : w.heap.size < w2.heap.size := Nat.lt_of_lt_of_le h5 z2.size
  obtain ⟨a0, a1, a2, a3, a4, a5, a6⟩ := (B5.below z2 h5).cells
  obtain ⟨d0, d1, d2, d3, d4, d5, d6⟩ := (B7.below z2 h7).cells
  have fz := (B7.below z2 h7).free
  simp only at a0 a1 a2 a3 a4 a5 a6 d0 d1 d2 d3 d4 d5 d6
  go_wp2_with fail
  refine (Tells.of (rend_any ⟨4, p, q, v, x, y, 0⟩ 3 0 _) (v' := .agg #[.int .i64 4, .int .i64 0, .int .i64 q, .int .u64 0, .int .u64 0, .int .u64 0, .int .i64 3]) rfl).mono ?_
  rintro _ w3 ⟨rfl, z3'⟩
  have z3 := keep_call (w2 := w0) z3' z2
  obtain ⟨d0, d1, d2, d3, d4, d5, d6⟩ := (B7.below z3 h7).cells
  have fz := (B7.below z3 h7).free
  go_wp2
  change bodyPost _ _ _ _ _ (pf w3 (w.heap.size + 1) ⟨4, 0, q, 0, 0, 0, 3⟩)
  refine bodyPost_ret (results_fr Try.results11 _ rfl ((B7.below z3 h7).pf _)) rfl ?_
  exact ref_fin H.out Z hz z3 id HN.out
end Go.Proofs.Ytodilnleaodnpaa
