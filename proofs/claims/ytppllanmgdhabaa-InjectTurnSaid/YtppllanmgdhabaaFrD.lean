/- Contracts of takeLast and takeFirst. -/
import Derived.Test.YtppllanmgdhabaaFrC
namespace Go.Proofs.Ytppllanmgdhabaa
open Go.RowKit Go.Deep
set_option maxRecDepth 100000 in
/-- What is left when a box has been filled, and the list lies in new memory. -/
theorem take_fin {w w0 w1 w2 : World} {l : List Int} {n g : Nat} {f : Fr} (Z : Below w.heap.size w w0) (hz : w0.heap.size = w.heap.size + 2) (z2 : Below w0.heap.size w0 w2)
    (h1 : Bk w1 g l) (hg : g = w0.heap.size) (hb : Below w1.heap.size w1 w2) (hn : l.length = n) :
    RetO w l f (.returned (.tuple #[.slice (some ⟨w.heap.size + 2, 0, none⟩) n n, fv f])) (pf w2 (w.heap.size + 1) f) := by
  subst hg hn
  have h := ((h1.rn (Nat.le_refl _)).below hb).pf (g := w.heap.size + 1) (by omega) f
  rw [hz] at h
  exact ⟨_, _, rfl, Nat.le_refl _, h.mono (by omega), below_pf (Z.trans (z2.mono (by omega))) (by omega) _⟩
set_option maxRecDepth 100000 in
theorem last_none (A : Option Addr) (c : Nat) (r : Int) (f : Fr) (w : World) : Calls Try.prog 79 #[.slice A 0 c, .int .i64 r, fv f] w (RetO w [] (ed f 3 0)) := by
  obtain ⟨B5, B7, Z, hz⟩ := boxes w f
  obtain ⟨o, p, q, v, x, y, s⟩ := f
  go_enter Try.func79, Try.ntmps79
  go_wp2_with fail
  change Calls _ _ _ (bxs w ⟨o, p, q, v, x, y, s⟩) _
  generalize bxs w ⟨o, p, q, v, x, y, s⟩ = w0 at B5 B7 Z hz ⊢
  refine (end_any ⟨o, p, q, v, x, y, s⟩ 3 0 _).mono ?_
  rintro _ w2 ⟨rfl, z2⟩
  have h7 : w.heap.size + 1 < w0.heap.size := by omega
  obtain ⟨d0, d1, d2, d3, d4, d5, d6⟩ := (B7.below z2 h7).cells
  have fz := (B7.below z2 h7).free
  go_wp2
  change bodyPost _ _ _ _ _ (pf w2 (w.heap.size + 1) (ed ⟨o, p, q, v, x, y, s⟩ 3 0))
  refine bodyPost_ret (results_fr Try.results79 _ rfl ((B7.below z2 h7).pf _)) rfl ?_
  exact ⟨none, 0, rfl, Nat.le_refl _, Rn.nil _ _ _, below_pf (Z.trans (z2.mono (by omega))) (by omega) _⟩
set_option maxRecDepth 100000 in
theorem first_none (A : Option Addr) (c : Nat) (r : Int) (f : Fr) (w : World) : Calls Try.prog 80 #[.slice A 0 c, .int .i64 r, fv f] w (RetO w [] (ed f 3 0)) := by
  obtain ⟨B5, B7, Z, hz⟩ := boxes w f
  obtain ⟨o, p, q, v, x, y, s⟩ := f
  go_enter Try.func80, Try.ntmps80
  go_wp2_with fail
  change Calls _ _ _ (bxs w ⟨o, p, q, v, x, y, s⟩) _
  generalize bxs w ⟨o, p, q, v, x, y, s⟩ = w0 at B5 B7 Z hz ⊢
  refine (end_any ⟨o, p, q, v, x, y, s⟩ 3 0 _).mono ?_
  rintro _ w2 ⟨rfl, z2⟩
  have h7 : w.heap.size + 1 < w0.heap.size := by omega
  obtain ⟨d0, d1, d2, d3, d4, d5, d6⟩ := (B7.below z2 h7).cells
  have fz := (B7.below z2 h7).free
  go_wp2
  change bodyPost _ _ _ _ _ (pf w2 (w.heap.size + 1) (ed ⟨o, p, q, v, x, y, s⟩ 3 0))
  refine bodyPost_ret (results_fr Try.results80 _ rfl ((B7.below z2 h7).pf _)) rfl ?_
  exact ⟨none, 0, rfl, Nat.le_refl _, Rn.nil _ _ _, below_pf (Z.trans (z2.mono (by omega))) (by omega) _⟩
set_option maxRecDepth 100000 in
theorem Rd.init {w : World} {A : Option Addr} {l : List Int} {u : Int} (h : Rd w A (l ++ [u])) : Rd w A l := fun _ => by
  obtain ⟨ad, e, hlt, hc⟩ := h (by simp)
  refine ⟨ad, e, hlt, fun j x hx => hc j x ?_⟩
  rw [List.getElem?_append_left (List.getElem?_eq_some_iff.1 hx).1]
  exact hx
set_option maxRecDepth 100000 in
theorem Rd.tail {w : World} {ad : Addr} {l : List Int} {u : Int} (h : Rd w (some ad) (u :: l)) : Rd w (some (ad.add 1)) l := fun _ => by
  obtain ⟨ad', e, hlt, hc⟩ := h (by simp)
  cases e
  refine ⟨_, rfl, by rw [block_add]; exact hlt, fun j x hx => ?_⟩
  rw [Addr.add_add, Nat.add_comm]
  exact hc (j + 1) x (by simpa using hx)
set_option maxHeartbeats 4000000 in
set_option maxRecDepth 100000 in
theorem last_some (A : Option Addr) (m c : Nat) (l : List Int) (u : Int) (r : Int) (f : Fr) (w : World) (h : Rd w A (l ++ [u])) (hn : l.length = m) (hc : m + 1 ≤ c) (hs : m + 1 ≤ 1000) : Calls Try.prog 79 #[.slice A (m + 1 : Nat) c, .int .i64 r, fv f] w (RetO w l (ed f 1 u)) := by
  obtain ⟨B5, B7, Z, hz⟩ := boxes w f
  have h := h.below Z
  obtain ⟨ad, rfl, hlt, hcl⟩ := h (by simp)
  have H := Lib.hid h.init; clear h
  have HN := Lib.hid hn
  have u0 := hcl m u (by rw [← hn]; simp)
  have hlt' : (ad.add m).block < (bxs w f).heap.size := by rw [block_add]; exact hlt
  clear hcl hn hlt
  have hc2 : m ≤ c := by omega
  have hc3 : (m : Int) ≤ (c : Int) := by omega
  have hwm : IntKind.i64.wrap (m : Int) = (m : Int) := by rw [IntKind.wrap_i64]; omega
  obtain ⟨o, p, q, v, x, y, s⟩ := f
  go_enter Try.func79, Try.ntmps79
  go_wp2_with fail
  change Code.wp _ _ _ _ (bxs w ⟨o, p, q, v, x, y, s⟩)
  generalize bxs w ⟨o, p, q, v, x, y, s⟩ = w0 at B5 B7 Z hz H u0 hlt' ⊢
  obtain ⟨a0, a1, a2, a3, a4, a5, a6⟩ := B5.cells
  obtain ⟨d0, d1, d2, d3, d4, d5, d6⟩ := B7.cells
  have fz := B7.free
  have zr := Below.refl w0.heap.size w0
  have h5 : w.heap.size < w0.heap.size := by omega
  have h7 : w.heap.size + 1 < w0.heap.size := by omega
  go_region_with (first
    | (go_at_call 81; (refine (fcopied_any (some ad) m m _ l _ (H.out.below zr.drew) HN.out (by omega) rfl).mono ?_); rintro _ w1 ⟨rfl, hB, hb⟩; have z1 := keep_call (w2 := w0) hb zr.drew; have HB := Lib.hid hB; have u1 := (z1.cell (p := ad.add m) hlt').trans u0; obtain ⟨a0, a1, a2, a3, a4, a5, a6⟩ := (B5.below z1 h5).cells; clear hB hb)
    | (go_at_call 96; (refine (end_any ⟨o, p, q, v, x, y, s⟩ _ _ _).mono ?_); rintro _ w2 ⟨rfl, hb⟩; have z2 := keep_call (w2 := w0) hb z1; have Hb2 := Lib.hid hb; obtain ⟨d0, d1, d2, d3, d4, d5, d6⟩ := (B7.below z2 h7).cells; have fz := (B7.below z2 h7).free; clear hb))
  all_goals
    go_wp2
    change bodyPost _ _ _ _ _ (pf w2 (w.heap.size + 1) (ed ⟨o, p, q, v, x, y, s⟩ 1 u))
    refine bodyPost_ret (results_fr Try.results79 _ rfl ((B7.below z2 h7).pf _)) rfl ?_
    exact take_fin Z hz z2 HB.out rfl Hb2.out HN.out
set_option maxHeartbeats 4000000 in
set_option maxRecDepth 100000 in
theorem first_some (A : Option Addr) (m c : Nat) (l : List Int) (u : Int) (r : Int) (f : Fr) (w : World) (h : Rd w A (u :: l)) (hn : l.length = m) (hc : m + 1 ≤ c) (hs : m + 1 ≤ 1000) : Calls Try.prog 80 #[.slice A (m + 1 : Nat) c, .int .i64 r, fv f] w (RetO w l (ed f 1 u)) := by
  obtain ⟨B5, B7, Z, hz⟩ := boxes w f
  have h := h.below Z
  obtain ⟨ad, rfl, hlt, hcl⟩ := h (by simp)
  obtain ⟨A', hA', h'⟩ : ∃ A' : Option Addr, (if m = 0 then some ad else some ⟨ad.block, ad.off + 1, none⟩) = A' ∧ Rd (bxs w f) A' l := by
    refine ⟨_, rfl, ?_⟩
    split
    · intro hp; omega
    · exact h.tail
  have H := Lib.hid h'; clear h h'
  have HN := Lib.hid hn
  have u0 : (bxs w f).cell? ad = some (.int .u64 u) := hcl 0 u rfl
  clear hcl hn
  have hc3 : ((m + 1 : Nat) : Int) ≤ (c : Int) := by omega
  have hc4 : (m : Int) + 1 ≤ (c : Int) := by omega
  have hc5 : (1 : Int) ≤ (m : Int) + 1 := by omega
  obtain ⟨o, p, q, v, x, y, s⟩ := f
  go_enter Try.func80, Try.ntmps80
  go_wp2_with fail
  change Code.wp _ _ _ _ (bxs w ⟨o, p, q, v, x, y, s⟩)
  generalize bxs w ⟨o, p, q, v, x, y, s⟩ = w0 at B5 B7 Z hz H u0 hlt ⊢
  obtain ⟨a0, a1, a2, a3, a4, a5, a6⟩ := B5.cells
  obtain ⟨d0, d1, d2, d3, d4, d5, d6⟩ := B7.cells
  have fz := B7.free
  have zr := Below.refl w0.heap.size w0
  have h5 : w.heap.size < w0.heap.size := by omega
  have h7 : w.heap.size + 1 < w0.heap.size := by omega
  go_region_with (first
    | (go_at_call 81; (refine (fcopied_any A' m m _ l _ (H.out.below zr.drew) HN.out (by omega) rfl).mono ?_); rintro _ w1 ⟨rfl, hB, hb⟩; have z1 := keep_call (w2 := w0) hb zr.drew; have HB := Lib.hid hB; have u1 := (z1.cell (p := ad) hlt).trans u0; obtain ⟨a0, a1, a2, a3, a4, a5, a6⟩ := (B5.below z1 h5).cells; clear hB hb)
    | (go_at_call 96; (refine (end_any ⟨o, p, q, v, x, y, s⟩ _ _ _).mono ?_); rintro _ w2 ⟨rfl, hb⟩; have z2 := keep_call (w2 := w0) hb z1; have Hb2 := Lib.hid hb; obtain ⟨d0, d1, d2, d3, d4, d5, d6⟩ := (B7.below z2 h7).cells; have fz := (B7.below z2 h7).free; clear hb))
  all_goals
    go_wp2
    change bodyPost _ _ _ _ _ (pf w2 (w.heap.size + 1) (ed ⟨o, p, q, v, x, y, s⟩ 1 u))
    refine bodyPost_ret (results_fr Try.results80 _ rfl ((B7.below z2 h7).pf _)) rfl ?_
    exact take_fin Z hz z2 HB.out rfl Hb2.out HN.out
end Go.Proofs.Ytppllanmgdhabaa
