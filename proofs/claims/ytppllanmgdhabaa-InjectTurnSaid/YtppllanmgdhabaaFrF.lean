/- Contracts of deeds and Once. -/
import Derived.Test.YtppllanmgdhabaaFrE
namespace Go.Proofs.Ytppllanmgdhabaa
open Go.RowKit Go.Deep
set_option maxRecDepth 100000 in
theorem run_store_func {P : Program} (w : World) (a : Addr) (m : Mode) (g : Fn) (x y : Array Value) : (store a (.func g x y) m).run P w = stored P w a (.func g x y) m := run_store P w a _ m rfl
attribute [local go_sem] run_store_func
set_option maxRecDepth 100000 in
theorem deeds_any (w : World) : Tells 56 #[] w (.agg #[.func (.func 78) #[] #[], .func (.func 79) #[] #[], .func (.func 80) #[] #[], .func (.func 78) #[] #[], .func (.func 80) #[] #[], .func (.func 57) #[] #[], .func (.func 57) #[] #[], .func (.func 57) #[] #[]]) := by
  go_enter Try.func56, Try.ntmps56
  go_wp2
  refine bodyPost_ret (by simp [results, Try.results56, go_sem]; try rfl) rfl ?_
  exact ⟨rfl, (Below.refl _ _).alloc (Nat.le_refl _) _⟩
/-- Which function a call is done by. -/
def dd (k : Nat) : FuncId := [78, 79, 80, 78, 80, 57, 57, 57].getD k 57
set_option maxRecDepth 100000 in
/-- What is left when the deed is done. -/
theorem once_fin {w w0 w3 w4 : World} {l : List Int} {n c : Nat} {f : Fr} {A : Option Addr} (Z : Below w.heap.size w w0) (hz : w0.heap.size = w.heap.size + 2) (z3 : Below w0.heap.size w0 w3)
    (h1 : Rn w3.heap.size w4 A l) (hb : Below w3.heap.size w3 w4) (hc : l.length ≤ c) (hn : l.length = n) :
    RetO w l f (.returned (.tuple #[.slice A n c, fv f])) (pf w4 (w.heap.size + 1) f) := by
  subst hn
  have k3 := z3.size
  exact ⟨_, _, rfl, hc, (h1.pf (by omega) f).mono (by omega), below_pf (Z.trans ((keep_call hb z3).mono (by omega))) (by omega) _⟩
set_option maxHeartbeats 2000000 in
set_option maxRecDepth 100000 in
theorem once_leave (A : Option Addr) (n c : Nat) (l : List Int) (r : Int) (f : Fr) (w : World) (h : Rd w A l) (hn : l.length = n) (hs : n ≤ 1000) (b : Bool) (hb : (f.res != 0) = b) (hf : b = true ∨ f.op < 0 ∨ 8 ≤ f.op) : Calls Try.prog 26 #[.slice A n c, .int .i64 r, fv f] w (RetO w l f) := by
  obtain ⟨B5, B7, Z, hz⟩ := boxes w f
  have H := Lib.hid (h.below Z); clear h
  have HN := Lib.hid hn; clear hn
  have HB := Lib.hid hb; clear hb
  obtain ⟨o, p, q, v, x, y, s⟩ := f
  simp only at hf
  go_enter Try.func26, Try.ntmps26
  go_wp2_with fail
  change Calls _ _ _ (bxs w ⟨o, p, q, v, x, y, s⟩) _
  generalize bxs w ⟨o, p, q, v, x, y, s⟩ = w0 at B5 B7 Z hz H ⊢
  refine (deeds_any _).mono ?_
  rintro _ w1 ⟨rfl, z1⟩
  have h5 : w.heap.size < w0.heap.size := by omega
  have h7 : w.heap.size + 1 < w0.heap.size := by omega
  have e5 := B5.below z1 h5
  obtain ⟨a0, a1, a2, a3, a4, a5, a6⟩ := e5.cells
  have y5 : w.heap.size < w1.heap.size := e5.lt
  go_wp2_with fail
  refine (Tells.of (over_any ⟨o, p, q, v, x, y, s⟩ _) (v' := .bool b) (by rw [← HB.out])).mono ?_
  rintro _ w2 ⟨rfl, z2'⟩
  have z2 := keep_call (w2 := w0) z2' (z1.alloc z1.size _)
  obtain ⟨a0, a1, a2, a3, a4, a5, a6⟩ := (B5.below z2 h5).cells
  clear z2' y5 e5
  have fin : ∀ w4 A' c', Rn w2.heap.size w4 A' l → Below w2.heap.size w2 w4 → l.length ≤ c' → RetO w l ⟨o, p, q, v, x, y, s⟩ (.returned (.tuple #[.slice A' l.length c', fv ⟨o, p, q, v, x, y, s⟩])) (pf w4 (w.heap.size + 1) ⟨o, p, q, v, x, y, s⟩) :=
    fun w4 A' c' h1 h2 h3 => once_fin Z hz z2 h1 h2 h3 rfl
  rcases b with _ | _
  · rcases hf with hf | hf | hf
    · cases hf
    · have hd : decide (o < 0) = true := decide_eq_true hf
      go_wp2_with fail
      refine (leave_any A n c l r ⟨o, p, q, v, x, y, s⟩ _ (H.out.below z2) HN.out hs).mono ?_
      rintro _ w4 ⟨A', c', rfl, hc', hr', hb'⟩
      have z4 := keep_call (w2 := w0) hb' z2
      obtain ⟨d0, d1, d2, d3, d4, d5, d6⟩ := (B7.below z4 h7).cells
      have fz := (B7.below z4 h7).free
      go_wp2
      change bodyPost _ _ _ _ _ (pf w4 (w.heap.size + 1) ⟨o, p, q, v, x, y, s⟩)
      refine bodyPost_ret (results_fr Try.results26 _ rfl ((B7.below z4 h7).pf _)) rfl ?_
      exact fin w4 A' c' hr' hb' hc'
    · have hd : decide (o < 0) = false := decide_eq_false (by omega)
      have hd2 : decide (8 ≤ o) = true := decide_eq_true hf
      go_wp2_with fail
      refine (leave_any A n c l r ⟨o, p, q, v, x, y, s⟩ _ (H.out.below z2) HN.out hs).mono ?_
      rintro _ w4 ⟨A', c', rfl, hc', hr', hb'⟩
      have z4 := keep_call (w2 := w0) hb' z2
      obtain ⟨d0, d1, d2, d3, d4, d5, d6⟩ := (B7.below z4 h7).cells
      have fz := (B7.below z4 h7).free
      go_wp2
      change bodyPost _ _ _ _ _ (pf w4 (w.heap.size + 1) ⟨o, p, q, v, x, y, s⟩)
      refine bodyPost_ret (results_fr Try.results26 _ rfl ((B7.below z4 h7).pf _)) rfl ?_
      exact fin w4 A' c' hr' hb' hc'
  · clear hf
    go_wp2_with fail
    refine (leave_any A n c l r ⟨o, p, q, v, x, y, s⟩ _ (H.out.below z2) HN.out hs).mono ?_
    rintro _ w4 ⟨A', c', rfl, hc', hr', hb'⟩
    have z4 := keep_call (w2 := w0) hb' z2
    obtain ⟨d0, d1, d2, d3, d4, d5, d6⟩ := (B7.below z4 h7).cells
    have fz := (B7.below z4 h7).free
    go_wp2
    change bodyPost _ _ _ _ _ (pf w4 (w.heap.size + 1) ⟨o, p, q, v, x, y, s⟩)
    refine bodyPost_ret (results_fr Try.results26 _ rfl ((B7.below z4 h7).pf _)) rfl ?_
    exact fin w4 A' c' hr' hb' hc'
set_option maxHeartbeats 2000000 in
set_option maxRecDepth 100000 in
theorem once_deed (A : Option Addr) (n c k : Nat) (F : FuncId) (l l' : List Int) (r : Int) (f f' : Fr) (w : World) (h : Rd w A l) (hb : f.res = 0) (hk : f.op = (k : Int)) (hk8 : k < 8)
    (hF : #[Value.func (.func 78) #[] #[], .func (.func 79) #[] #[], .func (.func 80) #[] #[], .func (.func 78) #[] #[], .func (.func 80) #[] #[], .func (.func 57) #[] #[], .func (.func 57) #[] #[], .func (.func 57) #[] #[]][k]? = some (.func (.func F) #[] #[]))
    (h4 : F = 57 ∨ F = 78 ∨ F = 79 ∨ F = 80) (C : ∀ w', Rd w' A l → Calls Try.prog F #[.slice A n c, .int .i64 r, fv f] w' (RetO w' l' f')) : Calls Try.prog 26 #[.slice A n c, .int .i64 r, fv f] w (RetO w l' f') := by
  obtain ⟨B5, B7, Z, hz⟩ := boxes w f
  have H := Lib.hid (h.below Z); clear h
  have HF := Lib.hid hF; clear hF
  have CC := Lib.hid C; clear C
  obtain ⟨o, p, q, v, x, y, s⟩ := f
  simp only at hb hk
  subst hb hk
  have k1 : (0 : Int) ≤ (k : Int) := by omega
  have k2 : (k : Int) < 8 := by omega
  have k3 : decide ((k : Int) < 0) = false := decide_eq_false (by omega)
  have k4 : decide (8 ≤ (k : Int)) = false := decide_eq_false (by omega)
  go_enter Try.func26, Try.ntmps26
  go_wp2_with fail
  change Calls _ _ _ (bxs w ⟨(k : Int), p, q, v, x, y, 0⟩) _
  generalize bxs w ⟨(k : Int), p, q, v, x, y, 0⟩ = w0 at B5 B7 Z hz H ⊢
  refine (deeds_any _).mono ?_
  rintro _ w1 ⟨rfl, z1⟩
  have h5 : w.heap.size < w0.heap.size := by omega
  have h7 : w.heap.size + 1 < w0.heap.size := by omega
  have e5 := B5.below z1 h5
  obtain ⟨a0, a1, a2, a3, a4, a5, a6⟩ := e5.cells
  have y5 : w.heap.size < w1.heap.size := e5.lt
  go_wp2_with fail
  refine (Tells.of (over_any ⟨(k : Int), p, q, v, x, y, 0⟩ _) (v' := .bool false) rfl).mono ?_
  rintro _ w2 ⟨rfl, z2'⟩
  have t2 : w2.cell? ⟨w1.heap.size, k, none⟩ = some (.func (.func F) #[] #[]) := by
    refine (z2'.cell (p := ⟨w1.heap.size, k, none⟩) (by simp)).trans ?_
    rw [cell_of_row _ _ _ _ _ (0, 0) (heap_alloc_new _ _)]
    exact HF.out
  have z2 := keep_call (w2 := w0) z2' (z1.alloc z1.size _)
  obtain ⟨a0, a1, a2, a3, a4, a5, a6⟩ := (B5.below z2 h5).cells
  clear z2' y5 e5
  rcases h4 with rfl | rfl | rfl | rfl
  all_goals
    go_wp2_with fail
    go_region_with ((refine (CC.out _ (H.out.below z2.drew)).mono ?_); rintro _ w4 ⟨A', c', rfl, hc', hr', hb'⟩; have z4 := keep_call (w2 := w0) hb' z2.drew; obtain ⟨d0, d1, d2, d3, d4, d5, d6⟩ := (B7.below z4 h7).cells; have fz := (B7.below z4 h7).free)
    all_goals
      go_wp2
      change bodyPost _ _ _ _ _ (pf w4 (w.heap.size + 1) f')
      refine bodyPost_ret (results_fr Try.results26 _ rfl ((B7.below z4 h7).pf _)) rfl ?_
      exact once_fin Z hz z2.drew hr' hb' hc' rfl
end Go.Proofs.Ytppllanmgdhabaa
