/- Contracts of the document's own May and Next of stacks (layer 17). -/
import Derived.Test.YtobcedlkmnmikaaThS
import Derived.Test.YtobcedlkmnmikaaFoW
namespace Go.Proofs.Ytobcedlkmnmikaa.Fo
open Go.RowKit Go.Deep
set_option maxRecDepth 100000 in
set_option maxHeartbeats 4000000 in
theorem rtmay_yes (A S : Option Addr) (c cs n₀ : Nat) (T : List Tsk) (s : List Itm) (w : World) (hT : Tk n₀ w A T) (hS : Ir n₀ w S s) (hn₀ : n₀ ≤ w.heap.size) (hs : Sm T) (hl : s.length ≤ 1000) (hm : may T = true) : Tells 16 #[.slice A T.length c, .slice S s.length cs] w (.bool (s.all (okI T))) := by
  have HT := Lib.hid hT
  have HS := Lib.hid hS
  have HM := Lib.hid hs
  have KM := Lib.hid (Tells.of (rmay_any A c n₀ T w hT hn₀ hs) (v' := .bool true) (by rw [hm]))
  clear hT hS hs hm
  go_enter Try.func16, Try.ntmps16
  go_wp2_with fail
  refine KM.out.mono ?_
  rintro _ w1 ⟨rfl, z1⟩
  have Z1 := Lib.hid z1
  clear z1
  go_wp2
  go_loopw [6] (fun x wr => ∃ j : Nat, j ≤ s.length ∧ x = .int .i64 j ∧ (s.take j).all (okI T) = true ∧ Hid (Below w.heap.size w wr)) (fun x _ => s.length - (intOf x).toNat)
  case atStart => exact ⟨0, Nat.zero_le _, rfl, by simp, Z1⟩
  case round =>
    obtain ⟨j, hj, rfl, heq, HW⟩ := hrel
    have HE := Lib.hid heq
    clear heq
    by_cases hlt : j < s.length
    · obtain ⟨b, off, rfl, l1, x1, x2, x3⟩ := (HS.out.below (HW.out.mono hn₀)).at hlt
      have EN := Lib.hid (all_no (T := T) hlt)
      have EY := Lib.hid (all_take (T := T) hlt HE.out)
      generalize s[j] = x at *
      obtain ⟨a, d, k⟩ := x
      simp only at x1 x2 x3
      by_cases h1 : a < 0
      · have d1 : decide (a < 0) = true := decide_eq_true h1
        go_wp2
        go_quiet (fail)
        go_wp2
        go_ret
        exact ⟨by rw [EN.out (okI_out (by rw [decide_eq_false (show ¬ 0 ≤ a by omega)]; rfl))]; rfl, HW.out.trans ((below_drewN _ _).mono HW.out.size)⟩
      by_cases h2 : (T.length : Int) ≤ a
      · have d1 : decide (a < 0) = false := decide_eq_false h1
        have d2 : decide ((T.length : Int) ≤ a) = true := decide_eq_true h2
        go_wp2
        go_quiet (fail)
        go_wp2
        go_ret
        exact ⟨by rw [EN.out (okI_out (by rw [decide_eq_false (show ¬ a < (T.length : Int) by omega)]; simp))]; rfl, HW.out.trans ((below_drewN _ _).mono HW.out.size)⟩
      obtain ⟨n, rfl⟩ := Int.eq_ofNat_of_zero_le (show 0 ≤ a by omega)
      have hn : n < T.length := by omega
      have d1 : decide ((n : Int) < 0) = false := decide_eq_false h1
      have d2 : decide ((T.length : Int) ≤ (n : Int)) = false := decide_eq_false h2
      have d2b : decide (T.length ≤ n) = false := decide_eq_false (by omega)
      obtain ⟨b', o', K, c', rfl, hal, t0, t1, _⟩ := (HT.out.below (HW.out.mono hn₀)).at hn
      have hkl := HM.out.at hn
      rw [okI_at hn] at EN EY
      clear h1 h2
      generalize T[n].1 = W at *
      generalize T[n].2.length = L at *
      by_cases h3 : d < 0
      · have d3 : decide (d < 0) = true := decide_eq_true h3
        go_wp2
        go_quiet (fail)
        go_wp2
        go_ret
        exact ⟨by rw [EN.out (by rw [decide_eq_false (show ¬ 0 ≤ d by omega)]; simp)]; rfl, HW.out.trans ((below_drewN _ _).mono HW.out.size)⟩
      have d3 : decide (d < 0) = false := decide_eq_false h3
      by_cases h4 : W < d
      · have d4 : decide (W < d) = true := decide_eq_true h4
        go_wp2
        go_quiet (fail)
        go_wp2
        go_ret
        exact ⟨by rw [EN.out (by rw [decide_eq_false (show ¬ d ≤ W by omega)]; simp)]; rfl, HW.out.trans ((below_drewN _ _).mono HW.out.size)⟩
      have d4 : decide (W < d) = false := decide_eq_false h4
      by_cases h5 : k < 0
      · have d5 : decide (k < 0) = true := decide_eq_true h5
        go_wp2
        go_quiet (fail)
        go_wp2
        go_ret
        exact ⟨by rw [EN.out (by rw [decide_eq_false (show ¬ 0 ≤ k by omega)]; simp)]; rfl, HW.out.trans ((below_drewN _ _).mono HW.out.size)⟩
      have d5 : decide (k < 0) = false := decide_eq_false h5
      by_cases h6 : (L : Int) < k
      · have d6 : decide ((L : Int) < k) = true := decide_eq_true h6
        go_wp2
        go_quiet (fail)
        go_wp2
        go_ret
        exact ⟨by rw [EN.out (by rw [decide_eq_false (show ¬ k ≤ (L : Int) by omega)]; simp)]; rfl, HW.out.trans ((below_drewN _ _).mono HW.out.size)⟩
      have d6 : decide ((L : Int) < k) = false := decide_eq_false h6
      have q1 : (decide (0 ≤ d) && decide (d ≤ W) && (decide (0 ≤ k) && decide (k ≤ (L : Int))) && (decide (k = 0) || decide (W ≤ d))) = (decide (k = 0) || decide (W ≤ d)) := by rw [decide_eq_true (show 0 ≤ d by omega), decide_eq_true (show d ≤ W by omega), decide_eq_true (show 0 ≤ k by omega), decide_eq_true (show k ≤ (L : Int) by omega)]; rfl
      rw [q1] at EN EY
      clear q1
      by_cases h7 : d < W
      · by_cases h8 : k = 0
        · subst h8
          have d7 : decide (d < W) = true := decide_eq_true h7
          go_wp2
          go_quiet (fail)
          go_wp2
          go_quiet (fail)
          go_wp2
          go_roundw
          case rel => exact ⟨j + 1, by omega, by go_num, EY.out (by simp), Lib.hid (by first | exact HW.out.trans ((below_drewN _ _).mono HW.out.size) | exact HW.out.trans (((below_drewN _ _).trans ((below_drewN _ _).mono (Nat.le_refl _))).mono HW.out.size))⟩
          case measure => simp [intOf]; omega
        · have d8 : (k != 0) = true := by simpa using h8
          have HK := Lib.hid h8
          clear h8
          have d7 : decide (d < W) = true := decide_eq_true h7
          go_wp2
          go_quiet (fail)
          go_wp2
          go_quiet (fail)
          go_wp2
          go_ret
          exact ⟨by rw [EN.out (by rw [decide_eq_false HK.out, decide_eq_false (show ¬ W ≤ d by omega)]; rfl)]; rfl, by first | exact HW.out.trans ((below_drewN _ _).mono HW.out.size) | exact HW.out.trans (((below_drewN _ _).trans ((below_drewN _ _).mono (Nat.le_refl _))).mono HW.out.size)⟩
      · have d7 : decide (d < W) = false := decide_eq_false h7
        go_wp2
        go_quiet (fail)
        go_wp2
        go_quiet (fail)
        go_wp2
        go_roundw
        case rel => exact ⟨j + 1, by omega, by go_num, EY.out (by rw [decide_eq_true (show W ≤ d by omega), Bool.or_true]), Lib.hid (by first | exact HW.out.trans ((below_drewN _ _).mono HW.out.size) | exact HW.out.trans (((below_drewN _ _).trans ((below_drewN _ _).mono (Nat.le_refl _))).mono HW.out.size))⟩
        case measure => simp [intOf]; omega
    · have E := Lib.hid (show s.all (okI T) = true by have := HE.out; rwa [List.take_of_length_le (by omega)] at this)
      go_wp2
      go_ret
      exact ⟨by rw [E.out]; rfl, HW.out⟩
set_option maxRecDepth 100000 in
theorem rtmay_any (A S : Option Addr) (c cs n₀ : Nat) (T : List Tsk) (s : List Itm) (w : World) (hT : Tk n₀ w A T) (hS : Ir n₀ w S s) (hn₀ : n₀ ≤ w.heap.size) (hs : Sm T) (hl : s.length ≤ 1000) : Tells 16 #[.slice A T.length c, .slice S s.length cs] w (.bool (mayS T s)) := by
  cases hm : may T
  · have KM := Lib.hid (Tells.of (rmay_any A c n₀ T w hT hn₀ hs) (v' := .bool false) (by rw [hm]))
    have E := Lib.hid (show mayS T s = false by unfold mayS; rw [hm]; rfl)
    clear hT hS hs hm
    go_enter Try.func16, Try.ntmps16
    go_wp2_with fail
    refine KM.out.mono ?_
    rintro _ w1 ⟨rfl, z1⟩
    go_wp2
    go_ret
    exact ⟨by rw [E.out]; rfl, z1⟩
  · rw [show mayS T s = s.all (okI T) by unfold mayS; rw [hm]; rfl]
    exact rtmay_yes A S c cs n₀ T s w hT hS hn₀ hs hl hm
end Go.Proofs.Ytobcedlkmnmikaa.Fo
