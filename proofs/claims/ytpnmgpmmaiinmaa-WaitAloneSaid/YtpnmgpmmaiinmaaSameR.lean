/- The document's own answer whether two rows of cells are the same. -/
import Derived.Test.YtpnmgpmmaiinmaaBaM
namespace Go.Proofs.Ytpnmgpmmaiinmaa
open Go.RowKit Go.Deep
set_option maxHeartbeats 400000 in
theorem rsame_len (A B : Option Addr) (n c m d : Nat) (w : World) (hne : n ≠ m) :
    Calls Try.prog 12 #[.slice A n c, .slice B m d] w fun e w' => e = .returned (.bool false) ∧ Below w.heap.size w w' := by
  go_enter Try.func12, Try.ntmps12
  go_wp2
  go_ret
  exact ⟨rfl, Below.refl _ _⟩
set_option maxHeartbeats 400000 in
theorem rsame_eq (A B : Option Addr) (n c d : Nat) (l k : List Int) (w : World) (ha : Rd w A l) (hb : Rd w B k) (hn : l.length = n) (hm : k.length = n) (hs : n ≤ 501) :
    Calls Try.prog 12 #[.slice A n c, .slice B n d] w fun e w' => e = .returned (.bool (decide (l = k))) ∧ Below w.heap.size w w' := by
  have HA := Lib.hid ha
  have HB := Lib.hid hb
  have HN := Lib.hid hn
  have HM := Lib.hid hm
  clear ha hb hn hm
  go_enter Try.func12, Try.ntmps12
  go_wp2
  go_loopw [5] (fun i wr => ∃ j q : Nat, j ≤ n ∧ i = .int .i64 j ∧ l.take j = k.take j ∧ wr = w.drewN q) (fun i _ => n - (intOf i).toNat)
  case atStart => exact ⟨0, 0, Nat.zero_le _, rfl, by simp, rfl⟩
  case round =>
    obtain ⟨j, q, hj, rfl, heq, rfl⟩ := hrel
    have HE := Lib.hid heq
    clear heq
    by_cases hlt : j < n
    · obtain ⟨ad, rfl, hal, hac⟩ := HA.out (by rw [HN.out]; omega)
      obtain ⟨bd, rfl, hbl, hbc⟩ := HB.out (by rw [HM.out]; omega)
      have hx := hac j _ (List.getElem?_eq_getElem (by rw [HN.out]; exact hlt))
      have hy := hbc j _ (List.getElem?_eq_getElem (by rw [HM.out]; exact hlt))
      clear hac hbc
      generalize hX : l[j]'(by rw [HN.out]; exact hlt) = x at hx
      generalize hY : k[j]'(by rw [HM.out]; exact hlt) = y at hy
      have HX := Lib.hid hX
      have HY := Lib.hid hY
      clear hX hY
      by_cases hxy : x = y
      · have hne : (x != y) = false := by simp [hxy]
        have HXY := Lib.hid hxy
        clear hxy
        go_wp2
        go_region
        go_wp2
        go_roundw
        case rel => exact ⟨j + 1, q + 1, by omega, by go_num, take_more (by rw [HN.out]; exact hlt) (by rw [HM.out]; exact hlt) HE.out (by rw [HX.out, HY.out, HXY.out]), rfl⟩
        case measure => simp [intOf]; omega
      · have hne : (x != y) = true := by simp [hxy]
        have HXY := Lib.hid hxy
        clear hxy
        go_wp2
        go_region
        go_wp2
        go_ret
        exact ⟨by rw [differ (j := j) (by rw [HN.out]; exact hlt) (by rw [HM.out]; exact hlt) (by rw [HX.out, HY.out]; exact HXY.out)]; rfl, below_drewN _ _⟩
    · go_wp2
      go_ret
      exact ⟨by rw [agree HN.out HM.out hj hlt HE.out]; rfl, below_drewN _ _⟩
theorem rsame_any (A B : Option Addr) (n c m d : Nat) (l k : List Int) (w : World) (ha : Rd w A l) (hb : Rd w B k) (hn : l.length = n) (hm : k.length = m) (hs : n ≤ 501) :
    Calls Try.prog 12 #[.slice A n c, .slice B m d] w fun e w' => e = .returned (.bool (decide (l = k))) ∧ Below w.heap.size w w' := by
  by_cases h : n = m
  · subst h
    exact rsame_eq A B n c d l k w ha hb hn hm hs
  · have e : decide (l = k) = false := decide_eq_false (by rintro rfl; exact h (hn.symm.trans hm))
    rw [e]
    exact rsame_len A B n c m d w h
end Go.Proofs.Ytpnmgpmmaiinmaa
