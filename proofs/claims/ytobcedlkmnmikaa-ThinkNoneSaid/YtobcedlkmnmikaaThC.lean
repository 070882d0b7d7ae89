/- Contracts of slices.Clone and slices.Equal at items, think.Same, think.Next. -/
import Derived.Test.YtobcedlkmnmikaaThB
namespace Go.Proofs.Ytobcedlkmnmikaa.Fo
open Go.RowKit Go.Deep
set_option maxRecDepth 100000 in
theorem iown_made (w : World) (base : Nat) (hb : base ≤ w.heap.size) : Iow (w.alloc (.cells #[] 40)) base (some ⟨w.heap.size, 0, none⟩) 0 0 [] := by
  refine ⟨rfl, .inr ⟨w.heap.size, 0, #[], rfl, hb, heap_alloc_new _ _, ?_⟩⟩
  exact ⟨by omega, by decide, rfl, rfl⟩
set_option maxRecDepth 100000 in
theorem eql_nilI (w : World) (a : Option Addr) (n c : Nat) : (binOp .eql 23 (.slice a n c) (.slice none 0 0)).run Try.prog w = .ok (.bool a.isNone) w := Lib.run_eql_slice_nil w 23 40 a n c 0 0 Try.underlying23
attribute [local go_sem] eql_nilI
set_option maxRecDepth 100000 in
theorem iclone_any (A : Option Addr) (n c n₀ : Nat) (l : List Itm) (w : World) (h : Ir n₀ w A l) (hn₀ : n₀ ≤ w.heap.size) (hn : l.length = n) (hs : n ≤ 1000) : Calls Try.prog 24 #[.slice A n c] w fun e w' => ∃ A' c', e = .returned (.slice A' n c') ∧ Iow w' w.heap.size A' n c' l ∧ Below w.heap.size w w' := by
  have H := Lib.hid h
  have HN := Lib.hid hn
  rcases A with _ | a
  · obtain rfl : n = 0 := by
      rcases Nat.eq_zero_or_pos n with h0 | h0
      · exact h0
      · obtain ⟨_, _, e, _⟩ := h (by omega); cases e
    clear h hn
    go_enter Try.func24, Try.ntmps24
    go_wp2
    go_ret
    exact ⟨none, 0, rfl, by rw [List.eq_nil_of_length_eq_zero HN.out]; exact Iow.nil _ _, Below.refl _ _⟩
  · have hm : Below w.heap.size w (w.alloc (.cells #[] 40)) := (Below.refl _ _).alloc (Nat.le_refl _) _
    obtain ⟨A', c', w1, hrun, hown, _, hb⟩ := app_items (iown_made w w.heap.size (Nat.le_refl _)) c (h.below (hm.mono hn₀)).src hn (by omega) (by simp)
    simp only [Nat.zero_add, List.nil_append] at hrun hown
    have HO := Lib.hid hown
    have HB := Lib.hid (hm.trans (hb.mono (by simp)))
    have HRUN := Lib.hid hrun
    clear hrun hown hb h hn hm
    go_enter Try.func24, Try.ntmps24
    go_wp2_with (at_builtin; (with_reducible refine wpList_append_run HRUN.out ?_ ?_ ?_ ?_); exact ⟨_, _, rfl, rfl, rfl⟩; rfl; rfl)
    go_ret
    exact ⟨_, _, rfl, HO.out, HB.out⟩
attribute [local go_sem ↓] eql_it neq_it guard_it
set_option maxRecDepth 100000 in
theorem iequal_len (A B : Option Addr) (n c m d : Nat) (w : World) (hne : n ≠ m) : Tells 33 #[.slice A n c, .slice B m d] w (.bool false) := by
  go_enter Try.func33, Try.ntmps33
  go_wp2
  go_ret
  exact ⟨rfl, Below.refl _ _⟩
set_option maxRecDepth 100000 in
theorem itake_more {l k : List Itm} {j : Nat} (hl : j < l.length) (hk : j < k.length) (h : l.take j = k.take j) (hx : l[j] = k[j]) : l.take (j + 1) = k.take (j + 1) := by
  rw [List.take_add_one, List.take_add_one, h, List.getElem?_eq_getElem hl, List.getElem?_eq_getElem hk, hx]
set_option maxRecDepth 100000 in
theorem idiffer {l k : List Itm} {j : Nat} (hl : j < l.length) (hk : j < k.length) (hx : ¬ l[j] = k[j]) : decide (l = k) = false := by
  refine decide_eq_false fun h => hx ?_
  subst h; rfl
set_option maxRecDepth 100000 in
theorem iagree {l k : List Itm} {j n : Nat} (hl : l.length = n) (hk : k.length = n) (hj : j ≤ n) (hn : ¬ j < n) (h : l.take j = k.take j) : decide (l = k) = true := by
  rw [List.take_of_length_le (by omega), List.take_of_length_le (by omega)] at h
  exact decide_eq_true h
set_option maxHeartbeats 800000 in
set_option maxRecDepth 100000 in
theorem iequal_eq (A B : Option Addr) (n c d n₀ : Nat) (l k : List Itm) (w : World) (ha : Ir n₀ w A l) (hb : Ir n₀ w B k) (hn : l.length = n) (hm : k.length = n) (hs : n ≤ 1000) : Tells 33 #[.slice A n c, .slice B n d] w (.bool (decide (l = k))) := by
  have HA := Lib.hid ha
  have HB := Lib.hid hb
  have HN := Lib.hid hn
  have HM := Lib.hid hm
  clear ha hb hn hm
  go_enter Try.func33, Try.ntmps33
  go_wp2
  go_loopw [13] (fun x wr => ∃ j q : Nat, j ≤ n ∧ x = .int .i64 j ∧ l.take j = k.take j ∧ wr = w.drewN q) (fun x _ => n - (intOf x).toNat)
  case atStart => exact ⟨0, 0, Nat.zero_le _, rfl, by simp, rfl⟩
  case round =>
    obtain ⟨j, q, hj, rfl, heq, rfl⟩ := hrel
    have HE := Lib.hid heq
    clear heq
    by_cases hlt : j < n
    · have h1 : j < l.length := by rw [HN.out]; exact hlt
      have h2 : j < k.length := by rw [HM.out]; exact hlt
      obtain ⟨b1, o1, rfl, l1, x1, x2, x3⟩ := HA.out.at h1
      obtain ⟨b2, o2, rfl, l2, y1, y2, y3⟩ := HB.out.at h2
      by_cases hxy : l[j] = k[j]
      · have E := Lib.hid (itake_more h1 h2 HE.out hxy)
        have hp := ie_yes hxy
        clear hxy
        generalize l[j] = x at *
        generalize k[j] = y at *
        obtain ⟨a1, a2, a3⟩ := x
        obtain ⟨e1, e2, e3⟩ := y
        simp only at x1 x2 x3 y1 y2 y3 hp
        go_wp2
        go_quiet (fail)
        go_wp2
        go_roundw
        case rel => exact ⟨j + 1, _, by omega, by go_num, E.out, rfl⟩
        case measure => simp [intOf]; omega
      · have E := Lib.hid (idiffer h1 h2 hxy)
        have hp := ie_no hxy
        clear hxy
        generalize l[j] = x at *
        generalize k[j] = y at *
        obtain ⟨a1, a2, a3⟩ := x
        obtain ⟨e1, e2, e3⟩ := y
        simp only at x1 x2 x3 y1 y2 y3 hp
        go_wp2
        go_quiet (fail)
        go_wp2
        go_ret
        exact ⟨by rw [E.out]; rfl, (below_drewN _ _).trans ((below_drewN _ _).mono (Nat.le_refl _))⟩
    · have E := Lib.hid (iagree HN.out HM.out hj hlt HE.out)
      go_wp2
      go_ret
      exact ⟨by rw [E.out]; rfl, below_drewN _ _⟩
set_option maxRecDepth 100000 in
theorem iequal_any (A B : Option Addr) (c d n₀ : Nat) (l k : List Itm) (w : World) (ha : Ir n₀ w A l) (hb : Ir n₀ w B k) (hs : l.length ≤ 1000) : Tells 33 #[.slice A l.length c, .slice B k.length d] w (.bool (decide (l = k))) := by
  by_cases h : k.length = l.length
  · rw [h]
    exact iequal_eq A B l.length c d n₀ l k w ha hb rfl h hs
  · have e : decide (l = k) = false := decide_eq_false (by rintro rfl; exact h rfl)
    rw [e]
    exact iequal_len A B _ c _ d w (fun e => h e.symm)
set_option maxRecDepth 100000 in
theorem tsame_any (A B : Option Addr) (c d n₀ : Nat) (l k : List Itm) (w : World) (ha : Ir n₀ w A l) (hb : Ir n₀ w B k) (hs : l.length ≤ 1000) : Tells 22 #[.slice A l.length c, .slice B k.length d] w (.bool (decide (l = k))) := by
  have K := Lib.hid (iequal_any A B c d n₀ l k w ha hb hs)
  clear ha hb
  generalize decide (l = k) = q at *
  go_enter Try.func22, Try.ntmps22
  go_wp2_with fail
  refine K.out.mono ?_
  rintro _ w1 ⟨rfl, z1⟩
  go_wp2
  go_ret
  exact ⟨rfl, z1⟩
end Go.Proofs.Ytobcedlkmnmikaa.Fo
