/- Contract of the document's own Same of items. -/
import Derived.Test.YtobcedlkmnmikaaThK
namespace Go.Proofs.Ytobcedlkmnmikaa.Fo
open Go.RowKit Go.Deep
attribute [local go_sem ↓] eql_it neq_it guard_it
set_option maxRecDepth 100000 in
theorem risame_len (A B : Option Addr) (n c m d : Nat) (w : World) (hne : n ≠ m) : Tells 11 #[.slice A n c, .slice B m d] w (.bool false) := by
  go_enter Try.func11, Try.ntmps11
  go_wp2
  go_ret
  exact ⟨rfl, Below.refl _ _⟩
set_option maxHeartbeats 800000 in
set_option maxRecDepth 100000 in
theorem risame_eq (A B : Option Addr) (n c d n₀ : Nat) (l k : List Itm) (w : World) (ha : Ir n₀ w A l) (hb : Ir n₀ w B k) (hn : l.length = n) (hm : k.length = n) (hs : n ≤ 1000) : Tells 11 #[.slice A n c, .slice B n d] w (.bool (decide (l = k))) := by
  have HA := Lib.hid ha
  have HB := Lib.hid hb
  have HN := Lib.hid hn
  have HM := Lib.hid hm
  clear ha hb hn hm
  go_enter Try.func11, Try.ntmps11
  go_wp2
  go_loopw [5] (fun x wr => ∃ j q : Nat, j ≤ n ∧ x = .int .i64 j ∧ l.take j = k.take j ∧ wr = w.drewN q) (fun x _ => n - (intOf x).toNat)
  case atStart => exact ⟨0, 0, Nat.zero_le _, rfl, by simp, rfl⟩
  case round =>
    obtain ⟨j, q, hj, rfl, heq, rfl⟩ := hrel
    have HE := Lib.hid heq
    clear heq
    by_cases hlt : j < n
    · have h1 : j < l.length := by rw [HN.out]; exact hlt
      have h2 : j < k.length := by rw [HM.out]; exact hlt
      obtain ⟨b1, o1, rfl, l1, x1, x2, x3⟩ := HA.out.at h1
      obtain ⟨b2, o2, rfl, l2, y1, y2, y3⟩ := HB.out.at h2
      by_cases hxy : l[j] = k[j]
      · have E := Lib.hid (itake_more h1 h2 HE.out hxy)
        have hp := ie_yes hxy
        clear hxy
        generalize l[j] = x at *
        generalize k[j] = y at *
        obtain ⟨a1, a2, a3⟩ := x
        obtain ⟨e1, e2, e3⟩ := y
        simp only at x1 x2 x3 y1 y2 y3 hp
        go_wp2
        go_quiet (fail)
        go_wp2
        go_roundw
        case rel => exact ⟨j + 1, _, by omega, by go_num, E.out, rfl⟩
        case measure => simp [intOf]; omega
      · have E := Lib.hid (idiffer h1 h2 hxy)
        have hp := ie_no hxy
        clear hxy
        generalize l[j] = x at *
        generalize k[j] = y at *
        obtain ⟨a1, a2, a3⟩ := x
        obtain ⟨e1, e2, e3⟩ := y
        simp only at x1 x2 x3 y1 y2 y3 hp
        go_wp2
        go_quiet (fail)
        go_wp2
        go_ret
        exact ⟨by rw [E.out]; rfl, (below_drewN _ _).trans ((below_drewN _ _).mono (Nat.le_refl _))⟩
    · have E := Lib.hid (iagree HN.out HM.out hj hlt HE.out)
      go_wp2
      go_ret
      exact ⟨by rw [E.out]; rfl, below_drewN _ _⟩
set_option maxRecDepth 100000 in
theorem krsame {S X : Option Addr} {cs d n m : Nat} {s k : List Itm} {w : World} (hS : Ir w.heap.size w S s) (hX : Ir w.heap.size w X k) (hn : s.length = n) (hm : k.length = m) (hl : n ≤ 1000) {q : Bool} (hq : decide (s = k) = q) : Tells 11 #[.slice S n cs, .slice X m d] w (.bool q) := by
  subst hq
  by_cases h : m = n
  · subst h
    exact risame_eq S X m cs d _ s k w hS hX hn hm hl
  · have e : decide (s = k) = false := decide_eq_false (by rintro rfl; exact h (hm.symm.trans hn))
    rw [e]
    exact risame_len S X n cs m d w (fun e => h e.symm)
set_option maxRecDepth 100000 in
theorem kfmay {A : Option Addr} {c lt : Nat} {T : List Tsk} {w : World} (hT : Tk w.heap.size w A T) (hs : Sm T) (hlt : T.length = lt) {q : Bool} (hq : may T = q) : Tells 23 #[.slice A lt c] w (.bool q) := by
  subst hlt hq
  exact may_any A c _ T w hT (Nat.le_refl _) hs
end Go.Proofs.Ytobcedlkmnmikaa.Fo
