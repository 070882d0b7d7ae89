/- Contracts of within, there, Goes, Clone and steps. -/
import Derived.Test.YtppllanmgdhabaaDqA
import Derived.Test.YtppllanmgdhabaaFrH2
namespace Go.Proofs.Ytppllanmgdhabaa
open Go.RowKit Go.Deep
set_option maxRecDepth 100000 in
theorem run_makeFunc (fn : Fn) (first cap : Array Value) (w : World) : (Instr.makeFunc fn first cap).run Try.prog w = .ok (.func fn first cap) w := rfl
attribute [local go_sem] run_store_func run_makeFunc
set_option maxRecDepth 100000 in
theorem own_made (w : World) (base : Nat) (hb : base ≤ w.heap.size) : Own (w.alloc (.cells #[] 26)) base (some ⟨w.heap.size, 0, none⟩) 0 0 [] := by
  refine ⟨rfl, .inr ⟨w.heap.size, 0, #[], rfl, hb, heap_alloc_new _ _, ?_⟩⟩
  exact ⟨by omega, by decide, rfl, rfl⟩
set_option maxRecDepth 100000 in
theorem eql_nil (w : World) (a : Option Addr) (n c : Nat) : (binOp .eql 25 (.slice a n c) (.slice none 0 0)).run Try.prog w = .ok (.bool a.isNone) w := Lib.run_eql_slice_nil w 25 26 a n c 0 0 Try.underlying25
attribute [local go_sem] eql_nil
set_option maxRecDepth 100000 in
theorem Own.rn {w : World} {base : Nat} {A : Option Addr} {n c : Nat} {l : List Int} (h : Own w base A n c l) : Rn base w A l := fun hp => by
  obtain ⟨ad, e, hlt, hc⟩ := h.rd hp
  refine ⟨ad, e, ?_, hlt, hc⟩
  rcases h.2 with ⟨hv, hx⟩ | ⟨g, cap, cur, hv, hb, hg, _⟩
  · have := h.len; omega
  · injection hv with hA _ _
    subst e
    injection hA with hA
    rw [hA]; exact hb
/-- What a call that hands a copy back leaves. -/
def RetN (w : World) (n : Nat) (l : List Int) (e : Ending) (w' : World) : Prop :=
  ∃ A c, e = .returned (.slice A n c) ∧ Rn w.heap.size w' A l ∧ Below w.heap.size w w'
set_option maxRecDepth 100000 in
theorem clone_any (A : Option Addr) (n c : Nat) (l : List Int) (w : World) (h : Rd w A l) (hn : l.length = n) (hs : n ≤ 500) : Calls Try.prog 29 #[.slice A n c] w (RetN w n l) := by
  have H := Lib.hid h
  have HN := Lib.hid hn
  rcases A with _ | a
  · obtain rfl : n = 0 := by
      rcases Nat.eq_zero_or_pos n with h0 | h0
      · exact h0
      · obtain ⟨_, e, _⟩ := h (by omega); cases e
    clear h hn
    go_enter Try.func29, Try.ntmps29
    go_wp2
    go_ret
    exact ⟨none, 0, rfl, by rw [List.eq_nil_of_length_eq_zero HN.out]; exact Rn.nil _ _ _, Below.refl _ _⟩
  · have hm : Below w.heap.size w (w.alloc (.cells #[] 26)) := (Below.refl _ _).alloc (Nat.le_refl _) _
    obtain ⟨A', c', w1, hrun, hown, hb⟩ := run_app (own_made w w.heap.size (Nat.le_refl _)) c (h.below hm) hn (by omega) (by simp)
    simp only [Nat.zero_add, List.nil_append] at hrun hown
    have HO := Lib.hid hown
    have HB := Lib.hid (hm.trans (hb.mono (by simp)))
    have HRUN := Lib.hid hrun
    clear hrun hown hb h hn hm
    go_enter Try.func29, Try.ntmps29
    go_wp2_with (at_builtin; (with_reducible refine wpList_append_run HRUN.out ?_ ?_ ?_ ?_); exact ⟨_, _, rfl, rfl, rfl⟩; rfl; rfl)
    go_ret
    exact ⟨_, _, rfl, HO.out.rn, HB.out⟩
end Go.Proofs.Ytppllanmgdhabaa
