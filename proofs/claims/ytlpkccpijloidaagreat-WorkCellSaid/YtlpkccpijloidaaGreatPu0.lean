/- Merged: PuE, PuF. -/
import Derived.Test.YtlpkccpijloidaaGreatDqB2
import Derived.Test.YtlpkccpijloidaaGreatFr0
import Derived.Test.YtlpkccpijloidaaGreatLaC
namespace Go.Proofs.YtlpkccpijloidaaGreat
set_option maxRecDepth 100000
open Go.RowKit Go.Deep
theorem pwithin_any (n k : Int) (w : World) : Gives 111 #[.int .i64 n, .int .i64 k] w (.bool (decide (0 ≤ n) && decide (n < k))) := by
  by_cases h1 : 0 ≤ n
  · rw [show (decide (0 ≤ n) && decide (n < k)) = decide (n < k) by simp [h1]]
    go_enter Tryz.func111, Tryz.ntmps111
    go_wp2
    go_ret
    exact ⟨rfl, rfl⟩
  · rw [show (decide (0 ≤ n) && decide (n < k)) = false by simp [h1]]
    go_enter Tryz.func111, Tryz.ntmps111
    go_wp2
    go_ret
    exact ⟨rfl, rfl⟩
theorem there_any (W D J S x : Int) (A : Option Addr) (n c : Nat) (m : List Int) (w : World) (hn : m.length = n) : Tells 110 #[cf W D J S, .slice A n c, .int .i64 x] w (.bool (okw W D J S m x)) := by
  have hs : ((n : Int) == sz W D J S) = decide ((m.length : Int) = sz W D J S) := by rw [hn]; exact Bool.eq_iff_iff.2 (by simp)
  unfold okw
  cases h1 : may W D J S
  · have HM := Lib.hid h1
    rw [show (false && decide ((m.length : Int) = sz W D J S) && decide (0 ≤ x) && decide (x < W)) = false by simp]
    clear h1 hs hn
    go_enter Tryz.func110, Tryz.ntmps110
    go_wp2_with fail
    refine (Tells.of (may_any W D J S _) (v' := .bool false) (by rw [HM.out])).mono ?_
    rintro _ w1 ⟨rfl, z1⟩
    have HZ := Lib.hid ((box_below w _).trans (z1.mono (by simp)))
    clear z1
    go_wp2
    go_ret
    exact ⟨rfl, HZ.out⟩
  · have HM := Lib.hid h1
    have hz : sz W D J S = bg D J W := by unfold sz; rw [h1]; rfl
    rw [hz] at hs
    cases h2 : decide ((m.length : Int) = bg D J W)
    · rw [h2] at hs
      rw [hz, h2, show (true && false && decide (0 ≤ x) && decide (x < W)) = false by simp]
      have HZ0 := Lib.hid h1
      clear h1 h2 hz hn
      go_enter Tryz.func110, Tryz.ntmps110
      go_wp2_with fail
      refine (Tells.of (may_any W D J S _) (v' := .bool true) (by rw [HM.out])).mono ?_
      rintro _ w1 ⟨rfl, z1⟩
      have HZ := Lib.hid ((box_below w _).trans (z1.mono (by simp)))
      obtain ⟨g0, c0, c1, c2, c3⟩ := (Bx.mk w W D J S 23).below z1
      clear z1
      go_wp2_with fail
      refine (size_yes W D J S _ HZ0.out).mono ?_
      rintro _ w2 ⟨rfl, z2⟩
      have HZ2 := Lib.hid (HZ.out.trans (z2.mono HZ.out.size))
      clear z2
      go_wp2
      go_ret
      exact ⟨rfl, HZ2.out⟩
    · rw [h2] at hs
      rw [hz, h2, show (true && true && decide (0 ≤ x) && decide (x < W)) = (decide (0 ≤ x) && decide (x < W)) by simp]
      have HZ0 := Lib.hid h1
      clear h1 h2 hz hn
      go_enter Tryz.func110, Tryz.ntmps110
      go_wp2_with fail
      refine (Tells.of (may_any W D J S _) (v' := .bool true) (by rw [HM.out])).mono ?_
      rintro _ w1 ⟨rfl, z1⟩
      have HZ := Lib.hid ((box_below w _).trans (z1.mono (by simp)))
      have bx := (Bx.mk w W D J S 23).below z1
      obtain ⟨g0, c0, c1, c2, c3⟩ := bx
      go_wp2_with fail
      refine (size_yes W D J S _ HZ0.out).mono ?_
      rintro _ w2 ⟨rfl, z2⟩
      have HZ2 := Lib.hid (HZ.out.trans (z2.mono HZ.out.size))
      obtain ⟨g0, c0, c1, c2, c3⟩ := ((Bx.mk w W D J S 23).below z1).below z2
      clear z2 z1
      go_wp2_with fail
      refine (pwithin_any _ _ _).mono ?_
      rintro _ _ ⟨rfl, rfl⟩
      go_wp2
      go_ret
      exact ⟨rfl, HZ2.out⟩
theorem run_makeFunc (fn : Fn) (first cap : Array Value) (w : World) : (Instr.makeFunc fn first cap).run Tryz.prog w = .ok (.func fn first cap) w := rfl
attribute [local go_sem] run_store_func run_makeFunc
theorem psteps_any (p : Option Addr) (w : World) : Tells 104 #[.pointer p] w (.agg #[.func (.func 123) #[.pointer p] #[], .func (.func 124) #[.pointer p] #[], .func (.func 125) #[.pointer p] #[], .func (.func 126) #[.pointer p] #[]]) := by
  go_enter Tryz.func104, Tryz.ntmps104
  go_wp2
  refine bodyPost_ret (by simp [results, Tryz.results104, go_sem]; try rfl) rfl ?_
  exact ⟨rfl, (Below.refl _ _).alloc (Nat.le_refl _) _⟩
theorem own_made (w : World) (base : Nat) (hb : base ≤ w.heap.size) : Own (w.alloc (.cells #[] 28)) base (some ⟨w.heap.size, 0, none⟩) 0 0 [] := by
  refine ⟨rfl, .inr ⟨w.heap.size, 0, #[], rfl, hb, heap_alloc_new _ _, ?_⟩⟩
  exact ⟨by omega, by decide, rfl, rfl⟩
theorem eql_nil (w : World) (a : Option Addr) (n c : Nat) : (binOp .eql 26 (.slice a n c) (.slice none 0 0)).run Tryz.prog w = .ok (.bool a.isNone) w := Lib.run_eql_slice_nil w 26 28 a n c 0 0 Tryz.underlying26
attribute [local go_sem] eql_nil
theorem Own.rn {w : World} {base : Nat} {A : Option Addr} {n c : Nat} {l : List Int} (h : Own w base A n c l) : Rn base w A l := fun hp => by
  obtain ⟨ad, e, hlt, hc⟩ := h.rd hp
  refine ⟨ad, e, ?_, hlt, hc⟩
  rcases h.2 with ⟨hv, hx⟩ | ⟨g, cap, cur, hv, hb, hg, _⟩
  · have := h.len; omega
  · injection hv with hA _ _
    subst e
    injection hA with hA
    rw [hA]; exact hb
/-- What a call that hands a copy back leaves. -/
def RetN (w : World) (n : Nat) (l : List Int) (e : Ending) (w' : World) : Prop :=
  ∃ A c, e = .returned (.slice A n c) ∧ Rn w.heap.size w' A l ∧ Below w.heap.size w w'
theorem clone_any (A : Option Addr) (n c : Nat) (l : List Int) (w : World) (h : Rd w A l) (hn : l.length = n) (hs : n ≤ 500) : Calls Tryz.prog 21 #[.slice A n c] w (RetN w n l) := by
  have H := Lib.hid h
  have HN := Lib.hid hn
  rcases A with _ | a
  · obtain rfl : n = 0 := by
      rcases Nat.eq_zero_or_pos n with h0 | h0
      · exact h0
      · obtain ⟨_, e, _⟩ := h (by omega); cases e
    clear h hn
    go_enter Tryz.func21, Tryz.ntmps21
    go_wp2
    go_ret
    exact ⟨none, 0, rfl, by rw [List.eq_nil_of_length_eq_zero HN.out]; exact Rn.nil _ _ _, Below.refl _ _⟩
  · have hm : Below w.heap.size w (w.alloc (.cells #[] 28)) := (Below.refl _ _).alloc (Nat.le_refl _) _
    obtain ⟨A', c', w1, hrun, hown, hb⟩ := run_app (own_made w w.heap.size (Nat.le_refl _)) c (h.below hm) hn (by omega) (by simp)
    simp only [Nat.zero_add, List.nil_append] at hrun hown
    have HO := Lib.hid hown
    have HB := Lib.hid (hm.trans (hb.mono (by simp)))
    have HRUN := Lib.hid hrun
    clear hrun hown hb h hn hm
    go_enter Tryz.func21, Tryz.ntmps21
    go_wp2_with (at_builtin; (with_reducible refine wpList_append_run HRUN.out ?_ ?_ ?_ ?_); exact ⟨_, _, rfl, rfl, rfl⟩; rfl; rfl)
    go_ret
    exact ⟨_, _, rfl, HO.out.rn, HB.out⟩
end Go.Proofs.YtlpkccpijloidaaGreat
namespace Go.Proofs.YtlpkccpijloidaaGreat
set_option maxRecDepth 100000
open Go.RowKit Go.Deep
/-- A box for the layout and one for the call that came in. -/
def bxc (w : World) (W D J S : Int) (f : Fr) : World := (w.alloc (.cells #[.int .i64 W, .int .i64 D, .int .i64 J, .int .i64 S] 23)).alloc (.cells #[.int .i64 f.op, .int .i64 f.pc, .int .i64 f.who, .int .u64 f.val, .int .u64 f.x, .int .u64 f.y, .int .i64 f.res] 30)
theorem boxes2 (w : World) (W D J S : Int) (f : Fr) : Bx (bxc w W D J S f) w.heap.size W D J S ∧ Bf (bxc w W D J S f) (w.heap.size + 1) f ∧ Below w.heap.size w (bxc w W D J S f) ∧ (bxc w W D J S f).heap.size = w.heap.size + 2 := by
  unfold bxc
  refine ⟨(Bx.mk w W D J S 23).alloc _, ?_, ?_, ?_⟩
  · have := Bf.new (w.alloc (.cells #[.int .i64 W, .int .i64 D, .int .i64 J, .int .i64 S] 23)) f
    simpa using this
  · exact ((Below.refl _ _).alloc (Nat.le_refl _) _).alloc (by simp) _
  · simp
theorem goes_any (W D J S op k : Int) (A : Option Addr) (n c : Nat) (m : List Int) (f : Fr) (w : World) (hn : m.length = n) : Tells 100 #[cf W D J S, .slice A n c, fv f, .int .i64 op, .int .i64 k] w (.bool (goes W D J S m f op k)) := by
  obtain ⟨BX, BF, Z, hz⟩ := boxes2 w W D J S f
  have h1 : w.heap.size < (bxc w W D J S f).heap.size := by omega
  have h2 : w.heap.size + 1 < (bxc w W D J S f).heap.size := by omega
  unfold goes
  obtain ⟨o, p, q, v, x, y, s⟩ := f
  cases e1 : okw W D J S m q
  · have E1 := Lib.hid e1
    rw [show (false && decide (s = 0) && decide (o = op) && decide (0 ≤ p) && decide (p < k)) = false by simp]
    clear e1
    go_enter Tryz.func100, Tryz.ntmps100
    go_wp2_with fail
    change Calls _ _ _ (bxc w W D J S ⟨o, p, q, v, x, y, s⟩) _
    generalize bxc w W D J S ⟨o, p, q, v, x, y, s⟩ = w0 at BX BF Z hz h1 h2 ⊢
    refine (Tells.of (there_any W D J S q A n c m _ hn) (v' := .bool false) (by rw [E1.out])).mono ?_
    rintro _ w1 ⟨rfl, z1⟩
    have HZ := Lib.hid (Z.trans (z1.mono (by omega)))
    clear z1
    go_wp2
    go_ret
    exact ⟨rfl, HZ.out⟩
  cases e2 : (s != 0)
  · have e3 : decide (s = 0) = true := by simpa using e2
    cases e4 : (o == op)
    · have E1 := Lib.hid e1
      have E2 := Lib.hid e2
      rw [show (true && decide (s = 0) && decide (o = op) && decide (0 ≤ p) && decide (p < k)) = false by
        have : decide (o = op) = false := by simpa using e4
        simp [this]]
      clear e1 e2 e3
      go_enter Tryz.func100, Tryz.ntmps100
      go_wp2_with fail
      change Calls _ _ _ (bxc w W D J S ⟨o, p, q, v, x, y, s⟩) _
      generalize bxc w W D J S ⟨o, p, q, v, x, y, s⟩ = w0 at BX BF Z hz h1 h2 ⊢
      refine (Tells.of (there_any W D J S q A n c m _ hn) (v' := .bool true) (by rw [E1.out])).mono ?_
      rintro _ w1 ⟨rfl, z1⟩
      obtain ⟨a0, a1, a2, a3, a4, a5, a6⟩ := (BF.below z1 h2).cells
      go_wp2_with fail
      refine (Tells.of (over_any ⟨o, p, q, v, x, y, s⟩ _) (v' := .bool false) (by rw [← E2.out])).mono ?_
      rintro _ w2 ⟨rfl, z2⟩
      have z3 := keep_call (w2 := w0) z2 z1
      obtain ⟨a0, a1, a2, a3, a4, a5, a6⟩ := (BF.below z3 h2).cells
      have HZ := Lib.hid (Z.trans (z3.mono (by omega)))
      clear z1 z2 z3
      go_wp2
      go_ret
      exact ⟨rfl, HZ.out⟩
    · have E1 := Lib.hid e1
      have E2 := Lib.hid e2
      rw [show (true && decide (s = 0) && decide (o = op) && decide (0 ≤ p) && decide (p < k)) = (decide (0 ≤ p) && decide (p < k)) by
        have : decide (o = op) = true := by simpa using e4
        simp [this, e3]]
      clear e1 e2 e3
      go_enter Tryz.func100, Tryz.ntmps100
      go_wp2_with fail
      change Calls _ _ _ (bxc w W D J S ⟨o, p, q, v, x, y, s⟩) _
      generalize bxc w W D J S ⟨o, p, q, v, x, y, s⟩ = w0 at BX BF Z hz h1 h2 ⊢
      refine (Tells.of (there_any W D J S q A n c m _ hn) (v' := .bool true) (by rw [E1.out])).mono ?_
      rintro _ w1 ⟨rfl, z1⟩
      obtain ⟨a0, a1, a2, a3, a4, a5, a6⟩ := (BF.below z1 h2).cells
      go_wp2_with fail
      refine (Tells.of (over_any ⟨o, p, q, v, x, y, s⟩ _) (v' := .bool false) (by rw [← E2.out])).mono ?_
      rintro _ w2 ⟨rfl, z2⟩
      have z3 := keep_call (w2 := w0) z2 z1
      obtain ⟨a0, a1, a2, a3, a4, a5, a6⟩ := (BF.below z3 h2).cells
      have HZ := Lib.hid (Z.trans (z3.mono (by omega)))
      clear z1 z2 z3
      go_wp2_with fail
      refine (pwithin_any _ _ _).mono ?_
      rintro _ _ ⟨rfl, rfl⟩
      go_wp2
      go_ret
      exact ⟨rfl, HZ.out⟩
  · have e3 : decide (s = 0) = false := by simpa using e2
    have E1 := Lib.hid e1
    have E2 := Lib.hid e2
    rw [show (true && decide (s = 0) && decide (o = op) && decide (0 ≤ p) && decide (p < k)) = false by simp [e3]]
    clear e1 e2 e3
    go_enter Tryz.func100, Tryz.ntmps100
    go_wp2_with fail
    change Calls _ _ _ (bxc w W D J S ⟨o, p, q, v, x, y, s⟩) _
    generalize bxc w W D J S ⟨o, p, q, v, x, y, s⟩ = w0 at BX BF Z hz h1 h2 ⊢
    refine (Tells.of (there_any W D J S q A n c m _ hn) (v' := .bool true) (by rw [E1.out])).mono ?_
    rintro _ w1 ⟨rfl, z1⟩
    obtain ⟨a0, a1, a2, a3, a4, a5, a6⟩ := (BF.below z1 h2).cells
    go_wp2_with fail
    refine (Tells.of (over_any ⟨o, p, q, v, x, y, s⟩ _) (v' := .bool true) (by rw [← E2.out])).mono ?_
    rintro _ w2 ⟨rfl, z2⟩
    have z3 := keep_call (w2 := w0) z2 z1
    have HZ := Lib.hid (Z.trans (z3.mono (by omega)))
    clear z1 z2 z3
    go_wp2
    go_ret
    exact ⟨rfl, HZ.out⟩
end Go.Proofs.YtlpkccpijloidaaGreat
