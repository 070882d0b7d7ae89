/- Contract of Goes. -/
import Derived.Test.YtgemaeibmgkneaaPuE
import Derived.Test.YtgemaeibmgkneaaLaC
namespace Go.Proofs.Ytgemaeibmgkneaa
open Go.RowKit Go.Deep
/-- A box for the layout and one for the call that came in. -/
def bxc (w : World) (W D J S : Int) (f : Fr) : World := (w.alloc (.cells #[.int .i64 W, .int .i64 D, .int .i64 J, .int .i64 S] 36)).alloc (.cells #[.int .i64 f.op, .int .i64 f.pc, .int .i64 f.who, .int .u64 f.val, .int .u64 f.x, .int .u64 f.y, .int .i64 f.res] 34)
set_option maxRecDepth 100000 in
theorem boxes2 (w : World) (W D J S : Int) (f : Fr) : Bx (bxc w W D J S f) w.heap.size W D J S ∧ Bf (bxc w W D J S f) (w.heap.size + 1) f ∧ Below w.heap.size w (bxc w W D J S f) ∧ (bxc w W D J S f).heap.size = w.heap.size + 2 := by
  unfold bxc
  refine ⟨(Bx.mk w W D J S 36).alloc _, ?_, ?_, ?_⟩
  · have := Bf.new (w.alloc (.cells #[.int .i64 W, .int .i64 D, .int .i64 J, .int .i64 S] 36)) f
    simpa using this
  · exact ((Below.refl _ _).alloc (Nat.le_refl _) _).alloc (by simp) _
  · simp
set_option maxRecDepth 100000 in
theorem goes_any (W D J S op k : Int) (A : Option Addr) (n c : Nat) (m : List Int) (f : Fr) (w : World) (hn : m.length = n) : Tells 37 #[cf W D J S, .slice A n c, fv f, .int .i64 op, .int .i64 k] w (.bool (goes W D J S m f op k)) := by
  obtain ⟨BX, BF, Z, hz⟩ := boxes2 w W D J S f
  have h1 : w.heap.size < (bxc w W D J S f).heap.size := by omega
  have h2 : w.heap.size + 1 < (bxc w W D J S f).heap.size := by omega
  unfold goes
  obtain ⟨o, p, q, v, x, y, s⟩ := f
  cases e1 : okw W D J S m q
  · have E1 := Lib.hid e1
    rw [show (false && decide (s = 0) && decide (o = op) && decide (0 ≤ p) && decide (p < k)) = false by simp]
    clear e1
    go_enter Try.func37, Try.ntmps37
    go_wp2_with fail
    change Calls _ _ _ (bxc w W D J S ⟨o, p, q, v, x, y, s⟩) _
    generalize bxc w W D J S ⟨o, p, q, v, x, y, s⟩ = w0 at BX BF Z hz h1 h2 ⊢
    refine (Tells.of (there_any W D J S q A n c m _ hn) (v' := .bool false) (by rw [E1.out])).mono ?_
    rintro _ w1 ⟨rfl, z1⟩
    have HZ := Lib.hid (Z.trans (z1.mono (by omega)))
    clear z1
    go_wp2
    go_ret
    exact ⟨rfl, HZ.out⟩
  cases e2 : (s != 0)
  · have e3 : decide (s = 0) = true := by simpa using e2
    cases e4 : (o == op)
    · have E1 := Lib.hid e1
      have E2 := Lib.hid e2
      rw [show (true && decide (s = 0) && decide (o = op) && decide (0 ≤ p) && decide (p < k)) = false by
        have : decide (o = op) = false := by simpa using e4
        simp [this]]
      clear e1 e2 e3
      go_enter Try.func37, Try.ntmps37
      go_wp2_with fail
      change Calls _ _ _ (bxc w W D J S ⟨o, p, q, v, x, y, s⟩) _
      generalize bxc w W D J S ⟨o, p, q, v, x, y, s⟩ = w0 at BX BF Z hz h1 h2 ⊢
      refine (Tells.of (there_any W D J S q A n c m _ hn) (v' := .bool true) (by rw [E1.out])).mono ?_
      rintro _ w1 ⟨rfl, z1⟩
      obtain ⟨a0, a1, a2, a3, a4, a5, a6⟩ := (BF.below z1 h2).cells
      go_wp2_with fail
      refine (Tells.of (over_any ⟨o, p, q, v, x, y, s⟩ _) (v' := .bool false) (by rw [← E2.out])).mono ?_
      rintro _ w2 ⟨rfl, z2⟩
      have z3 := keep_call (w2 := w0) z2 z1
      obtain ⟨a0, a1, a2, a3, a4, a5, a6⟩ := (BF.below z3 h2).cells
      have HZ := Lib.hid (Z.trans (z3.mono (by omega)))
      clear z1 z2 z3
      go_wp2
      go_ret
      exact ⟨rfl, HZ.out⟩
    · have E1 := Lib.hid e1
      have E2 := Lib.hid e2
      rw [show (true && decide (s = 0) && decide (o = op) && decide (0 ≤ p) && decide (p < k)) = (decide (0 ≤ p) && decide (p < k)) by
        have : decide (o = op) = true := by simpa using e4
        simp [this, e3]]
      clear e1 e2 e3
      go_enter Try.func37, Try.ntmps37
      go_wp2_with fail
      change Calls _ _ _ (bxc w W D J S ⟨o, p, q, v, x, y, s⟩) _
      generalize bxc w W D J S ⟨o, p, q, v, x, y, s⟩ = w0 at BX BF Z hz h1 h2 ⊢
      refine (Tells.of (there_any W D J S q A n c m _ hn) (v' := .bool true) (by rw [E1.out])).mono ?_
      rintro _ w1 ⟨rfl, z1⟩
      obtain ⟨a0, a1, a2, a3, a4, a5, a6⟩ := (BF.below z1 h2).cells
      go_wp2_with fail
      refine (Tells.of (over_any ⟨o, p, q, v, x, y, s⟩ _) (v' := .bool false) (by rw [← E2.out])).mono ?_
      rintro _ w2 ⟨rfl, z2⟩
      have z3 := keep_call (w2 := w0) z2 z1
      obtain ⟨a0, a1, a2, a3, a4, a5, a6⟩ := (BF.below z3 h2).cells
      have HZ := Lib.hid (Z.trans (z3.mono (by omega)))
      clear z1 z2 z3
      go_wp2_with fail
      refine (pwithin_any _ _ _).mono ?_
      rintro _ _ ⟨rfl, rfl⟩
      go_wp2
      go_ret
      exact ⟨rfl, HZ.out⟩
  · have e3 : decide (s = 0) = false := by simpa using e2
    have E1 := Lib.hid e1
    have E2 := Lib.hid e2
    rw [show (true && decide (s = 0) && decide (o = op) && decide (0 ≤ p) && decide (p < k)) = false by simp [e3]]
    clear e1 e2 e3
    go_enter Try.func37, Try.ntmps37
    go_wp2_with fail
    change Calls _ _ _ (bxc w W D J S ⟨o, p, q, v, x, y, s⟩) _
    generalize bxc w W D J S ⟨o, p, q, v, x, y, s⟩ = w0 at BX BF Z hz h1 h2 ⊢
    refine (Tells.of (there_any W D J S q A n c m _ hn) (v' := .bool true) (by rw [E1.out])).mono ?_
    rintro _ w1 ⟨rfl, z1⟩
    obtain ⟨a0, a1, a2, a3, a4, a5, a6⟩ := (BF.below z1 h2).cells
    go_wp2_with fail
    refine (Tells.of (over_any ⟨o, p, q, v, x, y, s⟩ _) (v' := .bool true) (by rw [← E2.out])).mono ?_
    rintro _ w2 ⟨rfl, z2⟩
    have z3 := keep_call (w2 := w0) z2 z1
    have HZ := Lib.hid (Z.trans (z3.mono (by omega)))
    clear z1 z2 z3
    go_wp2
    go_ret
    exact ⟨rfl, HZ.out⟩
end Go.Proofs.Ytgemaeibmgkneaa
