/- Merged: LayA, LayB. -/
import Derived.Test.YtlpkccpijloidaaGreatBaM
import Derived.Laws.BitsAllLaws
import Derived.Laws.BitsLemmas
namespace Go.Proofs.YtlpkccpijloidaaGreat
set_option maxRecDepth 100000
open Go.RowKit Go.Deep
/-- A layout's value. -/
abbrev cf (W D J S : Int) : Value := .agg #[.int .i64 W, .int .i64 D, .int .i64 J, .int .i64 S]
def wi (n a b : Int) : Bool := decide (a ≤ n ∧ n ≤ b)
def p2 (n : Int) : Bool := decide (n = 1 ∨ n = 2 ∨ n = 4 ∨ n = 8 ∨ n = 16)
/-- A layout may be. -/
def may (W D J S : Int) : Bool := wi W 1 8 && wi D 1 16 && p2 D && wi J 1 16 && wi S 0 4
/-- Where a worker's cells begin. -/
def bg (D J w : Int) : Int := 6 + 2 * J + w * (3 + D)
theorem wi_true {n a b : Int} : wi n a b = true ↔ a ≤ n ∧ n ≤ b := by simp [wi]
theorem wi_false {n a b : Int} : wi n a b = false ↔ n < a ∨ b < n := by simp [wi]; omega
theorem within_any (n a b : Int) (w : World) : Gives 48 #[.int .i64 n, .int .i64 a, .int .i64 b] w (.bool (wi n a b)) := by
  by_cases h1 : a ≤ n
  · by_cases h2 : n ≤ b
    · rw [wi_true.2 ⟨h1, h2⟩]
      go_enter Tryz.func48, Tryz.ntmps48
      go_wp2
      go_ret
      exact ⟨rfl, rfl⟩
    · rw [wi_false.2 (.inr (by omega))]
      go_enter Tryz.func48, Tryz.ntmps48
      go_wp2
      go_ret
      exact ⟨rfl, rfl⟩
  · rw [wi_false.2 (.inl (by omega))]
    go_enter Tryz.func48, Tryz.ntmps48
    go_wp2
    go_ret
    exact ⟨rfl, rfl⟩
theorem pow_any (n : Int) (w : World) (h : 1 ≤ n ∧ n ≤ 16) : Gives 49 #[.int .i64 n] w (.bool (p2 n)) := by
  have hn : n = 1 ∨ n = 2 ∨ n = 3 ∨ n = 4 ∨ n = 5 ∨ n = 6 ∨ n = 7 ∨ n = 8 ∨ n = 9 ∨ n = 10 ∨ n = 11 ∨ n = 12 ∨ n = 13 ∨ n = 14 ∨ n = 15 ∨ n = 16 := by omega
  rcases hn with rfl | rfl | rfl | rfl | rfl | rfl | rfl | rfl | rfl | rfl | rfl | rfl | rfl | rfl | rfl | rfl
  all_goals
    go_enter Tryz.func49, Tryz.ntmps49
    go_wp2
    go_ret
    exact ⟨by rfl, rfl⟩
theorem box_below (w : World) (o : Obj) : Below w.heap.size w (w.alloc o) := (Below.refl _ _).alloc (Nat.le_refl _) o
theorem may_any (W D J S : Int) (w : World) : Tells 23 #[cf W D J S] w (.bool (may W D J S)) := by
  by_cases h1 : wi W 1 8 = true
  · by_cases h2 : wi D 1 16 = true
    · have HD := Lib.hid (wi_true.1 h2)
      cases h3 : p2 D
      · rw [show may W D J S = false by unfold may; rw [h3]; simp]
        go_enter Tryz.func23, Tryz.ntmps23
        go_wp2_with (first | (go_at_call 48; (with_reducible refine (within_any _ _ _ _).mono ?_); rintro _ _ ⟨rfl, rfl⟩) | (go_at_call 49; (with_reducible refine (pow_any _ _ HD.out).mono ?_); rintro _ _ ⟨rfl, rfl⟩))
        go_ret
        exact ⟨rfl, box_below _ _⟩
      · cases h4 : wi J 1 16
        · rw [show may W D J S = false by unfold may; rw [h4]; simp]
          go_enter Tryz.func23, Tryz.ntmps23
          go_wp2_with (first | (go_at_call 48; (with_reducible refine (within_any _ _ _ _).mono ?_); rintro _ _ ⟨rfl, rfl⟩) | (go_at_call 49; (with_reducible refine (pow_any _ _ HD.out).mono ?_); rintro _ _ ⟨rfl, rfl⟩))
          go_ret
          exact ⟨rfl, box_below _ _⟩
        · rw [show may W D J S = wi S 0 4 by unfold may; rw [h1, h2, h3, h4]; simp]
          go_enter Tryz.func23, Tryz.ntmps23
          go_wp2_with (first | (go_at_call 48; (with_reducible refine (within_any _ _ _ _).mono ?_); rintro _ _ ⟨rfl, rfl⟩) | (go_at_call 49; (with_reducible refine (pow_any _ _ HD.out).mono ?_); rintro _ _ ⟨rfl, rfl⟩))
          go_ret
          exact ⟨rfl, box_below _ _⟩
    · replace h2 : wi D 1 16 = false := by simpa using h2
      rw [show may W D J S = false by unfold may; rw [h2]; simp]
      go_enter Tryz.func23, Tryz.ntmps23
      go_wp2_with (go_at_call 48; (with_reducible refine (within_any _ _ _ _).mono ?_); rintro _ _ ⟨rfl, rfl⟩)
      go_ret
      exact ⟨rfl, box_below _ _⟩
  · replace h1 : wi W 1 8 = false := by simpa using h1
    rw [show may W D J S = false by unfold may; rw [h1]; simp]
    go_enter Tryz.func23, Tryz.ntmps23
    go_wp2_with (go_at_call 48; (with_reducible refine (within_any _ _ _ _).mono ?_); rintro _ _ ⟨rfl, rfl⟩)
    go_ret
    exact ⟨rfl, box_below _ _⟩
end Go.Proofs.YtlpkccpijloidaaGreat
namespace Go.Proofs.YtlpkccpijloidaaGreat
set_option maxRecDepth 100000
open Go.RowKit Go.Deep
/-- What begins hands back: a closure over two cells. -/
def RetB (w : World) (a b : Int) (e : Ending) (w' : World) : Prop :=
  ∃ p q : Addr, e = .returned (.func (.func 71) #[] #[.pointer (some p), .pointer (some q)]) ∧ w'.cell? p = some (.int .i64 a) ∧ w'.cell? q = some (.int .i64 b) ∧ Below w.heap.size w w'
theorem begins_any (W D J S : Int) (w : World) (hD : 1 ≤ D ∧ D ≤ 16) (hJ : 1 ≤ J ∧ J ≤ 16) : Calls Tryz.prog 50 #[cf W D J S] w (RetB w (6 + 2 * J) (3 + D)) := by
  have hmf : ∀ (fn : Fn) (first cap : Array Value) (w : World), (Instr.makeFunc fn first cap).run Tryz.prog w = .ok (.func fn first cap) w := fun _ _ _ _ => rfl
  obtain ⟨d1, d2⟩ := hD
  obtain ⟨j1, j2⟩ := hJ
  go_enter Tryz.func50, Tryz.ntmps50
  go_wp2
  go_region
  all_goals
    go_wp2
    go_ret
    exact ⟨_, _, rfl, by go_simp, by go_simp, (((box_below w _).alloc (by simp) _).alloc (by simp; omega) _).drew⟩
theorem begins1_any (x a b : Int) (p q : Addr) (w : World) (hp : w.cell? p = some (.int .i64 a)) (hq : w.cell? q = some (.int .i64 b)) (ha : 0 ≤ a ∧ a ≤ 1000) (hb : 0 ≤ b ∧ b ≤ 100) (hx : 0 ≤ x ∧ x ≤ 100) :
    Gives 71 #[.int .i64 x, .pointer (some p), .pointer (some q)] w (.int .i64 (a + x * b)) := by
  have h1 : 0 ≤ x * b := Int.mul_nonneg hx.1 hb.1
  have h2 : x * b ≤ 100 * 100 := Int.mul_le_mul hx.2 hb.2 hb.1 (by omega)
  obtain ⟨a1, a2⟩ := ha
  go_enter Tryz.func71, Tryz.ntmps71
  go_wp2
  go_ret
  exact ⟨rfl, rfl⟩
theorem modulo_any (x n : Int) (w : World) (hx : U x) (hn : 1 ≤ n ∧ n ≤ 16) : Gives 167 #[.int .u64 x, .int .i64 n] w (.int .i64 (x % n)) := by
  obtain ⟨x1, x2⟩ := hx
  obtain ⟨n1, n2⟩ := hn
  go_enter Tryz.func167, Tryz.ntmps167
  go_wp2
  go_ret
  refine ⟨?_, rfl⟩
  have h0 := Int.emod_nonneg x (show n ≠ 0 by omega)
  have h1 := Int.emod_lt_of_pos x (show 0 < n by omega)
  have e : wrap64 (x % n) = x % n := by unfold wrap64; omega
  rw [e]
  rfl
/-- A layout lies in block g. -/
def Bx (w : World) (g : Nat) (W D J S : Int) : Prop :=
  g < w.heap.size ∧ w.cell? ⟨g, 0, none⟩ = some (.int .i64 W) ∧ w.cell? ⟨g, 1, none⟩ = some (.int .i64 D) ∧ w.cell? ⟨g, 2, none⟩ = some (.int .i64 J) ∧ w.cell? ⟨g, 3, none⟩ = some (.int .i64 S)
theorem Bx.mk (w : World) (W D J S : Int) (t : TypeId) : Bx (w.alloc (.cells #[.int .i64 W, .int .i64 D, .int .i64 J, .int .i64 S] t)) w.heap.size W D J S := by
  refine ⟨by simp, ?_, ?_, ?_, ?_⟩ <;> go_simp
theorem Bx.below {w w' : World} {g : Nat} {W D J S : Int} (h : Bx w g W D J S) (hb : Below w.heap.size w w') : Bx w' g W D J S :=
  ⟨Nat.lt_of_lt_of_le h.1 hb.size, (hb.cell (p := ⟨g, 0, none⟩) h.1).trans h.2.1, (hb.cell (p := ⟨g, 1, none⟩) h.1).trans h.2.2.1, (hb.cell (p := ⟨g, 2, none⟩) h.1).trans h.2.2.2.1, (hb.cell (p := ⟨g, 3, none⟩) h.1).trans h.2.2.2.2⟩
theorem Bx.drew {w : World} {g : Nat} {W D J S : Int} (h : Bx w g W D J S) : Bx w.drew g W D J S := h
theorem may_lim {W D J S : Int} (h : may W D J S = true) : (1 ≤ W ∧ W ≤ 8) ∧ (1 ≤ D ∧ D ≤ 16) ∧ (1 ≤ J ∧ J ≤ 16) ∧ (0 ≤ S ∧ S ≤ 4) := by
  unfold may at h
  simp only [Bool.and_eq_true, wi_true] at h
  omega
theorem bg_lim {D J x : Int} (hD : 1 ≤ D ∧ D ≤ 16) (hJ : 1 ≤ J ∧ J ≤ 16) (hx : 0 ≤ x ∧ x ≤ 8) : 8 ≤ bg D J x ∧ bg D J x ≤ 190 := by
  have h1 : 0 ≤ x * (3 + D) := Int.mul_nonneg hx.1 (by omega)
  have h2 : x * (3 + D) ≤ 8 * 19 := Int.mul_le_mul hx.2 (by omega) (by omega) (by omega)
  unfold bg
  omega
/-- How many cells there are. -/
def sz (W D J S : Int) : Int := if may W D J S then bg D J W else 0
theorem size_no (W D J S : Int) (w : World) (h : may W D J S = false) : Tells 24 #[cf W D J S] w (.int .i64 0) := by
  have HM := Lib.hid h
  clear h
  go_enter Tryz.func24, Tryz.ntmps24
  go_wp2_with fail
  refine (Tells.of (may_any W D J S _) (v' := .bool false) (by rw [HM.out])).mono ?_
  rintro _ w1 ⟨rfl, z1⟩
  have HZ := Lib.hid ((box_below w _).trans (z1.mono (by simp)))
  clear z1
  go_wp2
  go_ret
  exact ⟨rfl, HZ.out⟩
theorem size_yes (W D J S : Int) (w : World) (h : may W D J S = true) : Tells 24 #[cf W D J S] w (.int .i64 (bg D J W)) := by
  have HM := Lib.hid h
  obtain ⟨hW, hD, hJ, hS⟩ := may_lim h
  clear h
  go_enter Tryz.func24, Tryz.ntmps24
  go_wp2_with fail
  refine (Tells.of (may_any W D J S _) (v' := .bool true) (by rw [HM.out])).mono ?_
  rintro _ w1 ⟨rfl, z1⟩
  have HZ := Lib.hid ((box_below w _).trans (z1.mono (by simp)))
  obtain ⟨g0, c0, c1, c2, c3⟩ := (Bx.mk w W D J S 23).below z1
  clear z1
  go_wp2_with fail
  go_region_with (first
    | (go_at_call 50; (with_reducible refine (begins_any _ _ _ _ _ hD hJ).mono ?_); rintro _ w2 ⟨p, q, rfl, hp, hq, z2⟩; have k0 : w2.cell? ⟨w.heap.size, 0, none⟩ = some (.int .i64 W) := (z2.cell (p := ⟨w.heap.size, 0, none⟩) g0).trans c0)
    | (go_at_call 71; (with_reducible refine (begins1_any _ _ _ _ _ _ hp hq ⟨by omega, by omega⟩ ⟨by omega, by omega⟩ ⟨by omega, by omega⟩).mono ?_); rintro _ _ ⟨rfl, rfl⟩))
  all_goals
    go_wp2
    go_ret
    exact ⟨rfl, HZ.out.drew.trans (z2.mono HZ.out.drew.size)⟩
theorem size_any (W D J S : Int) (w : World) : Tells 24 #[cf W D J S] w (.int .i64 (sz W D J S)) := by
  unfold sz
  cases h : may W D J S
  · exact size_no W D J S w h
  · exact size_yes W D J S w h
/-- A worker's cell. -/
def ow (W D J S x k : Int) : Int := if may W D J S && wi x 0 (W - 1) then bg D J x + k else -1
theorem own_may (W D J S x k : Int) (w : World) (h : may W D J S = false) : Tells 96 #[cf W D J S, .int .i64 x, .int .i64 k] w (.int .i64 (-1)) := by
  have HM := Lib.hid h
  clear h
  go_enter Tryz.func96, Tryz.ntmps96
  go_wp2_with fail
  refine (Tells.of (may_any W D J S _) (v' := .bool false) (by rw [HM.out])).mono ?_
  rintro _ w1 ⟨rfl, z1⟩
  have HZ := Lib.hid ((box_below w _).trans (z1.mono (by simp)))
  clear z1
  go_wp2
  go_ret
  exact ⟨rfl, HZ.out⟩
theorem own_no (W D J S x k : Int) (w : World) (h : may W D J S = true) (hx : wi x 0 (W - 1) = false) : Tells 96 #[cf W D J S, .int .i64 x, .int .i64 k] w (.int .i64 (-1)) := by
  have HM := Lib.hid h
  obtain ⟨⟨w1', w2'⟩, hD, hJ, hS⟩ := may_lim h
  clear h
  go_enter Tryz.func96, Tryz.ntmps96
  go_wp2_with fail
  refine (Tells.of (may_any W D J S _) (v' := .bool true) (by rw [HM.out])).mono ?_
  rintro _ w1 ⟨rfl, z1⟩
  have HZ := Lib.hid ((box_below w _).trans (z1.mono (by simp)))
  obtain ⟨g0, c0, c1, c2, c3⟩ := (Bx.mk w W D J S 23).below z1
  clear z1
  go_wp2_with fail
  refine (within_any _ _ _ _).mono ?_
  rintro _ _ ⟨rfl, rfl⟩
  go_wp2
  go_ret
  exact ⟨rfl, HZ.out⟩
theorem own_yes (W D J S x k : Int) (w : World) (h : may W D J S = true) (hx : wi x 0 (W - 1) = true) (hk : 0 ≤ k ∧ k ≤ 3) : Tells 96 #[cf W D J S, .int .i64 x, .int .i64 k] w (.int .i64 (bg D J x + k)) := by
  have HM := Lib.hid h
  obtain ⟨⟨w1', w2'⟩, hD, hJ, hS⟩ := may_lim h
  have hx' := wi_true.1 hx
  obtain ⟨b1, b2⟩ := bg_lim hD hJ (x := x) ⟨hx'.1, by omega⟩
  unfold bg at b1 b2
  obtain ⟨k1, k2⟩ := hk
  clear h
  go_enter Tryz.func96, Tryz.ntmps96
  go_wp2_with fail
  refine (Tells.of (may_any W D J S _) (v' := .bool true) (by rw [HM.out])).mono ?_
  rintro _ w1 ⟨rfl, z1⟩
  have HZ := Lib.hid ((box_below w _).trans (z1.mono (by simp)))
  obtain ⟨g0, c0, c1, c2, c3⟩ := (Bx.mk w W D J S 23).below z1
  clear z1
  go_wp2_with fail
  refine (within_any _ _ _ _).mono ?_
  rintro _ _ ⟨rfl, rfl⟩
  go_wp2_with fail
  refine (begins_any _ _ _ _ _ hD hJ).mono ?_
  rintro _ w2 ⟨p, q, rfl, hp, hq, z2⟩
  replace HZ := Lib.hid (HZ.out.trans (z2.mono HZ.out.size))
  clear z2
  go_wp2_with fail
  refine (begins1_any _ _ _ _ _ _ hp hq ⟨by omega, by omega⟩ ⟨by omega, by omega⟩ ⟨by omega, by omega⟩).mono ?_
  rintro _ _ ⟨rfl, rfl⟩
  go_wp2
  go_ret
  exact ⟨rfl, HZ.out⟩
theorem own_any (W D J S x k : Int) (w : World) (hk : 0 ≤ k ∧ k ≤ 3) : Tells 96 #[cf W D J S, .int .i64 x, .int .i64 k] w (.int .i64 (ow W D J S x k)) := by
  unfold ow
  cases h : may W D J S
  · exact own_may W D J S x k w h
  · cases hx : wi x 0 (W - 1)
    · exact own_no W D J S x k w h hx
    · exact own_yes W D J S x k w h hx hk
end Go.Proofs.YtlpkccpijloidaaGreat
