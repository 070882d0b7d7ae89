/- Contracts of package lay: where a worker's cells begin, and all that is told by it. -/
import Derived.Test.YtgemaeibmgkneaaLayA
namespace Go.Proofs.Ytgemaeibmgkneaa
open Go.RowKit Go.Deep
/-- What begins hands back: a closure over two cells. -/
def RetB (w : World) (a b : Int) (e : Ending) (w' : World) : Prop :=
  ∃ p q : Addr, e = .returned (.func (.func 64) #[] #[.pointer (some p), .pointer (some q)]) ∧ w'.cell? p = some (.int .i64 a) ∧ w'.cell? q = some (.int .i64 b) ∧ Below w.heap.size w w'
set_option maxRecDepth 100000 in
theorem begins_any (W D J S : Int) (w : World) (hD : 1 ≤ D ∧ D ≤ 16) (hJ : 1 ≤ J ∧ J ≤ 16) : Calls Try.prog 49 #[cf W D J S] w (RetB w (6 + 2 * J) (3 + D)) := by
  have hmf : ∀ (fn : Fn) (first cap : Array Value) (w : World), (Instr.makeFunc fn first cap).run Try.prog w = .ok (.func fn first cap) w := fun _ _ _ _ => rfl
  obtain ⟨d1, d2⟩ := hD
  obtain ⟨j1, j2⟩ := hJ
  go_enter Try.func49, Try.ntmps49
  go_wp2
  go_region
  all_goals
    go_wp2
    go_ret
    exact ⟨_, _, rfl, by go_simp, by go_simp, (((box_below w _).alloc (by simp) _).alloc (by simp; omega) _).drew⟩
set_option maxRecDepth 100000 in
theorem begins1_any (x a b : Int) (p q : Addr) (w : World) (hp : w.cell? p = some (.int .i64 a)) (hq : w.cell? q = some (.int .i64 b)) (ha : 0 ≤ a ∧ a ≤ 1000) (hb : 0 ≤ b ∧ b ≤ 100) (hx : 0 ≤ x ∧ x ≤ 100) :
    Gives 64 #[.int .i64 x, .pointer (some p), .pointer (some q)] w (.int .i64 (a + x * b)) := by
  have h1 : 0 ≤ x * b := Int.mul_nonneg hx.1 hb.1
  have h2 : x * b ≤ 100 * 100 := Int.mul_le_mul hx.2 hb.2 hb.1 (by omega)
  obtain ⟨a1, a2⟩ := ha
  go_enter Try.func64, Try.ntmps64
  go_wp2
  go_ret
  exact ⟨rfl, rfl⟩
/-- A layout lies in block g. -/
def Bx (w : World) (g : Nat) (W D J S : Int) : Prop :=
  g < w.heap.size ∧ w.cell? ⟨g, 0, none⟩ = some (.int .i64 W) ∧ w.cell? ⟨g, 1, none⟩ = some (.int .i64 D) ∧ w.cell? ⟨g, 2, none⟩ = some (.int .i64 J) ∧ w.cell? ⟨g, 3, none⟩ = some (.int .i64 S)
set_option maxRecDepth 100000 in
theorem Bx.mk (w : World) (W D J S : Int) (t : TypeId) : Bx (w.alloc (.cells #[.int .i64 W, .int .i64 D, .int .i64 J, .int .i64 S] t)) w.heap.size W D J S := by
  refine ⟨by simp, ?_, ?_, ?_, ?_⟩ <;> go_simp
set_option maxRecDepth 100000 in
theorem Bx.below {w w' : World} {g : Nat} {W D J S : Int} (h : Bx w g W D J S) (hb : Below w.heap.size w w') : Bx w' g W D J S :=
  ⟨Nat.lt_of_lt_of_le h.1 hb.size, (hb.cell (p := ⟨g, 0, none⟩) h.1).trans h.2.1, (hb.cell (p := ⟨g, 1, none⟩) h.1).trans h.2.2.1, (hb.cell (p := ⟨g, 2, none⟩) h.1).trans h.2.2.2.1, (hb.cell (p := ⟨g, 3, none⟩) h.1).trans h.2.2.2.2⟩
set_option maxRecDepth 100000 in
theorem Bx.drew {w : World} {g : Nat} {W D J S : Int} (h : Bx w g W D J S) : Bx w.drew g W D J S := h
set_option maxRecDepth 100000 in
theorem may_lim {W D J S : Int} (h : may W D J S = true) : (1 ≤ W ∧ W ≤ 8) ∧ (1 ≤ D ∧ D ≤ 16) ∧ (1 ≤ J ∧ J ≤ 16) ∧ (0 ≤ S ∧ S ≤ 4) := by
  unfold may at h
  simp only [Bool.and_eq_true, wi_true] at h
  omega
set_option maxRecDepth 100000 in
theorem bg_lim {D J x : Int} (hD : 1 ≤ D ∧ D ≤ 16) (hJ : 1 ≤ J ∧ J ≤ 16) (hx : 0 ≤ x ∧ x ≤ 8) : 8 ≤ bg D J x ∧ bg D J x ≤ 190 := by
  have h1 : 0 ≤ x * (3 + D) := Int.mul_nonneg hx.1 (by omega)
  have h2 : x * (3 + D) ≤ 8 * 19 := Int.mul_le_mul hx.2 (by omega) (by omega) (by omega)
  unfold bg
  omega
/-- How many cells there are. -/
def sz (W D J S : Int) : Int := if may W D J S then bg D J W else 0
set_option maxRecDepth 100000 in
theorem size_no (W D J S : Int) (w : World) (h : may W D J S = false) : Tells 41 #[cf W D J S] w (.int .i64 0) := by
  have HM := Lib.hid h
  clear h
  go_enter Try.func41, Try.ntmps41
  go_wp2_with fail
  refine (Tells.of (may_any W D J S _) (v' := .bool false) (by rw [HM.out])).mono ?_
  rintro _ w1 ⟨rfl, z1⟩
  have HZ := Lib.hid ((box_below w _).trans (z1.mono (by simp)))
  clear z1
  go_wp2
  go_ret
  exact ⟨rfl, HZ.out⟩
set_option maxRecDepth 100000 in
theorem size_yes (W D J S : Int) (w : World) (h : may W D J S = true) : Tells 41 #[cf W D J S] w (.int .i64 (bg D J W)) := by
  have HM := Lib.hid h
  obtain ⟨hW, hD, hJ, hS⟩ := may_lim h
  clear h
  go_enter Try.func41, Try.ntmps41
  go_wp2_with fail
  refine (Tells.of (may_any W D J S _) (v' := .bool true) (by rw [HM.out])).mono ?_
  rintro _ w1 ⟨rfl, z1⟩
  have HZ := Lib.hid ((box_below w _).trans (z1.mono (by simp)))
  obtain ⟨g0, c0, c1, c2, c3⟩ := (Bx.mk w W D J S 36).below z1
  clear z1
  go_wp2_with fail
  go_region_with (first
    | (go_at_call 49; (with_reducible refine (begins_any _ _ _ _ _ hD hJ).mono ?_); rintro _ w2 ⟨p, q, rfl, hp, hq, z2⟩; have k0 : w2.cell? ⟨w.heap.size, 0, none⟩ = some (.int .i64 W) := (z2.cell (p := ⟨w.heap.size, 0, none⟩) g0).trans c0)
    | (go_at_call 64; (with_reducible refine (begins1_any _ _ _ _ _ _ hp hq ⟨by omega, by omega⟩ ⟨by omega, by omega⟩ ⟨by omega, by omega⟩).mono ?_); rintro _ _ ⟨rfl, rfl⟩))
  all_goals
    go_wp2
    go_ret
    exact ⟨rfl, HZ.out.drew.trans (z2.mono HZ.out.drew.size)⟩
set_option maxRecDepth 100000 in
theorem size_any (W D J S : Int) (w : World) : Tells 41 #[cf W D J S] w (.int .i64 (sz W D J S)) := by
  unfold sz
  cases h : may W D J S
  · exact size_no W D J S w h
  · exact size_yes W D J S w h
/-- A worker's cell. -/
def ow (W D J S x k : Int) : Int := if may W D J S && wi x 0 (W - 1) then bg D J x + k else -1
set_option maxRecDepth 100000 in
theorem own_may (W D J S x k : Int) (w : World) (h : may W D J S = false) : Tells 33 #[cf W D J S, .int .i64 x, .int .i64 k] w (.int .i64 (-1)) := by
  have HM := Lib.hid h
  clear h
  go_enter Try.func33, Try.ntmps33
  go_wp2_with fail
  refine (Tells.of (may_any W D J S _) (v' := .bool false) (by rw [HM.out])).mono ?_
  rintro _ w1 ⟨rfl, z1⟩
  have HZ := Lib.hid ((box_below w _).trans (z1.mono (by simp)))
  clear z1
  go_wp2
  go_ret
  exact ⟨rfl, HZ.out⟩
set_option maxRecDepth 100000 in
theorem own_no (W D J S x k : Int) (w : World) (h : may W D J S = true) (hx : wi x 0 (W - 1) = false) : Tells 33 #[cf W D J S, .int .i64 x, .int .i64 k] w (.int .i64 (-1)) := by
  have HM := Lib.hid h
  obtain ⟨⟨w1', w2'⟩, hD, hJ, hS⟩ := may_lim h
  clear h
  go_enter Try.func33, Try.ntmps33
  go_wp2_with fail
  refine (Tells.of (may_any W D J S _) (v' := .bool true) (by rw [HM.out])).mono ?_
  rintro _ w1 ⟨rfl, z1⟩
  have HZ := Lib.hid ((box_below w _).trans (z1.mono (by simp)))
  obtain ⟨g0, c0, c1, c2, c3⟩ := (Bx.mk w W D J S 36).below z1
  clear z1
  go_wp2_with fail
  refine (within_any _ _ _ _).mono ?_
  rintro _ _ ⟨rfl, rfl⟩
  go_wp2
  go_ret
  exact ⟨rfl, HZ.out⟩
set_option maxRecDepth 100000 in
theorem own_yes (W D J S x k : Int) (w : World) (h : may W D J S = true) (hx : wi x 0 (W - 1) = true) (hk : 0 ≤ k ∧ k ≤ 3) : Tells 33 #[cf W D J S, .int .i64 x, .int .i64 k] w (.int .i64 (bg D J x + k)) := by
  have HM := Lib.hid h
  obtain ⟨⟨w1', w2'⟩, hD, hJ, hS⟩ := may_lim h
  have hx' := wi_true.1 hx
  obtain ⟨b1, b2⟩ := bg_lim hD hJ (x := x) ⟨hx'.1, by omega⟩
  unfold bg at b1 b2
  obtain ⟨k1, k2⟩ := hk
  clear h
  go_enter Try.func33, Try.ntmps33
  go_wp2_with fail
  refine (Tells.of (may_any W D J S _) (v' := .bool true) (by rw [HM.out])).mono ?_
  rintro _ w1 ⟨rfl, z1⟩
  have HZ := Lib.hid ((box_below w _).trans (z1.mono (by simp)))
  obtain ⟨g0, c0, c1, c2, c3⟩ := (Bx.mk w W D J S 36).below z1
  clear z1
  go_wp2_with fail
  refine (within_any _ _ _ _).mono ?_
  rintro _ _ ⟨rfl, rfl⟩
  go_wp2_with fail
  refine (begins_any _ _ _ _ _ hD hJ).mono ?_
  rintro _ w2 ⟨p, q, rfl, hp, hq, z2⟩
  replace HZ := Lib.hid (HZ.out.trans (z2.mono HZ.out.size))
  clear z2
  go_wp2_with fail
  refine (begins1_any _ _ _ _ _ _ hp hq ⟨by omega, by omega⟩ ⟨by omega, by omega⟩ ⟨by omega, by omega⟩).mono ?_
  rintro _ _ ⟨rfl, rfl⟩
  go_wp2
  go_ret
  exact ⟨rfl, HZ.out⟩
set_option maxRecDepth 100000 in
theorem own_any (W D J S x k : Int) (w : World) (hk : 0 ≤ k ∧ k ≤ 3) : Tells 33 #[cf W D J S, .int .i64 x, .int .i64 k] w (.int .i64 (ow W D J S x k)) := by
  unfold ow
  cases h : may W D J S
  · exact own_may W D J S x k w h
  · cases hx : wi x 0 (W - 1)
    · exact own_no W D J S x k w h hx
    · exact own_yes W D J S x k w h hx hk
end Go.Proofs.Ytgemaeibmgkneaa
