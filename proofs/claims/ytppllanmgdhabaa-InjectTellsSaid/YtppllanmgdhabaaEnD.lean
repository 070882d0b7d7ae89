/- Contracts of package enq: there, Goes, Length, and what tells the step that comes next. -/
import Derived.Test.YtppllanmgdhabaaEnA
import Derived.IntWalk
namespace Go.Proofs.Ytppllanmgdhabaa
open Go.RowKit Go.Deep
set_option maxRecDepth 100000 in
theorem qthere_any (W D J S : Int) (A : Option Addr) (n c : Nat) (m : List Int) (w : World) (hn : m.length = n) : Tells 54 #[cf W D J S, .slice A n c] w (.bool (okm W D J S m)) := by
  have hs : ((n : Int) == sz W D J S) = decide ((m.length : Int) = sz W D J S) := by rw [hn]; exact Bool.eq_iff_iff.2 (by simp)
  unfold okm
  cases h1 : may W D J S
  · have HM := Lib.hid h1
    rw [show (false && decide ((m.length : Int) = sz W D J S)) = false by simp]
    clear h1 hs hn
    go_enter Try.func54, Try.ntmps54
    go_wp2_with fail
    refine (Tells.of (may_any W D J S _) (v' := .bool false) (by rw [HM.out])).mono ?_
    rintro _ w1 ⟨rfl, z1⟩
    have HZ := Lib.hid ((box_below w _).trans (z1.mono (by simp)))
    clear z1
    go_wp2
    go_ret
    exact ⟨rfl, HZ.out⟩
  · have HM := Lib.hid h1
    have hz : sz W D J S = bg D J W := by unfold sz; rw [h1]; rfl
    rw [hz] at hs
    have HZ0 := Lib.hid h1
    rw [hz, show (true && decide ((m.length : Int) = bg D J W)) = ((n : Int) == bg D J W) by rw [hs]; simp]
    clear h1 hz hn hs
    go_enter Try.func54, Try.ntmps54
    go_wp2_with fail
    refine (Tells.of (may_any W D J S _) (v' := .bool true) (by rw [HM.out])).mono ?_
    rintro _ w1 ⟨rfl, z1⟩
    have HZ := Lib.hid ((box_below w _).trans (z1.mono (by simp)))
    obtain ⟨g0, c0, c1, c2, c3⟩ := (Bx.mk w W D J S 23).below z1
    clear z1
    go_wp2_with fail
    refine (size_yes W D J S _ HZ0.out).mono ?_
    rintro _ w2 ⟨rfl, z2⟩
    have HZ2 := Lib.hid (HZ.out.trans (z2.mono HZ.out.size))
    clear z2
    go_wp2
    go_ret
    exact ⟨rfl, HZ2.out⟩
set_option maxRecDepth 100000 in
theorem qgoes_any (W D J S op : Int) (A : Option Addr) (n c : Nat) (m : List Int) (f : Fr) (w : World) (hn : m.length = n) : Tells 58 #[cf W D J S, .slice A n c, fv f, .int .i64 op] w (.bool (goesE W D J S m f op)) := by
  obtain ⟨BX, BF, Z, hz⟩ := boxes2 w W D J S f
  have h1 : w.heap.size < (bxc w W D J S f).heap.size := by omega
  have h2 : w.heap.size + 1 < (bxc w W D J S f).heap.size := by omega
  unfold goesE
  obtain ⟨o, p, q, v, x, y, s⟩ := f
  have h5 : decide (p ≤ 4) = decide (p < 5) := by rw [Bool.eq_iff_iff]; simp; omega
  simp only
  rw [h5]
  cases e1 : okm W D J S m
  · cases e2 : (s != 0)
    all_goals
      rw [show (false && decide (s = 0) && decide (o = op) && decide (0 ≤ p) && decide (p < 5)) = false by simp]
      have HE := Lib.hid e1
      have HV := Lib.hid e2
      clear e1 e2 h5
      go_enter Try.func58, Try.ntmps58
      go_wp2_with fail
      change Calls _ _ _ (bxc w W D J S ⟨o, p, q, v, x, y, s⟩) _
      generalize bxc w W D J S ⟨o, p, q, v, x, y, s⟩ = w0 at BX BF Z hz h1 h2 ⊢
      refine (Tells.of (qthere_any W D J S A n c m _ hn) (v' := .bool false) (by rw [HE.out])).mono ?_
      rintro _ w1 ⟨rfl, z1⟩
      obtain ⟨a0, a1, a2, a3, a4, a5, a6⟩ := (BF.below z1 h2).cells
      have HZ := Lib.hid (Z.trans (z1.mono (by omega)))
      clear z1
      go_wp2
      go_ret
      exact ⟨rfl, HZ.out⟩
  · cases e2 : (s != 0)
    · have e3 : decide (s = 0) = true := by simpa using e2
      cases e4 : (o == op)
      · rw [show (true && decide (s = 0) && decide (o = op) && decide (0 ≤ p) && decide (p < 5)) = false by
          have : decide (o = op) = false := by simpa using e4
          simp [this]]
        have HE := Lib.hid e1
        have HV := Lib.hid e2
        clear e1 e2 e3 h5
        go_enter Try.func58, Try.ntmps58
        go_wp2_with fail
        change Calls _ _ _ (bxc w W D J S ⟨o, p, q, v, x, y, s⟩) _
        generalize bxc w W D J S ⟨o, p, q, v, x, y, s⟩ = w0 at BX BF Z hz h1 h2 ⊢
        refine (Tells.of (qthere_any W D J S A n c m _ hn) (v' := .bool true) (by rw [HE.out])).mono ?_
        rintro _ w1 ⟨rfl, z1⟩
        obtain ⟨a0, a1, a2, a3, a4, a5, a6⟩ := (BF.below z1 h2).cells
        go_wp2_with fail
        refine (Tells.of (over_any ⟨o, p, q, v, x, y, s⟩ _) (v' := .bool false) (by rw [← HV.out])).mono ?_
        rintro _ w2 ⟨rfl, z2⟩
        have z3 := keep_call (w2 := w0) z2 z1
        obtain ⟨a0, a1, a2, a3, a4, a5, a6⟩ := (BF.below z3 h2).cells
        have HZ := Lib.hid (Z.trans (z3.mono (by omega)))
        clear z1 z2 z3
        go_wp2
        go_ret
        exact ⟨rfl, HZ.out⟩
      · cases e5 : decide (0 ≤ p)
        · rw [show (true && decide (s = 0) && decide (o = op) && false && decide (p < 5)) = false by simp]
          have HE := Lib.hid e1
          have HV := Lib.hid e2
          clear e1 e2 e3 h5
          go_enter Try.func58, Try.ntmps58
          go_wp2_with fail
          change Calls _ _ _ (bxc w W D J S ⟨o, p, q, v, x, y, s⟩) _
          generalize bxc w W D J S ⟨o, p, q, v, x, y, s⟩ = w0 at BX BF Z hz h1 h2 ⊢
          refine (Tells.of (qthere_any W D J S A n c m _ hn) (v' := .bool true) (by rw [HE.out])).mono ?_
          rintro _ w1 ⟨rfl, z1⟩
          obtain ⟨a0, a1, a2, a3, a4, a5, a6⟩ := (BF.below z1 h2).cells
          go_wp2_with fail
          refine (Tells.of (over_any ⟨o, p, q, v, x, y, s⟩ _) (v' := .bool false) (by rw [← HV.out])).mono ?_
          rintro _ w2 ⟨rfl, z2⟩
          have z3 := keep_call (w2 := w0) z2 z1
          obtain ⟨a0, a1, a2, a3, a4, a5, a6⟩ := (BF.below z3 h2).cells
          have HZ := Lib.hid (Z.trans (z3.mono (by omega)))
          clear z1 z2 z3
          go_wp2
          go_ret
          exact ⟨rfl, HZ.out⟩
        · rw [show (true && decide (s = 0) && decide (o = op) && true && decide (p < 5)) = decide (p < 5) by
            have : decide (o = op) = true := by simpa using e4
            simp [this, e3]]
          have HE := Lib.hid e1
          have HV := Lib.hid e2
          clear e1 e2 e3 h5
          go_enter Try.func58, Try.ntmps58
          go_wp2_with fail
          change Calls _ _ _ (bxc w W D J S ⟨o, p, q, v, x, y, s⟩) _
          generalize bxc w W D J S ⟨o, p, q, v, x, y, s⟩ = w0 at BX BF Z hz h1 h2 ⊢
          refine (Tells.of (qthere_any W D J S A n c m _ hn) (v' := .bool true) (by rw [HE.out])).mono ?_
          rintro _ w1 ⟨rfl, z1⟩
          obtain ⟨a0, a1, a2, a3, a4, a5, a6⟩ := (BF.below z1 h2).cells
          go_wp2_with fail
          refine (Tells.of (over_any ⟨o, p, q, v, x, y, s⟩ _) (v' := .bool false) (by rw [← HV.out])).mono ?_
          rintro _ w2 ⟨rfl, z2⟩
          have z3 := keep_call (w2 := w0) z2 z1
          obtain ⟨a0, a1, a2, a3, a4, a5, a6⟩ := (BF.below z3 h2).cells
          have HZ := Lib.hid (Z.trans (z3.mono (by omega)))
          clear z1 z2 z3
          go_wp2
          go_ret
          exact ⟨rfl, HZ.out⟩
    · have e3 : decide (s = 0) = false := by simpa using e2
      rw [show (true && decide (s = 0) && decide (o = op) && decide (0 ≤ p) && decide (p < 5)) = false by simp [e3]]
      have HE := Lib.hid e1
      have HV := Lib.hid e2
      clear e1 e2 e3 h5
      go_enter Try.func58, Try.ntmps58
      go_wp2_with fail
      change Calls _ _ _ (bxc w W D J S ⟨o, p, q, v, x, y, s⟩) _
      generalize bxc w W D J S ⟨o, p, q, v, x, y, s⟩ = w0 at BX BF Z hz h1 h2 ⊢
      refine (Tells.of (qthere_any W D J S A n c m _ hn) (v' := .bool true) (by rw [HE.out])).mono ?_
      rintro _ w1 ⟨rfl, z1⟩
      obtain ⟨a0, a1, a2, a3, a4, a5, a6⟩ := (BF.below z1 h2).cells
      go_wp2_with fail
      refine (Tells.of (over_any ⟨o, p, q, v, x, y, s⟩ _) (v' := .bool true) (by rw [← HV.out])).mono ?_
      rintro _ w2 ⟨rfl, z2⟩
      have z3 := keep_call (w2 := w0) z2 z1
      obtain ⟨a0, a1, a2, a3, a4, a5, a6⟩ := (BF.below z3 h2).cells
      have HZ := Lib.hid (Z.trans (z3.mono (by omega)))
      clear z1 z2 z3
      go_wp2
      go_ret
      exact ⟨rfl, HZ.out⟩
set_option maxRecDepth 100000 in
theorem qlen_any (W D J S : Int) (A : Option Addr) (n c : Nat) (m : List Int) (w : World) (h : Rd w A m) (hn : m.length = n) (hs : n ≤ 500) : Tells 24 #[cf W D J S, .slice A n c] w (.int .i64 (ilen W D J S m)) := by
  have BX := Lib.hid (Bx.mk w W D J S 23)
  have H := Lib.hid h
  have HN := Lib.hid hn
  have HS := Lib.hid hs
  clear h hn hs
  unfold ilen
  cases e1 : okm W D J S m
  · have E1 := Lib.hid e1
    simp only [Bool.false_eq_true, if_false]
    clear e1
    go_enter Try.func24, Try.ntmps24
    go_wp2_with fail
    refine (Tells.of (qthere_any W D J S A n c m _ HN.out) (v' := .bool false) (by rw [E1.out])).mono ?_
    rintro _ w1 ⟨rfl, z1⟩
    have HZ := Lib.hid ((box_below w _).trans (z1.mono (by simp)))
    clear z1
    go_wp2
    go_ret
    exact ⟨rfl, HZ.out⟩
  · have E1 := Lib.hid e1
    simp only [if_true]
    clear e1
    go_enter Try.func24, Try.ntmps24
    go_wp2_with fail
    refine (Tells.of (qthere_any W D J S A n c m _ HN.out) (v' := .bool true) (by rw [E1.out])).mono ?_
    rintro _ w1 ⟨rfl, z1⟩
    have HZ := Lib.hid ((box_below w _).trans (z1.mono (by simp)))
    clear z1
    go_wp2_with fail
    refine (load_any A n c m 5 _ (H.out.below HZ.out) HN.out HS.out).mono ?_
    rintro _ w2 ⟨rfl, z2⟩
    have HZ2 := Lib.hid (HZ.out.trans (z2.mono HZ.out.size))
    clear z2
    go_wp2_with fail
    refine (load_any A n c m 4 _ (H.out.below HZ2.out) HN.out HS.out).mono ?_
    rintro _ w3 ⟨rfl, z3⟩
    have HZ3 := Lib.hid (HZ2.out.trans (z3.mono HZ2.out.size))
    clear z3
    go_wp2_with fail
    refine (far_any _ _ _).mono ?_
    rintro _ _ ⟨rfl, rfl⟩
    go_wp2
    go_ret
    exact ⟨rfl, HZ3.out⟩
section
attribute [local go_sem] run_store_func run_makeFunc
/-- What order hands back: a closure over two variables: the steps, and where the call is. -/
def RetOr (w : World) (g : Nat) (e : Ending) (w' : World) : Prop :=
  ∃ a b : Nat, e = .returned (.func (.func 87) #[] #[.pointer (some ⟨a, 0, none⟩), .pointer (some ⟨b, 0, none⟩)]) ∧ w'.cell? ⟨a, 0, none⟩ = some (.func (.func 82) #[.pointer (some ⟨g, 0, none⟩)] #[]) ∧ w'.cell? ⟨a, 1, none⟩ = some (.func (.func 83) #[.pointer (some ⟨g, 0, none⟩)] #[]) ∧ w'.cell? ⟨a, 2, none⟩ = some (.func (.func 84) #[.pointer (some ⟨g, 0, none⟩)] #[]) ∧ w'.cell? ⟨a, 3, none⟩ = some (.func (.func 85) #[.pointer (some ⟨g, 0, none⟩)] #[]) ∧ w'.cell? ⟨a, 4, none⟩ = some (.func (.func 86) #[.pointer (some ⟨g, 0, none⟩)] #[])
    ∧ w'.cell? ⟨b, 0, none⟩ = some (.pointer (some ⟨g, 0, none⟩)) ∧ Below w.heap.size w w'
set_option maxRecDepth 100000 in
theorem order_any (g : Nat) (w : World) : Calls Try.prog 59 #[.pointer (some ⟨g, 0, none⟩)] w (RetOr w g) := by
  go_enter Try.func59, Try.ntmps59
  go_wp2
  go_ret
  exact ⟨w.heap.size + 1, w.heap.size, rfl, by go_simp, by go_simp, by go_simp, by go_simp, by go_simp, by go_simp, (box_below w _).alloc (by simp) _⟩
set_option maxRecDepth 100000 in
theorem order1_any (g a b : Nat) (k : Nat) (hk : k < 5) (W D J S : Int) (v : Value) (f : Fr) (V : Value) (w : World) (hB : Bq w g W D J S v f) (hp : f.pc = k) (hV : w.cell? ⟨a, k, none⟩ = some V) (hb : w.cell? ⟨b, 0, none⟩ = some (.pointer (some ⟨g, 0, none⟩))) :
    Gives 87 #[.pointer (some ⟨a, 0, none⟩), .pointer (some ⟨b, 0, none⟩)] w V := by
  have c6 := hB.cells.2.2.2.2.2.2.1
  rw [hp] at c6
  clear hB hp
  go_enter Try.func87, Try.ntmps87
  go_wp2
  go_ret
  exact ⟨rfl, rfl⟩
end
end Go.Proofs.Ytppllanmgdhabaa
