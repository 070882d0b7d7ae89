/- The walk of CellAdd: what is added in two steps is as in one, around 2 to the 64 too. -/
import Derived.Test.YtjoihkfjalggjaaCellF
import Derived.OpenShut
namespace Go.Proofs.Ytjoihkfjalggjaa
open Go.RowKit Go.Deep
theorem u64_bd {x : Int} (h : (Lit.int .u64 x).wf = true) : 0 ≤ x ∧ x < 18446744073709551616 := by
  have := bounds_u64 h
  omega
theorem wrap_u64 (x : Int) : IntKind.u64.wrap x = x % 18446744073709551616 := by
  rw [IntKind.wrap_u64]
theorem w_two (a v u : Int) : IntKind.u64.wrap (IntKind.u64.wrap (a + v) + u) = IntKind.u64.wrap (a + IntKind.u64.wrap (v + u)) := by
  simp only [wrap_u64]; omega
theorem w_back (a v : Int) (h0 : 0 ≤ a) (h1 : a < 18446744073709551616) : IntKind.u64.wrap (IntKind.u64.wrap (a + v) + IntKind.u64.wrap (-v)) = a := by
  simp only [wrap_u64]; omega
theorem at0_bd {l : List Int} (h : ∀ n ∈ l, (Lit.int .u64 n).wf = true) (i : Int) : 0 ≤ at0 l i ∧ at0 l i < 18446744073709551616 := by
  by_cases hi : 0 ≤ i ∧ i < (l.length : Int)
  · rw [at0_in hi.1 hi.2]
    exact u64_bd (h _ (List.getElem_mem _))
  · rw [at0_out (by omega)]; omega
set_option maxHeartbeats 1000000 in
theorem cellAdd_walk (A : Option Addr) (n c : Nat) (l : List Int) (i v u : Int) (w : World) (h : Rd w A l) (hn : l.length = n) (hw : ∀ n ∈ l, (Lit.int .u64 n).wf = true) :
    Calls Try.prog 6 #[.slice A n c, .int .i64 i, .int .u64 v, .int .u64 u] w fun e w' => e = .returned (.bool true) ∧ Below w.heap.size w w' := by
  have HR := Lib.hid h
  have HE := Lib.hid hn
  obtain ⟨a, ha⟩ : ∃ a, at0 l i = a := ⟨_, rfl⟩
  have HA := Lib.hid ha
  have hbd := at0_bd hw i
  rw [ha] at hbd
  have HB1 := Lib.hid (w_back a v hbd.1 hbd.2)
  have HL := Lib.hid (show put l i a = l by rw [← ha, put_at0])
  clear h hn hw ha hbd
  by_cases hbig : n ≤ 500
  · by_cases hin : 0 ≤ i ∧ i < n
    · obtain ⟨h0, h1⟩ := hin
      have HI := Lib.hid (show i < (l.length : Int) by rw [HE.out]; exact h1)
      go_enter Try.func6, Try.ntmps6
      go_wp2_with fail
      refine (awake_any _).mono ?_
      rintro e w1 ⟨rfl, z1⟩
      have HZ := Lib.hid z1
      replace HR := Lib.hid (HR.out.below z1)
      clear z1
      go_wp2_with fail
      refine (RetA.of (add_any _ _ _ l _ _ _ HR.out HE.out hbig) (l' := put l i (IntKind.u64.wrap (a + v))) (u' := a) (by rw [HA.out]) HA.out).mono ?_
      rintro e w2 ⟨g2, rfl, b2, z2⟩
      replace HZ := Lib.hid (HZ.out.trans (z2.mono HZ.out.size))
      replace HR := Lib.hid (HR.out.below z2)
      have RX := Lib.hid b2.rd
      clear z2 b2
      go_wp2_with fail
      refine (RetA.of (add_any _ _ _ _ _ _ _ RX.out (by rw [len_put, HE.out]) hbig) (l' := put l i (IntKind.u64.wrap (IntKind.u64.wrap (a + v) + u))) (u' := IntKind.u64.wrap (a + v)) (by rw [at0_put _ h0 HI.out, put_put]) (at0_put _ h0 HI.out)).mono ?_
      rintro e w3 ⟨g3, rfl, b3, z3⟩
      replace HZ := Lib.hid (HZ.out.trans (z3.mono HZ.out.size))
      replace HR := Lib.hid (HR.out.below z3)
      replace RX := Lib.hid (RX.out.below z3)
      have RY := Lib.hid b3.rd
      clear z3 b3
      go_wp2_with fail
      refine (RetA.of (add_any _ _ _ l _ _ _ HR.out HE.out hbig) (l' := put l i (IntKind.u64.wrap (IntKind.u64.wrap (a + v) + u))) (u' := a) (by rw [HA.out, w_two]) HA.out).mono ?_
      rintro e w4 ⟨g4, rfl, b4, z4⟩
      replace HZ := Lib.hid (HZ.out.trans (z4.mono HZ.out.size))
      replace HR := Lib.hid (HR.out.below z4)
      replace RX := Lib.hid (RX.out.below z4)
      replace RY := Lib.hid (RY.out.below z4)
      have RZ := Lib.hid b4.rd
      clear z4 b4
      go_wp2_with fail
      refine (RetA.of (add_any _ _ _ _ _ _ _ RX.out (by rw [len_put, HE.out]) hbig) (l' := l) (u' := IntKind.u64.wrap (a + v)) (by rw [at0_put _ h0 HI.out, put_put, HB1.out, HL.out]) (at0_put _ h0 HI.out)).mono ?_
      rintro e w5 ⟨g5, rfl, b5, z5⟩
      replace HZ := Lib.hid (HZ.out.trans (z5.mono HZ.out.size))
      replace HR := Lib.hid (HR.out.below z5)
      replace RX := Lib.hid (RX.out.below z5)
      replace RY := Lib.hid (RY.out.below z5)
      replace RZ := Lib.hid (RZ.out.below z5)
      have RW := Lib.hid b5.rd
      clear z5 b5
      go_wp2_with fail
      refine (ret_of (same_any _ _ _ _ _ _ _ _ _ RY.out RZ.out (by rw [len_put, HE.out]) (by rw [len_put, HE.out]) (by omega)) (v' := .bool true) (by rw [decide_eq_true rfl])).mono ?_
      rintro e w6 ⟨rfl, z6⟩
      replace HZ := Lib.hid (HZ.out.trans (z6.mono HZ.out.size))
      replace HR := Lib.hid (HR.out.below z6)
      replace RX := Lib.hid (RX.out.below z6)
      replace RY := Lib.hid (RY.out.below z6)
      replace RZ := Lib.hid (RZ.out.below z6)
      replace RW := Lib.hid (RW.out.below z6)
      clear z6
      go_wp2_with fail
      refine (ret_of (load_any _ _ _ l _ _ HR.out HE.out hbig) (v' := .int .u64 a) (by rw [HA.out])).mono ?_
      rintro e w7 ⟨rfl, z7⟩
      replace HZ := Lib.hid (HZ.out.trans (z7.mono HZ.out.size))
      replace HR := Lib.hid (HR.out.below z7)
      replace RX := Lib.hid (RX.out.below z7)
      replace RY := Lib.hid (RY.out.below z7)
      replace RZ := Lib.hid (RZ.out.below z7)
      replace RW := Lib.hid (RW.out.below z7)
      clear z7
      go_wp2_with fail
      refine (ret_of (same_any _ _ _ _ _ _ _ _ _ RW.out HR.out HE.out HE.out (by omega)) (v' := .bool true) (by rw [decide_eq_true rfl])).mono ?_
      rintro e w8 ⟨rfl, z8⟩
      replace HZ := Lib.hid (HZ.out.trans (z8.mono HZ.out.size))
      replace HR := Lib.hid (HR.out.below z8)
      replace RX := Lib.hid (RX.out.below z8)
      replace RY := Lib.hid (RY.out.below z8)
      replace RZ := Lib.hid (RZ.out.below z8)
      replace RW := Lib.hid (RW.out.below z8)
      clear z8
      go_wp2
      go_ret
      exact ⟨rfl, HZ.out⟩
    · have hout : i < 0 ∨ (n : Int) ≤ i := by omega
      have HO := Lib.hid (fun x => put_out (l := l) (i := i) x (by rw [HE.out]; exact hout))
      clear hin
      rcases hout with hi | hi
      all_goals
        go_enter Try.func6, Try.ntmps6
        go_wp2_with fail
        refine (awake_any _).mono ?_
        rintro e w1 ⟨rfl, z1⟩
        have HZ := Lib.hid z1
        replace HR := Lib.hid (HR.out.below z1)
        clear z1
        go_wp2_with fail
        refine (RetA.of (add_any _ _ _ l _ _ _ HR.out HE.out hbig) (l' := l) (u' := a) (HO.out _) HA.out).mono ?_
        rintro e w2 ⟨g2, rfl, b2, z2⟩
        replace HZ := Lib.hid (HZ.out.trans (z2.mono HZ.out.size))
        replace HR := Lib.hid (HR.out.below z2)
        have RX := Lib.hid b2.rd
        clear z2 b2
        go_wp2_with fail
        refine (RetA.of (add_any _ _ _ l _ _ _ RX.out HE.out hbig) (l' := l) (u' := a) (HO.out _) HA.out).mono ?_
        rintro e w3 ⟨g3, rfl, b3, z3⟩
        replace HZ := Lib.hid (HZ.out.trans (z3.mono HZ.out.size))
        replace HR := Lib.hid (HR.out.below z3)
        replace RX := Lib.hid (RX.out.below z3)
        have RY := Lib.hid b3.rd
        clear z3 b3
        go_wp2_with fail
        refine (RetA.of (add_any _ _ _ l _ _ _ HR.out HE.out hbig) (l' := l) (u' := a) (HO.out _) HA.out).mono ?_
        rintro e w4 ⟨g4, rfl, b4, z4⟩
        replace HZ := Lib.hid (HZ.out.trans (z4.mono HZ.out.size))
        replace HR := Lib.hid (HR.out.below z4)
        replace RX := Lib.hid (RX.out.below z4)
        replace RY := Lib.hid (RY.out.below z4)
        have RZ := Lib.hid b4.rd
        clear z4 b4
        go_wp2_with fail
        refine (RetA.of (add_any _ _ _ l _ _ _ RX.out HE.out hbig) (l' := l) (u' := a) (HO.out _) HA.out).mono ?_
        rintro e w5 ⟨g5, rfl, b5, z5⟩
        replace HZ := Lib.hid (HZ.out.trans (z5.mono HZ.out.size))
        replace HR := Lib.hid (HR.out.below z5)
        replace RX := Lib.hid (RX.out.below z5)
        replace RY := Lib.hid (RY.out.below z5)
        replace RZ := Lib.hid (RZ.out.below z5)
        have RW := Lib.hid b5.rd
        clear z5 b5
        go_wp2_with fail
        refine (ret_of (same_any _ _ _ _ _ _ _ _ _ RY.out RZ.out HE.out HE.out (by omega)) (v' := .bool true) (by rw [decide_eq_true rfl])).mono ?_
        rintro e w6 ⟨rfl, z6⟩
        replace HZ := Lib.hid (HZ.out.trans (z6.mono HZ.out.size))
        replace HR := Lib.hid (HR.out.below z6)
        replace RX := Lib.hid (RX.out.below z6)
        replace RY := Lib.hid (RY.out.below z6)
        replace RZ := Lib.hid (RZ.out.below z6)
        replace RW := Lib.hid (RW.out.below z6)
        clear z6
        go_wp2_with fail
        refine (ret_of (load_any _ _ _ l _ _ HR.out HE.out hbig) (v' := .int .u64 a) (by rw [HA.out])).mono ?_
        rintro e w7 ⟨rfl, z7⟩
        replace HZ := Lib.hid (HZ.out.trans (z7.mono HZ.out.size))
        replace HR := Lib.hid (HR.out.below z7)
        replace RX := Lib.hid (RX.out.below z7)
        replace RY := Lib.hid (RY.out.below z7)
        replace RZ := Lib.hid (RZ.out.below z7)
        replace RW := Lib.hid (RW.out.below z7)
        clear z7
        go_wp2_with fail
        refine (ret_of (same_any _ _ _ _ _ _ _ _ _ RW.out HR.out HE.out HE.out (by omega)) (v' := .bool true) (by rw [decide_eq_true rfl])).mono ?_
        rintro e w8 ⟨rfl, z8⟩
        replace HZ := Lib.hid (HZ.out.trans (z8.mono HZ.out.size))
        replace HR := Lib.hid (HR.out.below z8)
        replace RX := Lib.hid (RX.out.below z8)
        replace RY := Lib.hid (RY.out.below z8)
        replace RZ := Lib.hid (RZ.out.below z8)
        replace RW := Lib.hid (RW.out.below z8)
        clear z8
        go_wp2
        go_ret
        exact ⟨rfl, HZ.out⟩
  · go_enter Try.func6, Try.ntmps6
    go_wp2_with fail
    refine (awake_any _).mono ?_
    rintro e w1 ⟨rfl, z1⟩
    have HZ := Lib.hid z1
    clear z1
    go_wp2
    go_ret
    exact ⟨rfl, HZ.out⟩
end Go.Proofs.Ytjoihkfjalggjaa
