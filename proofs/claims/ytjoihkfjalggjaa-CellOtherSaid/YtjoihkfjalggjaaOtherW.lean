/- The walk of CellOther: what is done at one cell changes no other one. -/
import Derived.Test.YtjoihkfjalggjaaCellF
namespace Go.Proofs.Ytjoihkfjalggjaa
open Go.RowKit Go.Deep
theorem at0_ifput (l : List Int) {i k : Int} (b : Bool) (v : Int) (h : ¬ i = k) : at0 (if b = true then put l i v else l) k = at0 l k := by split; exact at0_put_ne l v h; rfl
theorem len_ifput (l : List Int) (i : Int) (b : Bool) (v : Int) : (if b = true then put l i v else l).length = l.length := by split; exact len_put l i v; rfl
set_option maxHeartbeats 1000000 in
theorem cellOther_walk (A : Option Addr) (n c : Nat) (l : List Int) (i v u k : Int) (w : World) (h : Rd w A l) (hn : l.length = n) :
    Calls Try.prog 4 #[.slice A n c, .int .i64 i, .int .u64 v, .int .u64 u, .int .i64 k] w fun e w' => e = .returned (.bool true) ∧ Below w.heap.size w w' := by
  have HR := Lib.hid h
  have HE := Lib.hid hn
  clear h hn
  by_cases hbig : n ≤ 500
  · by_cases hik : i = k
    · have hb : (i == k) = true := by simp [hik]
      clear hik
      go_enter Try.func4, Try.ntmps4
      go_wp2_with fail
      refine (awake_any _).mono ?_
      rintro e w1 ⟨rfl, z1⟩
      have HZ := Lib.hid z1
      clear z1
      go_wp2
      go_ret
      exact ⟨rfl, HZ.out⟩
    · have hb : (i == k) = false := by simp [hik]
      have HK := Lib.hid hik
      clear hik
      go_enter Try.func4, Try.ntmps4
      go_wp2_with fail
      refine (awake_any _).mono ?_
      rintro e w1 ⟨rfl, z1⟩
      have HZ := Lib.hid z1
      replace HR := Lib.hid (HR.out.below z1)
      clear z1
      go_wp2_with fail
      refine (store_any _ _ _ l _ _ _ HR.out HE.out hbig).mono ?_
      rintro e w2 ⟨g2, rfl, b2, z2⟩
      replace HZ := Lib.hid (HZ.out.trans (z2.mono HZ.out.size))
      replace HR := Lib.hid (HR.out.below z2)
      have RA := Lib.hid b2.rd
      clear z2 b2
      go_wp2_with fail
      refine (cas_any _ _ _ l _ _ _ _ HR.out HE.out hbig).mono ?_
      rintro e w3 ⟨g3, rfl, b3, z3⟩
      replace HZ := Lib.hid (HZ.out.trans (z3.mono HZ.out.size))
      replace HR := Lib.hid (HR.out.below z3)
      replace RA := Lib.hid (RA.out.below z3)
      have RB := Lib.hid b3.rd
      clear z3 b3
      go_wp2_with fail
      refine (add_any _ _ _ l _ _ _ HR.out HE.out hbig).mono ?_
      rintro e w4 ⟨g4, rfl, b4, z4⟩
      replace HZ := Lib.hid (HZ.out.trans (z4.mono HZ.out.size))
      replace HR := Lib.hid (HR.out.below z4)
      replace RA := Lib.hid (RA.out.below z4)
      replace RB := Lib.hid (RB.out.below z4)
      have RC := Lib.hid b4.rd
      clear z4 b4
      go_wp2_with fail
      refine (load_any _ _ _ l _ _ HR.out HE.out hbig).mono ?_
      rintro e w5 ⟨rfl, z5⟩
      replace HZ := Lib.hid (HZ.out.trans (z5.mono HZ.out.size))
      replace HR := Lib.hid (HR.out.below z5)
      replace RA := Lib.hid (RA.out.below z5)
      replace RB := Lib.hid (RB.out.below z5)
      replace RC := Lib.hid (RC.out.below z5)
      clear z5
      go_wp2_with fail
      refine (ret_of (load_any _ _ _ _ _ _ RA.out (by rw [len_put, HE.out]) hbig) (v' := .int .u64 (at0 l k)) (by rw [at0_put_ne _ _ HK.out])).mono ?_
      rintro e w6 ⟨rfl, z6⟩
      replace HZ := Lib.hid (HZ.out.trans (z6.mono HZ.out.size))
      replace HR := Lib.hid (HR.out.below z6)
      replace RA := Lib.hid (RA.out.below z6)
      replace RB := Lib.hid (RB.out.below z6)
      replace RC := Lib.hid (RC.out.below z6)
      clear z6
      go_wp2_with fail
      refine (ret_of (load_any _ _ _ _ _ _ RB.out (by rw [len_ifput, HE.out]) hbig) (v' := .int .u64 (at0 l k)) (by rw [at0_ifput _ _ _ HK.out])).mono ?_
      rintro e w7 ⟨rfl, z7⟩
      replace HZ := Lib.hid (HZ.out.trans (z7.mono HZ.out.size))
      replace HR := Lib.hid (HR.out.below z7)
      replace RA := Lib.hid (RA.out.below z7)
      replace RB := Lib.hid (RB.out.below z7)
      replace RC := Lib.hid (RC.out.below z7)
      clear z7
      go_wp2_with fail
      refine (ret_of (load_any _ _ _ _ _ _ RC.out (by rw [len_put, HE.out]) hbig) (v' := .int .u64 (at0 l k)) (by rw [at0_put_ne _ _ HK.out])).mono ?_
      rintro e w8 ⟨rfl, z8⟩
      replace HZ := Lib.hid (HZ.out.trans (z8.mono HZ.out.size))
      replace HR := Lib.hid (HR.out.below z8)
      replace RA := Lib.hid (RA.out.below z8)
      replace RB := Lib.hid (RB.out.below z8)
      replace RC := Lib.hid (RC.out.below z8)
      clear z8
      go_wp2
      go_ret
      exact ⟨rfl, HZ.out⟩
  · go_enter Try.func4, Try.ntmps4
    go_wp2_with fail
    refine (awake_any _).mono ?_
    rintro e w1 ⟨rfl, z1⟩
    have HZ := Lib.hid z1
    clear z1
    go_wp2
    go_ret
    exact ⟨rfl, HZ.out⟩
end Go.Proofs.Ytjoihkfjalggjaa
