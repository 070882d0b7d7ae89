/- The walk of CellCas: an exchange is done just if the cell has what is asked. -/
import Derived.Test.YtjoihkfjalggjaaCellF
namespace Go.Proofs.Ytjoihkfjalggjaa
open Go.RowKit Go.Deep
set_option maxHeartbeats 1000000 in
theorem cellCas_walk (A : Option Addr) (n c : Nat) (l : List Int) (i v u : Int) (w : World) (h : Rd w A l) (hn : l.length = n) :
    Calls Try.prog 5 #[.slice A n c, .int .i64 i, .int .u64 v, .int .u64 u] w fun e w' => e = .returned (.bool true) ∧ Below w.heap.size w w' := by
  have HR := Lib.hid h
  have HE := Lib.hid hn
  clear h hn
  by_cases hbig : n ≤ 500
  · by_cases hin : 0 ≤ i ∧ i < n
    · obtain ⟨h0, h1⟩ := hin
      have HL := Lib.hid (show i < (l.length : Int) by rw [HE.out]; exact h1)
      by_cases hx : at0 l i = v
      · have HX := Lib.hid hx
        have HI := Lib.hid ((isAt_iff l i v).2 ⟨⟨h0, HL.out⟩, hx⟩)
        have HP := Lib.hid (show (if isAt l i v = true then put l i u else l) = put l i u by rw [if_pos HI.out])
        have HI2 := Lib.hid ((isAt_iff (put l i u) i u).2 ⟨⟨h0, by rw [len_put]; exact HL.out⟩, at0_put u h0 HL.out⟩)
        have HP2 := Lib.hid (show (if isAt (put l i u) i u = true then put (put l i u) i v else put l i u) = l by rw [if_pos HI2.out, put_put, ← hx, put_at0])
        clear hx
        go_enter Try.func5, Try.ntmps5
        go_wp2_with fail
        refine (awake_any _).mono ?_
        rintro e w1 ⟨rfl, z1⟩
        have HZ := Lib.hid z1
        replace HR := Lib.hid (HR.out.below z1)
        clear z1
        go_wp2_with fail
        refine (RetC.of (cas_any _ _ _ l _ _ _ _ HR.out HE.out hbig) HP.out HI.out).mono ?_
        rintro e w2 ⟨g2, rfl, b2, z2⟩
        replace HZ := Lib.hid (HZ.out.trans (z2.mono HZ.out.size))
        replace HR := Lib.hid (HR.out.below z2)
        have RX := Lib.hid b2.rd
        clear z2 b2
        go_wp2_with fail
        refine (ret_of (load_any _ _ _ l _ _ HR.out HE.out hbig) (v' := .int .u64 v) (by rw [HX.out])).mono ?_
        rintro e w3 ⟨rfl, z3⟩
        replace HZ := Lib.hid (HZ.out.trans (z3.mono HZ.out.size))
        replace HR := Lib.hid (HR.out.below z3)
        replace RX := Lib.hid (RX.out.below z3)
        clear z3
        go_wp2_with fail
        refine (RetC.of (cas_any _ _ _ _ _ _ _ _ RX.out (by rw [len_put, HE.out]) hbig) HP2.out HI2.out).mono ?_
        rintro e w4 ⟨g4, rfl, b4, z4⟩
        replace HZ := Lib.hid (HZ.out.trans (z4.mono HZ.out.size))
        replace HR := Lib.hid (HR.out.below z4)
        replace RX := Lib.hid (RX.out.below z4)
        have RY := Lib.hid b4.rd
        clear z4 b4
        go_wp2_with fail
        refine (ret_of (load_any _ _ _ _ _ _ RX.out (by rw [len_put, HE.out]) hbig) (v' := .int .u64 u) (by rw [at0_put u h0 HL.out])).mono ?_
        rintro e w5 ⟨rfl, z5⟩
        replace HZ := Lib.hid (HZ.out.trans (z5.mono HZ.out.size))
        replace HR := Lib.hid (HR.out.below z5)
        replace RX := Lib.hid (RX.out.below z5)
        replace RY := Lib.hid (RY.out.below z5)
        clear z5
        go_wp2_with fail
        refine (ret_of (same_any _ _ _ _ _ _ l l _ RY.out HR.out HE.out HE.out (by omega)) (v' := .bool true) (by rw [decide_eq_true rfl])).mono ?_
        rintro e w6 ⟨rfl, z6⟩
        replace HZ := Lib.hid (HZ.out.trans (z6.mono HZ.out.size))
        replace HR := Lib.hid (HR.out.below z6)
        replace RX := Lib.hid (RX.out.below z6)
        replace RY := Lib.hid (RY.out.below z6)
        clear z6
        go_wp2
        go_ret
        exact ⟨rfl, HZ.out⟩
      · have hb : (at0 l i == v) = false := by simp [hx]
        have HI := Lib.hid (show isAt l i v = false from Bool.eq_false_iff.2 fun e => hx ((isAt_iff l i v).1 e).2)
        have HP := Lib.hid (show (if isAt l i v = true then put l i u else l) = l by rw [if_neg (by rw [HI.out]; simp)])
        clear hx
        go_enter Try.func5, Try.ntmps5
        go_wp2_with fail
        refine (awake_any _).mono ?_
        rintro e w1 ⟨rfl, z1⟩
        have HZ := Lib.hid z1
        replace HR := Lib.hid (HR.out.below z1)
        clear z1
        go_wp2_with fail
        refine (RetC.of (cas_any _ _ _ l _ _ _ _ HR.out HE.out hbig) HP.out HI.out).mono ?_
        rintro e w2 ⟨g2, rfl, b2, z2⟩
        replace HZ := Lib.hid (HZ.out.trans (z2.mono HZ.out.size))
        replace HR := Lib.hid (HR.out.below z2)
        have RX := Lib.hid b2.rd
        clear z2 b2
        go_wp2_with fail
        refine (load_any _ _ _ l _ _ HR.out HE.out hbig).mono ?_
        rintro e w3 ⟨rfl, z3⟩
        replace HZ := Lib.hid (HZ.out.trans (z3.mono HZ.out.size))
        replace HR := Lib.hid (HR.out.below z3)
        replace RX := Lib.hid (RX.out.below z3)
        clear z3
        go_wp2_with fail
        refine (ret_of (same_any _ _ _ _ _ _ l l _ RX.out HR.out HE.out HE.out (by omega)) (v' := .bool true) (by rw [decide_eq_true rfl])).mono ?_
        rintro e w4 ⟨rfl, z4⟩
        replace HZ := Lib.hid (HZ.out.trans (z4.mono HZ.out.size))
        replace HR := Lib.hid (HR.out.below z4)
        replace RX := Lib.hid (RX.out.below z4)
        clear z4
        go_wp2
        go_ret
        exact ⟨rfl, HZ.out⟩
    · have HI := Lib.hid (show isAt l i v = false from Bool.eq_false_iff.2 fun e => hin (by have := ((isAt_iff l i v).1 e).1; rw [HE.out] at this; exact this))
      have HP := Lib.hid (show (if isAt l i v = true then put l i u else l) = l by rw [if_neg (by rw [HI.out]; simp)])
      have hout : i < 0 ∨ (n : Int) ≤ i := by omega
      clear hin
      rcases hout with hi | hi
      all_goals
        go_enter Try.func5, Try.ntmps5
        go_wp2_with fail
        refine (awake_any _).mono ?_
        rintro e w1 ⟨rfl, z1⟩
        have HZ := Lib.hid z1
        replace HR := Lib.hid (HR.out.below z1)
        clear z1
        go_wp2_with fail
        refine (RetC.of (cas_any _ _ _ l _ _ _ _ HR.out HE.out hbig) HP.out HI.out).mono ?_
        rintro e w2 ⟨g2, rfl, b2, z2⟩
        replace HZ := Lib.hid (HZ.out.trans (z2.mono HZ.out.size))
        replace HR := Lib.hid (HR.out.below z2)
        have RX := Lib.hid b2.rd
        clear z2 b2
        go_wp2_with fail
        refine (ret_of (same_any _ _ _ _ _ _ l l _ RX.out HR.out HE.out HE.out (by omega)) (v' := .bool true) (by rw [decide_eq_true rfl])).mono ?_
        rintro e w3 ⟨rfl, z3⟩
        replace HZ := Lib.hid (HZ.out.trans (z3.mono HZ.out.size))
        replace HR := Lib.hid (HR.out.below z3)
        replace RX := Lib.hid (RX.out.below z3)
        clear z3
        go_wp2
        go_ret
        exact ⟨rfl, HZ.out⟩
  · go_enter Try.func5, Try.ntmps5
    go_wp2_with fail
    refine (awake_any _).mono ?_
    rintro e w1 ⟨rfl, z1⟩
    have HZ := Lib.hid z1
    clear z1
    go_wp2
    go_ret
    exact ⟨rfl, HZ.out⟩
end Go.Proofs.Ytjoihkfjalggjaa
