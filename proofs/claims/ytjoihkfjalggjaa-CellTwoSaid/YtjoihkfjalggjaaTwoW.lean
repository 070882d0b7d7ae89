/- The walk of CellTwo: what is done at two cells comes to the same, in whatever order. -/
import Derived.Test.YtjoihkfjalggjaaOtherW
namespace Go.Proofs.Ytjoihkfjalggjaa
open Go.RowKit Go.Deep
theorem isAt_put_ne (l : List Int) {i k : Int} (v u : Int) (h : ¬ i = k) : isAt (put l k u) i v = isAt l i v := by
  rw [Bool.eq_iff_iff, isAt_iff, isAt_iff, len_put, at0_put_ne _ _ (fun e => h e.symm)]
theorem put_ifput (l : List Int) {i k : Int} (b : Bool) (v u : Int) (h : ¬ i = k) : put (if b = true then put l i v else l) k u = (if b = true then put (put l k u) i v else put l k u) := by
  split
  · exact put_comm l v u h
  · rfl
set_option maxHeartbeats 1000000 in
theorem cellTwo_walk (A : Option Addr) (n c : Nat) (l : List Int) (i v k u : Int) (w : World) (h : Rd w A l) (hn : l.length = n) :
    Calls Try.prog 8 #[.slice A n c, .int .i64 i, .int .u64 v, .int .i64 k, .int .u64 u] w fun e w' => e = .returned (.bool true) ∧ Below w.heap.size w w' := by
  have HR := Lib.hid h
  have HE := Lib.hid hn
  clear h hn
  by_cases hbig : n ≤ 500
  · by_cases hik : i = k
    · have hb : (i == k) = true := by simp [hik]
      clear hik
      go_enter Try.func8, Try.ntmps8
      go_wp2_with fail
      refine (awake_any _).mono ?_
      rintro e w1 ⟨rfl, z1⟩
      have HZ := Lib.hid z1
      clear z1
      go_wp2
      go_ret
      exact ⟨rfl, HZ.out⟩
    · have hb : (i == k) = false := by simp [hik]
      have HK := Lib.hid hik
      clear hik
      obtain ⟨x, hx⟩ : ∃ x, at0 l k = x := ⟨_, rfl⟩
      have HX := Lib.hid hx
      have HX2 := Lib.hid (show at0 (put l i v) k = x by rw [at0_put_ne _ _ HK.out, hx])
      obtain ⟨y, hy⟩ : ∃ y, IntKind.u64.wrap (x + u) = y := ⟨_, rfl⟩
      have HY := Lib.hid hy
      obtain ⟨b, hbb⟩ : ∃ b, isAt l i v = b := ⟨_, rfl⟩
      have HB := Lib.hid hbb
      have HB2 := Lib.hid (show isAt (put l k u) i v = b by rw [isAt_put_ne _ _ _ HK.out, hbb])
      clear hx hy hbb
      go_enter Try.func8, Try.ntmps8
      go_wp2_with fail
      refine (awake_any _).mono ?_
      rintro e w1 ⟨rfl, z1⟩
      have HZ := Lib.hid z1
      replace HR := Lib.hid (HR.out.below z1)
      clear z1
      go_wp2_with fail
      refine (store_any _ _ _ l _ _ _ HR.out HE.out hbig).mono ?_
      rintro e w2 ⟨g2, rfl, b2, z2⟩
      replace HZ := Lib.hid (HZ.out.trans (z2.mono HZ.out.size))
      replace HR := Lib.hid (HR.out.below z2)
      have RS := Lib.hid b2.rd
      clear z2 b2
      go_wp2_with fail
      refine (RetA.of (add_any _ _ _ _ _ _ _ RS.out (by rw [len_put, HE.out]) hbig) (l' := put (put l i v) k y) (u' := x) (by rw [HX2.out, HY.out]) HX2.out).mono ?_
      rintro e w3 ⟨g3, rfl, b3, z3⟩
      replace HZ := Lib.hid (HZ.out.trans (z3.mono HZ.out.size))
      replace HR := Lib.hid (HR.out.below z3)
      replace RS := Lib.hid (RS.out.below z3)
      have RA := Lib.hid b3.rd
      clear z3 b3
      clear RS
      go_wp2_with fail
      refine (RetA.of (add_any _ _ _ l _ _ _ HR.out HE.out hbig) (l' := put l k y) (u' := x) (by rw [HX.out, HY.out]) HX.out).mono ?_
      rintro e w4 ⟨g4, rfl, b4, z4⟩
      replace HZ := Lib.hid (HZ.out.trans (z4.mono HZ.out.size))
      replace HR := Lib.hid (HR.out.below z4)
      replace RA := Lib.hid (RA.out.below z4)
      have RB := Lib.hid b4.rd
      clear z4 b4
      go_wp2_with fail
      refine (RetC.of (cas_any _ _ _ l _ _ _ _ HR.out HE.out hbig) (l' := if b = true then put l i u else l) (u' := b) (by rw [HB.out]) HB.out).mono ?_
      rintro e w5 ⟨g5, rfl, b5, z5⟩
      replace HZ := Lib.hid (HZ.out.trans (z5.mono HZ.out.size))
      replace HR := Lib.hid (HR.out.below z5)
      replace RA := Lib.hid (RA.out.below z5)
      replace RB := Lib.hid (RB.out.below z5)
      have RC := Lib.hid b5.rd
      clear z5 b5
      go_wp2_with fail
      refine (store_any _ _ _ l _ _ _ HR.out HE.out hbig).mono ?_
      rintro e w6 ⟨g6, rfl, b6, z6⟩
      replace HZ := Lib.hid (HZ.out.trans (z6.mono HZ.out.size))
      replace HR := Lib.hid (HR.out.below z6)
      replace RA := Lib.hid (RA.out.below z6)
      replace RB := Lib.hid (RB.out.below z6)
      replace RC := Lib.hid (RC.out.below z6)
      have RT := Lib.hid b6.rd
      clear z6 b6
      go_wp2_with fail
      refine (RetC.of (cas_any _ _ _ _ _ _ _ _ RT.out (by rw [len_put, HE.out]) hbig) (l' := if b = true then put (put l k u) i u else put l k u) (u' := b) (by rw [HB2.out]) HB2.out).mono ?_
      rintro e w7 ⟨g7, rfl, b7, z7⟩
      replace HZ := Lib.hid (HZ.out.trans (z7.mono HZ.out.size))
      replace HR := Lib.hid (HR.out.below z7)
      replace RA := Lib.hid (RA.out.below z7)
      replace RB := Lib.hid (RB.out.below z7)
      replace RC := Lib.hid (RC.out.below z7)
      replace RT := Lib.hid (RT.out.below z7)
      have RD := Lib.hid b7.rd
      clear z7 b7
      clear RT
      go_wp2_with fail
      refine (RetM.of (store_any _ _ _ _ _ _ _ RB.out (by rw [len_put, HE.out]) hbig) (l' := put (put l i v) k y) (put_comm _ _ _ (fun e => HK.out e.symm))).mono ?_
      rintro e w8 ⟨g8, rfl, b8, z8⟩
      replace HZ := Lib.hid (HZ.out.trans (z8.mono HZ.out.size))
      replace HR := Lib.hid (HR.out.below z8)
      replace RA := Lib.hid (RA.out.below z8)
      replace RB := Lib.hid (RB.out.below z8)
      replace RC := Lib.hid (RC.out.below z8)
      replace RD := Lib.hid (RD.out.below z8)
      have RE := Lib.hid b8.rd
      clear z8 b8
      go_wp2_with fail
      refine (ret_of (same_any _ _ _ _ _ _ _ _ _ RA.out RE.out (by rw [len_put, len_put, HE.out]) (by rw [len_put, len_put, HE.out]) (by omega)) (v' := .bool true) (by rw [decide_eq_true rfl])).mono ?_
      rintro e w9 ⟨rfl, z9⟩
      replace HZ := Lib.hid (HZ.out.trans (z9.mono HZ.out.size))
      replace HR := Lib.hid (HR.out.below z9)
      replace RA := Lib.hid (RA.out.below z9)
      replace RB := Lib.hid (RB.out.below z9)
      replace RC := Lib.hid (RC.out.below z9)
      replace RD := Lib.hid (RD.out.below z9)
      replace RE := Lib.hid (RE.out.below z9)
      clear z9
      go_wp2_with fail
      refine (RetM.of (store_any _ _ _ _ _ _ _ RC.out (by rw [len_ifput, HE.out]) hbig) (l' := if b = true then put (put l k u) i u else put l k u) (put_ifput _ _ _ _ HK.out)).mono ?_
      rintro e w10 ⟨g10, rfl, b10, z10⟩
      replace HZ := Lib.hid (HZ.out.trans (z10.mono HZ.out.size))
      replace HR := Lib.hid (HR.out.below z10)
      replace RA := Lib.hid (RA.out.below z10)
      replace RB := Lib.hid (RB.out.below z10)
      replace RC := Lib.hid (RC.out.below z10)
      replace RD := Lib.hid (RD.out.below z10)
      replace RE := Lib.hid (RE.out.below z10)
      have RF := Lib.hid b10.rd
      clear z10 b10
      go_wp2_with fail
      refine (ret_of (same_any _ _ _ _ _ _ _ _ _ RF.out RD.out (by rw [len_ifput, len_put, HE.out]) (by rw [len_ifput, len_put, HE.out]) (by omega)) (v' := .bool true) (by rw [decide_eq_true rfl])).mono ?_
      rintro e w11 ⟨rfl, z11⟩
      replace HZ := Lib.hid (HZ.out.trans (z11.mono HZ.out.size))
      replace HR := Lib.hid (HR.out.below z11)
      replace RA := Lib.hid (RA.out.below z11)
      replace RB := Lib.hid (RB.out.below z11)
      replace RC := Lib.hid (RC.out.below z11)
      replace RD := Lib.hid (RD.out.below z11)
      replace RE := Lib.hid (RE.out.below z11)
      replace RF := Lib.hid (RF.out.below z11)
      clear z11
      go_wp2
      go_ret
      exact ⟨rfl, HZ.out⟩
  · go_enter Try.func8, Try.ntmps8
    go_wp2_with fail
    refine (awake_any _).mono ?_
    rintro e w1 ⟨rfl, z1⟩
    have HZ := Lib.hid z1
    clear z1
    go_wp2
    go_ret
    exact ⟨rfl, HZ.out⟩
end Go.Proofs.Ytjoihkfjalggjaa
