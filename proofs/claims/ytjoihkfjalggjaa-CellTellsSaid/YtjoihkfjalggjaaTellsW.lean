/- The walk of CellTells: any cells are loaded, stored, exchanged and added to as the document says. -/
import Derived.Test.YtjoihkfjalggjaaCellR
import Derived.Test.YtjoihkfjalggjaaOtherW
namespace Go.Proofs.Ytjoihkfjalggjaa
open Go.RowKit Go.Deep
theorem RetRC.of {w : World} {n : Nat} {l l' : List Int} {u u' : Bool} {P : Program} {f : FuncId} {args : Array Value} (h : Calls P f args w (RetRC w n l u)) (e1 : l = l') (e2 : u = u') : Calls P f args w (RetRC w n l' u') := by rw [← e1, ← e2]; exact h
theorem RetRA.of {w : World} {n : Nat} {l l' : List Int} {u u' : Int} {P : Program} {f : FuncId} {args : Array Value} (h : Calls P f args w (RetRA w n l u)) (e1 : l = l') (e2 : u = u') : Calls P f args w (RetRA w n l' u') := by rw [← e1, ← e2]; exact h
set_option maxHeartbeats 1000000 in
theorem cellTells_walk (A B : Option Addr) (n c m d : Nat) (l k : List Int) (i v u : Int) (w : World) (h : Rd w A l) (hn : l.length = n) (hk : Rd w B k) (hm : k.length = m) :
    Calls Try.prog 3 #[.slice A n c, .slice B m d, .int .i64 i, .int .u64 v, .int .u64 u] w fun e w' => e = .returned (.bool true) ∧ Below w.heap.size w w' := by
  have HR := Lib.hid h
  have HE := Lib.hid hn
  have HK := Lib.hid hk
  have HM := Lib.hid hm
  clear h hn hk hm
  by_cases hbig : n ≤ 500
  · by_cases hbig2 : m ≤ 500
    · obtain ⟨b, hb⟩ : ∃ b, isAt l i v = b := ⟨_, rfl⟩
      have HB := Lib.hid hb
      obtain ⟨a, ha⟩ : ∃ a, at0 l i = a := ⟨_, rfl⟩
      have HA := Lib.hid ha
      obtain ⟨x, hx⟩ : ∃ x, put l i (IntKind.u64.wrap (a + v)) = x := ⟨_, rfl⟩
      have HX := Lib.hid hx
      have HXL := Lib.hid (show x.length = n by rw [← hx, len_put, HE.out])
      obtain ⟨y, hy⟩ : ∃ y, (if b = true then put l i u else l) = y := ⟨_, rfl⟩
      have HY := Lib.hid hy
      have HYL := Lib.hid (show y.length = n by rw [← hy, len_ifput, HE.out])
      obtain ⟨q, hq⟩ : ∃ q, decide (l = k) = q := ⟨_, rfl⟩
      have HQ := Lib.hid hq
      clear hb ha hx hy hq
      go_enter Try.func3, Try.ntmps3
      go_wp2_with fail
      refine (awake_any _).mono ?_
      rintro e w1 ⟨rfl, z1⟩
      have HZ := Lib.hid z1
      replace HR := Lib.hid (HR.out.below z1)
      replace HK := Lib.hid (HK.out.below z1)
      clear z1
      go_wp2_with fail
      refine (RetC.of (cas_any _ _ _ l _ _ _ _ HR.out HE.out hbig) (l' := y) (u' := b) (by rw [HB.out, HY.out]) HB.out).mono ?_
      rintro e w2 ⟨g2, rfl, b2, z2⟩
      replace HZ := Lib.hid (HZ.out.trans (z2.mono HZ.out.size))
      replace HR := Lib.hid (HR.out.below z2)
      replace HK := Lib.hid (HK.out.below z2)
      have RA := Lib.hid b2.rd
      clear z2 b2
      go_wp2_with fail
      refine (RetRC.of (rcas_any _ _ _ l _ _ _ _ HR.out HE.out hbig) (l' := y) (u' := b) (by rw [HB.out, HY.out]) HB.out).mono ?_
      rintro e w3 ⟨A3, c3, rfl, b3, z3⟩
      replace HZ := Lib.hid (HZ.out.trans (z3.mono HZ.out.size))
      replace HR := Lib.hid (HR.out.below z3)
      replace HK := Lib.hid (HK.out.below z3)
      replace RA := Lib.hid (RA.out.below z3)
      have RB := Lib.hid b3
      clear z3 b3
      go_wp2_with fail
      refine (RetA.of (add_any _ _ _ l _ _ _ HR.out HE.out hbig) (l' := x) (u' := a) (by rw [HA.out, HX.out]) HA.out).mono ?_
      rintro e w4 ⟨g4, rfl, b4, z4⟩
      replace HZ := Lib.hid (HZ.out.trans (z4.mono HZ.out.size))
      replace HR := Lib.hid (HR.out.below z4)
      replace HK := Lib.hid (HK.out.below z4)
      replace RA := Lib.hid (RA.out.below z4)
      replace RB := Lib.hid (RB.out.below z4)
      have RX := Lib.hid b4.rd
      clear z4 b4
      go_wp2_with fail
      refine (RetRA.of (radd_any _ _ _ l _ _ _ HR.out HE.out hbig) (l' := x) (u' := a) (by rw [HA.out, HX.out]) HA.out).mono ?_
      rintro e w5 ⟨A5, c5, rfl, b5, z5⟩
      replace HZ := Lib.hid (HZ.out.trans (z5.mono HZ.out.size))
      replace HR := Lib.hid (HR.out.below z5)
      replace HK := Lib.hid (HK.out.below z5)
      replace RA := Lib.hid (RA.out.below z5)
      replace RB := Lib.hid (RB.out.below z5)
      replace RX := Lib.hid (RX.out.below z5)
      have RY := Lib.hid b5
      clear z5 b5
      go_wp2_with fail
      refine (store_any _ _ _ l _ _ _ HR.out HE.out hbig).mono ?_
      rintro e w6 ⟨g6, rfl, b6, z6⟩
      replace HZ := Lib.hid (HZ.out.trans (z6.mono HZ.out.size))
      replace HR := Lib.hid (HR.out.below z6)
      replace HK := Lib.hid (HK.out.below z6)
      replace RA := Lib.hid (RA.out.below z6)
      replace RB := Lib.hid (RB.out.below z6)
      replace RX := Lib.hid (RX.out.below z6)
      replace RY := Lib.hid (RY.out.below z6)
      have RS := Lib.hid b6.rd
      clear z6 b6
      go_wp2_with fail
      refine (rstore_any _ _ _ l _ _ _ HR.out HE.out hbig).mono ?_
      rintro e w7 ⟨A7, c7, rfl, b7, z7⟩
      replace HZ := Lib.hid (HZ.out.trans (z7.mono HZ.out.size))
      replace HR := Lib.hid (HR.out.below z7)
      replace HK := Lib.hid (HK.out.below z7)
      replace RA := Lib.hid (RA.out.below z7)
      replace RB := Lib.hid (RB.out.below z7)
      replace RX := Lib.hid (RX.out.below z7)
      replace RY := Lib.hid (RY.out.below z7)
      replace RS := Lib.hid (RS.out.below z7)
      have RT := Lib.hid b7
      clear z7 b7
      go_wp2_with fail
      refine (ret_of (rsame_any _ _ _ _ _ _ _ _ _ RS.out RT.out (by rw [len_put, HE.out]) (by rw [len_put, HE.out]) (by omega)) (v' := .bool true) (by rw [decide_eq_true rfl])).mono ?_
      rintro e w8 ⟨rfl, z8⟩
      replace HZ := Lib.hid (HZ.out.trans (z8.mono HZ.out.size))
      replace HR := Lib.hid (HR.out.below z8)
      replace HK := Lib.hid (HK.out.below z8)
      replace RA := Lib.hid (RA.out.below z8)
      replace RB := Lib.hid (RB.out.below z8)
      replace RX := Lib.hid (RX.out.below z8)
      replace RY := Lib.hid (RY.out.below z8)
      replace RS := Lib.hid (RS.out.below z8)
      replace RT := Lib.hid (RT.out.below z8)
      clear z8
      clear RS RT
      go_wp2_with fail
      refine (ret_of (rsame_any _ _ _ _ _ _ _ _ _ RA.out RB.out HYL.out HYL.out (by omega)) (v' := .bool true) (by rw [decide_eq_true rfl])).mono ?_
      rintro e w9 ⟨rfl, z9⟩
      replace HZ := Lib.hid (HZ.out.trans (z9.mono HZ.out.size))
      replace HR := Lib.hid (HR.out.below z9)
      replace HK := Lib.hid (HK.out.below z9)
      replace RA := Lib.hid (RA.out.below z9)
      replace RB := Lib.hid (RB.out.below z9)
      replace RX := Lib.hid (RX.out.below z9)
      replace RY := Lib.hid (RY.out.below z9)
      clear z9
      clear RA RB
      go_wp2_with fail
      refine (ret_of (rsame_any _ _ _ _ _ _ _ _ _ RX.out RY.out HXL.out HXL.out (by omega)) (v' := .bool true) (by rw [decide_eq_true rfl])).mono ?_
      rintro e w10 ⟨rfl, z10⟩
      replace HZ := Lib.hid (HZ.out.trans (z10.mono HZ.out.size))
      replace HR := Lib.hid (HR.out.below z10)
      replace HK := Lib.hid (HK.out.below z10)
      replace RX := Lib.hid (RX.out.below z10)
      replace RY := Lib.hid (RY.out.below z10)
      clear z10
      clear RX RY
      go_wp2_with fail
      refine (ret_of (rsame_any _ _ _ _ _ _ _ _ _ HR.out HK.out HE.out HM.out (by omega)) (v' := .bool q) (by rw [HQ.out])).mono ?_
      rintro e w11 ⟨rfl, z11⟩
      replace HZ := Lib.hid (HZ.out.trans (z11.mono HZ.out.size))
      replace HR := Lib.hid (HR.out.below z11)
      replace HK := Lib.hid (HK.out.below z11)
      clear z11
      go_wp2_with fail
      refine (ret_of (load_any _ _ _ l _ _ HR.out HE.out hbig) (v' := .int .u64 a) (by rw [HA.out])).mono ?_
      rintro e w12 ⟨rfl, z12⟩
      replace HZ := Lib.hid (HZ.out.trans (z12.mono HZ.out.size))
      replace HR := Lib.hid (HR.out.below z12)
      replace HK := Lib.hid (HK.out.below z12)
      clear z12
      go_wp2_with fail
      refine (ret_of (rload_any _ _ _ l _ _ HR.out HE.out) (v' := .int .u64 a) (by rw [HA.out])).mono ?_
      rintro e w13 ⟨rfl, z13⟩
      replace HZ := Lib.hid (HZ.out.trans (z13.mono HZ.out.size))
      replace HR := Lib.hid (HR.out.below z13)
      replace HK := Lib.hid (HK.out.below z13)
      clear z13
      go_wp2_with fail
      refine (ret_of (same_any _ _ _ _ _ _ _ _ _ HR.out HK.out HE.out HM.out (by omega)) (v' := .bool q) (by rw [HQ.out])).mono ?_
      rintro e w14 ⟨rfl, z14⟩
      replace HZ := Lib.hid (HZ.out.trans (z14.mono HZ.out.size))
      replace HR := Lib.hid (HR.out.below z14)
      replace HK := Lib.hid (HK.out.below z14)
      clear z14
      go_wp2
      go_ret
      exact ⟨rfl, HZ.out⟩
    · go_enter Try.func3, Try.ntmps3
      go_wp2_with fail
      refine (awake_any _).mono ?_
      rintro e w1 ⟨rfl, z1⟩
      have HZ := Lib.hid z1
      clear z1
      go_wp2
      go_ret
      exact ⟨rfl, HZ.out⟩
  · go_enter Try.func3, Try.ntmps3
    go_wp2_with fail
    refine (awake_any _).mono ?_
    rintro e w1 ⟨rfl, z1⟩
    have HZ := Lib.hid z1
    clear z1
    go_wp2
    go_ret
    exact ⟨rfl, HZ.out⟩
end Go.Proofs.Ytjoihkfjalggjaa
