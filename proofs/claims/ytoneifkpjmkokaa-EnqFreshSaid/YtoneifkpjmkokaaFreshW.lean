/- The walk of EnqFresh. -/
import Derived.Test.YtoneifkpjmkokaaEnF
import Derived.Test.YtoneifkpjmkokaaPuL
namespace Go.Proofs.Ytoneifkpjmkokaa
open Go.RowKit Go.Deep
/-- The numbers that go in, one behind the other. -/
def Lv0 (v : Int) (j : Nat) : List Int := (List.range j).map fun i : Nat => (v + i) % 18446744073709551616
theorem Lv0_len (v : Int) (j : Nat) : (Lv0 v j).length = j := by simp [Lv0]
theorem Lv0_succ (v : Int) (j : Nat) : Lv0 v (j + 1) = Lv0 v j ++ [(v + j) % 18446744073709551616] := by simp [Lv0, List.range_succ]
/-- One that is not over behind k steps was not over ahead of them. -/
theorem enqN_none {W D J S : Int} {s : List Int × Fr} {k : Nat} (h : (itN (enqS W D J S) k s).2.res = 0) : ∀ t, t ≤ k → (itN (enqS W D J S) t s).2.res = 0 := fun t ht => by
  by_cases e : (itN (enqS W D J S) t s).2.res = 0
  · exact e
  · exfalso
    have h2 := itN_stay (enqS_over (W := W) (D := D) (J := J) (S := S)) e (k - t)
    rw [show t + (k - t) = k by omega] at h2
    rw [h2] at h
    exact e h
theorem fresh_room {W D J S : Int} {M : List Int} {u : Int} {l : List Int} (hk : okm W D J S M = true) (hv : Vi J M 0 l) (hl : (l.length : Int) < J) :
    ∃ M5, itN (enqS W D J S) 5 (M, fbg 3 0 u) = (M5, ⟨3, 0, 0, u, 0, 0, 1⟩) ∧ okm W D J S M5 = true ∧ Vi J M5 0 (l ++ [u]) ∧ ∀ t, t < 5 → (itN (enqS W D J S) t (M, fbg 3 0 u)).2.res = 0 := by
  obtain ⟨m4, h4, _, _, _, _, m5, h5, hk5, hv5⟩ := enq_room (w := 0) (v := u) hk hv hl
  refine ⟨m5, ?_, hk5, hv5, fun t ht => ?_⟩
  · rw [itN_one h4]; exact h5
  · exact enqN_none (k := 4) (by rw [h4]) t (by omega)
theorem fresh_full {W D J S : Int} {M : List Int} {u : Int} {l : List Int} (hk : okm W D J S M = true) (hv : Vi J M 0 l) (hl : (l.length : Int) = J) :
    itN (enqS W D J S) 2 (M, fbg 3 0 u) = (M, ⟨3, 0, 0, u, 0, 0, 2⟩) ∧ ∀ t, t < 2 → (itN (enqS W D J S) t (M, fbg 3 0 u)).2.res = 0 := by
  refine ⟨enq_full hk hv hl, fun t ht => ?_⟩
  have h1 : itN (enqS W D J S) 1 (M, fbg 3 0 u) = (M, ⟨3, 1, 0, u, at0 M 5, 0, 0⟩) := enqS_0 (v := u) (x := 0) (y := 0) hk
  exact enqN_none (k := 1) (by rw [h1]) t (by omega)
theorem fresh_no (W D J S v : Int) (w : World) (hm : may W D J S = false) : Tells 5 #[cf W D J S, .int .u64 v] w (.bool true) := by
  have HM := Lib.hid hm
  clear hm
  go_enter Try.func5, Try.ntmps5
  go_wp2_with fail
  refine (awake_any _).mono ?_
  rintro _ w1 ⟨rfl, z⟩
  have BX := Lib.hid ((Bx.mk w W D J S 23).below z)
  have Z := Lib.hid ((box_below w _).trans (z.mono (by simp)))
  clear z
  obtain ⟨gx, x_0, x_1, x_2, x_3⟩ := BX.out
  go_wp2_with fail
  refine (Tells.of (may_any W D J S _) (v' := .bool false) (by rw [HM.out])).mono ?_
  rintro _ w2 ⟨rfl, z⟩
  replace Z := Lib.hid (Z.out.trans (z.mono Z.out.size))
  clear z
  go_wp2
  go_ret
  exact ⟨rfl, Z.out⟩
set_option maxRecDepth 100000 in
set_option maxHeartbeats 2000000 in
theorem fresh_main (W D J S v : Int) (w : World) (hm : may W D J S = true) (hv : U v) : Tells 5 #[cf W D J S, .int .u64 v] w (.bool true) := by
  obtain ⟨hW, hD, hJ, hS⟩ := may_lim hm
  have hlim := sz_lim W D J S
  obtain ⟨N, hN⟩ := Int.eq_ofNat_of_zero_le hlim.1
  have hN2 : N ≤ 190 := by omega
  have HM := Lib.hid hm
  have HN2 := Lib.hid hN2
  have HNN := Lib.hid hN
  have HUV := Lib.hid hv
  have HOK0 := Lib.hid (show okm W D J S (List.replicate N 0) = true by unfold okm; rw [hm]; simp [hN])
  have HJ := Lib.hid hJ
  clear hW hD hS hlim hN hm hv hN2
  go_enter Try.func5, Try.ntmps5
  go_wp2_with fail
  refine (awake_any _).mono ?_
  rintro _ w1 ⟨rfl, z⟩
  have BX := Lib.hid ((Bx.mk w W D J S 23).below z)
  have Z := Lib.hid ((box_below w _).trans (z.mono (by simp)))
  clear z
  obtain ⟨gx, x_0, x_1, x_2, x_3⟩ := BX.out
  go_wp2_with fail
  refine (Tells.of (may_any W D J S _) (v' := .bool true) (by rw [HM.out])).mono ?_
  rintro _ w2 ⟨rfl, z⟩
  clear gx x_0 x_1 x_2 x_3
  replace Z := Lib.hid (Z.out.trans (z.mono Z.out.size))
  replace BX := Lib.hid (BX.out.below z)
  clear z
  obtain ⟨gx, x_0, x_1, x_2, x_3⟩ := BX.out
  go_wp2_with fail
  refine (new_at W D J S N _ HNN.out HN2.out).mono ?_
  rintro _ w3 ⟨A3, c3, rfl, hr3, z⟩
  clear gx x_0 x_1 x_2 x_3
  replace Z := Lib.hid (Z.out.trans (z.mono Z.out.size))
  replace BX := Lib.hid (BX.out.below z)
  have LM := Lib.hid hr3
  clear hr3 z
  have HLX := Lib.hid BX.out.1
  have HZ3 := Lib.hid Z.out.size
  have hw3 : ∃ wb, wb = w3 := ⟨w3, rfl⟩
  obtain ⟨wb, hwb⟩ := hw3
  have HWB := Lib.hid hwb
  clear hwb
  go_wp2
  go_loopw [7, 6] (fun i s wr => ∃ (j : Nat) (A : Option Addr) (c : Nat) (M : List Int), i = .int .i64 j ∧ s = .slice A N c ∧ (j : Int) ≤ J + 1 ∧ Hid (Rd wr A M) ∧ Hid (M.length = N) ∧ Hid (UM M) ∧ Hid (okm W D J S M = true) ∧ Hid (Vi J M 0 (Lv0 v (min j J.toNat))) ∧ Hid (Below w3.heap.size w3 wr)) (fun i _ _ => (J + 2).toNat - (intOf i).toNat)
  case atStart =>
    exact ⟨0, A3, c3, List.replicate N 0, rfl, rfl, by omega, LM, Lib.hid (by simp), Lib.hid (fun u hu => by rw [List.eq_of_mem_replicate hu]; exact U0), HOK0, Lib.hid (by simpa [Lv0] using Vi.new HM.out N), Lib.hid (Below.refl _ _)⟩
  case round =>
    clear LM
    obtain ⟨j, A, c, M, rfl, rfl, hj, LA, HL, HUM, HOK, HVI, KZ⟩ := hrel
    obtain ⟨wo, hwo⟩ : ∃ wo, wo = wr := ⟨_, rfl⟩
    subst hwo
    replace BX := Lib.hid (BX.out.below KZ.out)
    replace Z := Lib.hid (Z.out.trans (KZ.out.mono HZ3.out))
    have hJ16 := HJ.out.2
    by_cases hlt : (j : Int) ≤ J
    · have d2 : (j : Int) ≤ 16 := by omega
      have e1 : IntKind.u64.wrap (j : Int) = j := by rw [IntKind.wrap_u64]; omega
      obtain ⟨u, hu⟩ : ∃ u, u = (v + j) % 18446744073709551616 := ⟨_, rfl⟩
      have e2 : IntKind.u64.wrap (v + j) = u := by rw [IntKind.wrap_u64, hu]
      have HUU := Lib.hid (show U u by rw [hu]; exact mod_U _)
      have HU0 := Lib.hid hu
      clear hu
      obtain ⟨gx, x_0, x_1, x_2, x_3⟩ := BX.out
      go_wp2_with fail
      refine (begin_any 3 0 u _).mono ?_
      rintro _ w4 ⟨rfl, z⟩
      clear gx x_0 x_1 x_2 x_3
      replace Z := Lib.hid (Z.out.trans (z.mono Z.out.size))
      replace BX := Lib.hid (BX.out.below z)
      replace LA := Lib.hid (LA.out.below z)
      replace KZ := Lib.hid (KZ.out.trans (z.mono KZ.out.size))
      clear z
      have HBX := Lib.hid (Nat.ne_of_lt (show w.heap.size < w4.heap.size from BX.out.1))
      have hzf := Lib.hid Z.out.size
      have hkf := Lib.hid KZ.out.size
      obtain ⟨ws, hws⟩ : ∃ ws, ws = w4.alloc (.cells #[.int .i64 (fbg 3 0 u).op, .int .i64 (fbg 3 0 u).pc, .int .i64 (fbg 3 0 u).who, .int .u64 (fbg 3 0 u).val, .int .u64 (fbg 3 0 u).x, .int .u64 (fbg 3 0 u).y, .int .i64 (fbg 3 0 u).res] 28) := ⟨_, rfl⟩
      have hz := box_below w4 (.cells #[.int .i64 (fbg 3 0 u).op, .int .i64 (fbg 3 0 u).pc, .int .i64 (fbg 3 0 u).who, .int .u64 (fbg 3 0 u).val, .int .u64 (fbg 3 0 u).x, .int .u64 (fbg 3 0 u).y, .int .i64 (fbg 3 0 u).res] 28)
      rw [← hws] at hz
      have BF := Lib.hid (show Bf ws w4.heap.size (fbg 3 0 u) by rw [hws]; exact Bf.new w4 (fbg 3 0 u))
      replace BX := Lib.hid (BX.out.below hz)
      replace LA := Lib.hid (LA.out.below hz)
      replace Z := Lib.hid (Z.out.trans (hz.mono Z.out.size))
      replace KZ := Lib.hid (KZ.out.trans (hz.mono KZ.out.size))
      have HW := Lib.hid hws
      clear hz hws
      have HBB := Lib.hid BF.out.lt
      by_cases hfull : (j : Int) = J
      · obtain ⟨hend, hres⟩ := fresh_full (u := u) HOK.out HVI.out (by rw [Lv0_len]; omega)
        have HEND := Lib.hid hend
        have HRES := Lib.hid hres
        have HUN := Lib.hid (fun k => enqN_U (W := W) (D := D) (J := J) (S := S) (s := (M, fbg 3 0 u)) HUM.out ⟨HUU.out, U0, U0⟩ k)
        have HL5 := HL
        have HUM5 := HUM
        have HOK5 := HOK
        have HVI5 := Lib.hid (show Vi J M 0 (Lv0 v (min (j + 1) J.toNat)) by rw [show min (j + 1) J.toNat = min j J.toNat by omega]; exact HVI.out)
        have hjj : ((j : Int) == J) = true := by simpa using hfull
        clear hend hres
        have HFULL := Lib.hid hfull
        clear hfull
        go_wp2
        go_loopw [9, 6] (fun i s wr => ∃ (t : Nat) (A : Option Addr) (c : Nat), i = .int .i64 t ∧ s = .slice A N c ∧ t ≤ 2 ∧ Hid (Rd wr A (itN (enqS W D J S) t (M, fbg 3 0 u)).1) ∧ Hid (Bf wr w4.heap.size (itN (enqS W D J S) t (M, fbg 3 0 u)).2) ∧ Hid (Kb w4.heap.size ws wr)) (fun i _ _ => 2 - (intOf i).toNat)
        case atStart =>
          obtain rfl := HW.out
          exact ⟨0, A, c, rfl, rfl, by omega, LA, BF, Lib.hid (Kb.refl _ _)⟩
        case round =>
          clear BF LA
          obtain ⟨t, A, c, rfl, rfl, ht, LB, BF, KB⟩ := hrel
          by_cases htk : t < 2
          · have HUj := Lib.hid (HUN.out t).2
            have HLj := Lib.hid ((enqN_len W D J S t (M, fbg 3 0 u)).trans HL.out)
            have HE := Lib.hid (itN_succ (enqS W D J S) t (M, fbg 3 0 u))
            have hr0 := HRES.out t htk
            generalize (itN (enqS W D J S) t (M, fbg 3 0 u)).1 = P at *
            generalize (itN (enqS W D J S) t (M, fbg 3 0 u)).2 = G at *
            obtain ⟨M', F', HP⟩ : ∃ M' F', Hid (enqS W D J S P G = (M', F')) := ⟨_, _, Lib.hid rfl⟩
            have hgr : (G.res != 0) = false := by simp [hr0]
            have HGR := Lib.hid hgr
            clear hr0 hgr
            obtain ⟨d0, d1, d2, d3, d4, d5, d6⟩ := BF.out.cells
            have lBF := BF.out.lt
            have ht9 : (t : Int) < 9 := by omega
            go_wp2_with fail
            refine (Tells.of (over_any G _) (v' := .bool false) (by rw [HGR.out])).mono ?_
            rintro _ w6 ⟨rfl, z⟩
            have BF2 := Lib.hid (BF.out.after z)
            have LB2 := Lib.hid (LB.out.below z)
            have KB2 := Lib.hid (KB.out.call HBB.out z)
            clear z d0 d1 d2 d3 d4 d5 d6 lBF
            obtain ⟨_, b0, b1, b2, b3⟩ := BX.out.kb KB2.out HBX.out
            obtain ⟨d0, d1, d2, d3, d4, d5, d6⟩ := BF2.out.cells
            have lBF := BF2.out.lt
            have lBX := (BX.out.kb KB2.out HBX.out).1
            go_wp2_with fail
            refine (enq_n LB2.out HLj.out (by have := HN2.out; omega) HUj.out HP.out).mono ?_
            rintro _ w7 ⟨A', c', rfl, hn7, z⟩
            have BF3 := BF2.out.after z
            clear b0 b1 b2 b3 d0 d1 d2 d3 d4 d5 d6 lBF lBX
            obtain ⟨d0, d1, d2, d3, d4, d5, d6⟩ := BF3.cells
            have fz := BF3.free
            have lBF := BF3.lt
            have HN := Lib.hid (hn7.pf BF2.out.lt F')
            have HB3 := Lib.hid (BF3.pf F')
            have HK3 := Lib.hid ((KB2.out.call HBB.out z).pf F')
            clear hn7 BF3 z
            go_wp2_with fail
            go_roundw
            case rel => exact ⟨t + 1, A', c', by go_num, rfl, by omega, by rw [HE.out, HP.out]; exact Lib.hid HN.out.rd, by rw [HE.out, HP.out]; exact HB3, HK3⟩
            case measure => simp [intOf]; omega
          · obtain rfl : t = 2 := by omega
            rw [HEND.out] at LB BF
            simp only at LB BF
            replace BX := Lib.hid (BX.out.kb KB.out HBX.out)
            replace Z := Lib.hid (Z.out.trans (KB.out.low.mono hzf.out))
            replace KZ := Lib.hid (KZ.out.trans (KB.out.low.mono hkf.out))
            clear KB HBB HW ht htk
            obtain ⟨a0, a1, a2, a3, a4, a5, a6⟩ := BF.out.cells
            have la := BF.out.lt
            simp only at a0 a1 a2 a3 a4 a5 a6
            obtain ⟨gx, x_0, x_1, x_2, x_3⟩ := BX.out
            go_wp2_with fail
            refine (over_any ⟨3, 0, 0, u, 0, 0, 2⟩ _).mono ?_
            rintro _ w8 ⟨rfl, z⟩
            clear a0 a1 a2 a3 a4 a5 a6 la gx x_0 x_1 x_2 x_3
            replace Z := Lib.hid (Z.out.trans (z.mono Z.out.size))
            replace BX := Lib.hid (BX.out.below z)
            replace LB := Lib.hid (LB.out.below z)
            replace BF := Lib.hid (BF.out.after z)
            replace KZ := Lib.hid (KZ.out.trans (z.mono KZ.out.size))
            clear z
            obtain ⟨a0, a1, a2, a3, a4, a5, a6⟩ := BF.out.cells
            have la := BF.out.lt
            simp only at a0 a1 a2 a3 a4 a5 a6
            obtain ⟨gx, x_0, x_1, x_2, x_3⟩ := BX.out
            go_wp2
            go_roundw
            case rel => exact ⟨j + 1, A, c, M, by go_num, rfl, by omega, LB, HL5, HUM5, HOK5, HVI5, KZ⟩
            case measure => simp [intOf]; omega
      · obtain ⟨M5, hend, hok5, hvi5, hres⟩ := fresh_room (u := u) HOK.out HVI.out (by rw [Lv0_len]; omega)
        have HEND := Lib.hid hend
        have HRES := Lib.hid hres
        have HUN := Lib.hid (fun k => enqN_U (W := W) (D := D) (J := J) (S := S) (s := (M, fbg 3 0 u)) HUM.out ⟨HUU.out, U0, U0⟩ k)
        have HL5 := Lib.hid (show M5.length = N by have h := enqN_len W D J S 5 (M, fbg 3 0 u); rw [hend] at h; exact h.trans HL.out)
        have HUM5 := Lib.hid (show UM M5 by have h := (HUN.out 5).1; rw [hend] at h; exact h)
        have HOK5 := Lib.hid hok5
        have HVI5 := Lib.hid (show Vi J M5 0 (Lv0 v (min (j + 1) J.toNat)) by rw [show min (j + 1) J.toNat = j + 1 by omega, Lv0_succ, ← HU0.out]; rw [show min j J.toNat = j by omega] at hvi5; exact hvi5)
        have HLEN := Lib.hid (show ilen W D J S M5 = (j : Int) + 1 by have h := (ilst_of hok5 HVI5.out).2; rw [Lv0_len] at h; rw [h]; omega)
        have hjj : ((j : Int) == J) = false := by simpa using hfull
        clear hend hres hok5 hvi5
        have HFULL := Lib.hid hfull
        clear hfull
        go_wp2
        go_loopw [9, 6] (fun i s wr => ∃ (t : Nat) (A : Option Addr) (c : Nat), i = .int .i64 t ∧ s = .slice A N c ∧ t ≤ 5 ∧ Hid (Rd wr A (itN (enqS W D J S) t (M, fbg 3 0 u)).1) ∧ Hid (Bf wr w4.heap.size (itN (enqS W D J S) t (M, fbg 3 0 u)).2) ∧ Hid (Kb w4.heap.size ws wr)) (fun i _ _ => 5 - (intOf i).toNat)
        case atStart =>
          obtain rfl := HW.out
          exact ⟨0, A, c, rfl, rfl, by omega, LA, BF, Lib.hid (Kb.refl _ _)⟩
        case round =>
          clear BF LA
          obtain ⟨t, A, c, rfl, rfl, ht, LB, BF, KB⟩ := hrel
          by_cases htk : t < 5
          · have HUj := Lib.hid (HUN.out t).2
            have HLj := Lib.hid ((enqN_len W D J S t (M, fbg 3 0 u)).trans HL.out)
            have HE := Lib.hid (itN_succ (enqS W D J S) t (M, fbg 3 0 u))
            have hr0 := HRES.out t htk
            generalize (itN (enqS W D J S) t (M, fbg 3 0 u)).1 = P at *
            generalize (itN (enqS W D J S) t (M, fbg 3 0 u)).2 = G at *
            obtain ⟨M', F', HP⟩ : ∃ M' F', Hid (enqS W D J S P G = (M', F')) := ⟨_, _, Lib.hid rfl⟩
            have hgr : (G.res != 0) = false := by simp [hr0]
            have HGR := Lib.hid hgr
            clear hr0 hgr
            obtain ⟨d0, d1, d2, d3, d4, d5, d6⟩ := BF.out.cells
            have lBF := BF.out.lt
            have ht9 : (t : Int) < 9 := by omega
            go_wp2_with fail
            refine (Tells.of (over_any G _) (v' := .bool false) (by rw [HGR.out])).mono ?_
            rintro _ w6 ⟨rfl, z⟩
            have BF2 := Lib.hid (BF.out.after z)
            have LB2 := Lib.hid (LB.out.below z)
            have KB2 := Lib.hid (KB.out.call HBB.out z)
            clear z d0 d1 d2 d3 d4 d5 d6 lBF
            obtain ⟨_, b0, b1, b2, b3⟩ := BX.out.kb KB2.out HBX.out
            obtain ⟨d0, d1, d2, d3, d4, d5, d6⟩ := BF2.out.cells
            have lBF := BF2.out.lt
            have lBX := (BX.out.kb KB2.out HBX.out).1
            go_wp2_with fail
            refine (enq_n LB2.out HLj.out (by have := HN2.out; omega) HUj.out HP.out).mono ?_
            rintro _ w7 ⟨A', c', rfl, hn7, z⟩
            have BF3 := BF2.out.after z
            clear b0 b1 b2 b3 d0 d1 d2 d3 d4 d5 d6 lBF lBX
            obtain ⟨d0, d1, d2, d3, d4, d5, d6⟩ := BF3.cells
            have fz := BF3.free
            have lBF := BF3.lt
            have HN := Lib.hid (hn7.pf BF2.out.lt F')
            have HB3 := Lib.hid (BF3.pf F')
            have HK3 := Lib.hid ((KB2.out.call HBB.out z).pf F')
            clear hn7 BF3 z
            go_wp2_with fail
            go_roundw
            case rel => exact ⟨t + 1, A', c', by go_num, rfl, by omega, by rw [HE.out, HP.out]; exact Lib.hid HN.out.rd, by rw [HE.out, HP.out]; exact HB3, HK3⟩
            case measure => simp [intOf]; omega
          · obtain rfl : t = 5 := by omega
            rw [HEND.out] at LB BF
            simp only at LB BF
            replace BX := Lib.hid (BX.out.kb KB.out HBX.out)
            replace Z := Lib.hid (Z.out.trans (KB.out.low.mono hzf.out))
            replace KZ := Lib.hid (KZ.out.trans (KB.out.low.mono hkf.out))
            clear KB HBB HW ht htk
            obtain ⟨a0, a1, a2, a3, a4, a5, a6⟩ := BF.out.cells
            have la := BF.out.lt
            simp only at a0 a1 a2 a3 a4 a5 a6
            obtain ⟨gx, x_0, x_1, x_2, x_3⟩ := BX.out
            go_wp2_with fail
            refine (over_any ⟨3, 0, 0, u, 0, 0, 1⟩ _).mono ?_
            rintro _ w8 ⟨rfl, z⟩
            clear a0 a1 a2 a3 a4 a5 a6 la gx x_0 x_1 x_2 x_3
            replace Z := Lib.hid (Z.out.trans (z.mono Z.out.size))
            replace BX := Lib.hid (BX.out.below z)
            replace LB := Lib.hid (LB.out.below z)
            replace BF := Lib.hid (BF.out.after z)
            replace KZ := Lib.hid (KZ.out.trans (z.mono KZ.out.size))
            clear z
            obtain ⟨a0, a1, a2, a3, a4, a5, a6⟩ := BF.out.cells
            have la := BF.out.lt
            simp only at a0 a1 a2 a3 a4 a5 a6
            obtain ⟨gx, x_0, x_1, x_2, x_3⟩ := BX.out
            go_wp2_with fail
            refine (Tells.of (qlen_any W D J S A N c M5 _ LB.out HL5.out (by have := HN2.out; omega)) (v' := .int .i64 ((j : Int) + 1)) (by rw [HLEN.out])).mono ?_
            rintro _ w9 ⟨rfl, z⟩
            clear a0 a1 a2 a3 a4 a5 a6 la gx x_0 x_1 x_2 x_3
            replace Z := Lib.hid (Z.out.trans (z.mono Z.out.size))
            replace BX := Lib.hid (BX.out.below z)
            replace LB := Lib.hid (LB.out.below z)
            replace BF := Lib.hid (BF.out.after z)
            replace KZ := Lib.hid (KZ.out.trans (z.mono KZ.out.size))
            clear z
            obtain ⟨a0, a1, a2, a3, a4, a5, a6⟩ := BF.out.cells
            have la := BF.out.lt
            simp only at a0 a1 a2 a3 a4 a5 a6
            obtain ⟨gx, x_0, x_1, x_2, x_3⟩ := BX.out
            go_wp2
            go_roundw
            case rel => exact ⟨j + 1, A, c, M5, by go_num, rfl, by omega, LB, HL5, HUM5, HOK5, HVI5, KZ⟩
            case measure => simp [intOf]; omega
    · have HLEN := Lib.hid (show ilen W D J S M = J by have h := (ilst_of HOK.out HVI.out).2; rw [Lv0_len] at h; rw [h]; omega)
      obtain ⟨gx, x_0, x_1, x_2, x_3⟩ := BX.out
      have HK := Lib.hid (show ∀ x', Below wo.heap.size wo x' → (fun w' => w'.cell? ⟨w.heap.size, 0, none⟩ = some (.int .i64 W) ∧ w'.cell? ⟨w.heap.size, 1, none⟩ = some (.int .i64 D) ∧ w'.cell? ⟨w.heap.size, 2, none⟩ = some (.int .i64 J) ∧ w'.cell? ⟨w.heap.size, 3, none⟩ = some (.int .i64 S) ∧ Below wo.heap.size wo w') x' from fun x' hx => by
        obtain ⟨_, e0, e1, e2, e3⟩ := BX.out.below hx
        exact ⟨e0, e1, e2, e3, hx⟩)
      have HLM := Lib.hid (show ∀ x', (fun w' => w'.cell? ⟨w.heap.size, 0, none⟩ = some (.int .i64 W) ∧ w'.cell? ⟨w.heap.size, 1, none⟩ = some (.int .i64 D) ∧ w'.cell? ⟨w.heap.size, 2, none⟩ = some (.int .i64 J) ∧ w'.cell? ⟨w.heap.size, 3, none⟩ = some (.int .i64 S) ∧ Below wo.heap.size wo w') x' → Rd x' A M from fun x' hx => LA.out.below hx.2.2.2.2)
      have HZ := Lib.hid (show ∀ x', (fun w' => w'.cell? ⟨w.heap.size, 0, none⟩ = some (.int .i64 W) ∧ w'.cell? ⟨w.heap.size, 1, none⟩ = some (.int .i64 D) ∧ w'.cell? ⟨w.heap.size, 2, none⟩ = some (.int .i64 J) ∧ w'.cell? ⟨w.heap.size, 3, none⟩ = some (.int .i64 S) ∧ Below wo.heap.size wo w') x' → Below w.heap.size w x' from fun x' hx => Z.out.trans (hx.2.2.2.2.mono Z.out.size))
      have hHeld0 := HK.out _ (Below.refl _ _)
      go_wp2_with fail
      go_region_held3 (fun w' => w'.cell? ⟨w.heap.size, 0, none⟩ = some (.int .i64 W) ∧ w'.cell? ⟨w.heap.size, 1, none⟩ = some (.int .i64 D) ∧ w'.cell? ⟨w.heap.size, 2, none⟩ = some (.int .i64 J) ∧ w'.cell? ⟨w.heap.size, 3, none⟩ = some (.int .i64 S) ∧ Below wo.heap.size wo w')
        (first | with_reducible exact held_drew HK.out (fun _ h => h.2.2.2.2) (by assumption) | with_reducible exact held_call HK.out (fun _ h => h.2.2.2.2) (by assumption) (by assumption))
        (first | (go_at_call 15; (refine (Tells.of (qlen_any W D J S A N c M _ (HLM.out _ (by assumption)) HL.out (by have := HN2.out; omega)) (v' := .int .i64 J) (by rw [HLEN.out])).mono ?_); rintro _ w9 ⟨rfl, hb⟩))
      all_goals
        go_wp2
        go_ret
        exact ⟨rfl, HZ.out _ (by assumption)⟩
theorem fresh_walk (W D J S v : Int) (w : World) (hv : U v) : Tells 5 #[cf W D J S, .int .u64 v] w (.bool true) := by
  cases hm : may W D J S
  · exact fresh_no W D J S v w hm
  · exact fresh_main W D J S v w hm hv
end Go.Proofs.Ytoneifkpjmkokaa
