/- EventSigns. -/
import Derived.Test.YtgemaeibmgkneaaEvS
namespace Go.Proofs.Ytgemaeibmgkneaa
open Go.RowKit Go.Deep
set_option maxHeartbeats 4000000 in
set_option maxRecDepth 100000 in
theorem signs_any (A B : Option Addr) (nc cc nw cw : Nat) (x : Int) (calls : List (List Int)) (who : List Int) (w : World) (hA : Rl w A calls) (hB : Ri w B who) (hnc : calls.length = nc) (hnw : who.length = nw) :
    Tells 3 #[.slice A nc cc, .slice B nw cw, .int .i64 x] w (.bool true) := by
  have HA := Lib.hid hA
  have HB := Lib.hid hB
  have HNC := Lib.hid hnc
  have HNW := Lib.hid hnw
  clear hA hB hnc hnw
  go_enter Try.func3, Try.ntmps3
  go_wp2_with fail
  refine (awake_any w).mono ?_
  rintro _ w1 ⟨rfl, z1⟩
  have HA1 := Lib.hid (HA.out.below z1)
  have HB1 := Lib.hid (HB.out.below z1)
  have Z1 := Lib.hid z1
  clear z1 HA HB
  go_wp2_with fail
  refine (few_any A nc cc calls w1 HA1.out HNC.out).mono ?_
  rintro _ w2 ⟨rfl, z2⟩
  have HA2 := Lib.hid (HA1.out.below z2)
  have HB2 := Lib.hid (HB1.out.below z2)
  have Z2 := Lib.hid (Z1.out.trans (z2.mono Z1.out.size))
  clear z2 HA1 HB1 Z1
  cases hf : fewE calls
  · clear hf
    go_wp2
    go_ret
    exact ⟨rfl, Z2.out⟩
  obtain ⟨h10, h30⟩ := fewE_of hf
  rw [HNC.out] at h10
  have H30 := Lib.hid (show ∀ l ∈ calls, l.length ≤ 500 from fun l hl => Nat.le_trans (h30 l hl) (by omega))
  have H31 := Lib.hid h30
  clear hf h30
  by_cases hn : 500 < nw
  · have d1 : decide ((nw : Int) > 500) = true := decide_eq_true (by omega)
    clear hn
    go_wp2
    go_ret
    exact ⟨rfl, Z2.out⟩
  have d1 : decide ((nw : Int) > 500) = false := decide_eq_false (by omega)
  by_cases hx0 : x < 0
  · have dhx0 : decide (x < 0) = true := decide_eq_true (by omega)
    clear hx0
    go_wp2
    go_ret
    exact ⟨rfl, Z2.out⟩
  have dhx0 : decide (x < 0) = false := decide_eq_false (by omega)
  by_cases hxn : (nc : Int) ≤ x
  · have dhxn : decide (x ≥ (nc : Int)) = true := decide_eq_true (by omega)
    clear hxn
    go_wp2
    go_ret
    exact ⟨rfl, Z2.out⟩
  have dhxn : decide (x ≥ (nc : Int)) = false := decide_eq_false (by omega)
  obtain ⟨k, rfl⟩ := Int.eq_ofNat_of_zero_le (show 0 ≤ x by omega)
  go_wp2_with fail
  obtain ⟨⟨m, a, over⟩, hpl⟩ : ∃ s, plE calls who = s := ⟨_, rfl⟩
  refine (play_n HA2.out HB2.out HNC.out HNW.out (by omega) H30.out hpl).mono ?_
  rintro _ w3 ⟨Am, cm, Ao, co, Aa, ca, rfl, rm, ro, hco, ra, hca, z3⟩
  have HA3 := Lib.hid (HA2.out.below z3)
  have HB3 := Lib.hid (HB2.out.below z3)
  have Z3 := Lib.hid (Z2.out.trans (z3.mono Z2.out.size))
  have RM := Lib.hid rm
  have RO := Lib.hid ro
  have RA := Lib.hid ra
  have HPL := Lib.hid hpl
  clear rm ro ra hco hca z3 hpl HA2 HB2 Z2
  have Hn := HNC.out
  cases hm : may nc 1 1 0
  · have hm2 : may calls.length 1 1 0 = false := by rw [Hn]; exact hm
    have hp := HPL.out
    rw [plE_no hm2] at hp
    cases hp
    have hst := stE_no (who := who) hm2 k
    go_wp2_with fail
    refine (states_n HA3.out HB3.out HNC.out HNW.out (by omega) H30.out hst).mono ?_
    rintro _ w4 ⟨rfl, z4⟩
    have Z4 := Lib.hid (Z3.out.trans (z4.mono Z3.out.size))
    have d3 : decide ((k : Int) ≥ 0) = true := decide_eq_true (by omega)
    clear hm hm2 hst z4 Z3 HA3 HB3 dhx0 dhxn
    go_wp2
    go_ret
    exact ⟨rfl, Z4.out⟩
  · have hm2 : may calls.length 1 1 0 = true := by rw [Hn]; exact hm
    have hp := HPL.out
    rw [plE_yes hm2] at hp
    have hk : k < nc := by omega
    obtain ⟨hst, hs5⟩ := signs_E (who := who) hm2 (by rw [HNW.out]; omega) (show k < calls.length by rw [Hn]; exact hk)
    have hal := playE_al calls who
    simp only [Prod.mk.injEq] at hp
    obtain ⟨e1, e2, e3⟩ := hp
    rw [e1, e2] at hs5
    rw [e2] at hst hal
    clear e1 e2 e3
    rw [Hn] at hal hs5
    go_wp2_with fail
    refine (states_n HA3.out HB3.out HNC.out HNW.out (by omega) H30.out hst).mono ?_
    rintro _ w4 ⟨rfl, z4⟩
    have Z4 := Lib.hid (Z3.out.trans (z4.mono Z3.out.size))
    have RA4 := Lib.hid (RA.out.later z4)
    have RM4 := Lib.hid (RM.out.below z4)
    have hl : k < a.length := by rw [hal]; exact hk
    obtain ⟨b, off, rfl, hb, hC⟩ := RA4.out.at hl
    have hg : a[k] = a.getD k fnE := by rw [List.getD_eq_getElem?_getD, List.getElem?_eq_getElem hl]; rfl
    rw [hg] at hC
    generalize a.getD k fnE = f at hC hs5 ⊢
    have HS5 := Lib.hid hs5
    have HML := Lib.hid (show m.length ≤ 500 by
      have h1 := (plE_len calls who H30.out).1
      rw [HPL.out] at h1
      exact h1)
    obtain ⟨nm, hnm⟩ : ∃ nm, m.length = nm := ⟨_, rfl⟩
    have HNM := Lib.hid hnm
    rw [hnm]
    clear hst hs5 hal z4 hg hl HA3 HB3 Z3 RA RM RA4 dhx0 dhxn hm hm2 hnm
    obtain ⟨o, p, q, v, xx, y, s⟩ := f
    obtain ⟨a0, a1, a2, a3, a4, a5, a6⟩ := hC
    simp only at a0 a1 a2 a3 a4 a5 a6
    have d4 : decide ((k : Int) ≥ (nc : Int)) = false := decide_eq_false (by omega)
    by_cases h5 : o = 5
    · obtain rfl := h5
      by_cases h3 : p < 3
      · have d5 : decide (p < 3) = true := decide_eq_true h3
        have e0 : inE ⟨5, p, q, v, xx, y, s⟩ = 0 := by unfold inE; rw [if_neg (fun h => by have := h.2; simp only at this; omega)]
        rw [e0]
        clear e0 h3 HS5
        go_wp2
        go_ret
        exact ⟨rfl, Z4.out.alloc Z4.out.size _⟩
      · have d5 : decide (p < 3) = false := decide_eq_false h3
        have e0 : inE ⟨5, p, q, v, xx, y, s⟩ = 1 := by unfold inE; rw [if_pos ⟨rfl, by simp only; omega⟩]
        rw [e0]
        obtain ⟨hp5, hp4⟩ := HS5.out rfl
        simp only at hp5 hp4
        have hc : p = 3 ∨ p = 4 := by omega
        rcases hc with rfl | rfl
        · clear e0 h3 HS5 hp4 hp5
          go_wp2
          go_ret
          exact ⟨rfl, (Z4.out.alloc Z4.out.size _).alloc (Z4.out.alloc Z4.out.size _).size _⟩
        · have HP4 := Lib.hid (hp4 rfl)
          clear e0 h3 HS5 hp4 hp5
          have B1 := Bx.mk (w4.alloc (.cells #[.int .i64 5, .int .i64 4, .int .i64 q, .int .u64 v, .int .u64 xx, .int .u64 y, .int .i64 s] 34)) nc 1 1 0 36
          have y1 := bel_alloc w4 (.cells #[.int .i64 5, .int .i64 4, .int .i64 q, .int .u64 v, .int .u64 xx, .int .u64 y, .int .i64 s] 34)
          have y2 := bel_alloc (w4.alloc (.cells #[.int .i64 5, .int .i64 4, .int .i64 q, .int .u64 v, .int .u64 xx, .int .u64 y, .int .i64 s] 34)) (.cells #[.int .i64 nc, .int .i64 1, .int .i64 1, .int .i64 0] 36)
          have F1 : Bf (w4.alloc (.cells #[.int .i64 5, .int .i64 4, .int .i64 q, .int .u64 v, .int .u64 xx, .int .u64 y, .int .i64 s] 34)) w4.heap.size ⟨5, 4, q, v, xx, y, s⟩ := heap_alloc_new _ _
          go_upto_region 13 with fail
          change Code.wp _ _ _ _ ((w4.alloc (.cells #[.int .i64 5, .int .i64 4, .int .i64 q, .int .u64 v, .int .u64 xx, .int .u64 y, .int .i64 s] 34)).alloc (.cells #[.int .i64 nc, .int .i64 1, .int .i64 1, .int .i64 0] 36))
          have F2 := F1.below y2 F1.lt
          have y3 := y1.trans (y2.mono y1.size)
          have hsz : (w4.alloc (.cells #[.int .i64 5, .int .i64 4, .int .i64 q, .int .u64 v, .int .u64 xx, .int .u64 y, .int .i64 s] 34)).heap.size = w4.heap.size + 1 := by simp
          rw [hsz] at B1
          clear F1 y1 y2 hsz a0 a1 a2 a3 a4 a5 a6
          generalize (w4.alloc (.cells #[.int .i64 5, .int .i64 4, .int .i64 q, .int .u64 v, .int .u64 xx, .int .u64 y, .int .i64 s] 34)).alloc (.cells #[.int .i64 nc, .int .i64 1, .int .i64 1, .int .i64 0] 36) = w5 at B1 F2 y3 ⊢
          obtain ⟨a0, a1, a2, a3, a4, a5, a6⟩ := F2.cells
          obtain ⟨_, b0, b1, b2, b3⟩ := B1
          have RM5 := Lib.hid (RM4.out.below y3)
          have Z5 := Lib.hid (Z4.out.trans (y3.mono Z4.out.size))
          clear y3 F2 RM4 Z4
          go_wp2_with fail
          refine (park_any nc 1 1 0 k _).mono ?_
          rintro _ w6 ⟨rfl, z6⟩
          have RM6 := Lib.hid (RM5.out.below z6)
          have Z6 := Lib.hid (Z5.out.trans (z6.mono Z5.out.size))
          obtain ⟨P, hP⟩ : ∃ P, ow nc 1 1 0 k 2 = P := ⟨_, rfl⟩
          have HP5 := Lib.hid (show at0 m P = 1 by rw [← hP]; exact HP4.out)
          rw [hP]
          clear z6 b0 b1 b2 b3 a0 a1 a2 a3 a4 a5 a6 hP HP4 RM5 Z5
          go_wp2_with fail
          refine (load_any Am nm cm m P _ RM6.out HNM.out (by rw [← HNM.out]; exact HML.out)).mono ?_
          rintro _ w7 ⟨rfl, z7⟩
          have Z7 := Lib.hid (Z6.out.trans (z7.mono Z6.out.size))
          rw [HP5.out]
          clear z7
          go_wp2
          go_ret
          exact ⟨rfl, Z7.out⟩
    · have e5 : (o == 5) = false := by simpa using h5
      have e5' : (o != 5) = true := by simpa using h5
      have e0 : inE ⟨o, p, q, v, xx, y, s⟩ = 0 := by unfold inE; rw [if_neg (fun h => h5 h.1)]
      rw [e0]
      clear e0 h5 HS5
      go_wp2
      go_ret
      exact ⟨rfl, Z4.out.alloc Z4.out.size _⟩
end Go.Proofs.Ytgemaeibmgkneaa
