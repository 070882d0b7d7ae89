/- EventWakes. -/
import Derived.Test.YtgemaeibmgkneaaEvS
namespace Go.Proofs.Ytgemaeibmgkneaa
open Go.RowKit Go.Deep Go.Shelf
set_option maxRecDepth 100000 in
theorem countP_take {p : Fr → Bool} {l : List Fr} {j : Nat} (h : j < l.length) : (l.take (j + 1)).countP p = (l.take j).countP p + (if p l[j] = true then 1 else 0) := by
  rw [List.take_succ_eq_append_getElem h, List.countP_append, List.countP_singleton]
/-- A wake of one (its number without a sign); a wait of one that has ended by a wake. -/
def oN (X : Int) (f : Fr) : Bool := decide (f.op = 6) && decide (f.res = 1) && decide (f.val = X)
def oW (x : Int) (f : Fr) : Bool := decide (f.op = 5) && decide (f.res = 1) && decide (f.who = x)
/-- Has a list an OpAll? -/
def has7 (l : List Int) : Bool := l.any (fun o => o == 7)
set_option maxRecDepth 100000 in
theorem has7_take {l : List Int} {j : Nat} (h : j < l.length) : has7 (l.take (j + 1)) = (has7 (l.take j) || (l[j] == 7)) := by
  unfold has7
  rw [List.take_succ_eq_append_getElem h, List.any_append]
  simp
set_option maxRecDepth 100000 in
theorem any7_take {ls : List (List Int)} {i : Nat} (h : i < ls.length) : (ls.take (i + 1)).any has7 = ((ls.take i).any has7 || has7 ls[i]) := by
  rw [List.take_succ_eq_append_getElem h, List.any_append]
  simp
set_option maxRecDepth 100000 in
/-- What was counted, if nobody calls OpAll. -/
theorem wakes_E (calls : List (List Int)) (who : List Int) (hw : who.length ≤ 500) (x X : Int) (hx : x < 9223372036854775808) (hX : (0 ≤ x ∧ X = x) ∨ (x < 0 ∧ 9223372036854775808 ≤ X)) (h7 : calls.any has7 = false) :
    (plE calls who).2.2.countP isW1 ≤ (plE calls who).2.2.countP isN1 ∧ (plE calls who).2.2.countP isN1 ≤ (plE calls who).2.2.countP isW1 + calls.length ∧ (plE calls who).2.2.countP (oW x) ≤ (plE calls who).2.2.countP (oN X) ∧ (plE calls who).2.2.countP (oN X) ≤ (plE calls who).2.2.countP (oW x) + 1 := by
  cases hm : may calls.length 1 1 0
  · rw [plE_no hm]; simp
  · obtain ⟨h1, h8⟩ := may11 hm
    rw [plE_yes hm]
    have hn7 : ∀ l ∈ calls, (7 : Int) ∉ l := fun l hl hc => by
      have := List.any_eq_false.1 h7 l hl
      apply this
      unfold has7
      exact List.any_eq_true.2 ⟨7, hc, rfl⟩
    have W := HW.play h1 h8 hn7 who hw
    have H := HE.play h1 h8 who hw
    obtain ⟨t1, t2, t3⟩ := W.tells
    refine ⟨t1, t2, ?_⟩
    simp only
    rcases hX with ⟨h0, rfl⟩ | ⟨h0, h9⟩
    · obtain ⟨k, rfl⟩ := Int.eq_ofNat_of_zero_le h0
      exact t3 k
    · have e1 : (playE calls who).over.countP (oW x) = 0 := by
        rw [List.countP_eq_zero]
        intro f hf
        obtain ⟨_, i, hi, hq⟩ := H.ov f hf
        unfold oW
        simp
        intro _ _
        omega
      have e2 : (playE calls who).over.countP (oN X) = 0 := by
        rw [List.countP_eq_zero]
        intro f hf
        unfold oN
        simp
        intro h6 h61
        obtain ⟨k, hk, hv⟩ := W.vl f hf h6 h61
        omega
      rw [e1, e2]
      omega
set_option maxHeartbeats 4000000 in
set_option maxRecDepth 100000 in
theorem wakes_any (A B : Option Addr) (nc cc nw cw : Nat) (x : Int) (calls : List (List Int)) (who : List Int) (w : World) (hA : Rl w A calls) (hB : Ri w B who) (hnc : calls.length = nc) (hnw : who.length = nw) (hwf : (Lit.int .i64 x).wf = true) :
    Tells 4 #[.slice A nc cc, .slice B nw cw, .int .i64 x] w (.bool true) := by
  obtain ⟨hx1, hx2⟩ := i_of hwf
  have hXw : ∃ X, IntKind.u64.wrap x = X ∧ ((0 ≤ x ∧ X = x) ∨ (x < 0 ∧ 9223372036854775808 ≤ X)) := ⟨_, rfl, by
    rw [IntKind.wrap_u64]
    omega⟩
  obtain ⟨X, hXe, hXc⟩ := hXw
  have HXE := Lib.hid hXe
  have HXC := Lib.hid hXc
  have HX2 := Lib.hid hx2
  clear hwf hXe hXc hx1 hx2
  have HA := Lib.hid hA
  have HB := Lib.hid hB
  have HNC := Lib.hid hnc
  have HNW := Lib.hid hnw
  clear hA hB hnc hnw
  go_enter Try.func4, Try.ntmps4
  go_wp2_with fail
  refine (awake_any w).mono ?_
  rintro _ w1 ⟨rfl, z1⟩
  have HA1 := Lib.hid (HA.out.below z1)
  have HB1 := Lib.hid (HB.out.below z1)
  have Z1 := Lib.hid z1
  clear z1 HA HB
  go_wp2_with fail
  refine (few_any A nc cc calls w1 HA1.out HNC.out).mono ?_
  rintro _ w2 ⟨rfl, z2⟩
  have HA2 := Lib.hid (HA1.out.below z2)
  have HB2 := Lib.hid (HB1.out.below z2)
  have Z2 := Lib.hid (Z1.out.trans (z2.mono Z1.out.size))
  clear z2 HA1 HB1 Z1
  cases hf : fewE calls
  · clear hf
    go_wp2
    go_ret
    exact ⟨rfl, Z2.out⟩
  obtain ⟨h10, h30⟩ := fewE_of hf
  rw [HNC.out] at h10
  have H30 := Lib.hid (show ∀ l ∈ calls, l.length ≤ 500 from fun l hl => Nat.le_trans (h30 l hl) (by omega))
  have H31 := Lib.hid h30
  clear hf h30
  by_cases hn : 500 < nw
  · have d1 : decide ((nw : Int) > 500) = true := decide_eq_true (by omega)
    clear hn
    go_wp2
    go_ret
    exact ⟨rfl, Z2.out⟩
  have d1 : decide ((nw : Int) > 500) = false := decide_eq_false (by omega)
  go_wp2_with fail
  obtain ⟨⟨m, a, over⟩, hpl⟩ : ∃ s, plE calls who = s := ⟨_, rfl⟩
  refine (play_n HA2.out HB2.out HNC.out HNW.out (by omega) H30.out hpl).mono ?_
  rintro _ w3 ⟨Am, cm, Ao, co, Aa, ca, rfl, rm, ro, hco, ra, hca, z3⟩
  have HA3 := Lib.hid (HA2.out.below z3)
  have HB3 := Lib.hid (HB2.out.below z3)
  have Z3 := Lib.hid (Z2.out.trans (z3.mono Z2.out.size))
  have RM := Lib.hid rm
  have RO := Lib.hid ro
  have RA := Lib.hid ra
  have HPL := Lib.hid hpl
  clear rm ro ra hco hca z3 hpl HA2 HB2 Z2
  obtain ⟨no, hno⟩ : ∃ no, over.length = no := ⟨_, rfl⟩
  have HNO := Lib.hid hno
  have hn5 : no ≤ 500 := by
    have h1 := (plE_len calls who H30.out).2.2.2
    rw [HPL.out, HNW.out] at h1
    simp only at h1
    omega
  rw [hno]
  clear hno RM RA
  go_wp2
  go_loopw [12, 13, 14, 15, 16] (fun c1 c2 c3 c4 v wr => ∃ (j k1 k2 k3 k4 : Nat), c1 = .int .i64 k1 ∧ c2 = .int .i64 k2 ∧ c3 = .int .i64 k3 ∧ c4 = .int .i64 k4 ∧ v = .int .i64 j ∧ j ≤ no ∧ k1 ≤ j ∧ k2 ≤ j ∧ k3 ≤ j ∧ k4 ≤ j ∧ Hid (k1 = (over.take j).countP isW1 ∧ k2 = (over.take j).countP isN1 ∧ k3 = (over.take j).countP (oN X) ∧ k4 = (over.take j).countP (oW x)) ∧ wr = w3) (fun _ _ _ _ v _ => no - (intOf v).toNat)
  case atStart => exact ⟨0, 0, 0, 0, 0, rfl, rfl, rfl, rfl, rfl, Nat.zero_le _, Nat.le_refl _, Nat.le_refl _, Nat.le_refl _, Nat.le_refl _, Lib.hid ⟨rfl, rfl, rfl, rfl⟩, by first | rfl | trivial⟩
  case round =>
    obtain ⟨j, k1, k2, k3, k4, rfl, rfl, rfl, rfl, rfl, hj, hk1, hk2, hk3, hk4, HK, rfl⟩ := hrel
    by_cases hlt : j < no
    · have hL : j < over.length := by rw [HNO.out]; exact hlt
      have d2 : decide ((j : Int) < (no : Int)) = true := decide_eq_true (by omega)
      obtain ⟨b, off, rfl, hb, hC⟩ := RO.out.at hL
      have t1 := countP_take (p := isW1) hL
      have t2 := countP_take (p := isN1) hL
      have t3 := countP_take (p := oN X) hL
      have t4 := countP_take (p := oW x) hL
      obtain ⟨q1, q2, q3, q4⟩ := HK.out
      rw [← q1] at t1
      rw [← q2] at t2
      rw [← q3] at t3
      rw [← q4] at t4
      generalize over[j] = f at hC t1 t2 t3 t4
      obtain ⟨o, p, q, v, xx, y, s⟩ := f
      obtain ⟨a0, a1, a2, a3, a4, a5, a6⟩ := hC
      simp only [isW1, isN1, oN, oW] at a0 a1 a2 a3 a4 a5 a6 t1 t2 t3 t4
      clear q1 q2 q3 q4 HK
      by_cases hs : s = 1
      · subst hs
        by_cases h7 : o = 7
        · subst h7
          clear t1 t2 t3 t4
          go_wp2
          go_ret
          exact ⟨rfl, Z3.out⟩
        have e7 : (o == 7) = false := by simpa using h7
        by_cases h6 : o = 6
        · subst h6
          by_cases hv : v = X
          · subst hv
            have HT := Lib.hid (show k1 = (over.take (j + 1)).countP isW1 ∧ k2 + 1 = (over.take (j + 1)).countP isN1 ∧ k3 + 1 = (over.take (j + 1)).countP (oN v) ∧ k4 = (over.take (j + 1)).countP (oW x) from ⟨by simpa using t1.symm, by simpa using t2.symm, by simpa using t3.symm, by simpa using t4.symm⟩)
            have ex := HXE.out
            clear t1 t2 t3 t4 h7
            go_wp2
            go_roundw
            case rel => exact ⟨j + 1, k1, k2 + 1, k3 + 1, k4, rfl, by go_num, by go_num, rfl, by go_num, by omega, by omega, by omega, by omega, by omega, HT, by first | rfl | trivial⟩
            case measure => simp [intOf]; omega
          · have HT := Lib.hid (show k1 = (over.take (j + 1)).countP isW1 ∧ k2 + 1 = (over.take (j + 1)).countP isN1 ∧ k3 = (over.take (j + 1)).countP (oN X) ∧ k4 = (over.take (j + 1)).countP (oW x) from ⟨by simpa using t1.symm, by simpa using t2.symm, by simpa [hv] using t3.symm, by simpa using t4.symm⟩)
            have ex := HXE.out
            have ev : (v == X) = false := by simpa using hv
            clear t1 t2 t3 t4 h7 hv
            go_wp2
            go_roundw
            case rel => exact ⟨j + 1, k1, k2 + 1, k3, k4, rfl, by go_num, rfl, rfl, by go_num, by omega, by omega, by omega, by omega, by omega, HT, by first | rfl | trivial⟩
            case measure => simp [intOf]; omega
        have e6 : (o == 6) = false := by simpa using h6
        by_cases h5 : o = 5
        · subst h5
          by_cases hv : q = x
          · subst hv
            have HT := Lib.hid (show k1 + 1 = (over.take (j + 1)).countP isW1 ∧ k2 = (over.take (j + 1)).countP isN1 ∧ k3 = (over.take (j + 1)).countP (oN X) ∧ k4 + 1 = (over.take (j + 1)).countP (oW q) from ⟨by simpa using t1.symm, by simpa using t2.symm, by simpa using t3.symm, by simpa using t4.symm⟩)
            have eq : (q == q) = true := by simp
            clear t1 t2 t3 t4 h7 h6
            go_wp2
            go_roundw
            case rel => exact ⟨j + 1, k1 + 1, k2, k3, k4 + 1, by go_num, rfl, rfl, by go_num, by go_num, by omega, by omega, by omega, by omega, by omega, HT, by first | rfl | trivial⟩
            case measure => simp [intOf]; omega
          · have HT := Lib.hid (show k1 + 1 = (over.take (j + 1)).countP isW1 ∧ k2 = (over.take (j + 1)).countP isN1 ∧ k3 = (over.take (j + 1)).countP (oN X) ∧ k4 = (over.take (j + 1)).countP (oW x) from ⟨by simpa using t1.symm, by simpa using t2.symm, by simpa using t3.symm, by simpa [hv] using t4.symm⟩)
            have ev : (q == x) = false := by simpa using hv
            clear t1 t2 t3 t4 h7 h6 hv
            go_wp2
            go_roundw
            case rel => exact ⟨j + 1, k1 + 1, k2, k3, k4, by go_num, rfl, rfl, rfl, by go_num, by omega, by omega, by omega, by omega, by omega, HT, by first | rfl | trivial⟩
            case measure => simp [intOf]; omega
        · have e5 : (o == 5) = false := by simpa using h5
          have HT := Lib.hid (show k1 = (over.take (j + 1)).countP isW1 ∧ k2 = (over.take (j + 1)).countP isN1 ∧ k3 = (over.take (j + 1)).countP (oN X) ∧ k4 = (over.take (j + 1)).countP (oW x) from ⟨by simpa [h5] using t1.symm, by simpa [h6] using t2.symm, by simpa [h6] using t3.symm, by simpa [h5] using t4.symm⟩)
          clear t1 t2 t3 t4 h7 h6 h5
          go_wp2
          go_roundw
          case rel => exact ⟨j + 1, k1, k2, k3, k4, rfl, rfl, rfl, rfl, by go_num, by omega, by omega, by omega, by omega, by omega, HT, by first | rfl | trivial⟩
          case measure => simp [intOf]; omega
      · have es : (s != 1) = true := by simpa using hs
        have HT := Lib.hid (show k1 = (over.take (j + 1)).countP isW1 ∧ k2 = (over.take (j + 1)).countP isN1 ∧ k3 = (over.take (j + 1)).countP (oN X) ∧ k4 = (over.take (j + 1)).countP (oW x) from ⟨by simpa [hs] using t1.symm, by simpa [hs] using t2.symm, by simpa [hs] using t3.symm, by simpa [hs] using t4.symm⟩)
        clear t1 t2 t3 t4 hs
        go_wp2
        go_roundw
        case rel => exact ⟨j + 1, k1, k2, k3, k4, rfl, rfl, rfl, rfl, by go_num, by omega, by omega, by omega, by omega, by omega, HT, by first | rfl | trivial⟩
        case measure => simp [intOf]; omega
    · obtain rfl : j = no := by omega
      have d2 : decide ((j : Int) < (j : Int)) = false := decide_eq_false (by omega)
      have hq := HK.out
      rw [← HNO.out, List.take_length] at hq
      have HQ := Lib.hid hq
      clear hq HK hlt
      go_wp2
      go_loopw [17, 18] (fun g v wr2 => ∃ (i : Nat) (h : Bool), g = .bool h ∧ v = .int .i64 i ∧ i ≤ nc ∧ Hid (h = (calls.take i).any has7) ∧ wr2 = wr) (fun _ v _ => nc - (intOf v).toNat)
      case atStart => exact ⟨0, false, rfl, rfl, Nat.zero_le _, Lib.hid rfl, by first | rfl | trivial⟩
      case round =>
        obtain ⟨i, h, rfl, rfl, hi, HH, rfl⟩ := hrel
        by_cases hlt : i < nc
        · have hL : i < calls.length := by rw [HNC.out]; exact hlt
          have d3 : decide ((i : Int) < (nc : Int)) = true := decide_eq_true (by omega)
          obtain ⟨ad, B0, cB, rfl, hal, hx, _, hP⟩ := HA3.out.at hL
          have h30 := H31.out _ (List.getElem_mem hL)
          have hct := any7_take hL
          rw [← HH.out] at hct
          generalize calls[i] = l at hx hct h30 hP
          obtain ⟨m, hm⟩ : ∃ m, l.length = m := ⟨_, rfl⟩
          rw [hm] at hx h30
          have HM := Lib.hid hm
          have HCT := Lib.hid hct
          have HP := Lib.hid hP
          clear hm hct HH hP
          go_wp2
          go_loopw [17, 19] (fun g v wr3 => ∃ (j2 : Nat) (h2 : Bool), g = .bool h2 ∧ v = .int .i64 j2 ∧ j2 ≤ m ∧ Hid (h2 = (h || has7 (l.take j2))) ∧ wr3 = wr) (fun _ v _ => m - (intOf v).toNat)
          case atStart => exact ⟨0, h, rfl, rfl, Nat.zero_le _, Lib.hid (by simp [has7]), by first | rfl | trivial⟩
          case round =>
            obtain ⟨j2, h2, rfl, rfl, hj2, HH2, rfl⟩ := hrel
            by_cases hlt2 : j2 < m
            · have hL2 : j2 < l.length := by rw [HM.out]; exact hlt2
              have d4 : decide ((j2 : Int) < (m : Int)) = true := decide_eq_true (by omega)
              obtain ⟨b1, off1, rfl, hbl, hbc⟩ := HP.out (by omega)
              have hy := hbc j2 _ (List.getElem?_eq_getElem hL2)
              have hft := has7_take hL2
              clear hbc
              generalize l[j2] = o at hy hft
              have HNX := Lib.hid (show (h2 || (o == 7)) = (h || has7 (l.take (j2 + 1))) by rw [hft, ← Bool.or_assoc, ← HH2.out])
              clear hft HH2
              cases h2
              · rw [Bool.false_or] at HNX
                go_wp2
                go_roundw
                case rel => exact ⟨j2 + 1, _, rfl, by go_num, by omega, HNX, by first | rfl | trivial⟩
                case measure => simp [intOf]; omega
              · rw [Bool.true_or] at HNX
                go_wp2
                go_roundw
                case rel => exact ⟨j2 + 1, true, rfl, by go_num, by omega, HNX, by first | rfl | trivial⟩
                case measure => simp [intOf]; omega
            · obtain rfl : j2 = m := by omega
              have d4 : decide ((j2 : Int) < (j2 : Int)) = false := decide_eq_false (by omega)
              have hq2 := HH2.out
              rw [← HM.out, List.take_length, ← HCT.out] at hq2
              have HNX := Lib.hid hq2
              clear hq2 HH2 hlt2
              go_wp2
              go_roundw
              case rel => exact ⟨i + 1, h2, rfl, by go_num, by omega, HNX, by first | rfl | trivial⟩
              case measure => simp [intOf]; omega
        · obtain rfl : i = nc := by omega
          have d3 : decide ((i : Int) < (i : Int)) = false := decide_eq_false (by omega)
          have hq2 := HH.out
          rw [← HNC.out, List.take_length] at hq2
          obtain ⟨e1, e2, e3, e4⟩ := HQ.out
          cases h
          · have hE := wakes_E calls who (by rw [HNW.out]; omega) x X (by have := HX2.out; omega) HXC.out hq2.symm
            rw [HPL.out] at hE
            simp only at hE
            rw [← e1, ← e2, ← e3, ← e4, HNC.out] at hE
            obtain ⟨g1, g2, g3, g4⟩ := hE
            have y1 : decide ((k1 : Int) ≤ (k2 : Int)) = true := decide_eq_true (by omega)
            have y2 : decide ((k4 : Int) ≤ (k3 : Int)) = true := decide_eq_true (by omega)
            have y3 : decide ((k2 : Int) ≤ (k1 : Int) + (i : Int)) = true := decide_eq_true (by omega)
            have y4 : decide ((k3 : Int) ≤ (k4 : Int) + 1) = true := decide_eq_true (by omega)
            have z1 : decide (k1 ≤ k2) = true := decide_eq_true g1
            have z2 : decide (k4 ≤ k3) = true := decide_eq_true g3
            have z3 : decide (k2 ≤ k1 + i) = true := decide_eq_true g2
            have z4 : decide (k3 ≤ k4 + 1) = true := decide_eq_true g4
            clear hq2 HH HQ e1 e2 e3 e4 g1 g2 g3 g4
            go_wp2
            go_ret
            exact ⟨rfl, Z3.out⟩
          · clear hq2 HH HQ e1 e2 e3 e4
            go_wp2
            go_ret
            exact ⟨rfl, Z3.out⟩
end Go.Proofs.Ytgemaeibmgkneaa
