/- The walk of InjectRoom. -/
import Derived.Test.YtppllanmgdhabaaIkV
namespace Go.Proofs.Ytppllanmgdhabaa
open Go.RowKit Go.Deep Go.Shelf
theorem plI_PV {J : Int} {outs : List (List Bool)} (who : List Int) (h8 : outs.length ≤ 8) (h30 : ∀ l ∈ outs, l.length ≤ 30) : PV J (csI outs).length who.length (playI J (csI outs) who) := by
  have h := fold_PV who 0 _ (PV.start (J := J) (csI_UF h8 h30).1 (csI_UF h8 h30).2)
  rw [Nat.zero_add] at h
  exact h
theorem sz_pos {J : Int} (h : may 1 1 J 0 = true) : 8 ≤ sz 1 1 J 0 := by
  obtain ⟨_, _, hJ, _⟩ := may_lim h
  rw [sz, if_pos h]
  exact (bg_lim (D := 1) (J := J) (x := 1) (by omega) hJ (by omega)).1
theorem plI_room {J : Int} {outs : List (List Bool)} (who : List Int) (h8 : outs.length ≤ 8) (h30 : ∀ l ∈ outs, l.length ≤ 30) : ((plI J (csI outs) who).1.length = 0 ∧ (plI J (csI outs) who).2.1.length = 0 ∧ (plI J (csI outs) who).2.2.length = 0) ∨
    (0 < (plI J (csI outs) who).1.length ∧ 1 ≤ J ∧ J ≤ 16 ∧ ((plI J (csI outs) who).2.2.countP isPE : Int) - (plI J (csI outs) who).2.2.countP isTD ≤ J + (plI J (csI outs) who).2.1.countP (fun f => decide (f.op = 4)) ∧ 0 ≤ ilen 1 1 J 0 (plI J (csI outs) who).1 ∧ ilen 1 1 J 0 (plI J (csI outs) who).1 ≤ J) := by
  rcases plI_cases (J := J) who h8 h30 with ⟨_, e⟩ | ⟨hm, h, H, nx, e, g⟩
  · rw [e]; exact .inl ⟨rfl, rfl, rfl⟩
  · rw [e]
    obtain ⟨r1, r2, r3⟩ := g.roomI h8 h30
    have hJ := (may_lim hm).2.2.1
    have hp := (plI_PV (J := J) who h8 h30).ml
    have hz := sz_pos hm
    exact .inr ⟨by simp only; omega, hJ.1, hJ.2, r1, r2, r3⟩
theorem inout_snoc {l : List Fr} {j : Nat} (h : j < l.length) : ((l.take (j + 1)).countP isPE : Int) - (l.take (j + 1)).countP isTD = if l[j].op = 3 ∧ l[j].res = 1 then ((l.take j).countP isPE : Int) - (l.take j).countP isTD + 1 else if l[j].op = 4 ∧ l[j].res = 1 then ((l.take j).countP isPE : Int) - (l.take j).countP isTD - 1 else ((l.take j).countP isPE : Int) - (l.take j).countP isTD := by
  rw [List.take_succ_eq_append_getElem h, List.countP_append, List.countP_append, List.countP_singleton, List.countP_singleton]
  generalize l[j] = f
  by_cases h3 : f.op = 3 ∧ f.res = 1
  · simp [isPE, isTD, h3]; omega
  · by_cases h4 : f.op = 4 ∧ f.res = 1
    · simp [isPE, isTD, h4]; omega
    · have e1 : isPE f = false := by
        cases hh : isPE f
        · rfl
        · exact absurd (by simpa [isPE] using hh) h3
      have e2 : isTD f = false := by
        cases hh : isTD f
        · rfl
        · exact absurd (by simpa [isTD] using hh) h4
      rw [if_neg h3, if_neg h4, e1, e2]; simp
set_option maxRecDepth 100000 in
set_option maxHeartbeats 4000000 in
theorem room_tells (J : Int) (A B : Option Addr) (n c nw cw : Nat) (outs : List (List Bool)) (who : List Int) (w : World) (hG : Rg w A outs) (hW : Ri w B who) (hn : outs.length = n) (hnw : who.length = nw) :
    Tells 6 #[.int .i64 J, .slice A n c, .slice B nw cw] w (.bool true) := by
  have HG := Lib.hid hG
  have HW := Lib.hid hW
  have HN := Lib.hid hn
  have HNW := Lib.hid hnw
  clear hG hW hn hnw
  go_enter Try.func6, Try.ntmps6
  go_wp2_with fail
  refine (awake_any _).mono ?_
  rintro _ w1 ⟨rfl, z1⟩
  have Z1 := Lib.hid z1
  clear z1
  obtain ⟨fb, HFB⟩ : ∃ b, Hid (fewB outs = b) := ⟨_, Lib.hid rfl⟩
  go_wp2_with fail
  refine (Tells.of (fewbits_any A n c outs w1 (HG.out.below Z1.out) HN.out) (v' := .bool fb) (by rw [HFB.out])).mono ?_
  rintro _ w2 ⟨rfl, z2⟩
  have Z2 := Lib.hid (Z1.out.trans (z2.mono Z1.out.size))
  clear z2
  cases fb
  · go_wp2
    go_ret
    exact ⟨rfl, Z2.out⟩
  · have hfb := fewB_of HFB.out
    rw [HN.out] at hfb
    obtain ⟨h8, h30⟩ := hfb
    have H30 := Lib.hid h30
    clear h30
    by_cases h500 : nw ≤ 500
    · have d_h500 : decide ((nw : Int) > 500) = false := decide_eq_false (by omega)
      go_wp2_with fail
      refine (calls_any A n c outs w2 (HG.out.below Z2.out) HN.out h8 H30.out).mono ?_
      rintro _ w3 ⟨Q, d, vs, rfl, hv, hl, z3⟩
      have HV := Lib.hid hv
      have HL := Lib.hid hl
      have Z3 := Lib.hid (Z2.out.trans (z3.mono Z2.out.size))
      clear hv hl z3
      go_wp2_with fail
      refine (play_any J Q B n d nw cw vs (csI outs) who w3 HV.out HL.out (HW.out.below Z3.out) (by rw [csI_len]; exact HN.out) HNW.out (by omega) (csI_UF (by rw [HN.out]; exact h8) H30.out).1 (csI_UF (by rw [HN.out]; exact h8) H30.out).2).mono ?_
      have o5 := plI_room (J := J) who (by rw [HN.out]; exact h8) H30.out
      have o4 := (plI_U (J := J) (calls := csI outs) (csI_UF (by rw [HN.out]; exact h8) H30.out).1 (csI_UF (by rw [HN.out]; exact h8) H30.out).2 who).2.2
      rw [HNW.out] at o4
      generalize plI J (csI outs) who = s at o5 o4 ⊢
      obtain ⟨sm, sa, so⟩ := s
      simp only at o5 o4 ⊢
      obtain ⟨no, hno⟩ : ∃ no, so.length = no := ⟨_, rfl⟩
      obtain ⟨na, hna⟩ : ∃ na, sa.length = na := ⟨_, rfl⟩
      obtain ⟨nm, hnm⟩ : ∃ nm, sm.length = nm := ⟨_, rfl⟩
      rw [hno, hna, hnm] at o4
      rw [hnm, hna, hno] at o5
      have HNO := Lib.hid hno
      have HNA := Lib.hid hna
      have HNM := Lib.hid hnm
      have hno5 : no ≤ 500 := by omega
      have hna8 : na ≤ 8 := by omega
      have hnm5 : nm ≤ 500 := by omega
      rintro _ w4 ⟨Am, cm, Ao, co, Aa, ca, rfl, rm, ro, _, ra, z4⟩
      simp only [hno, hna, hnm]
      have RM := Lib.hid rm
      have RO := Lib.hid ro
      have RA := Lib.hid ra
      have Z4 := Lib.hid (Z3.out.trans (z4.mono Z3.out.size))
      clear rm ro ra z4 hno hna hnm o4
      rcases o5 with ⟨rfl, rfl, rfl⟩ | ⟨h0, h1, h2, h3, h4, h5⟩
      · go_wp2
        go_ret
        exact ⟨rfl, Z4.out⟩
      have H3 := Lib.hid h3
      have H4 := Lib.hid h4
      have H5 := Lib.hid h5
      have f0 : ((nm : Int) == 0) = false := by simp; omega
      clear h0 h3 h4 h5
      go_wp2
      go_loopw [12, 13] (fun q x wr => ∃ (j : Nat) (v : Int), q = .int .i64 v ∧ x = .int .i64 j ∧ j ≤ no ∧ Hid (v = ((so.take j).countP isPE : Int) - (so.take j).countP isTD) ∧ -(j : Int) ≤ v ∧ v ≤ j ∧ wr = w4) (fun _ x _ => no - (intOf x).toNat)
      case atStart => exact ⟨0, 0, rfl, rfl, Nat.zero_le _, Lib.hid (by simp), by omega, by omega, rfl⟩
      case round =>
        obtain ⟨j, v, rfl, rfl, hj, HV, hv1, hv2, rfl⟩ := hrel
        by_cases hlt : j < no
        · have hL : j < so.length := by rw [HNO.out]; exact hlt
          obtain ⟨b, off, rfl, hbl, hc7⟩ := RO.out.at hL
          have hsn := inout_snoc hL
          generalize so[j] = f at hc7 hsn
          obtain ⟨o, p, k, vv, xx, y, r⟩ := f
          obtain ⟨a0, a1, a2, a3, a4, a5, a6⟩ := hc7
          simp only at a0 a1 a2 a3 a4 a5 a6 hsn
          have S2 := Lib.hid hsn
          clear hsn
          have w1 : wrap64 (v + 1) = v + 1 := by unfold wrap64; omega
          have w2 : wrap64 (v - 1) = v - 1 := by unfold wrap64; omega
          by_cases hr : r = 1
          · have e1 : (r == 1) = true := by simp [hr]
            by_cases h3 : o = 3
            · have e2 : (o == 3) = true := by simp [h3]
              have e3 : (o == 4) = false := by simp [h3]
              have S3 := Lib.hid (show v + 1 = ((so.take (j + 1)).countP isPE : Int) - (so.take (j + 1)).countP isTD from by rw [S2.out, HV.out, if_pos ⟨h3, hr⟩])
              clear hr h3
              go_wp2
              go_roundw
              case rel => exact ⟨j + 1, v + 1, rfl, by go_num, by omega, S3, by omega, by omega, trivial⟩
              case measure => simp [intOf]; omega
            · by_cases h4 : o = 4
              · have e2 : (o == 3) = false := by simp [h4]
                have e3 : (o == 4) = true := by simp [h4]
                have S3 := Lib.hid (show v - 1 = ((so.take (j + 1)).countP isPE : Int) - (so.take (j + 1)).countP isTD from by rw [S2.out, HV.out, if_neg (fun h => h3 h.1), if_pos ⟨h4, hr⟩])
                clear hr h3 h4
                go_wp2
                go_roundw
                case rel => exact ⟨j + 1, v - 1, rfl, by go_num, by omega, S3, by omega, by omega, trivial⟩
                case measure => simp [intOf]; omega
              · have e2 : (o == 3) = false := by simp [h3]
                have e3 : (o == 4) = false := by simp [h4]
                have S3 := Lib.hid (show v = ((so.take (j + 1)).countP isPE : Int) - (so.take (j + 1)).countP isTD from by rw [S2.out, HV.out, if_neg (fun h => h3 h.1), if_neg (fun h => h4 h.1)])
                clear hr h3 h4
                go_wp2
                go_roundw
                case rel => exact ⟨j + 1, v, rfl, by go_num, by omega, S3, by omega, by omega, trivial⟩
                case measure => simp [intOf]; omega
          · have e1 : (r == 1) = false := by simp [hr]
            have S3 := Lib.hid (show v = ((so.take (j + 1)).countP isPE : Int) - (so.take (j + 1)).countP isTD from by rw [S2.out, HV.out, if_neg (fun h => hr h.2), if_neg (fun h => hr h.2)])
            clear hr
            go_wp2
            go_roundw
            case rel => exact ⟨j + 1, v, rfl, by go_num, by omega, S3, by omega, by omega, trivial⟩
            case measure => simp [intOf]; omega
        · have hje : j = no := by omega
          subst hje
          have HV2 := Lib.hid (show v = (so.countP isPE : Int) - so.countP isTD from by have := HV.out; rw [List.take_of_length_le (by rw [HNO.out]; omega)] at this; exact this)
          clear HV
          go_wp2
          go_loopw [14, 15] (fun q x wr' => ∃ (i t : Nat), q = .int .i64 t ∧ x = .int .i64 i ∧ i ≤ na ∧ Hid (t = (sa.take i).countP fun f => decide (f.op = 4)) ∧ t ≤ i ∧ wr' = wr) (fun _ x _ => na - (intOf x).toNat)
          case atStart => exact ⟨0, 0, rfl, rfl, Nat.zero_le _, Lib.hid (by simp), by omega, rfl⟩
          case round =>
            obtain ⟨i, t, rfl, rfl, hi, HT, ht, rfl⟩ := hrel
            by_cases hlt2 : i < na
            · have hL : i < sa.length := by rw [HNA.out]; exact hlt2
              obtain ⟨b, off, rfl, hbl, hc7⟩ := RA.out.at hL
              have hsn : (sa.take (i + 1)).countP (fun f => decide (f.op = 4)) = (sa.take i).countP (fun f => decide (f.op = 4)) + (if sa[i].op = 4 then 1 else 0) := by
                rw [List.take_succ_eq_append_getElem hL, List.countP_append, List.countP_singleton]
                simp
              generalize sa[i] = f at hc7 hsn
              obtain ⟨o, p, k, vv, xx, y, r⟩ := f
              obtain ⟨a0, a1, a2, a3, a4, a5, a6⟩ := hc7
              simp only at a0 a1 a2 a3 a4 a5 a6 hsn
              by_cases h4 : o = 4
              · have e3 : (o == 4) = true := by simp [h4]
                have S3 := Lib.hid (show t + 1 = (sa.take (i + 1)).countP (fun f => decide (f.op = 4)) from by rw [hsn, ← HT.out, if_pos h4])
                clear hsn h4
                go_wp2
                go_roundw
                case rel => exact ⟨i + 1, t + 1, by go_num, by go_num, by omega, S3, by omega, trivial⟩
                case measure => simp [intOf]; omega
              · have e3 : (o == 4) = false := by simp [h4]
                have S3 := Lib.hid (show t = (sa.take (i + 1)).countP (fun f => decide (f.op = 4)) from by rw [hsn, ← HT.out, if_neg h4]; rfl)
                clear hsn h4
                go_wp2
                go_roundw
                case rel => exact ⟨i + 1, t, rfl, by go_num, by omega, S3, by omega, trivial⟩
                case measure => simp [intOf]; omega
            · have hie : i = na := by omega
              subst hie
              have hcmp : v ≤ J + (t : Int) := by
                have h1 := HT.out
                rw [List.take_of_length_le (by rw [HNA.out]; omega)] at h1
                rw [HV2.out, h1]
                exact H3.out
              have f1 : wrap64 (J + (t : Int)) = J + (t : Int) := by unfold wrap64; omega
              have f2 : decide (v ≤ J + (t : Int)) = true := decide_eq_true hcmp
              clear HT HV2 hcmp
              go_wp2_with fail
              refine (qlen_any 1 1 J 0 Am nm cm sm _ RM.out HNM.out hnm5).mono ?_
              obtain ⟨L, hL⟩ : ∃ L, ilen 1 1 J 0 sm = L := ⟨_, rfl⟩
              have k4 := H4.out
              have k5 := H5.out
              rw [hL] at k4 k5
              rw [hL]
              rintro _ w5 ⟨rfl, z5⟩
              have Z5 := Lib.hid (Z4.out.trans (z5.mono Z4.out.size))
              have f3 : decide (L ≥ 0) = true := decide_eq_true k4
              have f4 : decide (L ≤ J) = true := decide_eq_true k5
              clear hL z5
              go_wp2
              go_ret
              exact ⟨rfl, Z5.out⟩
    · have d_h500 : decide ((nw : Int) > 500) = true := decide_eq_true (by omega)
      go_wp2
      go_ret
      exact ⟨rfl, Z2.out⟩
end Go.Proofs.Ytppllanmgdhabaa
