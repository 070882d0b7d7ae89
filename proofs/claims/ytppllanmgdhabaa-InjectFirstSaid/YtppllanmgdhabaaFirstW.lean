/- The walk of InjectFirst. -/
import Derived.Test.YtppllanmgdhabaaIkV
namespace Go.Proofs.Ytppllanmgdhabaa
open Go.RowKit Go.Deep Go.Shelf
theorem Ri.take {w : World} {A : Option Addr} {l : List Int} (h : Ri w A l) (k : Nat) : Ri w A (l.take k) := fun hp => by
  have hl : 0 < l.length := by simp at hp; omega
  obtain ⟨ad, e, h1, h2⟩ := h hl
  refine ⟨ad, e, h1, fun j u hu => h2 j u ?_⟩
  rw [List.getElem?_take] at hu
  split at hu
  · exact hu
  · cases hu
theorem Pr.take {n : Nat} {w : World} {A : Option Addr} {l : List Fr} (h : Pr n w A l) (k : Nat) : Pr n w A (l.take k) := fun hp => by
  have hl : 0 < l.length := by simp at hp; omega
  obtain ⟨b, off, e, h1, h2⟩ := h hl
  refine ⟨b, off, e, h1, fun j u hu => h2 j u ?_⟩
  rw [List.getElem?_take] at hu
  split at hu
  · exact hu
  · cases hu
theorem plI_first (J : Int) (calls : List (List Fr)) (who : List Int) (k : Nat) : ∃ o, (plI J calls who).2.2 = (plI J calls (who.take k)).2.2 ++ o ∧ (plI J calls who).2.1.length = (plI J calls (who.take k)).2.1.length := by
  unfold plI
  by_cases hc : may 1 1 J 0 = true ∧ calls.length ≤ 8
  · rw [if_pos hc, if_pos hc]
    obtain ⟨⟨r, h1⟩, h2⟩ := first_I J calls who k
    exact ⟨r, h1, h2⟩
  · rw [if_neg hc, if_neg hc]
    exact ⟨[], rfl, rfl⟩
set_option maxRecDepth 100000 in
set_option maxHeartbeats 4000000 in
theorem first_tells (J kk : Int) (A B : Option Addr) (n c nw cw : Nat) (outs : List (List Bool)) (who : List Int) (w : World) (hG : Rg w A outs) (hW : Ri w B who) (hn : outs.length = n) (hnw : who.length = nw) (hcw : nw ≤ cw) (hcm : cw ≤ maxLen) :
    Tells 7 #[.int .i64 J, .slice A n c, .slice B nw cw, .int .i64 kk] w (.bool true) := by
  have HG := Lib.hid hG
  have HW := Lib.hid hW
  have HN := Lib.hid hn
  have HNW := Lib.hid hnw
  simp only [maxLen] at hcm
  clear hG hW hn hnw
  go_enter Try.func7, Try.ntmps7
  go_wp2_with fail
  refine (awake_any _).mono ?_
  rintro _ w1 ⟨rfl, z1⟩
  have Z1 := Lib.hid z1
  clear z1
  obtain ⟨fb, HFB⟩ : ∃ b, Hid (fewB outs = b) := ⟨_, Lib.hid rfl⟩
  go_wp2_with fail
  refine (Tells.of (fewbits_any A n c outs w1 (HG.out.below Z1.out) HN.out) (v' := .bool fb) (by rw [HFB.out])).mono ?_
  rintro _ w2 ⟨rfl, z2⟩
  have Z2 := Lib.hid (Z1.out.trans (z2.mono Z1.out.size))
  clear z2
  cases fb
  · go_wp2
    go_ret
    exact ⟨rfl, Z2.out⟩
  · have hfb := fewB_of HFB.out
    rw [HN.out] at hfb
    obtain ⟨h8, h30⟩ := hfb
    have H30 := Lib.hid h30
    clear h30
    by_cases h500 : nw ≤ 500
    · by_cases hk0 : 0 ≤ kk
      · by_cases hkn : kk ≤ (nw : Int)
        · have d_h500 : decide ((nw : Int) > 500) = false := decide_eq_false (by omega)
          have d_hk0 : decide (kk < 0) = false := decide_eq_false (by omega)
          have d_hkn : decide (kk > (nw : Int)) = false := decide_eq_false (by omega)
          obtain ⟨k, rfl⟩ := Int.eq_ofNat_of_zero_le (show 0 ≤ kk by omega)
          have hk : k ≤ nw := by omega
          have HNK := Lib.hid (show (who.take k).length = k by rw [List.length_take]; have := HNW.out; omega)
          have hkc : k ≤ cw := by omega
          have hkc2 : (k : Int) ≤ (cw : Int) := by omega
          have hkc3 : (cw : Int) ≤ 9223372036854775807 := by omega
          have zd : Below w.heap.size w w2.drew := Z2.out.drew
          have hpl : outs.length ≤ 8 := by rw [HN.out]; exact h8
          have HPL := Lib.hid hpl
          clear hpl
          go_wp2
          go_region_with (first
            | (go_at_call 21; (refine (calls_any A n c outs w2.drew (HG.out.below zd) HN.out h8 H30.out).mono ?_); rintro _ w3 ⟨Q, d, vs, rfl, hv, hl, z3⟩; have HV := Lib.hid hv; have HL := Lib.hid hl; have Z3 := Lib.hid (zd.trans (z3.mono zd.size)); clear hv hl z3)
            | (go_at_call 14; (refine (play_any J Q B n d k cw vs (csI outs) (who.take k) w3 HV.out HL.out ((HW.out.below Z3.out).take k) (by rw [csI_len]; exact HN.out) HNK.out (by omega) (csI_UF HPL.out H30.out).1 (csI_UF HPL.out H30.out).2).mono ?_); rintro _ w4 ⟨Am, cm, Ao, co, Aa, ca, rfl, _, ro, hco, ra, z4⟩; have RO := Lib.hid ro; have Z4 := Lib.hid (Z3.out.trans (z4.mono Z3.out.size)); clear ro ra z4))
          all_goals
            obtain ⟨o, e1, e3⟩ := plI_first J (csI outs) who k
            have l1 := (plI_U (J := J) (csI_UF HPL.out H30.out).1 (csI_UF HPL.out H30.out).2 (who.take k)).2.2.2.2
            have l2 := (plI_U (J := J) (csI_UF HPL.out H30.out).1 (csI_UF HPL.out H30.out).2 who).2.2.2
            rw [HNK.out] at l1
            rw [HNW.out] at l2
            generalize plI J (csI outs) (who.take k) = s1 at *
            obtain ⟨s1m, s1a, s1o⟩ := s1
            simp only at *
            have E1 := Lib.hid e1
            have hle : s1o.length ≤ 500 := by omega
            clear e1 l1
            go_wp2_with fail
            refine (calls_any A n c outs w4 (HG.out.below Z4.out) HN.out h8 H30.out).mono ?_
            rintro _ w5 ⟨Q2, d2, vs2, rfl, hv2, hl2, z5⟩
            have HV2 := Lib.hid hv2
            have HL2 := Lib.hid hl2
            have Z5 := Lib.hid (Z4.out.trans (z5.mono Z4.out.size))
            have RO5 := Lib.hid (RO.out.later z5)
            clear hv2 hl2 z5
            go_wp2_with fail
            refine (play_any J Q2 B n d2 nw cw vs2 (csI outs) who w5 HV2.out HL2.out (HW.out.below Z5.out) (by rw [csI_len]; exact HN.out) HNW.out (by omega) (csI_UF HPL.out H30.out).1 (csI_UF HPL.out H30.out).2).mono ?_
            generalize plI J (csI outs) who = s2 at *
            obtain ⟨s2m, s2a, s2o⟩ := s2
            simp only at *
            rintro _ w6 ⟨Bm, bm, Bo, bo, Ba, ba, rfl, _, ro2, hco2, _, z6⟩
            have Z6 := Lib.hid (Z5.out.trans (z6.mono Z5.out.size))
            have R1 := Lib.hid (RO5.out.later z6)
            have R2 := Lib.hid (show Pr w6.heap.size w6 Bo s1o from by
              have := ro2.take s1o.length
              rw [E1.out, List.take_left' rfl] at this
              exact this)
            have hlen : s2o.length = s1o.length + o.length := by rw [E1.out]; simp
            have hlo : s1o.length ≤ bo := by omega
            obtain ⟨n1, hn1⟩ : ∃ n1, s1o.length = n1 := ⟨_, rfl⟩
            obtain ⟨n2, hn2⟩ : ∃ n2, s2o.length = n2 := ⟨_, rfl⟩
            obtain ⟨a1, ha1⟩ : ∃ a1, s1a.length = a1 := ⟨_, rfl⟩
            have HN1 := Lib.hid hn1
            rw [hn1, hn2] at hlen
            rw [hn1] at hlo hle hco
            rw [hn2] at l2 hco2
            simp only [e3, ha1, hn2, hn1]
            rw [ha1] at e3
            have hb1 : n1 ≤ n2 := by omega
            have hb2 : n2 ≤ 500 := by omega
            have hb4 : decide ((n2 : Int) < (n1 : Int)) = false := decide_eq_false (by omega)
            clear ro2 z6 hlen e3 l2 hn1 hn2 ha1 RO RO5 Z2 Z3 Z4 Z5 HV HL HV2 HL2 E1
            go_wp2_with fail
            refine (frames_same Ao Bo n1 co bo s1o w6 R1.out R2.out HN1.out (by omega)).mono ?_
            rintro _ w7 ⟨rfl, z7⟩
            have Z7 := Lib.hid (Z6.out.trans (z7.mono Z6.out.size))
            clear z7
            go_wp2
            go_ret
            exact ⟨rfl, Z7.out⟩
        · have d_h500 : decide ((nw : Int) > 500) = false := decide_eq_false (by omega)
          have d_hk0 : decide (kk < 0) = false := decide_eq_false (by omega)
          have d_hkn : decide (kk > (nw : Int)) = true := decide_eq_true (by omega)
          go_wp2
          go_ret
          exact ⟨rfl, Z2.out⟩
      · have d_h500 : decide ((nw : Int) > 500) = false := decide_eq_false (by omega)
        have d_hk0 : decide (kk < 0) = true := decide_eq_true (by omega)
        go_wp2
        go_ret
        exact ⟨rfl, Z2.out⟩
    · have d_h500 : decide ((nw : Int) > 500) = true := decide_eq_true (by omega)
      go_wp2
      go_ret
      exact ⟨rfl, Z2.out⟩
end Go.Proofs.Ytppllanmgdhabaa
