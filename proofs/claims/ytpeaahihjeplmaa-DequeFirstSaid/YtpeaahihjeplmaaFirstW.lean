/- The walk of DequeFirst. -/
import Derived.Test.YtpeaahihjeplmaaOrderW
namespace Go.Proofs.Ytpeaahihjeplmaa
open Go.RowKit Go.Deep Go.Shelf
theorem Ri.take {w : World} {A : Option Addr} {l : List Int} (h : Ri w A l) (k : Nat) : Ri w A (l.take k) := fun hp => by
  have hl : 0 < l.length := by simp at hp; omega
  obtain ⟨ad, e, h1, h2⟩ := h hl
  refine ⟨ad, e, h1, fun j u hu => h2 j u ?_⟩
  rw [List.getElem?_take] at hu
  split at hu
  · exact hu
  · cases hu
theorem Pr.take {n : Nat} {w : World} {A : Option Addr} {l : List Fr} (h : Pr n w A l) (k : Nat) : Pr n w A (l.take k) := fun hp => by
  have hl : 0 < l.length := by simp at hp; omega
  obtain ⟨b, off, e, h1, h2⟩ := h hl
  refine ⟨b, off, e, h1, fun j u hu => h2 j u ?_⟩
  rw [List.getElem?_take] at hu
  split at hu
  · exact hu
  · cases hu
theorem plO_first {D th : Int} {pops : List Bool} (hp : pops.length ≤ 60) (who : List Int) (k : Nat) : ∃ o, (plO D th (cs pops) who).over = (plO D th (cs pops) (who.take k)).over ++ o ∧ o.length ≤ who.length - k ∧ (plO D th (cs pops) who).a.length = (plO D th (cs pops) (who.take k)).a.length := by
  unfold plO
  cases hc : plK D th
  · rw [if_neg (by simp), if_neg (by simp)]
    exact ⟨[], rfl, by simp, rfl⟩
  · rw [if_pos rfl, if_pos rfl]
    unfold plK at hc
    simp only [Bool.and_eq_true, decide_eq_true_eq] at hc
    obtain ⟨o, h1, h2⟩ := play_first (th := th) hc.1 hp (who.take k) (who.drop k)
    rw [List.take_append_drop] at h1
    exact ⟨o, h1, by simpa using h2, by rw [(play_hand hc.1 hp who).1, (play_hand hc.1 hp (who.take k)).1]⟩
set_option maxRecDepth 100000 in
set_option maxHeartbeats 4000000 in
theorem first_tells (D th kk : Int) (A B : Option Addr) (n c nw cw : Nat) (pops : List Bool) (who : List Int) (w : World) (hP : Rb w A pops) (hW : Ri w B who) (hn : pops.length = n) (hnw : who.length = nw) (hcw : nw ≤ cw) (hcm : cw ≤ maxLen) :
    Tells 7 #[.int .i64 D, .int .i64 th, .slice A n c, .slice B nw cw, .int .i64 kk] w (.bool true) := by
  have HP := Lib.hid hP
  have HW := Lib.hid hW
  have HN := Lib.hid hn
  have HNW := Lib.hid hnw
  simp only [maxLen] at hcm
  clear hP hW hn hnw
  go_enter Try.func7, Try.ntmps7
  go_wp2_with fail
  refine (awake_any _).mono ?_
  rintro _ w1 ⟨rfl, z1⟩
  have Z1 := Lib.hid z1
  clear z1
  by_cases h60 : n ≤ 60
  · by_cases h500 : nw ≤ 500
    · have d1 : decide ((n : Int) > 60) = false := decide_eq_false (by omega)
      have d2 : decide ((nw : Int) > 500) = false := decide_eq_false (by omega)
      by_cases hk0 : kk < 0
      · have d3 : decide (kk < 0) = true := decide_eq_true hk0
        go_wp2
        go_ret
        exact ⟨rfl, Z1.out⟩
      · by_cases hk1 : (nw : Int) < kk
        · have d3 : decide (kk < 0) = false := decide_eq_false hk0
          have d4 : decide (kk > (nw : Int)) = true := decide_eq_true hk1
          go_wp2
          go_ret
          exact ⟨rfl, Z1.out⟩
        · obtain ⟨k, rfl⟩ := Int.eq_ofNat_of_zero_le (show 0 ≤ kk by omega)
          have hk : k ≤ nw := by omega
          have d3 : decide ((k : Int) < 0) = false := decide_eq_false hk0
          have d4 : decide ((k : Int) > (nw : Int)) = false := decide_eq_false hk1
          clear hk0 hk1
          have HNK := Lib.hid (show (who.take k).length = k by rw [List.length_take]; have := HNW.out; omega)
          have hkc : k ≤ cw := by omega
          have hkc2 : (k : Int) ≤ (cw : Int) := by omega
          have hkc3 : (cw : Int) ≤ 9223372036854775807 := by omega
          have zd : Below w.heap.size w w1.drew := Z1.out.drew
          have hpl : pops.length ≤ 60 := by rw [HN.out]; exact h60
          have HPL := Lib.hid hpl
          clear hpl
          go_wp2
          go_region_with (first
            | (go_at_call 19; (refine (lcalls_any A n c pops w1.drew (HP.out.below zd) HN.out h60).mono ?_); rintro _ w2 ⟨Q, d, rfl, hq, z2⟩; have HQ := Lib.hid hq.pr; have HCAP := Lib.hid (ow_cap hq); have Z2 := Lib.hid (zd.trans (z2.mono zd.size)); clear hq z2)
            | (go_at_call 13; (refine (play_any D th Q B d cw n k (cs pops) (who.take k) w2 HQ.out ((HW.out.below Z2.out).take k) HCAP.out (by rw [cs_len]; exact HN.out) HNK.out (by omega) (cs_UF pops HPL.out)).mono ?_); rintro _ w3 ⟨Am, cm, Ao, co, Aa, ca, rfl, _, ro, hco, ra, z3⟩; have RO := Lib.hid ro; have Z3 := Lib.hid (Z2.out.trans (z3.mono Z2.out.size)); clear ro ra z3))
          all_goals
            obtain ⟨o, e1, e2, e3⟩ := plO_first (D := D) (th := th) HPL.out who k
            have l1 := (plO_U (D := D) (th := th) (cs_UF pops HPL.out) (who.take k)).2.2.2.2
            have l2 := (plO_U (D := D) (th := th) (cs_UF pops HPL.out) who).2.2.2
            rw [HNK.out] at l1
            rw [HNW.out] at l2 e2
            generalize plO D th (cs pops) (who.take k) = s1 at *
            have E1 := Lib.hid e1
            have hle : s1.over.length ≤ 500 := by omega
            clear e1 l1
            go_wp2_with fail
            refine (lcalls_any A n c pops w3 (HP.out.below Z3.out) HN.out h60).mono ?_
            rintro _ w4 ⟨Q2, d2', rfl, hq2, z4⟩
            have HQ2 := Lib.hid hq2.pr
            have HCAP2 := Lib.hid (ow_cap hq2)
            have Z4 := Lib.hid (Z3.out.trans (z4.mono Z3.out.size))
            have RO4 := Lib.hid (RO.out.later z4)
            clear hq2 z4
            go_wp2_with fail
            refine (play_any D th Q2 B d2' cw n nw (cs pops) who w4 HQ2.out (HW.out.below Z4.out) HCAP2.out (by rw [cs_len]; exact HN.out) HNW.out (by omega) (cs_UF pops HPL.out)).mono ?_
            generalize plO D th (cs pops) who = s2 at *
            rintro _ w5 ⟨Bm, bm, Bo, bo, Ba, ba, rfl, _, ro2, hco2, _, z5⟩
            have Z5 := Lib.hid (Z4.out.trans (z5.mono Z4.out.size))
            have R1 := Lib.hid (RO4.out.later z5)
            have R2 := Lib.hid (show Pr w5.heap.size w5 Bo s1.over from by
              have := ro2.take s1.over.length
              rw [E1.out, List.take_left' rfl] at this
              exact this)
            have hlen : s2.over.length = s1.over.length + o.length := by rw [E1.out]; simp
            have hlo : s1.over.length ≤ bo := by omega
            obtain ⟨n1, hn1⟩ : ∃ n1, s1.over.length = n1 := ⟨_, rfl⟩
            obtain ⟨n2, hn2⟩ : ∃ n2, s2.over.length = n2 := ⟨_, rfl⟩
            obtain ⟨a1, ha1⟩ : ∃ a1, s1.a.length = a1 := ⟨_, rfl⟩
            have HN1 := Lib.hid hn1
            rw [hn1, hn2] at hlen
            rw [hn1] at hlo hle hco
            rw [hn2] at l2 hco2
            simp only [e3, ha1, hn2, hn1]
            rw [ha1] at e3
            have hb1 : n1 ≤ n2 := by omega
            have hb2 : n2 ≤ 500 := by omega
            have hb3 : (n2 : Int) - (n1 : Int) ≤ (nw : Int) - (k : Int) := by omega
            have hb4 : decide ((n2 : Int) < (n1 : Int)) = false := decide_eq_false (by omega)
            clear ro2 z5 hlen e3 l2 hn1 hn2 ha1 RO RO4 Z2 Z3 Z4 HQ HQ2 HCAP HCAP2 E1 e2
            go_wp2_with fail
            refine (frames_same Ao Bo n1 co bo s1.over w5 R1.out R2.out HN1.out (by omega)).mono ?_
            rintro _ w6 ⟨rfl, z6⟩
            have Z6 := Lib.hid (Z5.out.trans (z6.mono Z5.out.size))
            clear z6
            have hb5 : decide ((n2 : Int) - (n1 : Int) ≤ (nw : Int) - (k : Int)) = true := decide_eq_true hb3
            go_wp2
            go_ret
            exact ⟨rfl, Z6.out⟩
    · have d1 : decide ((n : Int) > 60) = false := decide_eq_false (by omega)
      have d2 : decide ((nw : Int) > 500) = true := decide_eq_true (by omega)
      go_wp2
      go_ret
      exact ⟨rfl, Z1.out⟩
  · have d1 : decide ((n : Int) > 60) = true := decide_eq_true (by omega)
    go_wp2
    go_ret
    exact ⟨rfl, Z1.out⟩
end Go.Proofs.Ytpeaahihjeplmaa
