/- The walk of InjectOrder. -/
import Derived.Test.YtppllanmgdhabaaIkV
namespace Go.Proofs.Ytppllanmgdhabaa
open Go.RowKit Go.Deep Go.Shelf
theorem ord_w {i : Nat} (h : i < 8) : IntKind.u64.wrap ((i : Int) + 1) = (i : Int) + 1 := u64_of (by omega) (by omega)
theorem u64_div {v : Int} (h0 : 0 ≤ v) (h1 : v < 1000) : IntKind.u64.wrap (v.tdiv 100) = v / 100 := by
  rw [Int.tdiv_eq_ediv_of_nonneg h0]
  exact u64_of (by omega) (by omega)
set_option maxRecDepth 100000 in
set_option maxHeartbeats 4000000 in
theorem order_tells (J ii qq : Int) (A B : Option Addr) (n c nw cw : Nat) (outs : List (List Bool)) (who : List Int) (w : World) (hG : Rg w A outs) (hW : Ri w B who) (hn : outs.length = n) (hnw : who.length = nw) :
    Tells 5 #[.int .i64 J, .slice A n c, .slice B nw cw, .int .i64 ii, .int .i64 qq] w (.bool true) := by
  have HG := Lib.hid hG
  have HW := Lib.hid hW
  have HN := Lib.hid hn
  have HNW := Lib.hid hnw
  clear hG hW hn hnw
  go_enter Try.func5, Try.ntmps5
  go_wp2_with fail
  refine (awake_any _).mono ?_
  rintro _ w1 ⟨rfl, z1⟩
  have Z1 := Lib.hid z1
  clear z1
  obtain ⟨fb, HFB⟩ : ∃ b, Hid (fewB outs = b) := ⟨_, Lib.hid rfl⟩
  go_wp2_with fail
  refine (Tells.of (fewbits_any A n c outs w1 (HG.out.below Z1.out) HN.out) (v' := .bool fb) (by rw [HFB.out])).mono ?_
  rintro _ w2 ⟨rfl, z2⟩
  have Z2 := Lib.hid (Z1.out.trans (z2.mono Z1.out.size))
  clear z2
  cases fb
  · go_wp2
    go_ret
    exact ⟨rfl, Z2.out⟩
  · have hfb := fewB_of HFB.out
    rw [HN.out] at hfb
    obtain ⟨h8, h30⟩ := hfb
    have H30 := Lib.hid h30
    clear h30
    by_cases h500 : nw ≤ 500
    · by_cases hi0 : 0 ≤ ii
      · by_cases hin : ii < (n : Int)
        · by_cases hq0 : 0 ≤ qq
          · by_cases hqn : qq < (n : Int)
            · have d_h500 : decide ((nw : Int) > 500) = false := decide_eq_false (by omega)
              have d_hi0 : decide (ii < 0) = false := decide_eq_false (by omega)
              have d_hin : decide (ii ≥ (n : Int)) = false := decide_eq_false (by omega)
              have d_hq0 : decide (qq < 0) = false := decide_eq_false (by omega)
              have d_hqn : decide (qq ≥ (n : Int)) = false := decide_eq_false (by omega)
              go_wp2_with fail
              refine (calls_any A n c outs w2 (HG.out.below Z2.out) HN.out h8 H30.out).mono ?_
              rintro _ w3 ⟨Q, d, vs, rfl, hv, hl, z3⟩
              have HV := Lib.hid hv
              have HL := Lib.hid hl
              have Z3 := Lib.hid (Z2.out.trans (z3.mono Z2.out.size))
              clear hv hl z3
              go_wp2_with fail
              refine (play_any J Q B n d nw cw vs (csI outs) who w3 HV.out HL.out (HW.out.below Z3.out) (by rw [csI_len]; exact HN.out) HNW.out (by omega) (csI_UF (by rw [HN.out]; exact h8) H30.out).1 (csI_UF (by rw [HN.out]; exact h8) H30.out).2).mono ?_
              have ord := fun (qq : Nat) (ii : Int) (hi : 0 < ii) (j : Nat) hj => plI_order (J := J) who (by rw [HN.out]; exact h8) H30.out qq ii hi (j := j) hj
              have one := fun (f : Fr) hf hr => plI_one (J := J) who (by rw [HN.out]; exact h8) H30.out (f := f) hf hr
              have o4 := (plI_U (J := J) (calls := csI outs) (csI_UF (by rw [HN.out]; exact h8) H30.out).1 (csI_UF (by rw [HN.out]; exact h8) H30.out).2 who).2.2.2.2
              rw [HNW.out] at o4
              generalize plI J (csI outs) who = s at ord one o4 ⊢
              obtain ⟨sm, sa, so⟩ := s
              simp only at ord one o4 ⊢
              obtain ⟨no, hno⟩ : ∃ no, so.length = no := ⟨_, rfl⟩
              rw [hno] at o4
              have HNO := Lib.hid hno
              have hno5 : no ≤ 500 := by omega
              rintro _ w4 ⟨Am, cm, Ao, co, Aa, ca, rfl, _, ro, _, _, z4⟩
              simp only [hno]
              have RO := Lib.hid ro
              have Z4 := Lib.hid (Z3.out.trans (z4.mono Z3.out.size))
              obtain ⟨i, rfl⟩ := Int.eq_ofNat_of_zero_le (show 0 ≤ ii by omega)
              obtain ⟨q, rfl⟩ := Int.eq_ofNat_of_zero_le (show 0 ≤ qq by omega)
              have ORD := Lib.hid (ord q ((i : Int) + 1) (by omega))
              have hi8 : i < 8 := by omega
              have W2 := Lib.hid (ord_w hi8)
              have ONE := Lib.hid one
              clear ro z4 ord one hno o4
              go_wp2
              go_loopw [16, 17] (fun q' x wr => ∃ (j : Nat), q' = .int .u64 (lastv (qi q ((i : Int) + 1)) (so.take j)) ∧ x = .int .i64 j ∧ j ≤ no ∧ wr = w4) (fun _ x _ => no - (intOf x).toNat)
              case atStart => exact ⟨0, by simp [lastv], rfl, Nat.zero_le _, rfl⟩
              case round =>
                obtain ⟨j, rfl, rfl, hj, rfl⟩ := hrel
                by_cases hlt : j < no
                · have hL : j < so.length := by rw [HNO.out]; exact hlt
                  obtain ⟨b, off, rfl, hbl, hc7⟩ := RO.out.at hL
                  have hst := ORD.out j hL
                  have hon := ONE.out _ (List.getElem_mem hL)
                  have hsn := lastv_snoc (qi q ((i : Int) + 1)) (so.take j) so[j]
                  rw [← List.take_succ_eq_append_getElem hL] at hsn
                  generalize so[j] = f at hc7 hst hon hsn
                  obtain ⟨o, p, k, vv, xx, y, r⟩ := f
                  obtain ⟨a0, a1, a2, a3, a4, a5, a6⟩ := hc7
                  simp only at a0 a1 a2 a3 a4 a5 a6 hst hon hsn
                  by_cases hp : qi q ((i : Int) + 1) ⟨o, p, k, vv, xx, y, r⟩ = true
                  · rw [if_pos hp] at hsn
                    have h2 := hst hp
                    clear hst
                    have w2 := W2.out
                    unfold qi isTQ at hp
                    simp only [Bool.and_eq_true, decide_eq_true_eq] at hp
                    obtain ⟨⟨⟨rfl, rfl⟩, rfl⟩, h4⟩ := hp
                    have e4 : (IntKind.u64.wrap (vv.tdiv 100) == (i : Int) + 1) = true := by rw [u64_div (by have := (hon rfl).1; omega) (hon rfl).2.1, h4]; simp
                    have e5 : decide (vv ≤ lastv (qi q ((i : Int) + 1)) (so.take j)) = false := decide_eq_false (by omega)
                    have S2 := Lib.hid hsn
                    have S3 := Lib.hid h4
                    clear hsn h2 h4 hon
                    generalize lastv (qi q ((i : Int) + 1)) (so.take j) = L at e5 ⊢
                    go_wp2
                    go_roundw
                    case rel => exact ⟨j + 1, by rw [S2.out], by go_num, by omega, trivial⟩
                    case measure => simp [intOf]; omega
                  · rw [if_neg hp] at hsn
                    clear hst
                    have w2 := W2.out
                    have S2 := Lib.hid hsn
                    unfold qi isTQ at hp
                    simp only [Bool.and_eq_true, decide_eq_true_eq] at hp
                    clear hsn
                    have HON := Lib.hid hon
                    clear hon
                    generalize hL9 : lastv (qi q ((i : Int) + 1)) (so.take j) = L at S2 ⊢
                    have HL9 := Lib.hid hL9
                    clear hL9
                    by_cases h1 : o = 4
                    · by_cases h2 : r = 1
                      · by_cases h3 : k = q
                        · have e1 : (o == 4) = true := by simp [h1]
                          have e2 : (r == 1) = true := by simp [h2]
                          have e3 : (k == (q : Int)) = true := by simp [h3]
                          have e4 : (IntKind.u64.wrap (vv.tdiv 100) == (i : Int) + 1) = false := by rw [u64_div (by have := (HON.out h2).1; omega) (HON.out h2).2.1]; simpa using fun h => hp ⟨⟨⟨h1, h2⟩, h3⟩, h⟩
                          clear hp h1 h2 h3
                          go_wp2
                          go_roundw
                          case rel => exact ⟨j + 1, by rw [S2.out], by go_num, by omega, trivial⟩
                          case measure => simp [intOf]; omega
                        · have e1 : (o == 4) = true := by simp [h1]
                          have e2 : (r == 1) = true := by simp [h2]
                          have e3 : (k == (q : Int)) = false := by simp [h3]
                          clear hp h1 h2 h3
                          go_wp2
                          go_roundw
                          case rel => exact ⟨j + 1, by rw [S2.out], by go_num, by omega, trivial⟩
                          case measure => simp [intOf]; omega
                      · have e1 : (o == 4) = true := by simp [h1]
                        have e2 : (r == 1) = false := by simp [h2]
                        clear hp h1 h2
                        go_wp2
                        go_roundw
                        case rel => exact ⟨j + 1, by rw [S2.out], by go_num, by omega, trivial⟩
                        case measure => simp [intOf]; omega
                    · have e1 : (o == 4) = false := by simp [h1]
                      clear hp h1
                      go_wp2
                      go_roundw
                      case rel => exact ⟨j + 1, by rw [S2.out], by go_num, by omega, trivial⟩
                      case measure => simp [intOf]; omega
                · go_wp2
                  go_ret
                  exact ⟨rfl, Z4.out⟩
            · have d_h500 : decide ((nw : Int) > 500) = false := decide_eq_false (by omega)
              have d_hi0 : decide (ii < 0) = false := decide_eq_false (by omega)
              have d_hin : decide (ii ≥ (n : Int)) = false := decide_eq_false (by omega)
              have d_hq0 : decide (qq < 0) = false := decide_eq_false (by omega)
              have d_hqn : decide (qq ≥ (n : Int)) = true := decide_eq_true (by omega)
              go_wp2
              go_ret
              exact ⟨rfl, Z2.out⟩
          · have d_h500 : decide ((nw : Int) > 500) = false := decide_eq_false (by omega)
            have d_hi0 : decide (ii < 0) = false := decide_eq_false (by omega)
            have d_hin : decide (ii ≥ (n : Int)) = false := decide_eq_false (by omega)
            have d_hq0 : decide (qq < 0) = true := decide_eq_true (by omega)
            go_wp2
            go_ret
            exact ⟨rfl, Z2.out⟩
        · have d_h500 : decide ((nw : Int) > 500) = false := decide_eq_false (by omega)
          have d_hi0 : decide (ii < 0) = false := decide_eq_false (by omega)
          have d_hin : decide (ii ≥ (n : Int)) = true := decide_eq_true (by omega)
          go_wp2
          go_ret
          exact ⟨rfl, Z2.out⟩
      · have d_h500 : decide ((nw : Int) > 500) = false := decide_eq_false (by omega)
        have d_hi0 : decide (ii < 0) = true := decide_eq_true (by omega)
        go_wp2
        go_ret
        exact ⟨rfl, Z2.out⟩
    · have d_h500 : decide ((nw : Int) > 500) = true := decide_eq_true (by omega)
      go_wp2
      go_ret
      exact ⟨rfl, Z2.out⟩
end Go.Proofs.Ytppllanmgdhabaa
