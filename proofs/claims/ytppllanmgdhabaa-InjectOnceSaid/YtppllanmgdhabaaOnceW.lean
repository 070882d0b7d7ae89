/- The walk of InjectOnce. -/
import Derived.Test.YtppllanmgdhabaaIkV
import Derived.Test.YtppllanmgdhabaaLiB
namespace Go.Proofs.Ytppllanmgdhabaa
open Go.RowKit Go.Deep Go.Shelf
/-- The rows of bits, wherever the world goes on to. -/
theorem rg_keep {w : World} {ad : Addr} {ls : List (List Bool)} (h : Rg w (some ad) ls) : ∀ w', Below w.heap.size w w' → ∀ (j : Nat) (l : List Bool), ls[j]? = some l → ∃ (B : Option Addr) (c : Nat), w'.cell? (ad.add j) = some (.slice B l.length c) ∧ Rb w' B l := fun w' hb j l hl => by
  obtain ⟨ad', e, _, hc⟩ := (h.below hb) (by have := (List.getElem?_eq_some_iff.1 hl).1; omega)
  injection e with e
  subst e
  exact hc j l hl
set_option maxRecDepth 100000 in
set_option maxHeartbeats 16000000 in
theorem once_tells (J ii kk : Int) (A B : Option Addr) (n c nw cw : Nat) (outs : List (List Bool)) (who : List Int) (w : World) (hG : Rg w A outs) (hW : Ri w B who) (hn : outs.length = n) (hnw : who.length = nw) :
    Tells 4 #[.int .i64 J, .slice A n c, .slice B nw cw, .int .i64 ii, .int .i64 kk] w (.bool true) := by
  have HG := Lib.hid hG
  have HW := Lib.hid hW
  have HN := Lib.hid hn
  have HNW := Lib.hid hnw
  clear hG hW hn hnw
  go_enter Try.func4, Try.ntmps4
  go_wp2_with fail
  refine (awake_any _).mono ?_
  rintro _ w1 ⟨rfl, z1⟩
  have Z1 := Lib.hid z1
  clear z1
  obtain ⟨fb, HFB⟩ : ∃ b, Hid (fewB outs = b) := ⟨_, Lib.hid rfl⟩
  go_wp2_with fail
  refine (Tells.of (fewbits_any A n c outs w1 (HG.out.below Z1.out) HN.out) (v' := .bool fb) (by rw [HFB.out])).mono ?_
  rintro _ w2 ⟨rfl, z2⟩
  have Z2 := Lib.hid (Z1.out.trans (z2.mono Z1.out.size))
  clear z2
  cases fb
  · go_wp2
    go_ret
    exact ⟨rfl, Z2.out⟩
  · have hfb := fewB_of HFB.out
    rw [HN.out] at hfb
    obtain ⟨h8, h30⟩ := hfb
    have H30 := Lib.hid h30
    clear h30
    by_cases h500 : nw ≤ 500
    · by_cases hi0 : 0 ≤ ii
      · by_cases hin : ii < (n : Int)
        · by_cases hk0 : 0 ≤ kk
          · have d_h500 : decide ((nw : Int) > 500) = false := decide_eq_false (by omega)
            have d_hi0 : decide (ii < 0) = false := decide_eq_false (by omega)
            have d_hin : decide (ii ≥ (n : Int)) = false := decide_eq_false (by omega)
            have d_hk0 : decide (kk < 0) = false := decide_eq_false (by omega)
            have HG2 := Lib.hid (HG.out.below Z2.out)
            clear HG
            obtain ⟨i, rfl⟩ := Int.eq_ofNat_of_zero_le (show 0 ≤ ii by omega)
            obtain ⟨kk2, rfl⟩ := Int.eq_ofNat_of_zero_le (show 0 ≤ kk by omega)
            have hin2 : i < n := by omega
            obtain ⟨ad, rfl, hal, hac⟩ := HG2.out (by rw [HN.out]; omega)
            have KEEP := Lib.hid (rg_keep HG2.out)
            obtain ⟨lr, hlr⟩ : ∃ lr, outs[i]? = some lr := ⟨_, List.getElem?_eq_getElem (show i < outs.length by rw [HN.out]; exact hin2)⟩
            obtain ⟨RB, cB, hx, hrb⟩ := hac i lr hlr
            have hm30 := H30.out _ (List.mem_of_getElem? hlr)
            obtain ⟨m, hm⟩ : ∃ m, lr.length = m := ⟨_, rfl⟩
            rw [hm] at hx hm30
            clear hac hrb hm hlr
            by_cases hkm : (kk2 : Int) < (m : Int)
            · have dkm : decide ((kk2 : Int) ≥ (m : Int)) = false := decide_eq_false (by omega)
              have hkm2 : kk2 < 30 := by omega
              go_wp2_with fail
              refine (calls_any (some ad) n c outs w2 (HG2.out) HN.out h8 H30.out).mono ?_
              rintro _ w3 ⟨Q, d, vs, rfl, hv, hl, z3⟩
              have HV := Lib.hid hv
              have HL := Lib.hid hl
              have Z3 := Lib.hid (Z2.out.trans (z3.mono Z2.out.size))
              have z23 := z3
              clear hv hl z3
              have Z23 := Lib.hid z23
              clear z23
              have HPL := Lib.hid (show outs.length ≤ 8 by rw [HN.out]; exact h8)
              clear hx
              go_wp2_with fail
              refine (play_any J Q B n d nw cw vs (csI outs) who w3 HV.out HL.out (HW.out.below Z3.out) (by rw [csI_len]; exact HN.out) HNW.out (by omega) (csI_UF HPL.out H30.out).1 (csI_UF HPL.out H30.out).2).mono ?_
              have o5 := plI_once (J := J) who HPL.out H30.out
              have o4 := plI_U (J := J) (csI_UF HPL.out H30.out).1 (csI_UF HPL.out H30.out).2 who
              rw [HNW.out] at o4
              rw [HN.out] at o5
              generalize plI J (csI outs) who = s at o5 o4 ⊢
              obtain ⟨sm, sa, so⟩ := s
              simp only at o5 o4 ⊢
              obtain ⟨hu1, hu2, o4⟩ := o4
              obtain ⟨no, hno⟩ : ∃ no, so.length = no := ⟨_, rfl⟩
              obtain ⟨na, hna⟩ : ∃ na, sa.length = na := ⟨_, rfl⟩
              obtain ⟨nm, hnm⟩ : ∃ nm, sm.length = nm := ⟨_, rfl⟩
              rw [hno, hna, hnm] at o4
              rw [hnm, hna, hno] at o5
              have HNO := Lib.hid hno
              have HNA := Lib.hid hna
              have HNM := Lib.hid hnm
              have hno5 : no ≤ 500 := by omega
              have hnm5 : nm ≤ 500 := by omega
              rintro _ w5 ⟨Am, cm, Ao, co, Aa, ca, rfl, rm, ro, hco, ra, z5⟩
              simp only [hno, hna, hnm]
              have RM := Lib.hid rm
              have RO := Lib.hid ro
              have RA := Lib.hid ra
              have Z5 := Lib.hid (Z3.out.trans (z5.mono Z3.out.size))
              have Z25 := Lib.hid (Z23.out.trans (z5.mono Z23.out.size))
              rw [hno] at hco
              clear rm ro ra z5 hno hna hnm o4 HV HL HW Z3 Z23 Z1
              rcases o5 with ⟨rfl, rfl, rfl⟩ | ⟨rfl, m', k, hrs, hl1, hl2, hum, hk4, ⟨L, hls, hle, hl16, hcnt⟩, hone⟩
              · go_wp2
                go_ret
                exact ⟨rfl, Z5.out⟩
              · have f0 : ((na : Int) == 0) = false := by simp; omega
                have HU := Lib.hid (And.intro hu1 hu2)
                have HRS := Lib.hid hrs
                have HL1 := Lib.hid hl1
                have HL2 := Lib.hid hl2
                have HUM := Lib.hid hum
                have HK4 := Lib.hid hk4
                have HLS := Lib.hid hls
                have HLE := Lib.hid hle
                have HL16 := Lib.hid hl16
                have HCNT := Lib.hid hcnt
                have HONE := Lib.hid hone
                clear hu1 hu2 hrs hl1 hl2 hum hk4 hls hle hl16 hcnt hone
                go_wp2_with fail
                refine (rest_any J Am Aa nm cm _ ca sm sa w5 RM.out RA.out HNM.out HNA.out (by omega) (by omega) HU.out.1 HU.out.2).mono ?_
                rw [HRS.out]
                rintro _ w6 ⟨An, cn, Ak, ck, rfl, rn, rk, z6⟩
                have Z6 := Lib.hid (Z5.out.trans (z6.mono Z5.out.size))
                have Z26 := Lib.hid (Z25.out.trans (z6.mono Z25.out.size))
                replace RO := Lib.hid (RO.out.later z6)
                have RK := Lib.hid rk
                have RN := Lib.hid rn
                simp only [HL1.out, HL2.out]
                clear rk rn z6 RM RA HU HRS Z5 Z25
                obtain ⟨Q1, d1, w7, run1, own1, _, bel1, _⟩ := app_frs (Ow.nil w6 w6.heap.size) co RO.out.src HNO.out (by omega) (Nat.le_refl _)
                rw [Nat.zero_add, List.nil_append] at own1
                rw [Nat.zero_add] at run1
                have RUN1 := Lib.hid run1
                have OWN1 := Lib.hid own1
                have BEL1 := Lib.hid bel1
                clear run1 own1 bel1
                go_wp2_with (at_builtin; (with_reducible refine wpList_append_fr RUN1.out ?_ ?_ ?_ ?_); exact ⟨_, _, rfl, rfl, rfl⟩; rfl; rfl)
                go_loopw [18, 19] (fun q x ws => ∃ (j nt : Nat) (Q : Option Addr) (d : Nat), q = .slice Q nt d ∧ x = .int .i64 j ∧ j ≤ na ∧ nt ≤ no + j ∧ Hid (Ow ws w6.heap.size Q nt d (so ++ (k.take j).filter isCall)) ∧ Hid (Below w6.heap.size w6 ws)) (fun _ x _ => na - (intOf x).toNat)
                case atStart => exact ⟨0, no, Q1, d1, rfl, rfl, Nat.zero_le _, by omega, Lib.hid (by simpa using OWN1.out), BEL1⟩
                case round =>
                  obtain ⟨j, nt, Q, d, rfl, rfl, hj, hnt, HO, HZ⟩ := hrel
                  by_cases hlt : j < na
                  · have hL : j < k.length := by rw [HL2.out]; exact hlt
                    obtain ⟨b, off, rfl, hbl, hc7⟩ := (RK.out.later HZ.out).at hL
                    have hk := HK4.out _ (List.getElem_mem hL)
                    have hft := fil_take hL
                    obtain ⟨f, hf⟩ : ∃ f, k[j] = f := ⟨_, rfl⟩
                    rw [hf] at hc7 hk hft
                    obtain ⟨o, p, q, v', xx, y, r⟩ := f
                    have HC7 := Lib.hid hc7
                    have HBL := Lib.hid hbl
                    obtain ⟨a0, a1, a2, a3, a4, a5, a6⟩ := hc7
                    simp only at a0 a1 a2 a3 a4 a5 a6 hft
                    clear hf
                    by_cases h1 : o ≥ 0
                    · have g1 : decide (o ≥ 0) = true := decide_eq_true h1
                      have h2 : r ≠ 0 := by
                        rcases hk with h | h
                        · unfold fno at h
                          injection h with h
                          omega
                        · exact h.1
                      have hov := fun w => Tells.of (over_any ⟨o, p, q, v', xx, y, r⟩ w) (v' := .bool true) (by simp [h2])
                      have HOV := Lib.hid hov
                      rw [if_pos h1] at hft
                      have HFT := Lib.hid hft
                      clear hov h1 h2 hk hft
                      go_wp2_with fail
                      refine (HOV.out _).mono ?_
                      rintro _ w9 ⟨rfl, z9⟩
                      obtain ⟨Q', d', w', hrun, hown, _, hbel, _⟩ := app_one (HO.out.below z9) ⟨o, p, q, v', xx, y, r⟩ (by omega) (Nat.le_trans HZ.out.size z9.size)
                      rw [List.append_assoc, ← HFT.out] at hown
                      have RUN := Lib.hid hrun
                      have HO' := Lib.hid hown
                      have HZ' := Lib.hid ((HZ.out.trans (z9.mono HZ.out.size)).trans hbel)
                      obtain ⟨c0, c1, c2, c3, c4, c5, c6⟩ := HC7.out.same (z9.block _ HBL.out)
                      simp only at c0 c1 c2 c3 c4 c5 c6
                      have hb9 := Nat.lt_of_lt_of_le HBL.out z9.size
                      clear hrun hown hbel HO HZ z9 a0 a1 a2 a3 a4 a5 a6 hbl HC7 HBL
                      go_wp2_with (at_builtin; (with_reducible refine wpList_append_fr RUN.out ?_ ?_ ?_ ?_); exact ⟨_, _, rfl, rfl, rfl⟩; rfl; rfl)
                      go_roundw
                      case rel => exact ⟨j + 1, nt + 1, Q', d', rfl, by go_num, by omega, by omega, HO', HZ'⟩
                      case measure => simp [intOf]; omega
                    · have g1 : decide (o ≥ 0) = false := decide_eq_false h1
                      rw [if_neg h1, List.append_nil] at hft
                      have HO' := Lib.hid (show Ow wr w6.heap.size Q nt d (so ++ (k.take (j + 1)).filter isCall) by rw [hft]; exact HO.out)
                      clear h1 hk hft
                      go_wp2
                      go_roundw
                      case rel => exact ⟨j + 1, nt, Q, d, rfl, by go_num, by omega, by omega, HO', HZ⟩
                      case measure => simp [intOf]; omega
                  · have hje : j = na := by omega
                    have hown := HO.out
                    rw [List.take_of_length_le (by rw [HL2.out]; omega)] at hown
                    have HNT := Lib.hid hown.len
                    have PT := Lib.hid hown.pr
                    replace RN := Lib.hid (RN.out.below HZ.out)
                    have Z8 := Lib.hid (Z6.out.trans (HZ.out.mono Z6.out.size))
                    have KZ := Lib.hid (Z26.out.trans (HZ.out.mono Z26.out.size))
                    have hnt6 : nt ≤ 600 := by omega
                    clear hown HO HZ hje RK HK4 Z6 Z26
                    generalize hT : so ++ k.filter isCall = T at *
                    obtain ⟨w8, hw8⟩ : ∃ w8, w8 = wr := ⟨_, rfl⟩
                    subst hw8
                    have w1 : IntKind.i64.wrap ((i : Int) + 1) = (i : Int) + 1 := by rw [IntKind.wrap_i64]; omega
                    have w2 : IntKind.i64.wrap (100 * ((i : Int) + 1)) = 100 * ((i : Int) + 1) := by rw [IntKind.wrap_i64]; omega
                    obtain ⟨V, hV⟩ : ∃ V, 100 * ((i : Int) + 1) + (kk2 : Int) = V := ⟨_, rfl⟩
                    have w3 : IntKind.i64.wrap (100 * ((i : Int) + 1) + (kk2 : Int)) = V := by rw [hV, IntKind.wrap_i64]; omega
                    have w4 : IntKind.u64.wrap V = V := u64_of (by omega) (by omega)
                    have HV9 := Lib.hid hV
                    clear hV
                    go_upto_region 18 with (fail)
                    clear w1 w2 w3 w4
                    go_wp2
                    go_loopw [21, 22, 23, 24, 25, 26] (fun a b z _ _ _ ws => ∃ (j ci co : Nat), a = .int .i64 ci ∧ b = .int .i64 co ∧ z = .int .i64 j ∧ j ≤ nt ∧ ci ≤ j ∧ co ≤ j ∧ Hid (ci = cE V (T.take j)) ∧ Hid (co = cD V (T.take j)) ∧ Hid (Below w8.heap.size w8 ws)) (fun _ _ z _ _ _ _ => nt - (intOf z).toNat)
                    case atStart => exact ⟨0, 0, 0, rfl, rfl, rfl, Nat.zero_le _, Nat.le_refl _, Nat.le_refl _, Lib.hid (by simp [cE]), Lib.hid (by simp [cD]), Lib.hid (Below.refl _ _)⟩
                    case round =>
                      obtain ⟨j, ci, co, rfl, rfl, rfl, hj, hci, hco2, HE, HD, HZ2⟩ := hrel
                      by_cases hlt2 : j < nt
                      · have hL : j < T.length := by rw [HNT.out]; exact hlt2
                        obtain ⟨b, off, rfl, hbl, hc7⟩ := (PT.out.later HZ2.out).at hL
                        have he := cE_take hL V
                        have hd := cD_take hL V
                        have hon := HONE.out _ (List.getElem_mem hL)
                        obtain ⟨f, hf⟩ : ∃ f, T[j] = f := ⟨_, rfl⟩
                        rw [hf] at hc7 he hd hon
                        obtain ⟨o, p, q, vv, xx, y, r⟩ := f
                        obtain ⟨a0, a1, a2, a3, a4, a5, a6⟩ := hc7
                        simp only at a0 a1 a2 a3 a4 a5 a6 he hd hon
                        rw [← HE.out] at he
                        rw [← HD.out] at hd
                        clear hf HE HD
                        go_upto_region 24 with (fail)
                        have bf := Bf.new wr ⟨o, p, q, vv, xx, y, r⟩
                        have zb := box_below wr (.cells #[.int .i64 o, .int .i64 p, .int .i64 q, .int .u64 vv, .int .u64 xx, .int .u64 y, .int .i64 r] 28)
                        simp only at bf
                        generalize wr.alloc (.cells #[.int .i64 o, .int .i64 p, .int .i64 q, .int .u64 vv, .int .u64 xx, .int .u64 y, .int .i64 r] 28) = w9 at bf zb ⊢
                        obtain ⟨b0, b1, b2, b3, b4, b5, b6⟩ := bf.cells
                        simp only at b0 b3 b6
                        have HZ3 := Lib.hid (HZ2.out.trans (zb.mono HZ2.out.size))
                        clear a0 a1 a2 a3 a4 a5 a6 b1 b2 b4 b5 bf zb HZ2
                        by_cases hr : r = 1
                        · have g0 : (r != 1) = false := by simp [hr]
                          obtain ⟨p', q', hv, hp8, hq30, l', hl1, hl2⟩ := hon hr
                          have hvv0 : 0 ≤ vv := by omega
                          have hvv1 : vv < 1000 := by omega
                          have HCX := Lib.hid (KEEP.out _ (KZ.out.trans (HZ3.out.mono KZ.out.size)))
                          obtain ⟨RBp, cBp, hx1, hrb1⟩ := HCX.out p' l' hl1
                          have hql : q' < l'.length := (List.getElem?_eq_some_iff.1 hl2).1
                          obtain ⟨rb, rfl, hbl2, hbc⟩ := hrb1 (by omega)
                          have hy := hbc q' _ hl2
                          obtain ⟨ml, hml⟩ : ∃ ml, l'.length = ml := ⟨_, rfl⟩
                          rw [hml] at hx1 hql
                          have y1 : vv % 10000 / 100 - 1 = (p' : Int) := by omega
                          have y2 : vv % 100 = (q' : Int) := by omega
                          have u1 : decide (vv ≥ 1000) = false := decide_eq_false (by omega)
                          have u2 : decide ((p' : Int) < 0) = false := decide_eq_false (by omega)
                          have u3 : decide ((p' : Int) ≥ (na : Int)) = false := decide_eq_false (by omega)
                          have u4 : decide ((q' : Int) ≥ (ml : Int)) = false := decide_eq_false (by omega)
                          clear hon hbc hrb1 HCX hl1 hl2 hml hv
                          by_cases h3 : o = 3
                          · have g1 : (o == 3) = true := by simp [h3]
                            have g2 : (o == 4) = false := by simp [h3]
                            rw [if_neg (fun h => by have := h.1; omega), Nat.add_zero] at hd
                            by_cases hvV : vv = V
                            · have g3 : (vv == V) = true := by simp [hvV]
                              rw [if_pos ⟨h3, hr, hvV⟩] at he
                              have HE := Lib.hid he.symm
                              have HD := Lib.hid hd.symm
                              clear he hd hr h3 hvV
                              go_upto_region 31 with (fail)
                              simp only [y2]
                              go_wp2
                              go_roundw
                              case rel => exact ⟨j + 1, ci + 1, co, by go_num, by go_num, by go_num, by omega, by omega, by omega, HE, HD, HZ3⟩
                              case measure => simp [intOf]; omega
                            · have g3 : (vv == V) = false := by simp [hvV]
                              rw [if_neg (fun h => hvV h.2.2), Nat.add_zero] at he
                              have HE := Lib.hid he.symm
                              have HD := Lib.hid hd.symm
                              clear he hd hr h3 hvV
                              go_upto_region 31 with (fail)
                              simp only [y2]
                              go_wp2
                              go_roundw
                              case rel => exact ⟨j + 1, ci, co, by go_num, by go_num, by go_num, by omega, by omega, by omega, HE, HD, HZ3⟩
                              case measure => simp [intOf]; omega
                          · have g1 : (o == 3) = false := by simp [h3]
                            rw [if_neg (fun h => h3 h.1), Nat.add_zero] at he
                            by_cases h4 : o = 4
                            · have g2 : (o == 4) = true := by simp [h4]
                              by_cases hvV : vv = V
                              · have g3 : (vv == V) = true := by simp [hvV]
                                rw [if_pos ⟨h4, hr, hvV⟩] at hd
                                have HE := Lib.hid he.symm
                                have HD := Lib.hid hd.symm
                                clear he hd hr h3 h4 hvV
                                go_upto_region 31 with (fail)
                                simp only [y2]
                                go_wp2
                                go_roundw
                                case rel => exact ⟨j + 1, ci, co + 1, by go_num, by go_num, by go_num, by omega, by omega, by omega, HE, HD, HZ3⟩
                                case measure => simp [intOf]; omega
                              · have g3 : (vv == V) = false := by simp [hvV]
                                rw [if_neg (fun h => hvV h.2.2), Nat.add_zero] at hd
                                have HE := Lib.hid he.symm
                                have HD := Lib.hid hd.symm
                                clear he hd hr h3 h4 hvV
                                go_upto_region 31 with (fail)
                                simp only [y2]
                                go_wp2
                                go_roundw
                                case rel => exact ⟨j + 1, ci, co, by go_num, by go_num, by go_num, by omega, by omega, by omega, HE, HD, HZ3⟩
                                case measure => simp [intOf]; omega
                            · have g2 : (o == 4) = false := by simp [h4]
                              rw [if_neg (fun h => h4 h.1), Nat.add_zero] at hd
                              have HE := Lib.hid he.symm
                              have HD := Lib.hid hd.symm
                              clear he hd hr h3 h4
                              go_upto_region 31 with (fail)
                              simp only [y2]
                              go_wp2
                              go_roundw
                              case rel => exact ⟨j + 1, ci, co, by go_num, by go_num, by go_num, by omega, by omega, by omega, HE, HD, HZ3⟩
                              case measure => simp [intOf]; omega
                        · have g0 : (r != 1) = true := by simp [hr]
                          rw [if_neg (fun h => hr h.2.1), Nat.add_zero] at he
                          rw [if_neg (fun h => hr h.2.1), Nat.add_zero] at hd
                          have HE := Lib.hid he.symm
                          have HD := Lib.hid hd.symm
                          clear he hd hr hon
                          go_wp2
                          go_roundw
                          case rel => exact ⟨j + 1, ci, co, by go_num, by go_num, by go_num, by omega, by omega, by omega, HE, HD, HZ3⟩
                          case measure => simp [intOf]; omega
                      · have hje : j = nt := by omega
                        have e : T.take j = T := by rw [hje, ← HNT.out, List.take_length]
                        have k1 := HE.out
                        have k2 := HD.out
                        rw [e] at k1 k2
                        have k3 := HCNT.out V
                        rw [← k1, ← k2] at k3
                        have HCV := Lib.hid k3
                        have hci4 : ci ≤ 1 := k3.1
                        have hco4 : co ≤ 1 := by omega
                        have RN8 := Lib.hid (RN.out.below HZ2.out)
                        have Z8b := Lib.hid (Z8.out.trans (HZ2.out.mono Z8.out.size))
                        obtain ⟨nl, hnl⟩ : ∃ nl, L.length = nl := ⟨_, rfl⟩
                        have HNL := Lib.hid hnl
                        have hl16 : nl ≤ 16 := by have := HL16.out; omega
                        clear hje e k1 k2 k3 HE HD HZ2 hnl
                        go_wp2_with fail
                        refine (dlist_L RN8.out HL1.out hnm5 HUM.out HLS.out (L := L) rfl HNL.out (B := true) rfl).mono ?_
                        rintro _ w9 ⟨A9, c9, rfl, _, r9, z9⟩
                        have R9 := Lib.hid r9
                        have RN9 := Lib.hid (RN8.out.below z9)
                        have Z9 := Lib.hid (Z8b.out.trans (z9.mono Z8b.out.size))
                        clear r9 z9 RN8 Z8b
                        go_wp2
                        go_loopw [29, 30] (fun q z ws => ∃ (i' c2 : Nat), q = .int .i64 c2 ∧ z = .int .i64 i' ∧ i' ≤ nl ∧ c2 ≤ i' ∧ Hid (c2 = (L.take i').countP fun u => decide (u = V)) ∧ ws = w9) (fun _ z _ => nl - (intOf z).toNat)
                        case atStart => exact ⟨0, 0, rfl, rfl, Nat.zero_le _, Nat.le_refl _, Lib.hid (by simp), rfl⟩
                        case round =>
                          obtain ⟨i', c2, rfl, rfl, hi2, hci2, HK, rfl⟩ := hrel
                          by_cases hlt3 : i' < nl
                          · have hL : i' < L.length := by rw [HNL.out]; exact hlt3
                            obtain ⟨a9, rfl, hal9, hac9⟩ := R9.out (by omega)
                            have hx9 := hac9 i' _ (List.getElem?_eq_getElem hL)
                            have hm := cU_take hL V
                            obtain ⟨u, hu⟩ : ∃ u, L[i'] = u := ⟨_, rfl⟩
                            rw [hu] at hx9 hm
                            clear hac9 hu
                            by_cases h1 : u = V
                            · have g1 : (u == V) = true := by simp [h1]
                              rw [if_pos h1] at hm
                              have HM := Lib.hid hm
                              clear hm h1
                              go_wp2
                              go_roundw
                              case rel => exact ⟨i' + 1, c2 + 1, by go_num, by go_num, by omega, by omega, Lib.hid (by rw [HM.out, HK.out]), trivial⟩
                              case measure => simp [intOf]; omega
                            · have g1 : (u == V) = false := by simp [h1]
                              rw [if_neg h1, Nat.add_zero] at hm
                              have HM := Lib.hid hm
                              clear hm h1
                              go_wp2
                              go_roundw
                              case rel => exact ⟨i' + 1, c2, rfl, by go_num, by omega, by omega, Lib.hid (HK.out.trans HM.out.symm), trivial⟩
                              case measure => simp [intOf]; omega
                          · have hje2 : i' = nl := by omega
                            have e' : L.take i' = L := by rw [hje2, ← HNL.out, List.take_length]
                            have e4 := HCV.out
                            have e5 := HK.out
                            rw [e'] at e5
                            rw [← e5] at e4
                            have hsum : co + c2 = ci := e4.2
                            have hci1 : ci ≤ 1 := e4.1
                            clear e4 e5 e' hje2 HK
                            have x1 : decide ((ci : Int) ≤ 1) = true := decide_eq_true (by omega)
                            have x2 : ((co : Int) + (c2 : Int) == (ci : Int)) = true := by rw [beq_iff_eq]; omega
                            have x5 : ((ci : Int) == (ci : Int)) = true := by simp
                            have x6 : ((nl : Int) == (nl : Int)) = true := by simp
                            clear hsum
                            go_wp2_with fail
                            refine (Tells.of (qlen_any 1 1 J 0 An nm cn m' wr RN9.out HL1.out hnm5) (v' := .int .i64 nl) (by rw [HLE.out, HNL.out])).mono ?_
                            rintro _ w10 ⟨rfl, z10⟩
                            have Z10 := Lib.hid (Z9.out.trans (z10.mono Z9.out.size))
                            clear z10
                            go_wp2
                            go_ret
                            exact ⟨rfl, Z10.out⟩
            · have dkm : decide ((kk2 : Int) ≥ (m : Int)) = true := decide_eq_true (by omega)
              go_wp2
              go_ret
              exact ⟨rfl, Z2.out⟩
          · have d_h500 : decide ((nw : Int) > 500) = false := decide_eq_false (by omega)
            have d_hi0 : decide (ii < 0) = false := decide_eq_false (by omega)
            have d_hin : decide (ii ≥ (n : Int)) = false := decide_eq_false (by omega)
            have d_hk0 : decide (kk < 0) = true := decide_eq_true (by omega)
            go_wp2
            go_ret
            exact ⟨rfl, Z2.out⟩
        · have d_h500 : decide ((nw : Int) > 500) = false := decide_eq_false (by omega)
          have d_hi0 : decide (ii < 0) = false := decide_eq_false (by omega)
          have d_hin : decide (ii ≥ (n : Int)) = true := decide_eq_true (by omega)
          go_wp2
          go_ret
          exact ⟨rfl, Z2.out⟩
      · have d_h500 : decide ((nw : Int) > 500) = false := decide_eq_false (by omega)
        have d_hi0 : decide (ii < 0) = true := decide_eq_true (by omega)
        go_wp2
        go_ret
        exact ⟨rfl, Z2.out⟩
    · have d_h500 : decide ((nw : Int) > 500) = true := decide_eq_true (by omega)
      go_wp2
      go_ret
      exact ⟨rfl, Z2.out⟩
end Go.Proofs.Ytppllanmgdhabaa
