/- EventWho. -/
import Derived.Test.YtgemaeibmgkneaaEvS
import Derived.BigQuiet
namespace Go.Proofs.Ytgemaeibmgkneaa
open Go.RowKit Go.Deep Go.Shelf
set_option maxRecDepth 100000 in
theorem isEv_drop {l : List Int} {n : Nat} (h : n < l.length) : (l.drop n).filter isEv = if isEv l[n] = true then l[n] :: (l.drop (n + 1)).filter isEv else (l.drop (n + 1)).filter isEv := by
  rw [List.drop_eq_getElem_cons h, List.filter_cons]
set_option maxRecDepth 100000 in
/-- What is told of one's calls that are over. -/
theorem who_E (calls : List (List Int)) (who : List Int) (hm : may calls.length 1 1 0 = true) (hw : who.length ≤ 500) {i : Nat} (hi : i < calls.length) :
    (∃ R, calls[i].filter isEv = ((playE calls who).over.filter (isWE i)).map (·.op) ++ R) ∧ (∀ f ∈ (playE calls who).over, (f.op = 5 ∧ (f.res = 1 ∨ f.res = 4)) ∨ ((f.op = 6 ∨ f.op = 7) ∧ (f.res = 1 ∨ f.res = 3))) ∧ ((playE calls who).a.getD i fnE).res = 0 := by
  obtain ⟨h1, h8⟩ := may11 hm
  have H := HE.play h1 h8 who hw
  refine ⟨?_, fun f hf => ?_, ?_⟩
  · have h := H.of i hi
    have e : calls.getD i [] = calls[i] := by rw [List.getD_eq_getElem?_getD, List.getElem?_eq_getElem hi]; rfl
    rw [e, List.append_assoc] at h
    exact ⟨_, h.symm⟩
  · exact (H.ov f hf).1
  · rcases H.si.fi i hi with e | e
    · rw [e]; rfl
    · exact e.res
set_option maxHeartbeats 4000000 in
set_option maxRecDepth 100000 in
theorem who_any (A B : Option Addr) (nc cc nw cw : Nat) (x : Int) (calls : List (List Int)) (who : List Int) (w : World) (hA : Rl w A calls) (hB : Ri w B who) (hnc : calls.length = nc) (hnw : who.length = nw) :
    Tells 8 #[.slice A nc cc, .slice B nw cw, .int .i64 x] w (.bool true) := by
  have HA := Lib.hid hA
  have HB := Lib.hid hB
  have HNC := Lib.hid hnc
  have HNW := Lib.hid hnw
  clear hA hB hnc hnw
  go_enter Try.func8, Try.ntmps8
  go_wp2_with fail
  refine (awake_any w).mono ?_
  rintro _ w1 ⟨rfl, z1⟩
  have HA1 := Lib.hid (HA.out.below z1)
  have HB1 := Lib.hid (HB.out.below z1)
  have Z1 := Lib.hid z1
  clear z1 HA HB
  go_wp2_with fail
  refine (few_any A nc cc calls w1 HA1.out HNC.out).mono ?_
  rintro _ w2 ⟨rfl, z2⟩
  have HA2 := Lib.hid (HA1.out.below z2)
  have HB2 := Lib.hid (HB1.out.below z2)
  have Z2 := Lib.hid (Z1.out.trans (z2.mono Z1.out.size))
  clear z2 HA1 HB1 Z1
  cases hf : fewE calls
  · clear hf
    go_wp2
    go_ret
    exact ⟨rfl, Z2.out⟩
  obtain ⟨h10, h30⟩ := fewE_of hf
  rw [HNC.out] at h10
  have H30 := Lib.hid (show ∀ l ∈ calls, l.length ≤ 500 from fun l hl => Nat.le_trans (h30 l hl) (by omega))
  have H31 := Lib.hid h30
  clear hf h30
  by_cases hn : 500 < nw
  · have d1 : decide ((nw : Int) > 500) = true := decide_eq_true (by omega)
    clear hn
    go_wp2
    go_ret
    exact ⟨rfl, Z2.out⟩
  have d1 : decide ((nw : Int) > 500) = false := decide_eq_false (by omega)
  by_cases hx0 : x < 0
  · have dhx0 : decide (x < 0) = true := decide_eq_true (by omega)
    clear hx0
    go_wp2
    go_ret
    exact ⟨rfl, Z2.out⟩
  have dhx0 : decide (x < 0) = false := decide_eq_false (by omega)
  by_cases hxn : (nc : Int) ≤ x
  · have dhxn : decide (x ≥ (nc : Int)) = true := decide_eq_true (by omega)
    clear hxn
    go_wp2
    go_ret
    exact ⟨rfl, Z2.out⟩
  have dhxn : decide (x ≥ (nc : Int)) = false := decide_eq_false (by omega)
  obtain ⟨i, rfl⟩ := Int.eq_ofNat_of_zero_le (show 0 ≤ x by omega)
  go_wp2_with fail
  obtain ⟨⟨m, a, over⟩, hpl⟩ : ∃ s, plE calls who = s := ⟨_, rfl⟩
  refine (play_n HA2.out HB2.out HNC.out HNW.out (by omega) H30.out hpl).mono ?_
  rintro _ w3 ⟨Am, cm, Ao, co, Aa, ca, rfl, rm, ro, hco, ra, hca, z3⟩
  have HA3 := Lib.hid (HA2.out.below z3)
  have HB3 := Lib.hid (HB2.out.below z3)
  have Z3 := Lib.hid (Z2.out.trans (z3.mono Z2.out.size))
  have RM := Lib.hid rm
  have RO := Lib.hid ro
  have RA := Lib.hid ra
  have HPL := Lib.hid hpl
  clear rm ro ra hco hca z3 hpl HA2 HB2 Z2
  have Hn := HNC.out
  cases hm : may nc 1 1 0
  · have hm2 : may calls.length 1 1 0 = false := by rw [Hn]; exact hm
    have hp := HPL.out
    rw [plE_no hm2] at hp
    cases hp
    have d3 : decide ((i : Int) ≥ 0) = true := decide_eq_true (by omega)
    clear hm hm2 HA3 HB3 dhx0 dhxn
    go_wp2
    go_ret
    exact ⟨rfl, Z3.out⟩
  · have hm2 : may calls.length 1 1 0 = true := by rw [Hn]; exact hm
    have hp := HPL.out
    rw [plE_yes hm2] at hp
    have hi : i < nc := by omega
    have hic : i < calls.length := by rw [Hn]; exact hi
    obtain ⟨⟨R, hR⟩, hov, hres⟩ := who_E calls who hm2 (by rw [HNW.out]; omega) hic
    have hal := playE_al calls who
    simp only [Prod.mk.injEq] at hp
    obtain ⟨e1, e2, e3⟩ := hp
    rw [e2] at hal hres
    rw [e3] at hR hov
    rw [Hn] at hal
    have HOV := Lib.hid hov
    have HRES := Lib.hid hres
    have HAL := Lib.hid hal
    obtain ⟨no, hno⟩ : ∃ no, over.length = no := ⟨_, rfl⟩
    have HNO := Lib.hid hno
    have hn5 : no ≤ 500 := by
      have h1 := (plE_len calls who H30.out).2.2.2
      rw [HPL.out, HNW.out] at h1
      simp only at h1
      omega
    have h30 := H31.out _ (List.getElem_mem hic)
    obtain ⟨ad, B0, cB, rfl, hal2, hx, _, hPn⟩ := HA3.out.at hic
    have d4 : decide ((i : Int) ≥ (nc : Int)) = false := decide_eq_false (by omega)
    generalize calls[i] = L at hR h30 hx hPn
    obtain ⟨m1, hm1⟩ : ∃ m1, L.length = m1 := ⟨_, rfl⟩
    rw [hm1] at h30 hx
    have HM1 := Lib.hid hm1
    have HPN := Lib.hid hPn
    have HX := Lib.hid (show ∀ w' : World, Below w3.heap.size w3 w' → w'.cell? (ad.add i) = some (.slice B0 m1 cB) from fun w' z => (z.cell (p := ad.add i) (by rw [block_add]; exact hal2)).trans hx)
    have HR0 := Lib.hid (show (L.drop 0).filter isEv = ((over.drop 0).filter (isWE i)).map (·.op) ++ R by simpa using hR)
    rw [hno, hal]
    clear e1 e2 e3 hR hov hres hal hno hm1 hPn hx hm hm2 dhx0 dhxn d1 RM
    go_wp2
    go_loopw [12, 13] (fun u v wr => ∃ (n k : Nat), u = .int .i64 n ∧ v = .int .i64 k ∧ k ≤ no ∧ n ≤ m1 ∧ Hid ((L.drop n).filter isEv = ((over.drop k).filter (isWE i)).map (·.op) ++ R) ∧ Hid (Below w3.heap.size w3 wr)) (fun _ v _ => no - (intOf v).toNat)
    case atStart => exact ⟨0, 0, rfl, rfl, Nat.zero_le _, Nat.zero_le _, HR0, Lib.hid (Below.refl _ _)⟩
    case round =>
      clear HR0
      obtain ⟨n, k, rfl, rfl, hk, hn0, HI, HZ⟩ := hrel
      by_cases hlt : k < no
      · have hLk : k < over.length := by rw [HNO.out]; exact hlt
        have d5 : decide ((k : Int) < (no : Int)) = true := decide_eq_true (by omega)
        obtain ⟨b, off, rfl, hb, hC⟩ := (RO.out.below HZ.out).at hLk
        have hfo := HOV.out _ (List.getElem_mem hLk)
        have hI := HI.out
        rw [List.drop_eq_getElem_cons hLk] at hI
        generalize over[k] = f at hC hfo hI
        obtain ⟨o, p, q, v, xx, y, s⟩ := f
        have HC := Lib.hid (show ∀ w' : World, Below wr.heap.size wr w' → C7 w' b (off + k * 7) ⟨o, p, q, v, xx, y, s⟩ from fun w' z => hC.same (z.block b (Nat.lt_of_lt_of_le hb HZ.out.size)))
        obtain ⟨a0, a1, a2, a3, a4, a5, a6⟩ := hC
        simp only at a0 a1 a2 a3 a4 a5 a6 hfo
        by_cases hq : q = i
        · subst hq
          have HI2 := Lib.hid (show (L.drop n).filter isEv = o :: (((over.drop (k + 1)).filter (isWE i)).map (·.op) ++ R) by
            rw [hI, List.filter_cons, if_pos (by simp [isWE])]
            rfl)
          have HFO := Lib.hid hfo
          have e9 : ((i : Int) != (i : Int)) = false := by simp
          clear hI HI hfo
          go_wp2
          go_loopw [12] (fun u wr2 => ∃ (n2 : Nat), u = .int .i64 n2 ∧ n2 ≤ m1 ∧ Hid ((L.drop n2).filter isEv = o :: (((over.drop (k + 1)).filter (isWE i)).map (·.op) ++ R)) ∧ Hid (Below wr.heap.size wr wr2)) (fun u _ => m1 - (intOf u).toNat)
          case atStart => exact ⟨n, rfl, hn0, HI2, Lib.hid (Below.refl _ _)⟩
          case round =>
            clear HI2 a0 a1 a2 a3 a4 a5 a6
            obtain ⟨n2, rfl, hn2, HJ, HY⟩ := hrel
            have HZ2 := Lib.hid (HZ.out.trans (HY.out.mono HZ.out.size))
            obtain ⟨a0, a1, a2, a3, a4, a5, a6⟩ := HC.out _ HY.out
            simp only at a0 a1 a2 a3 a4 a5 a6
            have hx := HX.out _ HZ2.out
            have hlt2 : n2 < m1 := by
              rcases Nat.lt_or_ge n2 m1 with h | h
              · exact h
              · have hj := HJ.out
                rw [List.drop_eq_nil_of_le (by rw [HM1.out]; omega)] at hj
                simp at hj
            have hL2 : n2 < L.length := by rw [HM1.out]; exact hlt2
            have d6 : decide ((n2 : Int) < (m1 : Int)) = true := decide_eq_true (by omega)
            obtain ⟨b1, off1, rfl, hbl, hbc⟩ := (HPN.out.below HZ2.out) (by omega)
            have hy := hbc n2 _ (List.getElem?_eq_getElem hL2)
            have hJ := HJ.out
            rw [isEv_drop hL2] at hJ
            clear hbc
            generalize L[n2] = u at hy hJ
            by_cases hu : u = o
            · subst hu
              have hev : isEv u = true := by
                rw [isEv_iff]
                have := HFO.out
                omega
              rw [if_pos hev] at hJ
              have hJ2 := (List.cons.inj hJ).2
              have HJ3 := Lib.hid hJ2
              have e8 : (u != u) = false := by simp
              have d7 : decide ((n2 : Int) ≥ (m1 : Int)) = false := decide_eq_false (by omega)
              clear hJ hJ2 HJ hev
              go_wp2_with fail
              go_quiet (fail)
              have hfo := HFO.out
              clear HFO HC
              obtain hc : (u = 5 ∧ s = 1) ∨ (u = 5 ∧ s = 4) ∨ (u = 6 ∧ s = 1) ∨ (u = 6 ∧ s = 3) ∨ (u = 7 ∧ s = 1) ∨ (u = 7 ∧ s = 3) := by omega
              clear hfo
              rcases hc with ⟨rfl, rfl⟩ | ⟨rfl, rfl⟩ | ⟨rfl, rfl⟩ | ⟨rfl, rfl⟩ | ⟨rfl, rfl⟩ | ⟨rfl, rfl⟩
              · go_wp2
                go_roundw
                case rel => exact ⟨n2 + 1, k + 1, by go_num, by go_num, by omega, by omega, HJ3, Lib.hid (HZ2.out.trans ((below_drewN _ _).mono HZ2.out.size))⟩
                case measure => simp [intOf]; omega
              · go_wp2
                go_roundw
                case rel => exact ⟨n2 + 1, k + 1, by go_num, by go_num, by omega, by omega, HJ3, Lib.hid (HZ2.out.trans ((below_drewN _ _).mono HZ2.out.size))⟩
                case measure => simp [intOf]; omega
              · go_wp2
                go_roundw
                case rel => exact ⟨n2 + 1, k + 1, by go_num, by go_num, by omega, by omega, HJ3, Lib.hid (HZ2.out.trans ((below_drewN _ _).mono HZ2.out.size))⟩
                case measure => simp [intOf]; omega
              · go_wp2
                go_roundw
                case rel => exact ⟨n2 + 1, k + 1, by go_num, by go_num, by omega, by omega, HJ3, Lib.hid (HZ2.out.trans ((below_drewN _ _).mono HZ2.out.size))⟩
                case measure => simp [intOf]; omega
              · go_wp2
                go_roundw
                case rel => exact ⟨n2 + 1, k + 1, by go_num, by go_num, by omega, by omega, HJ3, Lib.hid (HZ2.out.trans ((below_drewN _ _).mono HZ2.out.size))⟩
                case measure => simp [intOf]; omega
              · go_wp2
                go_roundw
                case rel => exact ⟨n2 + 1, k + 1, by go_num, by go_num, by omega, by omega, HJ3, Lib.hid (HZ2.out.trans ((below_drewN _ _).mono HZ2.out.size))⟩
                case measure => simp [intOf]; omega
            · have hev : isEv u = false := by
                cases hc : isEv u
                · rfl
                · rw [if_pos hc] at hJ
                  exact absurd (List.cons.inj hJ).1 hu
              rw [hev, if_neg (by simp)] at hJ
              have HJ3 := Lib.hid hJ
              have e8 : (u != o) = true := by simpa using hu
              have hne : u < 5 ∨ 7 < u := by
                have h1 : ¬ (u = 5 ∨ u = 6 ∨ u = 7) := fun h => by rw [isEv_iff.2 h] at hev; cases hev
                omega
              clear hJ HJ hev hu
              rcases hne with hne | hne
              · have d7 : decide (u ≥ 5) = false := decide_eq_false (by omega)
                clear hne
                go_wp2_with fail
                go_quiet (fail)
                go_wp2
                go_roundw
                case rel => exact ⟨n2 + 1, by go_num, by omega, HJ3, Lib.hid (HY.out.trans ((below_drewN _ _).mono HY.out.size))⟩
                case measure => simp [intOf]; omega
              · have d7 : decide (u ≥ 5) = true := decide_eq_true (by omega)
                have d8 : decide (u ≤ 7) = false := decide_eq_false (by omega)
                clear hne
                go_wp2_with fail
                go_quiet (fail)
                go_wp2
                go_roundw
                case rel => exact ⟨n2 + 1, by go_num, by omega, HJ3, Lib.hid (HY.out.trans ((below_drewN _ _).mono HY.out.size))⟩
                case measure => simp [intOf]; omega
        · have HI2 := Lib.hid (show (L.drop n).filter isEv = ((over.drop (k + 1)).filter (isWE i)).map (·.op) ++ R by
            rw [hI, List.filter_cons, if_neg (by simp [isWE, hq])])
          have e9 : (q != (i : Int)) = true := by simpa using hq
          clear hI HI hfo hq HC
          go_wp2
          go_roundw
          case rel => exact ⟨n, k + 1, rfl, by go_num, by omega, by omega, HI2, HZ⟩
          case measure => simp [intOf]; omega
      · have d5 : decide ((k : Int) < (no : Int)) = false := decide_eq_false (by omega)
        have hl : i < a.length := by rw [HAL.out]; exact hi
        obtain ⟨b, off, rfl, hb, hC⟩ := (RA.out.below HZ.out).at hl
        have hg : a[i] = a.getD i fnE := by rw [List.getD_eq_getElem?_getD, List.getElem?_eq_getElem hl]; rfl
        rw [hg] at hC
        have hres := HRES.out
        generalize a.getD i fnE = f at hC hres
        obtain ⟨o, p, q, v, xx, y, s⟩ := f
        simp only at hres
        subst hres
        obtain ⟨a0, a1, a2, a3, a4, a5, a6⟩ := hC
        simp only at a0 a1 a2 a3 a4 a5 a6
        clear hg HI
        go_wp2_with fail
        refine (Tells.of (over_any ⟨o, p, q, v, xx, y, 0⟩ _) (v' := .bool false) rfl).mono ?_
        rintro _ w9 ⟨rfl, z9⟩
        have Z9 := Lib.hid ((Z3.out.trans (HZ.out.mono Z3.out.size)).trans (z9.mono (Nat.le_trans Z3.out.size HZ.out.size)))
        clear z9
        go_wp2
        go_ret
        exact ⟨rfl, Z9.out⟩
end Go.Proofs.Ytgemaeibmgkneaa
