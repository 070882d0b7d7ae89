/- The walk of DequeOnce. -/
import Derived.Test.YtpeaahihjeplmaaDeJ
namespace Go.Proofs.Ytpeaahihjeplmaa
open Go.RowKit Go.Deep Go.Shelf
theorem restOne_U {W D J S : Int} : ∀ (n : Nat) (m : List Int) (f : Fr), UM m → UF f → UM (restOne W D J S n m f).1
  | 0, _, _, h, _ => h
  | n + 1, m, f, h, hf => by
    unfold restOne
    split
    · exact h
    · exact restOne_U n _ _ (deqS_U h hf).1 (deqS_U h hf).2
theorem restL_U {W D J S : Int} : ∀ (m : List Int) (a : List Fr), UM m → (∀ f ∈ a, UF f) → UM (restL W D J S m a).1
  | _, [], h, _ => h
  | m, f :: r, h, hf => by
    unfold restL
    exact restL_U _ r (restOne_U _ _ _ h (hf f (by simp))) (fun g hg => hf g (List.mem_cons_of_mem _ hg))
/-- How often a value was put in. -/
def pt (l : List Fr) (v : Int) : Nat := (ob isPO l).count v
theorem pt_take {l : List Fr} {j : Nat} (h : j < l.length) (v : Int) : pt (l.take (j + 1)) v = pt (l.take j) v + (if l[j].op = 0 ∧ l[j].res = 1 ∧ l[j].val = v then 1 else 0) := by
  unfold pt
  rw [List.take_succ_eq_append_getElem h, ob_snoc, List.count_append]
  congr 1
  unfold isPO
  by_cases h1 : l[j].op = 0
  · by_cases h2 : l[j].res = 1
    · by_cases h3 : l[j].val = v
      · simp [h1, h2, h3]
      · simp [h1, h2, h3]
    · simp [h1, h2]
  · simp [h1]
theorem count_take {l : List Int} {j : Nat} (h : j < l.length) (v : Int) : (l.take (j + 1)).count v = (l.take j).count v + (if l[j] = v then 1 else 0) := by
  rw [List.take_succ_eq_append_getElem h, List.count_append]
  congr 1
  by_cases h1 : l[j] = v
  · simp [h1]
  · simp [h1]
theorem lst_len' {W D J S x : Int} {m l : List Int} (hu : UM m) (h : lst W D J S m x = some l) : l.length ≤ 16 := by
  have h1 := (lst_some hu h).2.len
  have h2 := (may_lim (okw_iff.1 (lst_some hu h).1).1).2.1
  omega
/-- DequeOnce, on lists. -/
theorem once_list {D th : Int} {pops : List Bool} (hm : may 1 D 1 0 = true) (hp : pops.length ≤ 60) (who : List Int) {n : List Int} {k : List Fr} (hr : restL 1 D 1 0 (play D th (cs pops) who).m (play D th (cs pops) who).a = (n, k)) (hu : UM n) :
    (∀ g ∈ k, g = fno ∨ g.res ≠ 0) ∧ ∃ L, lst 1 D 1 0 n 0 = some L ∧ L.length ≤ 16
      ∧ (∀ v, pt ((play D th (cs pops) who).over ++ k) v = mny ((play D th (cs pops) who).over ++ k) v + L.count v ∧ pt ((play D th (cs pops) who).over ++ k) v ≤ 1)
      ∧ (∀ x : Nat, pops[x]? = some true → pt ((play D th (cs pops) who).over ++ k) ((x : Int) + 1) = 0)
      ∧ (∀ g ∈ (play D th (cs pops) who).over ++ k, g.res = 1 → ∃ y : Nat, g.val = (y : Int) + 1 ∧ y < pops.length ∧ pops[y]? = some false) := by
  obtain ⟨h0, L, h1, h2, h3, h4⟩ := play_once hm hp who hr
  generalize (play D th (cs pops) who).over ++ k = T at *
  have hv : ∀ v, 0 < (ob isPO T).count v → ∃ y : Nat, v = (y : Int) + 1 ∧ y < pops.length ∧ pops[y]? = some false := fun v hc => by
    obtain ⟨a1, a2, a3⟩ := h4 v (List.count_pos_iff.1 hc)
    exact ⟨(v - 1).toNat, by omega, by omega, a3⟩
  refine ⟨h0, L, h1, lst_len' hu h1, fun v => ⟨h2 v, h3 v⟩, fun x hx => ?_, fun g hg h1 => ?_⟩
  · rcases Nat.eq_zero_or_pos (pt T ((x : Int) + 1)) with h | h
    · exact h
    · obtain ⟨y, e, _, hy⟩ := hv _ h
      obtain rfl : y = x := by omega
      rw [hx] at hy
      cases hy
  · refine hv g.val ?_
    by_cases ho : g.op = 0
    · refine List.count_pos_iff.2 ?_
      unfold ob
      exact List.mem_map.2 ⟨g, List.mem_filter.2 ⟨hg, by simp [isPO, ho, h1]⟩, rfl⟩
    · have : 0 < (ob isTK T).count g.val := by
        refine List.count_pos_iff.2 ?_
        unfold ob
        exact List.mem_map.2 ⟨g, List.mem_filter.2 ⟨hg, by simp [isTK, ho, h1]⟩, rfl⟩
      have := h2 g.val
      omega
set_option maxRecDepth 100000 in
set_option maxHeartbeats 4000000 in
theorem once_tells (D th vv : Int) (A B : Option Addr) (n c nw cw : Nat) (pops : List Bool) (who : List Int) (w : World) (hP : Rb w A pops) (hW : Ri w B who) (hn : pops.length = n) (hnw : who.length = nw) :
    Tells 4 #[.int .i64 D, .int .i64 th, .slice A n c, .slice B nw cw, .int .i64 vv] w (.bool true) := by
  have HP := Lib.hid hP
  have HW := Lib.hid hW
  have HN := Lib.hid hn
  have HNW := Lib.hid hnw
  clear hP hW hn hnw
  go_enter Try.func4, Try.ntmps4
  go_wp2_with fail
  refine (awake_any _).mono ?_
  rintro _ w1 ⟨rfl, z1⟩
  have Z1 := Lib.hid z1
  clear z1
  by_cases h60 : n ≤ 60
  · by_cases h500 : nw ≤ 500
    · have d1 : decide ((n : Int) > 60) = false := decide_eq_false (by omega)
      have d2 : decide ((nw : Int) > 500) = false := decide_eq_false (by omega)
      by_cases hv0 : vv < 1
      · have d3 : decide (vv < 1) = true := decide_eq_true hv0
        go_wp2
        go_ret
        exact ⟨rfl, Z1.out⟩
      · by_cases hv1 : (n : Int) < vv
        · have d3 : decide (vv < 1) = false := decide_eq_false hv0
          have d4 : decide (vv > (n : Int)) = true := decide_eq_true hv1
          go_wp2
          go_ret
          exact ⟨rfl, Z1.out⟩
        · have d3 : decide (vv < 1) = false := decide_eq_false hv0
          have d4 : decide (vv > (n : Int)) = false := decide_eq_false hv1
          obtain ⟨x, hx⟩ : ∃ x : Nat, vv = (x : Int) + 1 := ⟨(vv - 1).toNat, by omega⟩
          have hxn : x < n := by omega
          have HX := Lib.hid hx
          obtain ⟨ad, rfl, hal, hac⟩ := HP.out (by rw [HN.out]; omega)
          have PC := Lib.hid hac
          have HAL := Lib.hid hal
          have HPL := Lib.hid (show pops.length ≤ 60 by rw [HN.out]; exact h60)
          clear hv0 hv1 hx hal hac
          go_wp2_with fail
          refine (lcalls_any (some ad) n c pops w1 (HP.out.below Z1.out) HN.out h60).mono ?_
          rintro _ w2 ⟨Q, d, rfl, hq, z2⟩
          have HQ := Lib.hid hq.pr
          have HCAP := Lib.hid (ow_cap hq)
          have Z2 := Lib.hid (Z1.out.trans (z2.mono Z1.out.size))
          clear hq z2
          go_wp2_with fail
          refine (play_any D th Q B d cw n nw (cs pops) who w2 HQ.out (HW.out.below Z2.out) HCAP.out (by rw [cs_len]; exact HN.out) HNW.out (by omega) (cs_UF pops HPL.out)).mono ?_
          have o4 := plO_U (D := D) (th := th) (cs_UF pops HPL.out) who
          rw [HNW.out] at o4
          rintro _ w5 ⟨Am, cm, Ao, co, Aa, ca, rfl, rm, ro, hco, ra, z5⟩
          have Z5 := Lib.hid (Z2.out.trans (z5.mono Z2.out.size))
          clear z5 HQ HCAP HW Z2
          cases hpk : plK D th
          · rw [play_hard hpk]
            go_wp2
            go_ret
            exact ⟨rfl, Z5.out⟩
          · obtain ⟨e0, hmay, hth⟩ := play_may (own := cs pops) (who := who) hpk
            have hrs := play_rs (pops := pops) (who := who) hmay hth HPL.out
            have hal := (play_hand (th := th) (pops := pops) hmay HPL.out who).1
            rw [e0] at rm ro hco ra o4 ⊢
            obtain ⟨⟨m', k⟩, hr⟩ : ∃ s, restL 1 D 1 0 (play D th (cs pops) who).m (play D th (cs pops) who).a = s := ⟨_, rfl⟩
            have hmu := restL_U (W := 1) (D := D) (J := 1) (S := 0) _ (play D th (cs pops) who).a o4.1 (fun f hf => by obtain ⟨i, hi, rfl⟩ := List.mem_iff_getElem.1 hf; have := o4.2.1 i; rw [List.getD_eq_getElem?_getD, List.getElem?_eq_getElem hi] at this; exact this)
            rw [hr] at hmu
            have hol := once_list hmay HPL.out who hr hmu
            have hln := restL_len (W := 1) (D := D) (J := 1) (S := 0) (play D th (cs pops) who).m (play D th (cs pops) who).a
            rw [hr] at hln
            have hrO : rsO D (play D th (cs pops) who).m (play D th (cs pops) who).a = (m', k) := by unfold rsO; rw [if_pos hrs, hr]
            generalize play D th (cs pops) who = s at *
            obtain ⟨hu1, hu2, hu3, hu4, hu5⟩ := o4
            obtain ⟨nm, hnm⟩ : ∃ nm, s.m.length = nm := ⟨_, rfl⟩
            obtain ⟨na, hna⟩ : ∃ na, s.a.length = na := ⟨_, rfl⟩
            obtain ⟨no, hno⟩ : ∃ no, s.over.length = no := ⟨_, rfl⟩
            rw [hnm] at hu3 hln
            rw [hna] at hu4 hal hln
            rw [hno] at hu5 hco
            rw [hnm, hna, hno]
            have f1 : ((na : Int) == 0) = false := by simp; omega
            have RM := Lib.hid rm
            have RO := Lib.hid ro
            have RA := Lib.hid ra
            have HNM := Lib.hid hnm
            have HNA := Lib.hid hna
            have HNO := Lib.hid hno
            have HU := Lib.hid (And.intro hu1 hu2)
            have HRO := Lib.hid hrO
            have HL1 := Lib.hid hln.1
            have HL2 := Lib.hid hln.2
            have HOL := Lib.hid hol
            clear rm ro ra hnm hna hno hu1 hu2 hrO hr hrs e0 hln hmay hpk hal hol hmu
            go_wp2_with fail
            refine (rest_any D Am Aa nm cm na ca s.m s.a w5 RM.out RA.out HNM.out HNA.out (by omega) (by omega) HU.out.1 HU.out.2).mono ?_
            rw [HRO.out]
            rintro _ w6 ⟨An, cn, Ak, ck, rfl, rn, rk, z6⟩
            have Z6 := Lib.hid (Z5.out.trans (z6.mono Z5.out.size))
            replace RO := Lib.hid (RO.out.later z6)
            have RK := Lib.hid rk
            have RN := Lib.hid rn
            simp only [HL1.out, HL2.out]
            clear rk rn z6 RM RA HU HRO HNM
            go_wp2
            go_loopw [17] (fun q wr => ∃ j : Nat, q = .int .i64 j ∧ j ≤ na ∧ Hid (Below w6.heap.size w6 wr)) (fun q _ => na - (intOf q).toNat)
            case atStart => exact ⟨0, rfl, Nat.zero_le _, Lib.hid (Below.refl _ _)⟩
            case round =>
              obtain ⟨j, rfl, hj, HZ⟩ := hrel
              by_cases hlt : j < na
              · have hL : j < k.length := by rw [HL2.out]; exact hlt
                obtain ⟨b, off, rfl, hbl, hc7⟩ := (RK.out.later HZ.out).at hL
                have hk := HOL.out.1 _ (List.getElem_mem hL)
                obtain ⟨f, hf⟩ : ∃ f, k[j] = f := ⟨_, rfl⟩
                rw [hf] at hc7 hk
                obtain ⟨o, p, q, v', xx, y, r⟩ := f
                obtain ⟨a0, a1, a2, a3, a4, a5, a6⟩ := hc7
                simp only at a0 a1 a2 a3 a4 a5 a6
                clear hf
                by_cases h1 : o ≥ 0
                · have g1 : decide (o ≥ 0) = true := decide_eq_true h1
                  have h2 : r ≠ 0 := by
                    rcases hk with h | h
                    · unfold fno at h
                      injection h with h
                      omega
                    · exact h
                  have hov := fun w => Tells.of (over_any ⟨o, p, q, v', xx, y, r⟩ w) (v' := .bool true) (by simp [h2])
                  have HOV := Lib.hid hov
                  clear hov h1 h2 hk
                  go_wp2_with (go_at_call 20; refine (HOV.out _).mono ?_; rintro _ w9 ⟨rfl, z9⟩)
                  go_roundw
                  case rel => exact ⟨j + 1, by go_num, by omega, Lib.hid (HZ.out.trans (z9.mono HZ.out.size))⟩
                  case measure => simp [intOf]; omega
                · have g1 : decide (o ≥ 0) = false := decide_eq_false h1
                  clear h1 hk
                  go_wp2
                  go_roundw
                  case rel => exact ⟨j + 1, by go_num, by omega, HZ⟩
                  case measure => simp [intOf]; omega
              · replace RO := Lib.hid (RO.out.later HZ.out)
                replace RK := Lib.hid (RK.out.later HZ.out)
                replace RN := Lib.hid (RN.out.below HZ.out)
                replace Z6 := Lib.hid (Z6.out.trans (HZ.out.mono Z6.out.size))
                clear HZ
                obtain ⟨Q1, d1, w7, run1, own1, _, bel1, _⟩ := app_frs (Ow.nil wr wr.heap.size) co RO.out.src HNO.out (by omega) (Nat.le_refl _)
                rw [Nat.zero_add, List.nil_append] at own1
                rw [Nat.zero_add] at run1
                obtain ⟨Q2, d2', w8, run2, own2, _, bel2, _⟩ := app_frs own1 ck (RK.out.later bel1).src HL2.out (by omega) bel1.size
                obtain ⟨nt, hnt⟩ : ∃ nt, no + na = nt := ⟨_, rfl⟩
                have HNT := Lib.hid (show (s.over ++ k).length = nt by rw [List.length_append, HNO.out, HL2.out, hnt])
                rw [hnt] at run2 own2
                have hnt6 : nt ≤ 600 := by omega
                have RUN1 := Lib.hid run1
                have RUN2 := Lib.hid run2
                have PT := Lib.hid own2.pr
                have Z8 := Lib.hid (Z6.out.trans ((bel1.trans bel2).mono Z6.out.size))
                replace RN := Lib.hid (RN.out.below (bel1.trans bel2))
                replace HOL := Lib.hid HOL.out.2
                clear run1 run2 own1 own2 bel1 bel2 hnt RO RK HNO HNA HL2 Z5 Z6
                generalize s.over ++ k = l at HOL HNT PT
                go_wp2_with (first
                  | (at_builtin; (with_reducible refine wpList_append_fr RUN1.out ?_ ?_ ?_ ?_); exact ⟨_, _, rfl, rfl, rfl⟩; rfl; rfl)
                  | (at_builtin; (with_reducible refine wpList_append_fr RUN2.out ?_ ?_ ?_ ?_); exact ⟨_, _, rfl, rfl, rfl⟩; rfl; rfl))
                go_loopw [19, 20] (fun q z ws => ∃ (i c : Nat), q = .int .i64 c ∧ z = .int .i64 i ∧ i ≤ nt ∧ c ≤ i ∧ Hid (c = pt (l.take i) ((x : Int) + 1)) ∧ ws = w8) (fun _ z _ => nt - (intOf z).toNat)
                case atStart => exact ⟨0, 0, rfl, rfl, Nat.zero_le _, Nat.le_refl _, Lib.hid (by simp [pt, ob]), rfl⟩
                case round =>
                  obtain ⟨i, c', rfl, rfl, hi, hci, HK, rfl⟩ := hrel
                  by_cases hlt2 : i < nt
                  · have hL : i < l.length := by rw [HNT.out]; exact hlt2
                    obtain ⟨b, off, rfl, hbl, hc7⟩ := PT.out.at hL
                    have hm := pt_take hL ((x : Int) + 1)
                    have hq := HOL.out
                    obtain ⟨_, _, _, _, _, hq⟩ := hq
                    have hq := hq _ (List.getElem_mem hL)
                    obtain ⟨f, hf⟩ : ∃ f, l[i] = f := ⟨_, rfl⟩
                    rw [hf] at hc7 hm hq
                    obtain ⟨o, p, q, v', xx, y, r⟩ := f
                    obtain ⟨a0, a1, a2, a3, a4, a5, a6⟩ := hc7
                    simp only at a0 a1 a2 a3 a4 a5 a6 hm hq
                    clear hf
                    have hwx : IntKind.u64.wrap ((x : Int) + 1) = (x : Int) + 1 := by rw [IntKind.wrap_u64]; omega
                    have hvx := HX.out
                    subst hvx
                    by_cases h1 : o = 0
                    · have g1 : (o == 0) = true := by simp [h1]
                      have g2 : (o != 0) = false := by simp [h1]
                      by_cases h2 : r = 1
                      · have g3 : (r == 1) = true := by simp [h2]
                        by_cases h3 : v' = (x : Int) + 1
                        · have g4 : (v' == (x : Int) + 1) = true := by simp [h3]
                          rw [if_pos ⟨h1, h2, h3⟩] at hm
                          have HM := Lib.hid hm
                          clear hm hq h1 h2 h3
                          go_wp2
                          go_roundw
                          case rel => exact ⟨i + 1, c' + 1, by go_num, by go_num, by omega, by omega, Lib.hid (by rw [HM.out, HK.out]), trivial⟩
                          case measure => simp [intOf]; omega
                        · have g4 : (v' == (x : Int) + 1) = false := by simp [h3]
                          rw [if_neg (fun h => h3 h.2.2), Nat.add_zero] at hm
                          have HM := Lib.hid hm
                          clear hm hq h1 h2 h3
                          go_wp2
                          go_roundw
                          case rel => exact ⟨i + 1, c', rfl, by go_num, by omega, by omega, Lib.hid (HK.out.trans HM.out.symm), trivial⟩
                          case measure => simp [intOf]; omega
                      · have g3 : (r == 1) = false := by simp [h2]
                        rw [if_neg (fun h => h2 h.2.1), Nat.add_zero] at hm
                        have HM := Lib.hid hm
                        clear hm hq h1 h2
                        go_wp2
                        go_roundw
                        case rel => exact ⟨i + 1, c', rfl, by go_num, by omega, by omega, Lib.hid (HK.out.trans HM.out.symm), trivial⟩
                        case measure => simp [intOf]; omega
                    · have g1 : (o == 0) = false := by simp [h1]
                      have g2 : (o != 0) = true := by simp [h1]
                      rw [if_neg (fun h => h1 h.1), Nat.add_zero] at hm
                      have HM := Lib.hid hm
                      by_cases h2 : r = 1
                      · have g3 : (r == 1) = true := by simp [h2]
                        obtain ⟨y', hy, hyn, hyp⟩ := hq h2
                        rw [HN.out] at hyn
                        have g4 : decide (v' < 1) = false := decide_eq_false (by omega)
                        have g5 : decide (v' > (n : Int)) = false := decide_eq_false (by omega)
                        have g6 : IntKind.u64.wrap (n : Int) = (n : Int) := by rw [IntKind.wrap_u64]; omega
                        have g7 : IntKind.u64.wrap (v' - 1) = (y' : Int) := by rw [IntKind.wrap_u64]; omega
                        have g8 := (Z8.out.cell (p := ad.add y') (by rw [block_add]; exact HAL.out)).trans (PC.out y' _ hyp)
                        clear hm hq h1 h2 hy
                        go_wp2
                        go_roundw
                        case rel => exact ⟨i + 1, c', rfl, by go_num, by omega, by omega, Lib.hid (HK.out.trans HM.out.symm), trivial⟩
                        case measure => simp [intOf]; omega
                      · have g3 : (r == 1) = false := by simp [h2]
                        clear hm hq h1 h2
                        go_wp2
                        go_roundw
                        case rel => exact ⟨i + 1, c', rfl, by go_num, by omega, by omega, Lib.hid (HK.out.trans HM.out.symm), trivial⟩
                        case measure => simp [intOf]; omega
                  · have hje : i = nt := by omega
                    have e : l.take i = l := by rw [hje, ← HNT.out, List.take_length]
                    rw [e] at HK
                    obtain ⟨L, hl1, hl2, hl3, hl4, _⟩ := HOL.out
                    obtain ⟨e1, e2⟩ := hl3 ((x : Int) + 1)
                    have e3 := hl4 x
                    rw [← HK.out] at e1 e2 e3
                    have E1 := Lib.hid e1
                    have E3 := Lib.hid e3
                    have HLL := Lib.hid hl2
                    have HLS := Lib.hid hl1
                    have hvx := HX.out
                    subst hvx
                    obtain ⟨nl, hnl⟩ : ∃ nl, L.length = nl := ⟨_, rfl⟩
                    have HNL := Lib.hid hnl
                    have hl16 : nl ≤ 16 := by omega
                    clear hje e HK HOL hl1 hl2 hl3 hl4 e1 e3 hnl
                    go_wp2_with fail
                    refine (list_n (k := nl) (b := true) RN.out HL1.out HLS.out (by simpa using HNL.out) rfl).mono ?_
                    rintro _ w9 ⟨A9, c9, rfl, _, r9, z9⟩
                    simp only [Option.getD_some] at r9
                    have R9 := Lib.hid r9
                    have PT9 := Lib.hid (PT.out.later z9)
                    have Z9 := Lib.hid (Z8.out.trans (z9.mono Z8.out.size))
                    clear r9 z9 PT Z8 RN
                    have hwx : IntKind.u64.wrap ((x : Int) + 1) = (x : Int) + 1 := by rw [IntKind.wrap_u64]; omega
                    go_wp2
                    go_loopw [23, 24] (fun q z ws => ∃ (i c : Nat), q = .int .i64 c ∧ z = .int .i64 i ∧ i ≤ nl ∧ c ≤ i ∧ Hid (c = (L.take i).count ((x : Int) + 1)) ∧ ws = w9) (fun _ z _ => nl - (intOf z).toNat)
                    case atStart => exact ⟨0, 0, rfl, rfl, Nat.zero_le _, Nat.le_refl _, Lib.hid (by simp), rfl⟩
                    case round =>
                      obtain ⟨i', c2, rfl, rfl, hi2, hci2, HK, rfl⟩ := hrel
                      by_cases hlt3 : i' < nl
                      · have hL : i' < L.length := by rw [HNL.out]; exact hlt3
                        obtain ⟨a9, rfl, hal9, hac9⟩ := R9.out (by omega)
                        have hx9 := hac9 i' _ (List.getElem?_eq_getElem hL)
                        have hm := count_take hL ((x : Int) + 1)
                        obtain ⟨u, hu⟩ : ∃ u, L[i'] = u := ⟨_, rfl⟩
                        rw [hu] at hx9 hm
                        clear hac9 hu
                        by_cases h1 : u = (x : Int) + 1
                        · have g1 : (u == (x : Int) + 1) = true := by simp [h1]
                          rw [if_pos h1] at hm
                          have HM := Lib.hid hm
                          clear hm h1
                          go_wp2
                          go_roundw
                          case rel => exact ⟨i' + 1, c2 + 1, by go_num, by go_num, by omega, by omega, Lib.hid (by rw [HM.out, HK.out]), trivial⟩
                          case measure => simp [intOf]; omega
                        · have g1 : (u == (x : Int) + 1) = false := by simp [h1]
                          rw [if_neg h1, Nat.add_zero] at hm
                          have HM := Lib.hid hm
                          clear hm h1
                          go_wp2
                          go_roundw
                          case rel => exact ⟨i' + 1, c2, rfl, by go_num, by omega, by omega, Lib.hid (HK.out.trans HM.out.symm), trivial⟩
                          case measure => simp [intOf]; omega
                      · have hje2 : i' = nl := by omega
                        have e' : L.take i' = L := by rw [hje2, ← HNL.out, List.take_length]
                        rw [e'] at HK
                        have e4 := E1.out
                        rw [← HK.out] at e4
                        have E4 := Lib.hid e4
                        obtain ⟨m1, hm1⟩ : ∃ m1, mny l ((x : Int) + 1) = m1 := ⟨_, rfl⟩
                        have HM1 := Lib.hid hm1
                        rw [hm1] at E4
                        clear e4 e' hje2 HK E1 hm1
                        have x1 : decide ((c' : Int) ≤ 1) = true := decide_eq_true (by omega)
                        go_wp2_with fail
                        refine (Tells.of (many_any Q2 nt d2' l ((x : Int) + 1) wr PT9.out HNT.out (by omega)) (v' := .int .i64 m1) (by rw [HM1.out])).mono ?_
                        rintro _ w10 ⟨rfl, z10⟩
                        have Z10 := Lib.hid (Z9.out.trans (z10.mono Z9.out.size))
                        have x2 : wrap64 ((m1 : Int) + (c2 : Int)) = (c' : Int) := by have := E4.out; unfold wrap64; omega
                        have x4 : wrap64 ((x : Int) + 1 - 1) = (x : Int) := by unfold wrap64; omega
                        have x5 : ((c' : Int) == (c' : Int)) = true := by simp
                        have hxl : x < pops.length := by rw [HN.out]; exact hxn
                        have hpx := (Z10.out.cell (p := ad.add x) (by rw [block_add]; exact HAL.out)).trans (PC.out x _ (List.getElem?_eq_getElem hxl))
                        cases hb : pops[x]
                        · rw [hb] at hpx
                          clear hb hxl z10 e2
                          go_wp2
                          go_ret
                          exact ⟨rfl, Z10.out⟩
                        · have hc0 : c' = 0 := E3.out (by rw [List.getElem?_eq_getElem hxl, hb])
                          have x6 : ((c' : Int) == 0) = true := by simp [hc0]
                          rw [hb] at hpx
                          clear hb hxl z10 e2 hc0
                          go_wp2
                          go_ret
                          exact ⟨rfl, Z10.out⟩
    · have d1 : decide ((n : Int) > 60) = false := decide_eq_false (by omega)
      have d2 : decide ((nw : Int) > 500) = true := decide_eq_true (by omega)
      go_wp2
      go_ret
      exact ⟨rfl, Z1.out⟩
  · have d1 : decide ((n : Int) > 60) = true := decide_eq_true (by omega)
    go_wp2
    go_ret
    exact ⟨rfl, Z1.out⟩
end Go.Proofs.Ytpeaahihjeplmaa
