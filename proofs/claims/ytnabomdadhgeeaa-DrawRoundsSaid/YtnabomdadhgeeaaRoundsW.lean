/- The walk of DrawRounds. -/
import Derived.Test.YtnabomdadhgeeaaDrT
import Derived.Test.YtnabomdadhgeeaaDrS
namespace Go.Proofs.Ytnabomdadhgeeaa
open Go.RowKit Go.Deep
theorem rndN_at' {m : Nat} {d : Int} {j i : Nat} (h : i < j) : (rndN m d j)[i]? = some (rn m d i) := by simp [rndN, h]
theorem take_at {l : List Pk} {s : Nat} {x : Pk} (h : l[s]? = some x) : l.take (s + 1) = l.take s ++ [x] := by
  obtain ⟨hs, rfl⟩ := List.getElem?_eq_some_iff.1 h
  exact List.take_succ_eq_append_getElem hs
theorem fil_yes {l : List Pk} {s k : Nat} {x : Pk} (h : l[s]? = some x) (hx : nk k x = true) : (l.take (s + 1)).filter (nk k) = (l.take s).filter (nk k) ++ [x] := by
  rw [take_at h, List.filter_append]
  simp [hx]
theorem fil_no {l : List Pk} {s k : Nat} {x : Pk} (h : l[s]? = some x) (hx : nk k x = false) : (l.take (s + 1)).filter (nk k) = (l.take s).filter (nk k) := by
  rw [take_at h, List.filter_append]
  simp [hx]
theorem rounds_wlo (nw ns n k : Int) (w : World)  (h0 : nw < 1) : Tells 5 #[.int .i64 nw, .int .i64 ns, .int .i64 n, .int .i64 k] w (.bool true) := by
  have d0 : decide (nw < 1) = true := decide_eq_true h0
  go_enter Try.func5, Try.ntmps5
  go_wp2_with fail
  refine (awake_any _).mono ?_
  rintro _ w1 ⟨rfl, z1⟩
  have Z := Lib.hid z1
  clear z1
  go_wp2
  go_ret
  exact ⟨rfl, Z.out⟩
theorem rounds_whi (nw ns n k : Int) (w : World) (h0 : ¬ nw < 1) (h1 : 4 < nw) : Tells 5 #[.int .i64 nw, .int .i64 ns, .int .i64 n, .int .i64 k] w (.bool true) := by
  have d0 : decide (nw < 1) = false := decide_eq_false h0
  have d1 : decide (4 < nw) = true := decide_eq_true h1
  go_enter Try.func5, Try.ntmps5
  go_wp2_with fail
  refine (awake_any _).mono ?_
  rintro _ w1 ⟨rfl, z1⟩
  have Z := Lib.hid z1
  clear z1
  go_wp2
  go_ret
  exact ⟨rfl, Z.out⟩
theorem rounds_slo (nw ns n k : Int) (w : World) (h0 : ¬ nw < 1) (h1 : ¬ 4 < nw) (h2 : ns < 0) : Tells 5 #[.int .i64 nw, .int .i64 ns, .int .i64 n, .int .i64 k] w (.bool true) := by
  have d0 : decide (nw < 1) = false := decide_eq_false h0
  have d1 : decide (4 < nw) = false := decide_eq_false h1
  have d2 : decide (ns < 0) = true := decide_eq_true h2
  go_enter Try.func5, Try.ntmps5
  go_wp2_with fail
  refine (awake_any _).mono ?_
  rintro _ w1 ⟨rfl, z1⟩
  have Z := Lib.hid z1
  clear z1
  go_wp2
  go_ret
  exact ⟨rfl, Z.out⟩
theorem rounds_shi (nw ns n k : Int) (w : World) (h0 : ¬ nw < 1) (h1 : ¬ 4 < nw) (h2 : ¬ ns < 0) (h3 : 3 < ns) : Tells 5 #[.int .i64 nw, .int .i64 ns, .int .i64 n, .int .i64 k] w (.bool true) := by
  have d0 : decide (nw < 1) = false := decide_eq_false h0
  have d1 : decide (4 < nw) = false := decide_eq_false h1
  have d2 : decide (ns < 0) = false := decide_eq_false h2
  have d3 : decide (3 < ns) = true := decide_eq_true h3
  go_enter Try.func5, Try.ntmps5
  go_wp2_with fail
  refine (awake_any _).mono ?_
  rintro _ w1 ⟨rfl, z1⟩
  have Z := Lib.hid z1
  clear z1
  go_wp2
  go_ret
  exact ⟨rfl, Z.out⟩
theorem rounds_nlo (nw ns n k : Int) (w : World) (h0 : ¬ nw < 1) (h1 : ¬ 4 < nw) (h2 : ¬ ns < 0) (h3 : ¬ 3 < ns) (h4 : n < 2) : Tells 5 #[.int .i64 nw, .int .i64 ns, .int .i64 n, .int .i64 k] w (.bool true) := by
  have d0 : decide (nw < 1) = false := decide_eq_false h0
  have d1 : decide (4 < nw) = false := decide_eq_false h1
  have d2 : decide (ns < 0) = false := decide_eq_false h2
  have d3 : decide (3 < ns) = false := decide_eq_false h3
  have d4 : decide (n < 2) = true := decide_eq_true h4
  go_enter Try.func5, Try.ntmps5
  go_wp2_with fail
  refine (awake_any _).mono ?_
  rintro _ w1 ⟨rfl, z1⟩
  have Z := Lib.hid z1
  clear z1
  go_wp2
  go_ret
  exact ⟨rfl, Z.out⟩
theorem rounds_nhi (nw ns n k : Int) (w : World) (h0 : ¬ nw < 1) (h1 : ¬ 4 < nw) (h2 : ¬ ns < 0) (h3 : ¬ 3 < ns) (h4 : ¬ n < 2) (h5 : 5 < n) : Tells 5 #[.int .i64 nw, .int .i64 ns, .int .i64 n, .int .i64 k] w (.bool true) := by
  have d0 : decide (nw < 1) = false := decide_eq_false h0
  have d1 : decide (4 < nw) = false := decide_eq_false h1
  have d2 : decide (ns < 0) = false := decide_eq_false h2
  have d3 : decide (3 < ns) = false := decide_eq_false h3
  have d4 : decide (n < 2) = false := decide_eq_false h4
  have d5 : decide (5 < n) = true := decide_eq_true h5
  go_enter Try.func5, Try.ntmps5
  go_wp2_with fail
  refine (awake_any _).mono ?_
  rintro _ w1 ⟨rfl, z1⟩
  have Z := Lib.hid z1
  clear z1
  go_wp2
  go_ret
  exact ⟨rfl, Z.out⟩
theorem rounds_klo (nw ns n k : Int) (w : World) (h0 : ¬ nw < 1) (h1 : ¬ 4 < nw) (h2 : ¬ ns < 0) (h3 : ¬ 3 < ns) (h4 : ¬ n < 2) (h5 : ¬ 5 < n) (h6 : k < 0) : Tells 5 #[.int .i64 nw, .int .i64 ns, .int .i64 n, .int .i64 k] w (.bool true) := by
  have d0 : decide (nw < 1) = false := decide_eq_false h0
  have d1 : decide (4 < nw) = false := decide_eq_false h1
  have d2 : decide (ns < 0) = false := decide_eq_false h2
  have d3 : decide (3 < ns) = false := decide_eq_false h3
  have d4 : decide (n < 2) = false := decide_eq_false h4
  have d5 : decide (5 < n) = false := decide_eq_false h5
  have d6 : decide (k < 0) = true := decide_eq_true h6
  go_enter Try.func5, Try.ntmps5
  go_wp2_with fail
  refine (awake_any _).mono ?_
  rintro _ w1 ⟨rfl, z1⟩
  have Z := Lib.hid z1
  clear z1
  go_wp2
  go_ret
  exact ⟨rfl, Z.out⟩
theorem rounds_khi (nw ns n k : Int) (w : World) (h0 : ¬ nw < 1) (h1 : ¬ 4 < nw) (h2 : ¬ ns < 0) (h3 : ¬ 3 < ns) (h4 : ¬ n < 2) (h5 : ¬ 5 < n) (h6 : ¬ k < 0) (h7 : nw ≤ k) : Tells 5 #[.int .i64 nw, .int .i64 ns, .int .i64 n, .int .i64 k] w (.bool true) := by
  have d0 : decide (nw < 1) = false := decide_eq_false h0
  have d1 : decide (4 < nw) = false := decide_eq_false h1
  have d2 : decide (ns < 0) = false := decide_eq_false h2
  have d3 : decide (3 < ns) = false := decide_eq_false h3
  have d4 : decide (n < 2) = false := decide_eq_false h4
  have d5 : decide (5 < n) = false := decide_eq_false h5
  have d6 : decide (k < 0) = false := decide_eq_false h6
  have d7 : decide (nw ≤ k) = true := decide_eq_true h7
  go_enter Try.func5, Try.ntmps5
  go_wp2_with fail
  refine (awake_any _).mono ?_
  rintro _ w1 ⟨rfl, z1⟩
  have Z := Lib.hid z1
  clear z1
  go_wp2
  go_ret
  exact ⟨rfl, Z.out⟩
set_option maxRecDepth 100000 in
set_option maxHeartbeats 4000000 in
theorem rounds_main (m q n k : Nat) (w : World) (h1 : 1 ≤ m) (h4 : m ≤ 4) (h3 : q ≤ 3) (h2 : 2 ≤ n) (h5 : n ≤ 5) (hk : k < m) : Tells 5 #[.int .i64 m, .int .i64 q, .int .i64 n, .int .i64 k] w (.bool true) := by
  obtain ⟨c1, c2, c3, c4, c5⟩ := checks_parts (checks_at h1 h4 h3 h2 h5 hk)
  have C1 := Lib.hid c1
  have C2 := Lib.hid c2
  have C3 := Lib.hid c3
  have C4 := Lib.hid c4
  have C5 := Lib.hid c5
  clear c1 c2 c3 c4 c5
  have d0 : decide ((m : Int) < 1) = false := decide_eq_false (by omega)
  have d1 : decide (4 < (m : Int)) = false := decide_eq_false (by omega)
  have d2 : decide ((q : Int) < 0) = false := decide_eq_false (by omega)
  have d3 : decide (3 < (q : Int)) = false := decide_eq_false (by omega)
  have d4 : decide ((n : Int) < 2) = false := decide_eq_false (by omega)
  have d5 : decide (5 < (n : Int)) = false := decide_eq_false (by omega)
  have d6 : decide ((k : Int) < 0) = false := decide_eq_false (by omega)
  have d7 : decide ((m : Int) ≤ (k : Int)) = false := decide_eq_false (by omega)
  have d7' : decide (m ≤ k) = false := decide_eq_false (by omega)
  obtain ⟨e, he⟩ : ∃ e, e = m + q := ⟨_, rfl⟩
  have he7 : e ≤ 7 := by omega
  have he1 : 1 ≤ e := by omega
  have he2 : e ≤ m + q := by omega
  have he3 : m + q ≤ e := by omega
  have HE := Lib.hid he
  clear he
  go_enter Try.func5, Try.ntmps5
  go_wp2_with fail
  refine (awake_any _).mono ?_
  rintro _ w1 ⟨rfl, z1⟩
  have Z := Lib.hid z1
  clear z1
  go_wp2_with fail
  clear d0 d1 d2 d3 d4 d5 d6 d7 d7'
  go_loopw [10, 11, 12] (fun a b i wr => ∃ (t La Lb : Nat) (Q R : Option Addr) (c d : Nat), i = .int .i64 t ∧ t ≤ n ∧ La = t * e ∧ Lb ≤ t * e ∧ a = .slice Q La c ∧ b = .slice R Lb d ∧ Ow wr w1.heap.size Q La c (rds m q t) ∧ Ow wr w1.heap.size R Lb d (les m q t k) ∧ Ap (.slice Q La c) (.slice R Lb d) ∧ Below w1.heap.size w1 wr) (fun _ _ i _ => n - (intOf i).toNat)
  case atStart => exact ⟨0, 0, 0, none, none, 0, 0, rfl, Nat.zero_le _, by omega, by omega, rfl, rfl, Ow.nil _ _, Ow.nil _ _, Ap.nil _, Below.refl _ _⟩
  case round =>
    obtain ⟨t, La, Lb, Q, R, c, d, rfl, ht, hLa, hLb, rfl, rfl, oq, orr, aqr, hb⟩ := hrel
    have hte : t * e ≤ 35 := Nat.le_trans (Nat.mul_le_mul (show t ≤ 5 by omega) he7) (by omega)
    have OQ := Lib.hid oq
    have OR := Lib.hid orr
    have AQ := Lib.hid aqr
    have HB := Lib.hid hb
    have HLA := Lib.hid hLa
    have HLB := Lib.hid hLb
    have hLa' : La ≤ 35 := by omega
    have hLb0 : Lb ≤ 35 := by omega
    clear oq orr aqr hb hLa hLb hte
    by_cases hlt : t < n
    · obtain ⟨wo, hwo⟩ : ∃ wo, wo = wr := ⟨_, rfl⟩
      subst hwo
      go_wp2_with fail
      have CR := round_yes m q (t : Int) wo (by omega) (by omega)
      rw [← HE.out] at CR
      refine CR.mono ?_
      rintro _ w2 ⟨X, cx, rfl, ox, z2⟩
      rw [rndN_len] at ox ⊢
      have a1 := ap_fresh OQ.out ox
      have a2 := ap_fresh OR.out ox
      have hz2 := z2.size
      have hb2 := HB.out.trans (z2.mono HB.out.size)
      have ox' : Ow w2 w1.heap.size X e cx (rndN m (t : Int) e) := ⟨ox.1, ox.2.imp id (fun ⟨g, cap, cur, x1, x2, x3⟩ => ⟨g, cap, cur, x1, Nat.le_trans HB.out.size x2, x3⟩)⟩
      obtain ⟨Q', c', w3, hrun, hown, hbel, hoth⟩ := app_more (OQ.out.below z2) cx ox'.pr.src (m := e) (rndN_len _ _ _) (by omega) hb2.size
      obtain ⟨or3, ar3⟩ := hoth _ _ _ _ _ (OR.out.below z2) AQ.out.symm
      obtain ⟨ox3, ax3⟩ := hoth _ _ _ _ _ ox' a1
      have RUN := Lib.hid hrun
      replace OQ := Lib.hid (show Ow w3 w1.heap.size Q' (La + e) c' (rds m q (t + 1)) by rw [rds_succ, ← HE.out]; exact hown)
      replace OR := Lib.hid or3
      replace AQ := Lib.hid ar3
      have OX := Lib.hid ox3
      have AX := Lib.hid a2
      have B3 := Lib.hid (hb2.trans hbel)
      have LES := Lib.hid (show les m q (t + 1) k = les m q t k ++ (rndN m (t : Int) e).filter (nk k) by rw [les_succ, ← HE.out])
      clear hrun hown hbel hoth or3 ar3 ox3 ax3 hb2 ox ox' a1 a2 z2 CR HB
      go_wp2_with (at_builtin; (with_reducible refine wpList_append_run RUN.out ?_ ?_ ?_ ?_); exact ⟨_, _, rfl, rfl, rfl⟩; rfl; rfl)
      go_loopw [11, 14] (fun b j wr => ∃ (s Lb' : Nat) (R' : Option Addr) (d' : Nat), j = .int .i64 s ∧ s ≤ e ∧ Lb' ≤ Lb + s ∧ b = .slice R' Lb' d' ∧ Ow wr w1.heap.size R' Lb' d' (les m q t k ++ ((rndN m (t : Int) e).take s).filter (nk k)) ∧ Ow wr w1.heap.size Q' (La + e) c' (rds m q (t + 1)) ∧ Ow wr w1.heap.size X e cx (rndN m (t : Int) e) ∧ Ap (.slice Q' (La + e) c') (.slice R' Lb' d') ∧ Ap (.slice X e cx) (.slice R' Lb' d') ∧ Below w1.heap.size w1 wr) (fun _ j _ => e - (intOf j).toNat)
      case atStart => exact ⟨0, Lb, R, d, rfl, Nat.zero_le _, by omega, rfl, by simpa using OR.out, OQ.out, OX.out, AQ.out.symm, AX.out, B3.out⟩
      case round =>
        clear OR OQ OX AQ AX B3 RUN
        obtain ⟨s, Lb', R', d', rfl, hs, hLs, rfl, orr, oq, ox, aq, ax, hb⟩ := hrel
        by_cases hse : s < e
        · have hLb' : Lb' ≤ 1000 := by omega
          obtain ⟨xb, xo, rfl, xl, xc⟩ := ox.pr (by rw [rndN_len]; omega)
          have hx := rndN_at' (m := m) (d := (t : Int)) hse
          obtain ⟨x0, x1, x2⟩ := xc s _ hx
          generalize rn m (t : Int) s = x at *
          have RX := Lib.hid hx
          have OR := Lib.hid orr
          have OQ := Lib.hid oq
          have OX := Lib.hid ox
          have AQ := Lib.hid aq
          have AX := Lib.hid ax
          have HB := Lib.hid hb
          have hwz := hb.size
          clear hx xc orr oq ox aq ax hb
          by_cases hk0 : x.1 = 0
          · by_cases hk1 : x.2.1 = (k : Int)
            · have hx0 : (x.1 != 0) = false := by simpa using hk0
              have hx1 : (x.2.1 != (k : Int)) = false := by simpa using hk1
              have FN := Lib.hid (fil_no (k := k) RX.out (show nk k x = false by unfold nk; rw [hx0, hx1]; rfl))
              clear hk0 hk1
              go_wp2
              go_roundw
              case rel => exact ⟨s + 1, Lb', R', d', by go_num, by omega, by omega, rfl, by rw [FN.out]; exact OR.out, OQ.out, OX.out, AQ.out, AX.out, HB.out⟩
              case measure => simp [intOf]; omega
            · skip
              have hx0 : (x.1 != 0) = false := by simpa using hk0
              have hx1 : (x.2.1 != (k : Int)) = true := by simpa using hk1
              have FY := Lib.hid (fil_yes (k := k) RX.out (show nk k x = true by unfold nk; rw [hx0, hx1]; rfl))
              obtain ⟨R2, d2, w3, hrun, hown, hbel, hoth⟩ := app_more (OR.out.alloc (.cells #[.int .i64 x.1, .int .i64 x.2.1, .int .u64 x.2.2] 25)) 1 (src_new wr x) (m := 1) rfl (by omega) (by simp; omega)
              obtain ⟨oq3, aq3⟩ := hoth _ _ _ _ _ (OQ.out.alloc (.cells #[.int .i64 x.1, .int .i64 x.2.1, .int .u64 x.2.2] 25)) AQ.out
              obtain ⟨ox3, ax3⟩ := hoth _ _ _ _ _ (OX.out.alloc (.cells #[.int .i64 x.1, .int .i64 x.2.1, .int .u64 x.2.2] 25)) AX.out
              have RUN := Lib.hid hrun
              have O3 := Lib.hid hown
              have OQ3 := Lib.hid oq3
              have OX3 := Lib.hid ox3
              have AQ3 := Lib.hid aq3
              have AX3 := Lib.hid ax3
              have B3 := Lib.hid (HB.out.trans (((Below.refl w1.heap.size wr).alloc HB.out.size _).trans hbel))
              clear hrun hown hbel hoth oq3 aq3 ox3 ax3 hk0 hk1
              go_wp2_with (at_builtin; (with_reducible refine wpList_append_run RUN.out ?_ ?_ ?_ ?_); exact ⟨_, _, rfl, rfl, rfl⟩; rfl; rfl)
              go_roundw
              case rel => exact ⟨s + 1, Lb' + 1, R2, d2, by go_num, by omega, by omega, rfl, by rw [FY.out, ← List.append_assoc]; exact O3.out, OQ3.out, OX3.out, AQ3.out, AX3.out, B3.out⟩
              case measure => simp [intOf]; omega
          · skip
            have hx0 : (x.1 != 0) = true := by simpa using hk0
            have FY := Lib.hid (fil_yes (k := k) RX.out (show nk k x = true by unfold nk; rw [hx0]; rfl))
            obtain ⟨R2, d2, w3, hrun, hown, hbel, hoth⟩ := app_more (OR.out.alloc (.cells #[.int .i64 x.1, .int .i64 x.2.1, .int .u64 x.2.2] 25)) 1 (src_new wr x) (m := 1) rfl (by omega) (by simp; omega)
            obtain ⟨oq3, aq3⟩ := hoth _ _ _ _ _ (OQ.out.alloc (.cells #[.int .i64 x.1, .int .i64 x.2.1, .int .u64 x.2.2] 25)) AQ.out
            obtain ⟨ox3, ax3⟩ := hoth _ _ _ _ _ (OX.out.alloc (.cells #[.int .i64 x.1, .int .i64 x.2.1, .int .u64 x.2.2] 25)) AX.out
            have RUN := Lib.hid hrun
            have O3 := Lib.hid hown
            have OQ3 := Lib.hid oq3
            have OX3 := Lib.hid ox3
            have AQ3 := Lib.hid aq3
            have AX3 := Lib.hid ax3
            have B3 := Lib.hid (HB.out.trans (((Below.refl w1.heap.size wr).alloc HB.out.size _).trans hbel))
            clear hrun hown hbel hoth oq3 aq3 ox3 ax3 hk0
            go_wp2_with (at_builtin; (with_reducible refine wpList_append_run RUN.out ?_ ?_ ?_ ?_); exact ⟨_, _, rfl, rfl, rfl⟩; rfl; rfl)
            go_roundw
            case rel => exact ⟨s + 1, Lb' + 1, R2, d2, by go_num, by omega, by omega, rfl, by rw [FY.out, ← List.append_assoc]; exact O3.out, OQ3.out, OX3.out, AQ3.out, AX3.out, B3.out⟩
            case measure => simp [intOf]; omega
        · have OR := Lib.hid (show Ow wr w1.heap.size R' Lb' d' (les m q (t + 1) k) by
            have e0 := orr
            rw [List.take_of_length_le (by rw [rndN_len]; omega), ← LES.out] at e0
            exact e0)
          have OQ := Lib.hid oq
          have AQ := Lib.hid aq
          have HB := Lib.hid hb
          clear orr oq ox aq ax hb
          go_wp2
          go_roundw
          case rel => exact ⟨t + 1, La + e, Lb', Q', R', c', d', by go_num, by omega, by rw [Nat.succ_mul, HLA.out], by rw [Nat.succ_mul]; have := HLB.out; omega, rfl, rfl, OQ.out, OR.out, AQ.out, HB.out⟩
          case measure => simp [intOf]; omega
    · obtain rfl : t = n := by omega
      have LA := Lib.hid (show La = t * e from HLA.out)
      have hne : (t : Int) * ((m : Int) + (q : Int)) = ((t * e : Nat) : Int) := by rw [HE.out]; simp
      have hne2 : (t : Int) * ((m : Int) + (q : Int) - 1) = ((t * (e - 1) : Nat) : Int) := by
        rw [show (m : Int) + (q : Int) - 1 = ((e - 1 : Nat) : Int) by omega]; simp
      have hp1 : t * e ≤ 35 := Nat.le_trans (Nat.mul_le_mul h5 he7) (by omega)
      have hp2 : t * (e - 1) ≤ 35 := Nat.le_trans (Nat.mul_le_mul h5 (show e - 1 ≤ 7 by omega)) (by omega)
      have hp0 : 0 ≤ (t : Int) * ((m : Int) + (q : Int)) ∧ (t : Int) * ((m : Int) + (q : Int)) ≤ 35 := by rw [hne]; omega
      have hp3 : 0 ≤ (t : Int) * ((m : Int) + (q : Int) - 1) ∧ (t : Int) * ((m : Int) + (q : Int) - 1) ≤ 35 := by rw [hne2]; omega
      have q1 : ((La : Int) == (t : Int) * ((m : Int) + (q : Int))) = true := by rw [hne, HLA.out]; simp
      have LBE := Lib.hid (show Lb = t * (e - 1) by have := OR.out.len; rw [C5.out] at this; rw [HE.out]; exact this.symm)
      have q2 : ((Lb : Int) == (t : Int) * ((m : Int) + (q : Int) - 1)) = true := by rw [hne2, LBE.out]; simp
      have F1 := Lib.hid (show fair (rds m q t) m q (2 * ((m : Int) + (q : Int)) - 1) = true by
        rw [show 2 * ((m : Int) + (q : Int)) - 1 = ((2 * (m + q) - 1 : Nat) : Int) by omega, fair_yes (by omega) (by omega) (by omega)]; exact C2.out)
      have F2 := Lib.hid (show fair (rds m q t) m q ((m : Int) + (q : Int)) = true by
        rw [show (m : Int) + (q : Int) = ((m + q : Nat) : Int) by omega, fair_yes (by omega) (by omega) (by omega)]; exact C3.out)
      have LQ := Lib.hid (show (rds m q t).length = La from OQ.out.len)
      have LR := Lib.hid (show (les m q t k).length = Lb from OR.out.len)
      have I1 := Lib.hid (show I (2 * ((m : Int) + (q : Int)) - 1) by unfold I; omega)
      have I2 := Lib.hid (show I ((m : Int) + (q : Int)) by unfold I; omega)
      have Z2 := Lib.hid (Z.out.trans (HB.out.mono Z.out.size))
      clear hne hne2 hp1 hp2
      have fin : ∀ b : Bool, ((((m : Int) + (q : Int) == 1) = true) ∨ ((((m : Int) + (q : Int) == 1) = false) ∧ fair (les m q t k) m q 1 = false)) := fun _ => by
        by_cases h : m + q = 1
        · left; simp; omega
        · right
          refine ⟨by simp; omega, ?_⟩
          have := fair_yes (l := les m q t k) (m := m) (q := q) (f := 1) (by omega) (by omega) (by omega)
          rw [show ((1 : Nat) : Int) = 1 from rfl] at this
          rw [this]
          exact C4.out.resolve_left h
      rcases fin true with hs | ⟨hs, hf⟩
      · clear fin
        go_wp2_with fail
        have CF := fair_any Q c wr.heap.size (rds m q t) m q (2 * ((m : Int) + (q : Int)) - 1) wr OQ.out.pr (Nat.le_refl _) (by rw [LQ.out]; omega) I1.out
        rw [F1.out, LQ.out] at CF
        refine CF.mono ?_
        rintro _ w4 ⟨rfl, z4⟩
        have OQ4 := Lib.hid (OQ.out.below z4)
        have Z4 := Lib.hid (Z2.out.trans (z4.mono Z2.out.size))
        clear CF z4
        go_wp2_with fail
        have CF := fair_any Q c w4.heap.size (rds m q t) m q ((m : Int) + (q : Int)) w4 OQ4.out.pr (Nat.le_refl _) (by rw [LQ.out]; omega) I2.out
        rw [F2.out, LQ.out] at CF
        refine CF.mono ?_
        rintro _ w5 ⟨rfl, z5⟩
        have Z5 := Lib.hid (Z4.out.trans (z5.mono Z4.out.size))
        clear CF z5
        go_wp2
        go_ret
        exact ⟨rfl, Z5.out⟩
      · have F3 := Lib.hid hf
        clear fin hf
        go_wp2_with fail
        have CF := fair_any Q c wr.heap.size (rds m q t) m q (2 * ((m : Int) + (q : Int)) - 1) wr OQ.out.pr (Nat.le_refl _) (by rw [LQ.out]; omega) I1.out
        rw [F1.out, LQ.out] at CF
        refine CF.mono ?_
        rintro _ w4 ⟨rfl, z4⟩
        have OQ4 := Lib.hid (OQ.out.below z4)
        have OR4 := Lib.hid (OR.out.below z4)
        have Z4 := Lib.hid (Z2.out.trans (z4.mono Z2.out.size))
        clear CF z4
        go_wp2_with fail
        have CF := fair_any Q c w4.heap.size (rds m q t) m q ((m : Int) + (q : Int)) w4 OQ4.out.pr (Nat.le_refl _) (by rw [LQ.out]; omega) I2.out
        rw [F2.out, LQ.out] at CF
        refine CF.mono ?_
        rintro _ w5 ⟨rfl, z5⟩
        have OR5 := Lib.hid (OR4.out.below z5)
        have Z5 := Lib.hid (Z4.out.trans (z5.mono Z4.out.size))
        clear CF z5
        go_wp2_with fail
        have CF := fair_any R d w5.heap.size (les m q t k) m q 1 w5 OR5.out.pr (Nat.le_refl _) (by rw [LR.out]; omega) (by unfold I; omega)
        rw [F3.out, LR.out] at CF
        refine CF.mono ?_
        rintro _ w6 ⟨rfl, z6⟩
        have Z6 := Lib.hid (Z5.out.trans (z6.mono Z5.out.size))
        clear CF z6
        go_wp2
        go_ret
        exact ⟨rfl, Z6.out⟩
theorem drawRounds_walk (nw ns n k : Int) (w : World) : Tells 5 #[.int .i64 nw, .int .i64 ns, .int .i64 n, .int .i64 k] w (.bool true) := by
  by_cases h0 : nw < 1
  · exact rounds_wlo nw ns n k w h0
  · skip
    by_cases h1 : 4 < nw
    · exact rounds_whi nw ns n k w h0 h1
    · skip
      by_cases h2 : ns < 0
      · exact rounds_slo nw ns n k w h0 h1 h2
      · skip
        by_cases h3 : 3 < ns
        · exact rounds_shi nw ns n k w h0 h1 h2 h3
        · skip
          by_cases h4 : n < 2
          · exact rounds_nlo nw ns n k w h0 h1 h2 h3 h4
          · skip
            by_cases h5 : 5 < n
            · exact rounds_nhi nw ns n k w h0 h1 h2 h3 h4 h5
            · skip
              by_cases h6 : k < 0
              · exact rounds_klo nw ns n k w h0 h1 h2 h3 h4 h5 h6
              · skip
                by_cases h7 : nw ≤ k
                · exact rounds_khi nw ns n k w h0 h1 h2 h3 h4 h5 h6 h7
                · skip
                  obtain ⟨m, rfl⟩ : ∃ m : Nat, nw = m := ⟨nw.toNat, by omega⟩
                  obtain ⟨q, rfl⟩ : ∃ q : Nat, ns = q := ⟨ns.toNat, by omega⟩
                  obtain ⟨t, rfl⟩ : ∃ t : Nat, n = t := ⟨n.toNat, by omega⟩
                  obtain ⟨r, rfl⟩ : ∃ r : Nat, k = r := ⟨k.toNat, by omega⟩
                  exact rounds_main m q t r w (by omega) (by omega) (by omega) (by omega) (by omega) (by omega)
end Go.Proofs.Ytnabomdadhgeeaa
