/- The walk of ForestUnder. -/
import Derived.Test.YtajbnpjdhmeeiaaFoP
namespace Go.Proofs.Ytajbnpjdhmeeiaa
open Go.RowKit Go.Deep
/-- Each but the first has its parent ahead of it. -/
def PF (T : List Tsk) (l : List Int) : Prop := ∀ i, 1 ≤ i → (h : i < l.length) → pa T l[i] ∈ l.take i
theorem PF_append {T : List Tsk} {l k : List Int} (h1 : PF T l) (h2 : PF T k) (h3 : ∀ x, k[0]? = some x → pa T x ∈ l) : PF T (l ++ k) := by
  intro i hi h
  by_cases e : i < l.length
  · rw [List.getElem_append_left e, List.take_append_of_le_length (by omega)]
    exact h1 i hi e
  · have hik : i - l.length < k.length := by simp at h; omega
    rw [List.getElem_append_right (by omega), List.take_append, List.take_of_length_le (by omega : l.length ≤ i)]
    by_cases e0 : i - l.length = 0
    · refine List.mem_append_left _ (h3 _ ?_)
      rw [List.getElem?_eq_getElem (by omega)]
      simp [e0]
    · exact List.mem_append_right _ (h2 (i - l.length) (by omega) hik)
theorem PF_U1 {T : List Tsk} (h : okP T.length (sp T)) (m : Nat) : ∀ r, r < T.length → T.length - r ≤ m → PF T (U1 T r) := by
  induction m with
  | zero => intro r h1 h2; omega
  | succ m ih =>
    intro r h1 h2
    rw [U1_eq h h1]
    have key : ∀ n, n ≤ (kids T r).length → PF T ((r : Int) :: ((kids T r).take n).flatMap fun k => U1 T k.toNat) := by
      intro n
      induction n with
      | zero => intro _ i hi hl; simp at hl; omega
      | succ n ihK =>
        intro hn
        have hd := List.getElem_mem (show n < (kids T r).length from hn)
        have hk := kid_in h h1 hd
        rw [flat_succ (show n < (kids T r).length from hn), ← List.cons_append]
        refine PF_append (ihK (by omega)) (ih _ (by omega) (by omega)) (fun x hx => ?_)
        rw [U1_eq h (by omega)] at hx
        simp at hx
        have hxd : x = (kids T r)[n] := by omega
        rw [hxd, pa_of_mem h (mem_sp.2 ⟨h1, hd⟩)]
        simp
    have := key _ (Nat.le_refl _)
    rwa [List.take_length] at this
theorem under_few (A : Option Addr) (c : Nat) (T : List Tsk) (r i : Int) (w : World) (ha : Came w A T.length T) (h : few T = false) : Tells 5 #[.slice A T.length c, .int .i64 r, .int .i64 i] w (.bool true) := by
  have HA := Lib.hid ha
  have H := Lib.hid h
  clear ha h
  go_enter Try.func5, Try.ntmps5
  go_wp2_with fail
  refine (awake_any _).mono ?_
  rintro _ w1 ⟨rfl, z1⟩
  have Z := Lib.hid z1
  clear z1
  go_wp2_with fail
  refine (Gives.of (few_any A c w.heap.size T w1 (HA.out.2.2.2.below Z.out) HA.out.2.1 HA.out.2.2.1) (v' := .bool false) (by rw [H.out])).mono ?_
  rintro _ _ ⟨rfl, rfl⟩
  go_wp2
  go_ret
  exact ⟨rfl, Z.out⟩
theorem under_may (A : Option Addr) (c : Nat) (T : List Tsk) (r i : Int) (w : World) (ha : Came w A T.length T) (h : few T = true) (hm : may T = false) : Tells 5 #[.slice A T.length c, .int .i64 r, .int .i64 i] w (.bool true) := by
  have HA := Lib.hid ha
  have H := Lib.hid h
  have HS := Lib.hid (few_sm h)
  have hs1 := (few_sm h).1
  have HM := Lib.hid hm
  clear ha h hm
  go_enter Try.func5, Try.ntmps5
  go_wp2_with fail
  refine (awake_any _).mono ?_
  rintro _ w1 ⟨rfl, z1⟩
  have Z := Lib.hid z1
  clear z1
  go_wp2_with fail
  refine (Gives.of (few_any A c w.heap.size T w1 (HA.out.2.2.2.below Z.out) HA.out.2.1 HA.out.2.2.1) (v' := .bool true) (by rw [H.out])).mono ?_
  rintro _ _ ⟨rfl, rfl⟩
  go_wp2_with fail
  refine (Tells.of (may_any A c w.heap.size T _ (HA.out.2.2.2.below Z.out) Z.out.size HS.out) (v' := .bool false) (by rw [HM.out])).mono ?_
  rintro _ w2 ⟨rfl, z2⟩
  replace Z := Lib.hid (Z.out.trans (z2.mono Z.out.size))
  clear z2
  go_wp2
  go_ret
  exact ⟨rfl, Z.out⟩
theorem under_lo (A : Option Addr) (c : Nat) (T : List Tsk) (r i : Int) (w : World) (ha : Came w A T.length T) (h : few T = true) (hm : may T = true) (hr : r < 0) : Tells 5 #[.slice A T.length c, .int .i64 r, .int .i64 i] w (.bool true) := by
  have HA := Lib.hid ha
  have H := Lib.hid h
  have HS := Lib.hid (few_sm h)
  have hs1 := (few_sm h).1
  have HM := Lib.hid hm
  clear ha h hm
  go_enter Try.func5, Try.ntmps5
  go_wp2_with fail
  refine (awake_any _).mono ?_
  rintro _ w1 ⟨rfl, z1⟩
  have Z := Lib.hid z1
  clear z1
  go_wp2_with fail
  refine (Gives.of (few_any A c w.heap.size T w1 (HA.out.2.2.2.below Z.out) HA.out.2.1 HA.out.2.2.1) (v' := .bool true) (by rw [H.out])).mono ?_
  rintro _ _ ⟨rfl, rfl⟩
  go_wp2_with fail
  refine (Tells.of (may_any A c w.heap.size T _ (HA.out.2.2.2.below Z.out) Z.out.size HS.out) (v' := .bool true) (by rw [HM.out])).mono ?_
  rintro _ w2 ⟨rfl, z2⟩
  replace Z := Lib.hid (Z.out.trans (z2.mono Z.out.size))
  clear z2
  go_wp2
  go_ret
  exact ⟨rfl, Z.out⟩
theorem under_hi (A : Option Addr) (c : Nat) (T : List Tsk) (r i : Int) (w : World) (ha : Came w A T.length T) (h : few T = true) (hm : may T = true) (hr : (T.length : Int) ≤ r) : Tells 5 #[.slice A T.length c, .int .i64 r, .int .i64 i] w (.bool true) := by
  have HA := Lib.hid ha
  have H := Lib.hid h
  have HS := Lib.hid (few_sm h)
  have hs1 := (few_sm h).1
  have HM := Lib.hid hm
  clear ha h hm
  have hr' : ¬ r < 0 := by omega
  go_enter Try.func5, Try.ntmps5
  go_wp2_with fail
  refine (awake_any _).mono ?_
  rintro _ w1 ⟨rfl, z1⟩
  have Z := Lib.hid z1
  clear z1
  go_wp2_with fail
  refine (Gives.of (few_any A c w.heap.size T w1 (HA.out.2.2.2.below Z.out) HA.out.2.1 HA.out.2.2.1) (v' := .bool true) (by rw [H.out])).mono ?_
  rintro _ _ ⟨rfl, rfl⟩
  go_wp2_with fail
  refine (Tells.of (may_any A c w.heap.size T _ (HA.out.2.2.2.below Z.out) Z.out.size HS.out) (v' := .bool true) (by rw [HM.out])).mono ?_
  rintro _ w2 ⟨rfl, z2⟩
  replace Z := Lib.hid (Z.out.trans (z2.mono Z.out.size))
  clear z2
  go_wp2
  go_ret
  exact ⟨rfl, Z.out⟩
set_option maxRecDepth 100000 in
set_option maxHeartbeats 4000000 in
theorem under_all (A : Option Addr) (c : Nat) (T : List Tsk) (r : Nat) (i : Int) (w : World) (ha : Came w A T.length T) (h : few T = true) (hm : may T = true) (hr : r < T.length) : Tells 5 #[.slice A T.length c, .int .i64 r, .int .i64 i] w (.bool true) := by
  obtain ⟨hl30, hwk, hok⟩ := may_parts hm
  have HO := Lib.hid hok
  have HL := Lib.hid (U1_len hok hr)
  have HF := Lib.hid (PF_U1 hok _ r hr (Nat.le_refl _))
  have HE := Lib.hid (show (r : Int) :: T[r].2.flatMap (fun k => U1 T k.toNat) = U1 T r by rw [U1_eq hok hr, kids_eq hr])
  have hk0 : decide ((r : Int) < 0) = false := decide_eq_false (by omega)
  have hk1 : decide (T.length ≤ r) = false := decide_eq_false (by omega)
  have hkl := (few_sm h).at hr
  clear hok hwk
  have HA := Lib.hid ha
  have H := Lib.hid h
  have HS := Lib.hid (few_sm h)
  have hs1 := (few_sm h).1
  have HM := Lib.hid hm
  clear ha h hm
  go_enter Try.func5, Try.ntmps5
  go_wp2_with fail
  refine (awake_any _).mono ?_
  rintro _ w1 ⟨rfl, z1⟩
  have Z := Lib.hid z1
  clear z1
  go_wp2_with fail
  refine (Gives.of (few_any A c w.heap.size T w1 (HA.out.2.2.2.below Z.out) HA.out.2.1 HA.out.2.2.1) (v' := .bool true) (by rw [H.out])).mono ?_
  rintro _ _ ⟨rfl, rfl⟩
  go_wp2_with fail
  refine (Tells.of (may_any A c w.heap.size T _ (HA.out.2.2.2.below Z.out) Z.out.size HS.out) (v' := .bool true) (by rw [HM.out])).mono ?_
  rintro _ w2 ⟨rfl, z2⟩
  replace Z := Lib.hid (Z.out.trans (z2.mono Z.out.size))
  clear z2
  go_wp2_with fail
  have C := under_any A c w.heap.size T r w2 (HA.out.2.2.2.below Z.out) Z.out.size HS.out
  rw [und_yes HM.out hr] at C
  refine C.mono ?_
  rintro _ w3 ⟨R, e, rfl, hr3, z3⟩
  replace Z := Lib.hid (Z.out.trans (z3.mono Z.out.size))
  have HR := Lib.hid hr3
  clear z3 hr3 C
  obtain ⟨W1, d1, w4, hrun, hown, hb4⟩ := run_app (m := 1) (show Own (w3.alloc (.cells #[.int .i64 (r : Int)] 3)) w3.heap.size none 0 0 [] from World.ownsRow_nil _ _ _ _) 1 (new_rd w3 r) rfl (by omega) (by simp)
  have hb5 := ((Below.refl w3.heap.size w3).alloc (Nat.le_refl _) (.cells #[.int .i64 (r : Int)] 3)).trans hb4
  simp only [Nat.zero_add, List.nil_append] at hrun hown
  have RUN := Lib.hid hrun
  have OWN := Lib.hid hown
  have HB := Lib.hid hb5
  clear hrun hown hb4 hb5
  go_wp2_with (at_builtin; (with_reducible refine wpList_append_run RUN.out ?_ ?_ ?_ ?_); exact ⟨_, _, rfl, rfl, rfl⟩; rfl; rfl)
  go_loopw [10, 11] (fun s v wr => ∃ (j : Nat) (Q : Option Addr) (d : Nat), j ≤ T[r].2.length ∧ v = .int .i64 j ∧ s = .slice Q ((r : Int) :: (T[r].2.take j).flatMap fun k => U1 T k.toNat).length d ∧ Own wr w3.heap.size Q ((r : Int) :: (T[r].2.take j).flatMap fun k => U1 T k.toNat).length d ((r : Int) :: (T[r].2.take j).flatMap fun k => U1 T k.toNat) ∧ Below w3.heap.size w3 wr) (fun _ v _ => T[r].2.length - (intOf v).toNat)
  case atStart => exact ⟨0, W1, d1, Nat.zero_le _, rfl, rfl, OWN.out, HB.out⟩
  case round =>
    obtain ⟨j, Q, d, hj, rfl, rfl, hO, hB⟩ := hrel
    have HOw := Lib.hid hO
    have HB2 := Lib.hid hB
    have ZZ := Lib.hid (Z.out.trans (hB.mono Z.out.size))
    clear hO hB HB OWN RUN
    obtain ⟨b, off, K, c', rfl, hal, c0, c1, hk⟩ := (HA.out.2.2.2.below ZZ.out).at hr
    by_cases hlj : j < T[r].2.length
    · obtain ⟨kb, ko, rfl, hkl', kc⟩ := hk.at hlj
      obtain ⟨hd1, hd2⟩ := kid_ok HO.out hr hlj
      obtain ⟨q, hq⟩ : ∃ q : Nat, T[r].2[j] = (q : Int) := ⟨T[r].2[j].toNat, by omega⟩
      have hlen := flat_le (g := fun k => U1 T k.toNat) hlj
      have hsu := flat_succ (g := fun k => U1 T k.toNat) hlj
      rw [hq] at kc hd1 hd2 hlen hsu
      rw [Int.toNat_natCast] at hlen hsu
      have HLe := Lib.hid hlen
      have HSU := Lib.hid hsu
      clear hq hlen hsu hk
      generalize hP : ((r : Int) :: (T[r].2.take j).flatMap fun k => U1 T k.toNat) = P at *
      have HP := Lib.hid hP
      clear hP
      go_wp2_with fail
      have C := under_any (some ⟨b, off, none⟩) c w.heap.size T q _ (HA.out.2.2.2.below ZZ.out) ZZ.out.size HS.out
      rw [und_yes HM.out (show q < T.length by omega)] at C
      refine C.mono ?_
      rintro _ w5 ⟨R2, d2, rfl, hr2, z2⟩
      have z3 := HB2.out.trans (z2.mono HB2.out.size)
      have hbd : P.length + (U1 T q).length ≤ 1000000 := by
        have h1 := HLe.out
        have h2 := HL.out
        have h3 := congrArg List.length HP.out
        rw [← HE.out] at h2
        simp only [List.length_cons] at h2 h3
        omega
      obtain ⟨R', d', w6, hrun, hown, hb⟩ := run_app (HOw.out.below z2) d2 (hr2.rd (Nat.le_refl _)) rfl hbd z3.size
      have RUN := Lib.hid hrun
      have OWN := Lib.hid hown
      have B3 := Lib.hid (z3.trans hb)
      clear z2 z3 hrun hown hb hr2 hbd C
      go_wp2_with (at_builtin; (with_reducible refine wpList_append_run RUN.out ?_ ?_ ?_ ?_); exact ⟨_, _, rfl, rfl, rfl⟩; rfl; rfl)
      have e : (r : Int) :: (T[r].2.take (j + 1)).flatMap (fun k => U1 T k.toNat) = P ++ U1 T q := by
        rw [HSU.out, ← List.cons_append, HP.out]
      have HEE := Lib.hid e
      clear e
      go_roundw
      case rel => exact ⟨j + 1, R', d', by omega, by go_num, by rw [HEE.out, List.length_append], by rw [HEE.out, List.length_append]; exact OWN.out, B3.out⟩
      case measure => simp [intOf]; omega
    · obtain rfl : j = T[r].2.length := by omega
      have h1 := HOw.out
      rw [List.take_length, HE.out] at h1
      rw [List.take_length, HE.out]
      have HQ := Lib.hid h1.rd.rdB
      have HR2 := Lib.hid ((HR.out.below HB2.out).mono HB2.out.size)
      have hl2 := HL.out
      clear h1 HOw hk
      generalize hU : U1 T r = U at *
      have HU := Lib.hid hU
      clear hU
      go_wp2_with fail
      refine (Tells.of (ints_any R Q e d _ U U _ HR2.out HQ.out (by omega)) (v' := .bool true) (by rw [decide_eq_true rfl])).mono ?_
      rintro _ w7 ⟨rfl, z7⟩
      replace ZZ := Lib.hid (ZZ.out.trans (z7.mono ZZ.out.size))
      replace HR2 := Lib.hid ((HR2.out.below z7).mono z7.size)
      clear z7 HQ c0 c1
      by_cases hi1 : i < 1
      · go_wp2
        go_ret
        exact ⟨rfl, ZZ.out⟩
      · by_cases hi2 : (U.length : Int) ≤ i
        · go_wp2
          go_ret
          exact ⟨rfl, ZZ.out⟩
        · obtain ⟨m, rfl⟩ : ∃ m : Nat, i = m := ⟨i.toNat, by omega⟩
          have hml : m < U.length := by omega
          have hi2' : ¬ U.length ≤ m := by omega
          obtain ⟨ub, uo, rfl, hub, uc⟩ := HR2.out.at hml
          have hpf := HF.out m (by omega) hml
          generalize hx : U[m] = x at *
          have PFm := Lib.hid hpf
          clear hpf hx
          go_wp2_with fail
          refine (Tells.of (parent_any (some ⟨b, off, none⟩) c w.heap.size T x _ (HA.out.2.2.2.below ZZ.out) ZZ.out.size HS.out) (v' := .int .i64 (pa T x)) (by rw [par_yes HM.out])).mono ?_
          rintro _ w8 ⟨rfl, z8⟩
          replace ZZ := Lib.hid (ZZ.out.trans (z8.mono ZZ.out.size))
          replace HR2 := Lib.hid ((HR2.out.below z8).mono z8.size)
          clear z8 uc
          generalize hp : pa T x = p at *
          clear hp
          go_wp2_with fail
          go_loop [14, 15] (fun a v => ∃ t : Nat, t ≤ m ∧ v = .int .i64 t ∧ a = .bool (decide (p ∈ U.take t))) (fun _ v => m - (intOf v).toNat)
          case atStart => exact ⟨0, Nat.zero_le _, rfl, by simp⟩
          case round =>
            obtain ⟨t, ht, rfl, rfl⟩ := hrel
            by_cases htm : t < m
            · obtain ⟨ub', uo', e', _, uc⟩ := HR2.out.at (show t < U.length by omega)
              injection e' with e'
              injection e' with e1 e2
              subst e1 e2
              have hts := List.take_succ_eq_append_getElem (l := U) (i := t) (by omega)
              have HTS := Lib.hid hts
              generalize hy : U[t] = y at *
              clear hy hts
              by_cases hin : p ∈ U.take t
              · have E1 := Lib.hid (show decide (p ∈ U.take (t + 1)) = true by rw [HTS.out]; exact decide_eq_true (List.mem_append_left _ hin))
                rw [decide_eq_true hin]
                clear hin
                go_wp2
                go_round
                case rel => exact ⟨t + 1, by omega, by go_num, by rw [E1.out]⟩
                case measure => simp [intOf]; omega
              · by_cases hyp : y = p
                · have E1 := Lib.hid (show decide (p ∈ U.take (t + 1)) = true by rw [HTS.out]; exact decide_eq_true (List.mem_append_right _ (by simp [hyp])))
                  rw [decide_eq_false hin]
                  subst hyp
                  clear hin
                  go_wp2
                  go_round
                  case rel => exact ⟨t + 1, by omega, by go_num, by rw [E1.out]⟩
                  case measure => simp [intOf]; omega
                · have E1 := Lib.hid (show decide (p ∈ U.take (t + 1)) = false by rw [HTS.out]; exact decide_eq_false (fun h => by rcases List.mem_append.1 h with h | h; exact hin h; simp at h; exact hyp h.symm))
                  rw [decide_eq_false hin]
                  have hyp' : (y == p) = false := by simpa using hyp
                  clear hin hyp
                  go_wp2
                  go_round
                  case rel => exact ⟨t + 1, by omega, by go_num, by rw [E1.out]⟩
                  case measure => simp [intOf]; omega
            · obtain rfl : t = m := by omega
              rw [decide_eq_true PFm.out]
              go_wp2
              go_ret
              exact ⟨rfl, ZZ.out⟩
theorem forestUnder_walk (A : Option Addr) (n c : Nat) (T : List Tsk) (r i : Int) (w : World) (ha : Came w A n T) : Tells 5 #[.slice A n c, .int .i64 r, .int .i64 i] w (.bool true) := by
  obtain rfl := ha.1
  cases h : few T
  · exact under_few A c T r i w ha h
  · cases hm : may T
    · exact under_may A c T r i w ha h hm
    · by_cases h1 : r < 0
      · exact under_lo A c T r i w ha h hm h1
      · by_cases h2 : (T.length : Int) ≤ r
        · exact under_hi A c T r i w ha h hm h2
        · obtain ⟨q, rfl⟩ : ∃ q : Nat, r = q := ⟨r.toNat, by omega⟩
          exact under_all A c T q i w ha h hm (by omega)
end Go.Proofs.Ytajbnpjdhmeeiaa
