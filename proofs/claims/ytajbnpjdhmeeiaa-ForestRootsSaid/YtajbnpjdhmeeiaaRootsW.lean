/- The walk of ForestRoots. -/
import Derived.Test.YtajbnpjdhmeeiaaFoP
namespace Go.Proofs.Ytajbnpjdhmeeiaa
open Go.RowKit Go.Deep
/-- Each number is less than the next one. -/
def Rises (l : List Int) : Prop := ∀ (i : Nat) (y z : Int), l[i]? = some y → l[i + 1]? = some z → y < z
theorem rtN_mono (T : List Tsk) (n : Nat) : Rises (rtN T n) := by
  induction n with
  | zero => intro i y z h; simp [rtN] at h
  | succ n ih =>
    by_cases hp : pa T n = -1
    · rw [rtN_yes hp]
      intro i y z hy hz
      by_cases e : i + 1 < (rtN T n).length
      · rw [List.getElem?_append_left (by omega)] at hy
        rw [List.getElem?_append_left e] at hz
        exact ih i y z hy hz
      · have hz1 := (List.getElem?_eq_some_iff.1 hz).1
        simp only [List.length_append, List.length_cons, List.length_nil] at hz1
        rw [List.getElem?_append_left (by omega)] at hy
        rw [List.getElem?_append_right (by omega), show i + 1 - (rtN T n).length = 0 by omega] at hz
        have hzn : (n : Int) = z := by simpa using hz
        have := mem_rtN.1 (List.mem_of_getElem? hy)
        omega
    · rw [rtN_no hp]; exact ih
/-- How often k is among the kids of l. -/
def cn (l : List (Nat × Int)) (k : Int) : Nat := (l.map Prod.snd).count k
theorem cn_snoc (l : List (Nat × Int)) (p : Nat) (x k : Int) : cn (l ++ [(p, x)]) k = cn l k + if k = x then 1 else 0 := by
  unfold cn; rw [List.map_append, List.count_append, List.map_cons, List.map_nil, count_single]
theorem cn_le {n : Nat} {l : List (Nat × Int)} (h : okP n l) (k : Int) : cn l k ≤ 1 := by
  unfold cn
  rw [h.2.count]; split <;> omega
theorem cn_sp {T : List Tsk} (h : okP T.length (sp T)) (k : Int) : cn (sp T) k = if pa T k = -1 then 0 else 1 := by
  by_cases e : pa T k = -1
  · rw [if_pos e]
    refine List.count_eq_zero_of_not_mem fun hx => ?_
    obtain ⟨⟨p, x⟩, hp, rfl⟩ := List.mem_map.1 hx
    exact pa_root e p hp
  · rw [if_neg e]
    obtain ⟨p, _, hp⟩ := mem_of_pa e
    unfold cn
    rw [h.2.count, if_pos (List.mem_map.2 ⟨(p, k), hp, rfl⟩)]
theorem cn_pre {l m : List (Nat × Int)} (h : l <+: m) (k : Int) : cn l k ≤ cn m k := by
  obtain ⟨r, rfl⟩ := h
  unfold cn
  rw [List.map_append, List.count_append]; omega
theorem roots_few (A : Option Addr) (c : Nat) (T : List Tsk) (k : Int) (w : World) (ha : Came w A T.length T) (h : few T = false) : Tells 7 #[.slice A T.length c, .int .i64 k] w (.bool true) := by
  have HA := Lib.hid ha
  have H := Lib.hid h
  clear ha h
  go_enter Try.func7, Try.ntmps7
  go_wp2_with fail
  refine (awake_any _).mono ?_
  rintro _ w1 ⟨rfl, z1⟩
  have Z := Lib.hid z1
  clear z1
  go_wp2_with fail
  refine (Gives.of (few_any A c w.heap.size T w1 (HA.out.2.2.2.below Z.out) HA.out.2.1 HA.out.2.2.1) (v' := .bool false) (by rw [H.out])).mono ?_
  rintro _ _ ⟨rfl, rfl⟩
  go_wp2
  go_ret
  exact ⟨rfl, Z.out⟩
theorem roots_may (A : Option Addr) (c : Nat) (T : List Tsk) (k : Int) (w : World) (ha : Came w A T.length T) (h : few T = true) (hm : may T = false) : Tells 7 #[.slice A T.length c, .int .i64 k] w (.bool true) := by
  have HA := Lib.hid ha
  have H := Lib.hid h
  have HS := Lib.hid (few_sm h)
  have hs1 := (few_sm h).1
  have HM := Lib.hid hm
  clear ha h hm
  go_enter Try.func7, Try.ntmps7
  go_wp2_with fail
  refine (awake_any _).mono ?_
  rintro _ w1 ⟨rfl, z1⟩
  have Z := Lib.hid z1
  clear z1
  go_wp2_with fail
  refine (Gives.of (few_any A c w.heap.size T w1 (HA.out.2.2.2.below Z.out) HA.out.2.1 HA.out.2.2.1) (v' := .bool true) (by rw [H.out])).mono ?_
  rintro _ _ ⟨rfl, rfl⟩
  go_wp2_with fail
  refine (Tells.of (may_any A c w.heap.size T _ (HA.out.2.2.2.below Z.out) Z.out.size HS.out) (v' := .bool false) (by rw [HM.out])).mono ?_
  rintro _ w2 ⟨rfl, z2⟩
  replace Z := Lib.hid (Z.out.trans (z2.mono Z.out.size))
  clear z2
  go_wp2
  go_ret
  exact ⟨rfl, Z.out⟩
theorem roots_lo (A : Option Addr) (c : Nat) (T : List Tsk) (k : Int) (w : World) (ha : Came w A T.length T) (h : few T = true) (hm : may T = true) (hk : k < 0) : Tells 7 #[.slice A T.length c, .int .i64 k] w (.bool true) := by
  have PO := Lib.hid (pa_out (may_parts hm).2.2 (k := k) (by omega))
  have HA := Lib.hid ha
  have H := Lib.hid h
  have HS := Lib.hid (few_sm h)
  have hs1 := (few_sm h).1
  have HM := Lib.hid hm
  clear ha h hm
  go_enter Try.func7, Try.ntmps7
  go_wp2_with fail
  refine (awake_any _).mono ?_
  rintro _ w1 ⟨rfl, z1⟩
  have Z := Lib.hid z1
  clear z1
  go_wp2_with fail
  refine (Gives.of (few_any A c w.heap.size T w1 (HA.out.2.2.2.below Z.out) HA.out.2.1 HA.out.2.2.1) (v' := .bool true) (by rw [H.out])).mono ?_
  rintro _ _ ⟨rfl, rfl⟩
  go_wp2_with fail
  refine (Tells.of (may_any A c w.heap.size T _ (HA.out.2.2.2.below Z.out) Z.out.size HS.out) (v' := .bool true) (by rw [HM.out])).mono ?_
  rintro _ w2 ⟨rfl, z2⟩
  replace Z := Lib.hid (Z.out.trans (z2.mono Z.out.size))
  clear z2
  go_wp2_with fail
  refine (Tells.of (parent_any A c w.heap.size T k _ (HA.out.2.2.2.below Z.out) Z.out.size HS.out) (v' := .int .i64 (-1)) (by rw [par_yes HM.out, PO.out])).mono ?_
  rintro _ w3 ⟨rfl, z2⟩
  replace Z := Lib.hid (Z.out.trans (z2.mono Z.out.size))
  clear z2
  go_wp2
  go_ret
  exact ⟨rfl, Z.out⟩
theorem roots_hi (A : Option Addr) (c : Nat) (T : List Tsk) (k : Int) (w : World) (ha : Came w A T.length T) (h : few T = true) (hm : may T = true) (hk : (T.length : Int) ≤ k) : Tells 7 #[.slice A T.length c, .int .i64 k] w (.bool true) := by
  have PO := Lib.hid (pa_out (may_parts hm).2.2 (k := k) (by omega))
  have HA := Lib.hid ha
  have H := Lib.hid h
  have HS := Lib.hid (few_sm h)
  have hs1 := (few_sm h).1
  have HM := Lib.hid hm
  clear ha h hm
  have hk' : ¬ k < 0 := by omega
  go_enter Try.func7, Try.ntmps7
  go_wp2_with fail
  refine (awake_any _).mono ?_
  rintro _ w1 ⟨rfl, z1⟩
  have Z := Lib.hid z1
  clear z1
  go_wp2_with fail
  refine (Gives.of (few_any A c w.heap.size T w1 (HA.out.2.2.2.below Z.out) HA.out.2.1 HA.out.2.2.1) (v' := .bool true) (by rw [H.out])).mono ?_
  rintro _ _ ⟨rfl, rfl⟩
  go_wp2_with fail
  refine (Tells.of (may_any A c w.heap.size T _ (HA.out.2.2.2.below Z.out) Z.out.size HS.out) (v' := .bool true) (by rw [HM.out])).mono ?_
  rintro _ w2 ⟨rfl, z2⟩
  replace Z := Lib.hid (Z.out.trans (z2.mono Z.out.size))
  clear z2
  go_wp2_with fail
  refine (Tells.of (parent_any A c w.heap.size T k _ (HA.out.2.2.2.below Z.out) Z.out.size HS.out) (v' := .int .i64 (-1)) (by rw [par_yes HM.out, PO.out])).mono ?_
  rintro _ w3 ⟨rfl, z2⟩
  replace Z := Lib.hid (Z.out.trans (z2.mono Z.out.size))
  clear z2
  go_wp2
  go_ret
  exact ⟨rfl, Z.out⟩
set_option maxRecDepth 100000 in
set_option maxHeartbeats 4000000 in
theorem roots_all (A : Option Addr) (c : Nat) (T : List Tsk) (k : Nat) (w : World) (ha : Came w A T.length T) (h : few T = true) (hm : may T = true) (hk : k < T.length) : Tells 7 #[.slice A T.length c, .int .i64 k] w (.bool true) := by
  obtain ⟨hl30, hwk, hok⟩ := may_parts hm
  have HO := Lib.hid hok
  have hk0 : decide ((k : Int) < 0) = false := decide_eq_false (by omega)
  have hk1 : decide (T.length ≤ k) = false := decide_eq_false (by omega)
  have HMO := Lib.hid (rtN_mono T T.length)
  have HC := Lib.hid (cn_sp hok k)
  have hpg := pa_ge T k
  have hpl := pa_lt hok (k := k) (by omega)
  clear hok hwk
  have HA := Lib.hid ha
  have H := Lib.hid h
  have HS := Lib.hid (few_sm h)
  have hs1 := (few_sm h).1
  have HM := Lib.hid hm
  clear ha h hm
  go_enter Try.func7, Try.ntmps7
  go_wp2_with fail
  refine (awake_any _).mono ?_
  rintro _ w1 ⟨rfl, z1⟩
  have Z := Lib.hid z1
  clear z1
  go_wp2_with fail
  refine (Gives.of (few_any A c w.heap.size T w1 (HA.out.2.2.2.below Z.out) HA.out.2.1 HA.out.2.2.1) (v' := .bool true) (by rw [H.out])).mono ?_
  rintro _ _ ⟨rfl, rfl⟩
  go_wp2_with fail
  refine (Tells.of (may_any A c w.heap.size T _ (HA.out.2.2.2.below Z.out) Z.out.size HS.out) (v' := .bool true) (by rw [HM.out])).mono ?_
  rintro _ w2 ⟨rfl, z2⟩
  replace Z := Lib.hid (Z.out.trans (z2.mono Z.out.size))
  clear z2
  go_wp2_with fail
  refine (Tells.of (parent_any A c w.heap.size T k _ (HA.out.2.2.2.below Z.out) Z.out.size HS.out) (v' := .int .i64 (pa T k)) (by rw [par_yes HM.out])).mono ?_
  rintro _ w3 ⟨rfl, z2⟩
  replace Z := Lib.hid (Z.out.trans (z2.mono Z.out.size))
  clear z2
  go_wp2_with fail
  have C := roots_any A c w.heap.size T w3 (HA.out.2.2.2.below Z.out) Z.out.size HS.out
  unfold rts at C
  rw [if_pos HM.out] at C
  refine C.mono ?_
  rintro _ w4 ⟨R, e, rfl, hr, z2⟩
  replace Z := Lib.hid (Z.out.trans (z2.mono Z.out.size))
  have HR := Lib.hid hr
  have hrl := rtN_le T T.length
  have MEM := Lib.hid (show ((k : Int) ∈ rtN T T.length) ↔ pa T k = -1 from ⟨fun h => (mem_rtN.1 h).2.2, fun h => mem_rtN.2 ⟨by omega, by omega, h⟩⟩)
  clear z2 hr C
  generalize hU : rtN T T.length = U at *
  have HU := Lib.hid hU
  clear hU
  go_wp2_with fail
  go_loopw [9, 10] (fun a v wr => ∃ t q : Nat, t ≤ U.length ∧ v = .int .i64 t ∧ a = .bool (decide ((k : Int) ∈ U.take t)) ∧ wr = w4.drewN q) (fun _ v _ => U.length - (intOf v).toNat)
  case atStart => exact ⟨0, 0, Nat.zero_le _, rfl, by simp, rfl⟩
  case round =>
    obtain ⟨t, q, ht, rfl, rfl, rfl⟩ := hrel
    by_cases htm : t < U.length
    · obtain ⟨ub, uo, rfl, _, uc⟩ := HR.out.at htm
      have hts := List.take_succ_eq_append_getElem (l := U) (i := t) htm
      have HTS := Lib.hid hts
      have hord : t = 0 ∨ ∃ s y, t = s + 1 ∧ w4.cell? ⟨ub, uo + s, none⟩ = some (.int .i64 y) ∧ y < U[t] := by
        cases t with
        | zero => exact .inl rfl
        | succ s =>
          obtain ⟨ub', uo', e', _, uc'⟩ := HR.out.at (show s < U.length by omega)
          injection e' with e'
          injection e' with e1 e2
          subst e1 e2
          exact .inr ⟨s, _, rfl, uc', HMO.out s _ _ (List.getElem?_eq_getElem (by omega)) (List.getElem?_eq_getElem htm)⟩
      generalize hy : U[t] = y at *
      clear hy hts
      obtain ⟨v, E1, hcase⟩ : ∃ v : Bool, Hid (decide ((k : Int) ∈ U.take (t + 1)) = v) ∧ ((decide ((k : Int) ∈ U.take t) = true ∧ v = true) ∨ (decide ((k : Int) ∈ U.take t) = false ∧ ((y = (k : Int) ∧ v = true) ∨ ((y == (k : Int)) = false ∧ v = false)))) := by
        refine ⟨_, rfl, ?_⟩
        rw [HTS.out]
        by_cases hin : (k : Int) ∈ U.take t
        · exact .inl ⟨decide_eq_true hin, decide_eq_true (List.mem_append_left _ hin)⟩
        · refine .inr ⟨decide_eq_false hin, ?_⟩
          by_cases hyp : y = k
          · exact .inl ⟨hyp, decide_eq_true (List.mem_append_right _ (by simp [hyp]))⟩
          · exact .inr ⟨by simpa using hyp, decide_eq_false (fun h => by rcases List.mem_append.1 h with h | h; exact hin h; simp at h; exact hyp h.symm)⟩
      rcases hord with rfl | ⟨s, y', rfl, uc', hlt⟩
      · have uc0 : w4.cell? ⟨ub, uo, none⟩ = some (.int .i64 y) := uc
        rw [show ((0 : Nat) : Int) = 0 from rfl]
        clear uc
        rcases hcase with ⟨hd, rfl⟩ | ⟨hd, ⟨rfl, rfl⟩ | ⟨hyk, rfl⟩⟩
        all_goals
          rw [hd]
          clear hd
          go_wp2
          go_quiet (fail)
          go_wp2
          go_roundw
          case rel => exact ⟨0 + 1, _, by omega, rfl, by rw [E1.out], rfl⟩
          case measure => simp [intOf]; omega
      · have hs0 : (0 : Int) < ((s + 1 : Nat) : Int) := by omega
        have hs1' : IntKind.i64.wrap (((s + 1 : Nat) : Int) - 1) = (s : Int) := by rw [show (((s + 1 : Nat) : Int) - 1) = (s : Int) by omega]; exact IntWalk.i64_in _ (by omega)
        have hle : decide (y ≤ y') = false := decide_eq_false (by omega)
        rcases hcase with ⟨hd, rfl⟩ | ⟨hd, ⟨rfl, rfl⟩ | ⟨hyk, rfl⟩⟩
        all_goals
          rw [hd]
          clear hd
          go_wp2
          go_quiet (fail)
          go_wp2
          go_roundw
          case rel => exact ⟨s + 1 + 1, _, by omega, by go_num, by rw [E1.out], rfl⟩
          case measure => simp [intOf]; omega
    · obtain rfl : t = U.length := by omega
      have hin : decide ((k : Int) ∈ U.take U.length) = decide (pa T k = -1) := by rw [List.take_length]; exact decide_eq_decide.2 MEM.out
      rw [hin]
      have ZZ := Lib.hid (Z.out.trans ((below_drewN w4 q).mono Z.out.size))
      have HP := Lib.hid (fun (i : Nat) (hi : (i, (k : Int)) ∈ sp T) => pa_of_mem HO.out hi)
      have HCP := Lib.hid (fun (l : List (Nat × Int)) (hl : l <+: sp T) => Nat.le_trans (cn_pre hl k) (cn_le HO.out k))
      clear hin MEM HR HMO HU
      generalize pa T k = p at *
      obtain ⟨v, hv, hcase⟩ : ∃ v : Bool, decide (p = -1) = v ∧ ((v = true ∧ (p == -1) = true ∧ Hid (cn (sp T) k = 0)) ∨ (v = false ∧ (p == -1) = false ∧ Hid (cn (sp T) k = 1))) := by
        by_cases e : p = -1
        · exact ⟨true, decide_eq_true e, .inl ⟨rfl, by simpa using e, HC.out.trans (if_pos e)⟩⟩
        · exact ⟨false, decide_eq_false e, .inr ⟨rfl, by simpa using e, HC.out.trans (if_neg e)⟩⟩
      rw [hv]
      have HCASE := Lib.hid hcase
      clear hv hcase
      go_wp2_with fail
      go_loop [11, 12] (fun a b => ∃ i : Nat, i ≤ T.length ∧ b = .int .i64 i ∧ a = .int .i64 (cn (spN T i) k)) (fun _ b => T.length - (intOf b).toNat)
      case atStart => exact ⟨0, Nat.zero_le _, rfl, rfl⟩
      case round =>
        obtain ⟨i, hi, rfl, rfl⟩ := hrel
        by_cases hlt : i < T.length
        · obtain ⟨b, off, K, c', rfl, hal, c0, c1, hk'⟩ := (HA.out.2.2.2.below ZZ.out).at hlt
          have HK := Lib.hid hk'
          have hkl := HS.out.at hlt
          clear hk'
          go_wp2
          go_loop [11, 13] (fun a b => ∃ j : Nat, j ≤ T[i].2.length ∧ b = .int .i64 j ∧ a = .int .i64 (cn (spN T i ++ (T[i].2.take j).map fun k => (i, k)) k)) (fun _ b => T[i].2.length - (intOf b).toNat)
          case atStart => exact ⟨0, Nat.zero_le _, rfl, by simp⟩
          case round =>
            obtain ⟨j, hj, rfl, rfl⟩ := hrel
            by_cases hjl : j < T[i].2.length
            · obtain ⟨kb, ko, rfl, hkl', kc⟩ := HK.out.at hjl
              have hpre := sp_pre' T (j := j + 1) hlt
              have hsn := map_take_succ (i := i) hjl
              have hb := HCP.out _ hpre
              rw [hsn, ← List.append_assoc] at hpre hb
              generalize hx : T[i].2[j] = x at *
              rw [cn_snoc] at hb
              have CS := Lib.hid (cn_snoc (spN T i ++ (T[i].2.take j).map fun k => (i, k)) i x k)
              have HPR := Lib.hid hpre
              have HSN := Lib.hid hsn
              clear hx hpre hsn
              generalize cn (spN T i ++ (T[i].2.take j).map fun k => (i, k)) k = z at *
              by_cases h1 : x = k
              · subst h1
                rw [if_pos rfl] at hb
                have hb' : z ≤ 1000 := by omega
                clear hb
                have hip : ((i : Int) != p) = false := by
                  have := HP.out i (HPR.out.subset (by simp))
                  simp [this]
                go_wp2
                go_round
                case rel => exact ⟨j + 1, by omega, by go_num, by rw [HSN.out, ← List.append_assoc, CS.out, if_pos rfl]; go_num⟩
                case measure => simp [intOf]; omega
              · have h1' : (x == (k : Int)) = false := by simpa using h1
                have H1 := Lib.hid (fun h : (k : Int) = x => h1 h.symm)
                clear h1 hb
                go_wp2
                go_round
                case rel => exact ⟨j + 1, by omega, by go_num, by rw [HSN.out, ← List.append_assoc, CS.out, if_neg H1.out]; rfl⟩
                case measure => simp [intOf]; omega
            · go_wp2
              go_round
              case rel => exact ⟨i + 1, by omega, by go_num, by rw [List.take_of_length_le (by omega), spN, kids_eq hlt]⟩
              case measure => simp [intOf]; omega
        · obtain rfl : i = T.length := by omega
          rw [show spN T T.length = sp T from rfl]
          rcases HCASE.out with ⟨rfl, hp1, hc⟩ | ⟨rfl, hp1, hc⟩
          · rw [hc.out]
            clear HCASE hc
            go_wp2
            go_ret
            exact ⟨rfl, ZZ.out⟩
          · rw [hc.out]
            clear HCASE hc
            go_wp2
            go_ret
            exact ⟨rfl, ZZ.out⟩
theorem forestRoots_walk (A : Option Addr) (n c : Nat) (T : List Tsk) (k : Int) (w : World) (ha : Came w A n T) : Tells 7 #[.slice A n c, .int .i64 k] w (.bool true) := by
  obtain rfl := ha.1
  cases h : few T
  · exact roots_few A c T k w ha h
  · cases hm : may T
    · exact roots_may A c T k w ha h hm
    · by_cases h1 : k < 0
      · exact roots_lo A c T k w ha h hm h1
      · by_cases h2 : (T.length : Int) ≤ k
        · exact roots_hi A c T k w ha h hm h2
        · obtain ⟨q, rfl⟩ : ∃ q : Nat, k = q := ⟨k.toNat, by omega⟩
          exact roots_all A c T q w ha h hm (by omega)
end Go.Proofs.Ytajbnpjdhmeeiaa
