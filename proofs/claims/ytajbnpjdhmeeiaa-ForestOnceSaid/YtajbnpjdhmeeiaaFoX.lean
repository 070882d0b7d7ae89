/- Contracts of the document's own answers: Sums, Parent, Roots, Under, Same. -/
import Derived.Test.YtajbnpjdhmeeiaaFoW
namespace Go.Proofs.Ytajbnpjdhmeeiaa
open Go.RowKit Go.Deep

theorem rsums_no (A : Option Addr) (c n₀ : Nat) (T : List Tsk) (w : World) (hT : Tk n₀ w A T) (hn₀ : n₀ ≤ w.heap.size) (hs : Sm T) (hm : may T = false) : Tells 13 #[.slice A T.length c] w (.tuple #[.int .i64 0, .int .i64 0]) := by
  have HT := Lib.hid hT
  have HS := Lib.hid hs
  have HM := Lib.hid hm
  clear hT hs hm
  go_enter Try.func13, Try.ntmps13
  go_wp2_with fail
  refine (Tells.of (rmay_any A c n₀ T _ HT.out hn₀ HS.out) (v' := .bool false) (by rw [HM.out])).mono ?_
  rintro _ w1 ⟨rfl, z1⟩
  have Z := Lib.hid z1
  clear z1
  go_wp2
  go_ret2
  exact ⟨rfl, Z.out⟩
set_option maxHeartbeats 800000 in
theorem rsums_yes (A : Option Addr) (c n₀ : Nat) (T : List Tsk) (w : World) (hT : Tk n₀ w A T) (hn₀ : n₀ ≤ w.heap.size) (hs : Sm T) (hm : may T = true) : Tells 13 #[.slice A T.length c] w (.tuple #[.int .i64 T.length, .int .i64 (smN T T.length)]) := by
  have HT := Lib.hid hT
  have HS := Lib.hid hs
  have HM := Lib.hid hm
  have hs1 := hs.1
  obtain ⟨hl, hw, _⟩ := may_parts hm
  have HW := Lib.hid hw
  clear hT hs hm hw
  go_enter Try.func13, Try.ntmps13
  go_wp2_with fail
  refine (Tells.of (rmay_any A c n₀ T _ HT.out hn₀ HS.out) (v' := .bool true) (by rw [HM.out])).mono ?_
  rintro _ w1 ⟨rfl, z1⟩
  have Z := Lib.hid z1
  clear z1
  go_wp2_with fail
  go_loop [5, 6] (fun s i => ∃ j : Nat, j ≤ T.length ∧ i = .int .i64 j ∧ s = .int .i64 (smN T j)) (fun _ i => T.length - (intOf i).toNat)
  case atStart => exact ⟨0, Nat.zero_le _, rfl, rfl⟩
  case round =>
    obtain ⟨j, hj, rfl, rfl⟩ := hrel
    obtain ⟨m1, m2⟩ := smN_le HW.out hj
    by_cases hlt : j < T.length
    · obtain ⟨b, off, K, c', rfl, hal, c0, c1, _⟩ := (HT.out.below (Z.out.mono hn₀)).at hlt
      obtain ⟨n1, n2⟩ := wk_at HW.out hlt
      have HE := Lib.hid (smN_succ hlt)
      go_wp2
      go_round
      case rel => exact ⟨j + 1, by omega, by go_num, by rw [HE.out]⟩
      case measure => simp [intOf]; omega
    · go_wp2
      go_ret2
      obtain rfl : j = T.length := by omega
      exact ⟨rfl, Z.out⟩
theorem rsums_any (A : Option Addr) (c n₀ : Nat) (T : List Tsk) (w : World) (hT : Tk n₀ w A T) (hn₀ : n₀ ≤ w.heap.size) (hs : Sm T) : Tells 13 #[.slice A T.length c] w (.tuple #[.int .i64 (sms T).1, .int .i64 (sms T).2]) := by
  unfold sms
  cases h : may T
  · exact rsums_no A c n₀ T w hT hn₀ hs h
  · exact rsums_yes A c n₀ T w hT hn₀ hs h

theorem rpar_no (A : Option Addr) (c n₀ : Nat) (T : List Tsk) (k : Int) (w : World) (hT : Tk n₀ w A T) (hn₀ : n₀ ≤ w.heap.size) (hs : Sm T) (hm : may T = false) : Tells 24 #[.slice A T.length c, .int .i64 k] w (.int .i64 (-1)) := by
  have HT := Lib.hid hT
  have HS := Lib.hid hs
  have HM := Lib.hid hm
  have hs1 := hs.1
  clear hT hs hm
  by_cases h0 : 0 < T.length
  · go_enter Try.func24, Try.ntmps24
    go_wp2_with fail
    refine (Tells.of (rmay_any A c n₀ T _ HT.out hn₀ HS.out) (v' := .bool false) (by rw [HM.out])).mono ?_
    rintro _ w1 ⟨rfl, z1⟩
    have Z := Lib.hid z1
    clear z1
    go_wp2_with fail
    go_loop [6] (fun i => i = .int .i64 0) (fun _ => 0)
    case atStart => exact rfl
    case round =>
      subst hrel
      go_wp2
      go_ret
      exact ⟨rfl, Z.out⟩
  · go_enter Try.func24, Try.ntmps24
    go_wp2_with fail
    refine (Tells.of (rmay_any A c n₀ T _ HT.out hn₀ HS.out) (v' := .bool false) (by rw [HM.out])).mono ?_
    rintro _ w1 ⟨rfl, z1⟩
    have Z := Lib.hid z1
    clear z1
    go_wp2_with fail
    go_loop [6] (fun i => i = .int .i64 0) (fun _ => 0)
    case atStart => exact rfl
    case round =>
      subst hrel
      go_wp2
      go_ret
      exact ⟨rfl, Z.out⟩
set_option maxRecDepth 100000 in
set_option maxHeartbeats 2000000 in
theorem rpar_yes (A : Option Addr) (c n₀ : Nat) (T : List Tsk) (k : Int) (w : World) (hT : Tk n₀ w A T) (hn₀ : n₀ ≤ w.heap.size) (hs : Sm T) (hm : may T = true) : Tells 24 #[.slice A T.length c, .int .i64 k] w (.int .i64 (pa T k)) := by
  have HT := Lib.hid hT
  have HS := Lib.hid hs
  have HM := Lib.hid hm
  have hs1 := hs.1
  clear hT hs hm
  go_enter Try.func24, Try.ntmps24
  go_wp2_with fail
  refine (Tells.of (rmay_any A c n₀ T _ HT.out hn₀ HS.out) (v' := .bool true) (by rw [HM.out])).mono ?_
  rintro _ w1 ⟨rfl, z1⟩
  have Z := Lib.hid z1
  clear z1
  go_wp2_with fail
  go_loop [6] (fun v => ∃ i : Nat, i ≤ T.length ∧ v = .int .i64 i ∧ ∀ x ∈ spN T i, x.2 ≠ k) (fun v => T.length - (intOf v).toNat)
  case atStart => exact ⟨0, Nat.zero_le _, rfl, by simp [spN]⟩
  case round =>
    obtain ⟨i, hi, rfl, hne⟩ := hrel
    have HN := Lib.hid hne
    clear hne
    by_cases hlt : i < T.length
    · obtain ⟨b, off, K, c', rfl, hal, c0, c1, hk⟩ := (HT.out.below (Z.out.mono hn₀)).at hlt
      have HK := Lib.hid hk
      have hkl := HS.out.at hlt
      clear hk
      go_wp2
      go_loop [7] (fun v => ∃ j : Nat, j ≤ T[i].2.length ∧ v = .int .i64 j ∧ ∀ x ∈ spN T i ++ (T[i].2.take j).map (fun k => (i, k)), x.2 ≠ k) (fun v => T[i].2.length - (intOf v).toNat)
      case atStart => exact ⟨0, Nat.zero_le _, rfl, by simpa using HN.out⟩
      case round =>
        obtain ⟨j, hj, rfl, hne⟩ := hrel
        have HN2 := Lib.hid hne
        clear hne
        by_cases hjl : j < T[i].2.length
        · obtain ⟨kb, ko, rfl, hkl', kc⟩ := HK.out.at hjl
          have hpre := sp_pre' T (j := j + 1) hlt
          have hsn := map_take_succ (i := i) hjl
          rw [hsn, ← List.append_assoc] at hpre
          generalize hx : T[i].2[j] = x at *
          have HX := Lib.hid hx
          have HP := Lib.hid hpre
          have HSN := Lib.hid hsn
          clear hx hpre hsn
          by_cases h1 : x = k
          · subst h1
            have E := Lib.hid (pa_some HP.out HN2.out)
            go_wp2
            go_ret
            exact ⟨by rw [E.out]; rfl, Z.out⟩
          · have h1' : (x == k) = false := by simpa using h1
            have H1 := Lib.hid h1
            clear h1
            go_wp2
            go_round
            case rel => exact ⟨j + 1, by omega, by go_num, by
              rw [HSN.out, ← List.append_assoc]
              intro y hy
              rcases List.mem_append.1 hy with hy | hy
              · exact HN2.out y hy
              · have : y = (i, x) := by simpa using hy
                rw [this]; exact H1.out⟩
            case measure => simp [intOf]; omega
        · go_wp2
          go_round
          case rel => exact ⟨i + 1, by omega, by go_num, by
            have := HN2.out
            rw [List.take_of_length_le (by omega)] at this
            rw [spN, kids_eq hlt]; exact this⟩
          case measure => simp [intOf]; omega
    · obtain rfl : i = T.length := by omega
      have E := Lib.hid (pa_none HN.out)
      go_wp2
      go_ret
      exact ⟨by rw [E.out]; rfl, Z.out⟩
theorem rpar_any (A : Option Addr) (c n₀ : Nat) (T : List Tsk) (k : Int) (w : World) (hT : Tk n₀ w A T) (hn₀ : n₀ ≤ w.heap.size) (hs : Sm T) : Tells 24 #[.slice A T.length c, .int .i64 k] w (.int .i64 (par T k)) := by
  unfold par
  cases h : may T
  · exact rpar_no A c n₀ T k w hT hn₀ hs h
  · exact rpar_yes A c n₀ T k w hT hn₀ hs h
theorem rroots_no (A : Option Addr) (c n₀ : Nat) (T : List Tsk) (w : World) (hT : Tk n₀ w A T) (hn₀ : n₀ ≤ w.heap.size) (hs : Sm T) (hm : may T = false) : Calls Try.prog 18 #[.slice A T.length c] w (RetL w []) := by
  have HT := Lib.hid hT
  have HS := Lib.hid hs
  have HM := Lib.hid hm
  have hs1 := hs.1
  clear hT hs hm
  by_cases h0 : 0 < T.length
  · go_enter Try.func18, Try.ntmps18
    go_wp2_with fail
    refine (Tells.of (rmay_any A c n₀ T _ HT.out hn₀ HS.out) (v' := .bool false) (by rw [HM.out])).mono ?_
    rintro _ w1 ⟨rfl, z1⟩
    have Z := Lib.hid z1
    clear z1
    go_wp2_with fail
    go_loop [4, 5] (fun s i => s = .slice none 0 0 ∧ i = .int .i64 0) (fun _ _ => 0)
    case atStart => exact ⟨rfl, rfl⟩
    case round =>
      obtain ⟨rfl, rfl⟩ := hrel
      go_wp2
      go_ret
      exact ⟨none, 0, rfl, fun h => by simp at h, Z.out⟩
  · go_enter Try.func18, Try.ntmps18
    go_wp2_with fail
    refine (Tells.of (rmay_any A c n₀ T _ HT.out hn₀ HS.out) (v' := .bool false) (by rw [HM.out])).mono ?_
    rintro _ w1 ⟨rfl, z1⟩
    have Z := Lib.hid z1
    clear z1
    go_wp2_with fail
    go_loop [4, 5] (fun s i => s = .slice none 0 0 ∧ i = .int .i64 0) (fun _ _ => 0)
    case atStart => exact ⟨rfl, rfl⟩
    case round =>
      obtain ⟨rfl, rfl⟩ := hrel
      go_wp2
      go_ret
      exact ⟨none, 0, rfl, fun h => by simp at h, Z.out⟩
set_option maxHeartbeats 800000 in
theorem rroots_yes (A : Option Addr) (c n₀ : Nat) (T : List Tsk) (w : World) (hT : Tk n₀ w A T) (hn₀ : n₀ ≤ w.heap.size) (hs : Sm T) (hm : may T = true) : Calls Try.prog 18 #[.slice A T.length c] w (RetL w (rtN T T.length)) := by
  have HT := Lib.hid hT
  have HS := Lib.hid hs
  have HM := Lib.hid hm
  have hs1 := hs.1
  clear hT hs hm
  go_enter Try.func18, Try.ntmps18
  go_wp2_with fail
  refine (Tells.of (rmay_any A c n₀ T _ HT.out hn₀ HS.out) (v' := .bool true) (by rw [HM.out])).mono ?_
  rintro _ w1 ⟨rfl, z1⟩
  have Z := Lib.hid z1
  clear z1
  go_wp2_with fail
  go_loopw [4, 5] (fun s i wr => ∃ (j : Nat) (R : Option Addr) (d : Nat), j ≤ T.length ∧ i = .int .i64 j ∧ s = .slice R (rtN T j).length d ∧ Own wr w.heap.size R (rtN T j).length d (rtN T j) ∧ Below w.heap.size w wr) (fun _ i _ => T.length - (intOf i).toNat)
  case atStart => exact ⟨0, none, 0, Nat.zero_le _, rfl, rfl, World.ownsRow_nil _ _ _ _, Z.out⟩
  case round =>
    obtain ⟨j, R, d, hj, rfl, rfl, hO, hB⟩ := hrel
    have HO := Lib.hid hO
    have HB := Lib.hid hB
    have hl := rtN_le T j
    clear hO hB
    by_cases hlt : j < T.length
    · by_cases hp : pa T j = -1
      · have HP := Lib.hid hp
        clear hp
        go_wp2_with fail
        refine (Tells.of (rpar_any A c n₀ T j _ (HT.out.below (HB.out.mono hn₀)) (Nat.le_trans hn₀ HB.out.size) HS.out) (v' := .int .i64 (-1)) (by rw [par_yes HM.out, HP.out])).mono ?_
        rintro _ w2 ⟨rfl, z2⟩
        have z3 := HB.out.trans (z2.mono HB.out.size)
        have o2 := (HO.out.below z2).alloc (.cells #[.int .i64 (j : Int)] 3)
        obtain ⟨R', d', w3, hrun, hown, hb⟩ := run_app (m := 1) o2 1 (new_rd w2 j) rfl (by omega) (by have := z3.size; simp; omega)
        have RUN := Lib.hid hrun
        have OWN := Lib.hid hown
        have B3 := Lib.hid ((z3.alloc z3.size _).trans hb)
        clear z2 z3 o2 hrun hown hb
        go_wp2_with (at_builtin; (with_reducible refine wpList_append_run RUN.out ?_ ?_ ?_ ?_); exact ⟨_, _, rfl, rfl, rfl⟩; rfl; rfl)
        have e : (rtN T (j + 1)).length = (rtN T j).length + 1 := by rw [rtN_yes HP.out]; simp
        have HE := Lib.hid e
        clear e
        go_roundw
        case rel => exact ⟨j + 1, R', d', by omega, by go_num, by rw [HE.out], by rw [HE.out, rtN_yes HP.out]; exact OWN.out, B3.out⟩
        case measure => simp [intOf]; omega
      · have hg := pa_ge T j
        have hp' : ¬ pa T j < 0 := by omega
        have HP := Lib.hid hp
        clear hp
        go_wp2_with fail
        refine (Tells.of (rpar_any A c n₀ T j _ (HT.out.below (HB.out.mono hn₀)) (Nat.le_trans hn₀ HB.out.size) HS.out) (v' := .int .i64 (pa T j)) (by rw [par_yes HM.out])).mono ?_
        rintro _ w2 ⟨rfl, z2⟩
        have Z3 := Lib.hid (HB.out.trans (z2.mono HB.out.size))
        have O2 := Lib.hid (HO.out.below z2)
        clear z2
        go_wp2
        go_roundw
        case rel => exact ⟨j + 1, R, d, by omega, by go_num, by rw [rtN_no HP.out], by rw [rtN_no HP.out]; exact O2.out, Z3.out⟩
        case measure => simp [intOf]; omega
    · go_wp2
      go_ret
      obtain rfl : j = T.length := by omega
      exact ⟨R, d, rfl, HO.out.rd.rdB, HB.out⟩
theorem rroots_any (A : Option Addr) (c n₀ : Nat) (T : List Tsk) (w : World) (hT : Tk n₀ w A T) (hn₀ : n₀ ≤ w.heap.size) (hs : Sm T) : Calls Try.prog 18 #[.slice A T.length c] w (RetL w (rts T)) := by
  unfold rts
  cases h : may T
  · exact rroots_no A c n₀ T w hT hn₀ hs h
  · exact rroots_yes A c n₀ T w hT hn₀ hs h
end Go.Proofs.Ytajbnpjdhmeeiaa
