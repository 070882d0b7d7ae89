/- Contracts of the document's own answers: May, Sums, Parent, Roots. -/
import Derived.Test.YtobcedlkmnmikaaFoD
namespace Go.Proofs.Ytobcedlkmnmikaa.Fo
open Go.RowKit Go.Deep
theorem may_len {T : List Tsk} (h : 30 < T.length) : may T = false := by
  unfold may; rw [decide_eq_false (by omega)]; rfl
theorem may_wk {T : List Tsk} {j : Nat} (h : j < T.length) (hx : ¬ (0 ≤ T[j].1 ∧ T[j].1 ≤ 20)) : may T = false := by
  unfold may; rw [wk_no h hx]; simp
theorem may_kd {T : List Tsk} {l : List (Nat × Int)} (h : l <+: sp T) (hx : ¬ okP T.length l) : may T = false := by
  unfold may kd; rw [decide_eq_false (fun hk => hx (okP_pre h hk))]; simp
theorem may_yes {T : List Tsk} (h1 : T.length ≤ 30) (h2 : wk T = true) (h3 : okP T.length (sp T)) : may T = true := by
  unfold may kd; rw [decide_eq_true h1, h2, decide_eq_true h3]; rfl
set_option maxRecDepth 100000 in
set_option maxHeartbeats 2000000 in
theorem rmay_yes (A : Option Addr) (c n₀ : Nat) (T : List Tsk) (w : World) (hT : Tk n₀ w A T) (hn₀ : n₀ ≤ w.heap.size) (hs : Sm T) (h30 : T.length ≤ 30) : Tells 29 #[.slice A T.length c] w (.bool (may T)) := by
  have HT := Lib.hid hT
  have HS := Lib.hid hs
  have hmk := make_flags T.length hs.1
  have b0 : Fl (w.alloc (.cells (flags T.length []) 4)) w.heap.size T.length [] := World.alloc_heap_new w _
  have F0 := Lib.hid b0
  clear hT hs b0
  go_enter Try.func29, Try.ntmps29
  go_wp2
  clear hmk
  go_loopw [4] (fun v wr => ∃ i : Nat, v = .int .i64 i ∧ i ≤ T.length ∧ okP T.length (spN T i) ∧ wk (T.take i) = true ∧ Fl wr w.heap.size T.length ((spN T i).map Prod.snd) ∧ Below w.heap.size w wr) (fun v _ => T.length - (intOf v).toNat)
  case atStart => exact ⟨0, rfl, by omega, okP_nil _, by simp [wk], F0.out, (Below.refl _ _).alloc (Nat.le_refl _) _⟩
  case round =>
    obtain ⟨i, rfl, hi, hok, hw, hf, hb⟩ := hrel
    have HO := Lib.hid hok
    have HW := Lib.hid hw
    have HF := Lib.hid hf
    have HB := Lib.hid hb
    clear hok hw hf hb F0
    by_cases hlt : i < T.length
    · obtain ⟨b, off, K, c', rfl, hal, c0, c1, hk⟩ := (HT.out.below (HB.out.mono hn₀)).at hlt
      have HK := Lib.hid hk
      have hkl := HS.out.at hlt
      clear hk
      by_cases hx : 0 ≤ T[i].1 ∧ T[i].1 ≤ 20
      · obtain ⟨x1, x2⟩ := hx
        go_wp2
        go_loopw [5] (fun v wr => ∃ j : Nat, v = .int .i64 j ∧ j ≤ T[i].2.length ∧ okP T.length (spN T i ++ (T[i].2.take j).map fun k => (i, k)) ∧ Fl wr w.heap.size T.length ((spN T i ++ (T[i].2.take j).map fun k => (i, k)).map Prod.snd) ∧ Below w.heap.size w wr) (fun v _ => T[i].2.length - (intOf v).toNat)
        case atStart => exact ⟨0, rfl, by omega, by simpa using HO.out, by simpa using HF.out, HB.out⟩
        case round =>
          obtain ⟨j, rfl, hj, hok2, hf2, hb2⟩ := hrel
          have HO2 := Lib.hid hok2
          have HF2 := Lib.hid hf2
          have HB2 := Lib.hid hb2
          clear hok2 hf2 hb2 HF HB c0 c1 HK
          obtain ⟨b', off', K', c'', e, hal', c0, c1, hk⟩ := (HT.out.below (HB2.out.mono hn₀)).at hlt
          injection e with e
          injection e with e1 e2
          subst e1 e2
          by_cases hjl : j < T[i].2.length
          · obtain ⟨kb, ko, rfl, hkl', kc⟩ := hk.at hjl
            have hpre := sp_pre' T (j := j + 1) hlt
            have hsn := map_take_succ (i := i) hjl
            rw [hsn, ← List.append_assoc] at hpre
            generalize hx : T[i].2[j] = x at *
            have HX := Lib.hid hx
            have HP := Lib.hid hpre
            have HSN := Lib.hid hsn
            clear hx hpre hsn hk
            by_cases h1 : x ≤ (i : Int)
            · have E := Lib.hid (may_kd HP.out (fun h => by have := (okP_snoc.1 h).2.1; omega))
              go_wp2
              go_ret
              exact ⟨by rw [E.out]; rfl, HB2.out⟩
            · by_cases h2 : (T.length : Int) ≤ x
              · have E := Lib.hid (may_kd HP.out (fun h => by have := (okP_snoc.1 h).2.2.1; omega))
                go_wp2
                go_ret
                exact ⟨by rw [E.out]; rfl, HB2.out⟩
              · obtain ⟨q, rfl⟩ : ∃ q : Nat, x = q := ⟨x.toNat, by omega⟩
                have hq : q < T.length := by omega
                have hf := HF2.out.cell q hq
                have hz := HF2.out.frozen q
                by_cases h3 : (q : Int) ∈ (spN T i ++ (T[i].2.take j).map fun k => (i, k)).map Prod.snd
                · have e : decide ((q : Int) ∈ (spN T i ++ (T[i].2.take j).map fun k => (i, k)).map Prod.snd) = true := decide_eq_true h3
                  rw [e] at hf
                  have E := Lib.hid (may_kd HP.out (fun h => (okP_snoc.1 h).2.2.2 h3))
                  clear h3 e
                  go_wp2
                  go_ret
                  exact ⟨by rw [E.out]; rfl, HB2.out⟩
                · have HM := Lib.hid h3
                  have e : decide ((q : Int) ∈ (spN T i ++ (T[i].2.take j).map fun k => (i, k)).map Prod.snd) = false := decide_eq_false h3
                  rw [e] at hf
                  clear h3 e
                  go_wp2
                  go_roundw
                  case rel => exact ⟨j + 1, by go_num, by omega, by rw [HSN.out, ← List.append_assoc]; exact okP_snoc.2 ⟨HO2.out, by omega, by omega, HM.out⟩, by rw [HSN.out, ← List.append_assoc, List.map_append]; exact HF2.out.set q, HB2.out.setCell (p := ⟨w.heap.size, q, none⟩) (Nat.le_refl _) _⟩
                  case measure => simp [intOf]; omega
          · have HS2 := Lib.hid (wk_take hlt)
            go_wp2
            go_roundw
            case rel =>
              have et : spN T i ++ (T[i].2.take j).map (fun k => (i, k)) = spN T (i + 1) := by rw [List.take_of_length_le (by omega), spN, kids_eq hlt]
              exact ⟨i + 1, by go_num, by omega, by rw [← et]; exact HO2.out, by rw [HS2.out, HW.out]; simp; omega, by rw [← et]; exact HF2.out, HB2.out⟩
            case measure => simp [intOf]; omega
      · have E := Lib.hid (may_wk hlt hx)
        have hx' : T[i].1 < 0 ∨ 20 < T[i].1 := by omega
        clear hx
        rcases hx' with hx | hx
        · go_wp2
          go_ret
          exact ⟨by rw [E.out]; rfl, HB.out⟩
        · have hx' : ¬ T[i].1 < 0 := by omega
          go_wp2
          go_ret
          exact ⟨by rw [E.out]; rfl, HB.out⟩
    · obtain rfl : i = T.length := by omega
      have E := Lib.hid (may_yes h30 (by have := HW.out; rwa [List.take_length] at this) HO.out)
      go_wp2
      go_ret
      exact ⟨by rw [E.out]; rfl, HB.out⟩
theorem rmay_any (A : Option Addr) (c n₀ : Nat) (T : List Tsk) (w : World) (hT : Tk n₀ w A T) (hn₀ : n₀ ≤ w.heap.size) (hs : Sm T) : Tells 29 #[.slice A T.length c] w (.bool (may T)) := by
  by_cases h : T.length ≤ 30
  · exact rmay_yes A c n₀ T w hT hn₀ hs h
  · have E := Lib.hid (may_len (T := T) (by omega))
    have h' : (30 : Int) < T.length := by omega
    have hs1 := hs.1
    go_enter Try.func29, Try.ntmps29
    go_wp2
    go_ret
    exact ⟨by rw [E.out]; rfl, Below.refl _ _⟩
end Go.Proofs.Ytobcedlkmnmikaa.Fo
