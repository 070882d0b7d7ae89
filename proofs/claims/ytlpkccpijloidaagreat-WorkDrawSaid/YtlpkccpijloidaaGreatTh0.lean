/- Merged: ThA, ThB, ThC, ThD. -/
import Derived.Test.YtlpkccpijloidaaGreatIt0
import Derived.Test.YtlpkccpijloidaaGreatFo1
import Derived.Deep.CutRange
import Derived.Deep.DeepCutAuto
namespace Go.Proofs.YtlpkccpijloidaaGreat.Fo
set_option maxRecDepth 100000
open Go.RowKit Go.Deep
theorem wkA_at {T : List Tsk} {n : Nat} (h : n < T.length) : wkA T (n : Int) = T[n].1 := by
  unfold wkA; rw [Int.toNat_natCast, List.getD_eq_getElem?_getD, List.getElem?_eq_getElem h]; rfl
theorem kdA_at {T : List Tsk} {n : Nat} (h : n < T.length) : kdA T (n : Int) = T[n].2 := by
  unfold kdA; rw [Int.toNat_natCast, List.getD_eq_getElem?_getD, List.getElem?_eq_getElem h]; rfl
theorem istask_any (A : Option Addr) (c n : Nat) (k : Int) (w : World) : Gives 74 #[.slice A n c, .int .i64 k] w (.bool (decide (0 ≤ k) && decide (k < (n : Int)))) := by
  by_cases h : 0 ≤ k
  · rw [decide_eq_true h, Bool.true_and]
    go_enter Tryz.func74, Tryz.ntmps74
    go_wp2
    go_ret
    exact ⟨rfl, rfl⟩
  · rw [decide_eq_false h, Bool.false_and]
    have h' : decide (0 ≤ k) = false := decide_eq_false h
    go_enter Tryz.func74, Tryz.ntmps74
    go_wp2
    go_ret
    exact ⟨rfl, rfl⟩
theorem okI_out {T : List Tsk} {x : Itm} (h : (decide (0 ≤ x.1) && decide (x.1 < T.length)) = false) : okI T x = false := by
  unfold okI; rw [h]; rfl
theorem okI_at {T : List Tsk} {n : Nat} {d k : Int} (h : n < T.length) : okI T ((n : Int), d, k) = ((decide (0 ≤ d) && decide (d ≤ T[n].1)) && (decide (0 ≤ k) && decide (k ≤ T[n].2.length)) && (decide (k = 0) || decide (T[n].1 ≤ d))) := by
  unfold okI
  simp only [wkA_at h, kdA_at h]
  rw [decide_eq_true (show (0 : Int) ≤ (n : Int) by omega), decide_eq_true (show (n : Int) < (T.length : Int) by omega)]
  simp
set_option maxHeartbeats 1000000 in
theorem itemmay_any (A : Option Addr) (c n₀ : Nat) (T : List Tsk) (x : Itm) (w : World) (hT : Tk n₀ w A T) (hn₀ : n₀ ≤ w.heap.size) (hs : Sm T) : Tells 55 #[.slice A T.length c, iv x] w (.bool (okI T x)) := by
  obtain ⟨m, d, k⟩ := x
  have Z := Lib.hid ((Below.refl w.heap.size w).alloc (Nat.le_refl _) (.cells #[.int .i64 m, .int .i64 d, .int .i64 k] 53))
  cases hin : (decide (0 ≤ m) && decide (m < (T.length : Int)))
  · have E := Lib.hid (okI_out (x := (m, d, k)) hin)
    have HI := Lib.hid hin
    clear hin hT hs
    go_enter Tryz.func55, Tryz.ntmps55
    go_wp2_with (go_at_call 74; refine (istask_any A c T.length m _).mono ?_; rintro _ w1 ⟨rfl, e1⟩; rw [e1, HI.out]; clear e1 w1)
    go_ret
    exact ⟨by rw [E.out]; rfl, Z.out⟩
  · have hm := hin
    rw [Bool.and_eq_true, decide_eq_true_eq, decide_eq_true_eq] at hm
    obtain ⟨n, rfl⟩ := Int.eq_ofNat_of_zero_le hm.1
    have hn : n < T.length := by omega
    have HI := Lib.hid hin
    obtain ⟨b, off, K, c', rfl, hal, c0, c1, _⟩ := hT.at hn
    have hk := hs.at hn
    have hbw : b < w.heap.size := by omega
    rw [okI_at hn]
    have Z2 := Lib.hid (Z.out.alloc Z.out.size (.cells #[.int .i64 T[n].1, .slice K T[n].2.length c'] 71))
    clear hin hT hs hm
    generalize T[n].1 = W at *
    generalize T[n].2.length = L at *
    by_cases h1 : 0 ≤ d
    · by_cases h2 : d ≤ W
      · by_cases h3 : 0 ≤ k
        · by_cases h4 : k ≤ (L : Int)
          · have E := Lib.hid (show (decide (0 ≤ d) && decide (d ≤ W) && (decide (0 ≤ k) && decide (k ≤ (L : Int))) && (decide (k = 0) || decide (W ≤ d))) = (decide (k = 0) || decide (W ≤ d)) by simp [h1, h2, h3, h4])
            by_cases h5 : d = W
            · have E2 := Lib.hid (show (decide (k = 0) || decide (W ≤ d)) = true by subst h5; simp)
              have h5' : decide (d = W) = true := decide_eq_true h5
              have h1' : decide (d < 0) = false := decide_eq_false (by omega)
              have h2' : decide (W < d) = false := decide_eq_false (by omega)
              have h3' : decide (k < 0) = false := decide_eq_false (by omega)
              have h4' : decide ((L : Int) < k) = false := decide_eq_false (by omega)
              subst h5
              go_enter Tryz.func55, Tryz.ntmps55
              go_wp2_with (go_at_call 74; refine (istask_any _ c T.length n _).mono ?_; rintro _ w1 ⟨rfl, e1⟩; rw [e1, HI.out]; clear e1 w1)
              go_ret
              exact ⟨by rw [E.out, E2.out]; rfl, Z2.out⟩
            · have h6 : d < W := by omega
              have E2 := Lib.hid (show (decide (k = 0) || decide (W ≤ d)) = (k == 0) by rw [decide_eq_false (show ¬ W ≤ d by omega), Bool.or_false]; rfl)
              have h5' : (d == W) = false := by simpa using h5
              clear h5
              go_enter Tryz.func55, Tryz.ntmps55
              go_wp2_with (go_at_call 74; refine (istask_any _ c T.length n _).mono ?_; rintro _ w1 ⟨rfl, e1⟩; rw [e1, HI.out]; clear e1 w1)
              go_ret
              exact ⟨by rw [E.out, E2.out]; rfl, Z2.out⟩
          · have E := Lib.hid (show (decide (0 ≤ d) && decide (d ≤ W) && (decide (0 ≤ k) && decide (k ≤ (L : Int))) && (decide (k = 0) || decide (W ≤ d))) = false by simp [h4])
            have h4' : (L : Int) < k := by omega
            clear h4
            go_enter Tryz.func55, Tryz.ntmps55
            go_wp2_with (go_at_call 74; refine (istask_any _ c T.length n _).mono ?_; rintro _ w1 ⟨rfl, e1⟩; rw [e1, HI.out]; clear e1 w1)
            go_ret
            exact ⟨by rw [E.out]; rfl, Z2.out⟩
        · have E := Lib.hid (show (decide (0 ≤ d) && decide (d ≤ W) && (decide (0 ≤ k) && decide (k ≤ (L : Int))) && (decide (k = 0) || decide (W ≤ d))) = false by simp [h3])
          have h3' : k < 0 := by omega
          clear h3
          go_enter Tryz.func55, Tryz.ntmps55
          go_wp2_with (go_at_call 74; refine (istask_any _ c T.length n _).mono ?_; rintro _ w1 ⟨rfl, e1⟩; rw [e1, HI.out]; clear e1 w1)
          go_ret
          exact ⟨by rw [E.out]; rfl, Z2.out⟩
      · have E := Lib.hid (show (decide (0 ≤ d) && decide (d ≤ W) && (decide (0 ≤ k) && decide (k ≤ (L : Int))) && (decide (k = 0) || decide (W ≤ d))) = false by simp [h2])
        have h2' : W < d := by omega
        clear h2
        go_enter Tryz.func55, Tryz.ntmps55
        go_wp2_with (go_at_call 74; refine (istask_any _ c T.length n _).mono ?_; rintro _ w1 ⟨rfl, e1⟩; rw [e1, HI.out]; clear e1 w1)
        go_ret
        exact ⟨by rw [E.out]; rfl, Z2.out⟩
    · have E := Lib.hid (show (decide (0 ≤ d) && decide (d ≤ W) && (decide (0 ≤ k) && decide (k ≤ (L : Int))) && (decide (k = 0) || decide (W ≤ d))) = false by simp [h1])
      have h1' : d < 0 := by omega
      clear h1
      go_enter Tryz.func55, Tryz.ntmps55
      go_wp2_with (go_at_call 74; refine (istask_any _ c T.length n _).mono ?_; rintro _ w1 ⟨rfl, e1⟩; rw [e1, HI.out]; clear e1 w1)
      go_ret
      exact ⟨by rw [E.out]; rfl, Z2.out⟩
end Go.Proofs.YtlpkccpijloidaaGreat.Fo
namespace Go.Proofs.YtlpkccpijloidaaGreat.Fo
set_option maxRecDepth 100000
open Go.RowKit Go.Deep
theorem may1_any (A : Option Addr) (c n₀ B : Nat) (T : List Tsk) (x : Itm) (w : World) (hB : w.cell? ⟨B, 0, none⟩ = some (.slice A T.length c)) (hT : Tk n₀ w A T) (hn₀ : n₀ ≤ w.heap.size) (hs : Sm T) : Tells 54 #[iv x, .pointer (some ⟨B, 0, none⟩)] w (.bool (!okI T x)) := by
  obtain ⟨m, d, k⟩ := x
  have HT := Lib.hid hT
  have HS := Lib.hid hs
  have hbw := block_lt_of_cell hB
  have Z := Lib.hid ((Below.refl w.heap.size w).alloc (Nat.le_refl _) (.cells #[.int .i64 m, .int .i64 d, .int .i64 k] 53))
  clear hT hs
  go_enter Tryz.func54, Tryz.ntmps54
  go_wp2_with fail
  refine (itemmay_any A c n₀ T (m, d, k) _ (HT.out.below (Z.out.mono hn₀)) (Nat.le_trans hn₀ Z.out.size) HS.out).mono ?_
  rintro _ w1 ⟨rfl, z1⟩
  have Z1 := Lib.hid (Z.out.trans (z1.mono Z.out.size))
  clear z1
  go_wp2
  go_ret
  exact ⟨rfl, Z1.out⟩
theorem all_take {T : List Tsk} {s : List Itm} {j : Nat} (hj : j < s.length) (h : (s.take j).all (okI T) = true) (hx : okI T s[j] = true) : (s.take (j + 1)).all (okI T) = true := by
  rw [List.take_add_one, List.getElem?_eq_getElem hj, List.all_append, h]
  simpa using hx
theorem all_no {T : List Tsk} {s : List Itm} {j : Nat} (hj : j < s.length) (hx : okI T s[j] = false) : s.all (okI T) = false := by
  rw [List.all_eq_false]
  exact ⟨s[j], List.getElem_mem hj, by simp [hx]⟩
set_option maxHeartbeats 800000 in
theorem indexf_any (A S : Option Addr) (c cs n₀ B : Nat) (T : List Tsk) (s : List Itm) (w : World) (hB : w.cell? ⟨B, 0, none⟩ = some (.slice A T.length c)) (hT : Tk n₀ w A T) (hS : Ir n₀ w S s) (hn₀ : n₀ ≤ w.heap.size) (hs : Sm T) (hl : s.length ≤ 1000) :
    Calls Tryz.prog 73 #[.slice S s.length cs, .func (.func 54) #[] #[.pointer (some ⟨B, 0, none⟩)]] w fun e w' => ∃ r : Int, e = .returned (.int .i64 r) ∧ decide (0 ≤ r) = (!s.all (okI T)) ∧ Below w.heap.size w w' := by
  have HT := Lib.hid hT
  have HS := Lib.hid hS
  have HM := Lib.hid hs
  have HB := Lib.hid hB
  have hbw := block_lt_of_cell hB
  clear hT hS hs hB
  go_enter Tryz.func73, Tryz.ntmps73
  go_wp2
  go_loopw [8] (fun i wr => ∃ j : Nat, j ≤ s.length ∧ i = .int .i64 j ∧ (s.take j).all (okI T) = true ∧ Below w.heap.size w wr) (fun i _ => s.length - (intOf i).toNat)
  case atStart => exact ⟨0, Nat.zero_le _, rfl, by simp, Below.refl _ _⟩
  case round =>
    obtain ⟨j, hj, rfl, heq, hw⟩ := hrel
    have HE := Lib.hid heq
    have HW := Lib.hid hw
    clear heq hw
    by_cases hlt : j < s.length
    · obtain ⟨b, off, rfl, l1, x1, x2, x3⟩ := (HS.out.below (HW.out.mono hn₀)).at hlt
      have hb := (HW.out.cell (p := ⟨B, 0, none⟩) hbw).trans HB.out
      have C := fun (q : Bool) => may1_any A c n₀ B T s[j] wr hb (HT.out.below (HW.out.mono hn₀)) (Nat.le_trans hn₀ HW.out.size) HM.out
      have CC := Lib.hid (C true)
      cases hok : okI T s[j]
      · have E := Lib.hid (all_no hlt hok)
        have CK := Lib.hid (Tells.of CC.out (v' := .bool true) (by rw [hok]; rfl))
        clear hok CC C hb
        go_wp2_with (refine CK.out.mono ?_; rintro _ w1 ⟨rfl, z1⟩)
        have Z := Lib.hid (HW.out.trans (z1.mono HW.out.size))
        clear z1
        go_ret
        exact ⟨j, rfl, by rw [E.out, decide_eq_true (show (0 : Int) ≤ (j : Int) by omega)]; rfl, Z.out⟩
      · have E := Lib.hid (all_take hlt HE.out hok)
        have CK := Lib.hid (Tells.of CC.out (v' := .bool false) (by rw [hok]; rfl))
        clear hok CC C hb
        go_wp2_with (refine CK.out.mono ?_; rintro _ w1 ⟨rfl, z1⟩)
        have Z := Lib.hid (HW.out.trans (z1.mono HW.out.size))
        clear z1
        go_roundw
        case rel => exact ⟨j + 1, by omega, by go_num, E.out, Z.out⟩
        case measure => simp [intOf]; omega
    · have E := Lib.hid (show s.all (okI T) = true by have := HE.out; rwa [List.take_of_length_le (by omega)] at this)
      go_wp2
      go_ret
      exact ⟨-1, rfl, by rw [E.out]; rfl, HW.out⟩
theorem containsf_any (A S : Option Addr) (c cs n₀ B : Nat) (T : List Tsk) (s : List Itm) (w : World) (hB : w.cell? ⟨B, 0, none⟩ = some (.slice A T.length c)) (hT : Tk n₀ w A T) (hS : Ir n₀ w S s) (hn₀ : n₀ ≤ w.heap.size) (hs : Sm T) (hl : s.length ≤ 1000) :
    Tells 53 #[.slice S s.length cs, .func (.func 54) #[] #[.pointer (some ⟨B, 0, none⟩)]] w (.bool (!s.all (okI T))) := by
  have K := Lib.hid (indexf_any A S c cs n₀ B T s w hB hT hS hn₀ hs hl)
  clear hB hT hS hs
  go_enter Tryz.func53, Tryz.ntmps53
  go_wp2_with fail
  refine K.out.mono ?_
  rintro _ w1 ⟨r, rfl, e, z1⟩
  have E := Lib.hid e
  clear e
  go_wp2
  go_ret
  exact ⟨by rw [← E.out]; rfl, z1⟩
theorem tmay_any (A S : Option Addr) (c cs n₀ : Nat) (T : List Tsk) (s : List Itm) (w : World) (hT : Tk n₀ w A T) (hS : Ir n₀ w S s) (hn₀ : n₀ ≤ w.heap.size) (hs : Sm T) (hl : s.length ≤ 1000) : Tells 27 #[.slice A T.length c, .slice S s.length cs] w (.bool (mayS T s)) := by
  have HT := Lib.hid hT
  have HS := Lib.hid hS
  have HM := Lib.hid hs
  have Z := Lib.hid ((Below.refl w.heap.size w).alloc (Nat.le_refl _) (.cells #[.slice A T.length c] 24))
  clear hT hS hs
  cases hm : may T
  · have E := Lib.hid (show mayS T s = false by unfold mayS; rw [hm]; rfl)
    have HH := Lib.hid hm
    clear hm
    go_enter Tryz.func27, Tryz.ntmps27
    go_wp2_with fail
    refine (Tells.of (may_any A c n₀ T _ (HT.out.below (Z.out.mono hn₀)) (Nat.le_trans hn₀ Z.out.size) HM.out) (v' := .bool false) (by rw [HH.out])).mono ?_
    rintro _ w1 ⟨rfl, z1⟩
    have Z1 := Lib.hid (Z.out.trans (z1.mono Z.out.size))
    clear z1
    go_wp2
    go_ret
    exact ⟨by rw [E.out]; rfl, Z1.out⟩
  · have E := Lib.hid (show mayS T s = s.all (okI T) by unfold mayS; rw [hm]; rfl)
    have HH := Lib.hid hm
    clear hm
    go_enter Tryz.func27, Tryz.ntmps27
    go_wp2_with fail
    refine (Tells.of (may_any A c n₀ T _ (HT.out.below (Z.out.mono hn₀)) (Nat.le_trans hn₀ Z.out.size) HM.out) (v' := .bool true) (by rw [HH.out])).mono ?_
    rintro _ w1 ⟨rfl, z1⟩
    have hb := (z1.cell (p := ⟨w.heap.size, 0, none⟩) (by simp)).trans (Boxed.new w 24 (.slice A T.length c)).cell
    have Z1 := Lib.hid (Z.out.trans (z1.mono Z.out.size))
    have HB := Lib.hid hb
    clear z1 hb
    go_wp2_with fail
    refine (containsf_any A S c cs n₀ w.heap.size T s _ HB.out (HT.out.below (Z1.out.mono hn₀)) (HS.out.below (Z1.out.mono hn₀)) (Nat.le_trans hn₀ Z1.out.size) HM.out hl).mono ?_
    rintro _ w2 ⟨rfl, z2⟩
    have Z2 := Lib.hid (Z1.out.trans (z2.mono Z1.out.size))
    clear z2
    generalize s.all (okI T) = q at *
    go_wp2
    go_ret
    exact ⟨by rw [E.out]; rfl, Z2.out⟩
end Go.Proofs.YtlpkccpijloidaaGreat.Fo
namespace Go.Proofs.YtlpkccpijloidaaGreat.Fo
set_option maxRecDepth 100000
open Go.RowKit Go.Deep
theorem iown_made (w : World) (base : Nat) (hb : base ≤ w.heap.size) : Iow (w.alloc (.cells #[] 53)) base (some ⟨w.heap.size, 0, none⟩) 0 0 [] := by
  refine ⟨rfl, .inr ⟨w.heap.size, 0, #[], rfl, hb, heap_alloc_new _ _, ?_⟩⟩
  exact ⟨by omega, by decide, rfl, rfl⟩
theorem eql_nilI (w : World) (a : Option Addr) (n c : Nat) : (binOp .eql 27 (.slice a n c) (.slice none 0 0)).run Tryz.prog w = .ok (.bool a.isNone) w := Lib.run_eql_slice_nil w 27 53 a n c 0 0 Tryz.underlying27
attribute [local go_sem] eql_nilI
theorem iclone_any (A : Option Addr) (n c n₀ : Nat) (l : List Itm) (w : World) (h : Ir n₀ w A l) (hn₀ : n₀ ≤ w.heap.size) (hn : l.length = n) (hs : n ≤ 1000) : Calls Tryz.prog 20 #[.slice A n c] w fun e w' => ∃ A' c', e = .returned (.slice A' n c') ∧ Iow w' w.heap.size A' n c' l ∧ Below w.heap.size w w' := by
  have H := Lib.hid h
  have HN := Lib.hid hn
  rcases A with _ | a
  · obtain rfl : n = 0 := by
      rcases Nat.eq_zero_or_pos n with h0 | h0
      · exact h0
      · obtain ⟨_, _, e, _⟩ := h (by omega); cases e
    clear h hn
    go_enter Tryz.func20, Tryz.ntmps20
    go_wp2
    go_ret
    exact ⟨none, 0, rfl, by rw [List.eq_nil_of_length_eq_zero HN.out]; exact Iow.nil _ _, Below.refl _ _⟩
  · have hm : Below w.heap.size w (w.alloc (.cells #[] 53)) := (Below.refl _ _).alloc (Nat.le_refl _) _
    obtain ⟨A', c', w1, hrun, hown, _, hb⟩ := app_items (iown_made w w.heap.size (Nat.le_refl _)) c (h.below (hm.mono hn₀)).src hn (by omega) (by simp)
    simp only [Nat.zero_add, List.nil_append] at hrun hown
    have HO := Lib.hid hown
    have HB := Lib.hid (hm.trans (hb.mono (by simp)))
    have HRUN := Lib.hid hrun
    clear hrun hown hb h hn hm
    go_enter Tryz.func20, Tryz.ntmps20
    go_wp2_with (at_builtin; (with_reducible refine wpList_append_run HRUN.out ?_ ?_ ?_ ?_); exact ⟨_, _, rfl, rfl, rfl⟩; rfl; rfl)
    go_ret
    exact ⟨_, _, rfl, HO.out, HB.out⟩
attribute [local go_sem ↓] eql_it neq_it guard_it
theorem iequal_len (A B : Option Addr) (n c m d : Nat) (w : World) (hne : n ≠ m) : Tells 56 #[.slice A n c, .slice B m d] w (.bool false) := by
  go_enter Tryz.func56, Tryz.ntmps56
  go_wp2
  go_ret
  exact ⟨rfl, Below.refl _ _⟩
theorem itake_more {l k : List Itm} {j : Nat} (hl : j < l.length) (hk : j < k.length) (h : l.take j = k.take j) (hx : l[j] = k[j]) : l.take (j + 1) = k.take (j + 1) := by
  rw [List.take_add_one, List.take_add_one, h, List.getElem?_eq_getElem hl, List.getElem?_eq_getElem hk, hx]
theorem idiffer {l k : List Itm} {j : Nat} (hl : j < l.length) (hk : j < k.length) (hx : ¬ l[j] = k[j]) : decide (l = k) = false := by
  refine decide_eq_false fun h => hx ?_
  subst h; rfl
theorem iagree {l k : List Itm} {j n : Nat} (hl : l.length = n) (hk : k.length = n) (hj : j ≤ n) (hn : ¬ j < n) (h : l.take j = k.take j) : decide (l = k) = true := by
  rw [List.take_of_length_le (by omega), List.take_of_length_le (by omega)] at h
  exact decide_eq_true h
set_option maxHeartbeats 800000 in
theorem iequal_eq (A B : Option Addr) (n c d n₀ : Nat) (l k : List Itm) (w : World) (ha : Ir n₀ w A l) (hb : Ir n₀ w B k) (hn : l.length = n) (hm : k.length = n) (hs : n ≤ 1000) : Tells 56 #[.slice A n c, .slice B n d] w (.bool (decide (l = k))) := by
  have HA := Lib.hid ha
  have HB := Lib.hid hb
  have HN := Lib.hid hn
  have HM := Lib.hid hm
  clear ha hb hn hm
  go_enter Tryz.func56, Tryz.ntmps56
  go_wp2
  go_loopw [13] (fun x wr => ∃ j q : Nat, j ≤ n ∧ x = .int .i64 j ∧ l.take j = k.take j ∧ wr = w.drewN q) (fun x _ => n - (intOf x).toNat)
  case atStart => exact ⟨0, 0, Nat.zero_le _, rfl, by simp, rfl⟩
  case round =>
    obtain ⟨j, q, hj, rfl, heq, rfl⟩ := hrel
    have HE := Lib.hid heq
    clear heq
    by_cases hlt : j < n
    · have h1 : j < l.length := by rw [HN.out]; exact hlt
      have h2 : j < k.length := by rw [HM.out]; exact hlt
      obtain ⟨b1, o1, rfl, l1, x1, x2, x3⟩ := HA.out.at h1
      obtain ⟨b2, o2, rfl, l2, y1, y2, y3⟩ := HB.out.at h2
      by_cases hxy : l[j] = k[j]
      · have E := Lib.hid (itake_more h1 h2 HE.out hxy)
        have hp := ie_yes hxy
        clear hxy
        generalize l[j] = x at *
        generalize k[j] = y at *
        obtain ⟨a1, a2, a3⟩ := x
        obtain ⟨e1, e2, e3⟩ := y
        simp only at x1 x2 x3 y1 y2 y3 hp
        go_wp2
        go_quiet (fail)
        go_wp2
        go_roundw
        case rel => exact ⟨j + 1, _, by omega, by go_num, E.out, rfl⟩
        case measure => simp [intOf]; omega
      · have E := Lib.hid (idiffer h1 h2 hxy)
        have hp := ie_no hxy
        clear hxy
        generalize l[j] = x at *
        generalize k[j] = y at *
        obtain ⟨a1, a2, a3⟩ := x
        obtain ⟨e1, e2, e3⟩ := y
        simp only at x1 x2 x3 y1 y2 y3 hp
        go_wp2
        go_quiet (fail)
        go_wp2
        go_ret
        exact ⟨by rw [E.out]; rfl, (below_drewN _ _).trans ((below_drewN _ _).mono (Nat.le_refl _))⟩
    · have E := Lib.hid (iagree HN.out HM.out hj hlt HE.out)
      go_wp2
      go_ret
      exact ⟨by rw [E.out]; rfl, below_drewN _ _⟩
theorem iequal_any (A B : Option Addr) (c d n₀ : Nat) (l k : List Itm) (w : World) (ha : Ir n₀ w A l) (hb : Ir n₀ w B k) (hs : l.length ≤ 1000) : Tells 56 #[.slice A l.length c, .slice B k.length d] w (.bool (decide (l = k))) := by
  by_cases h : k.length = l.length
  · rw [h]
    exact iequal_eq A B l.length c d n₀ l k w ha hb rfl h hs
  · have e : decide (l = k) = false := decide_eq_false (by rintro rfl; exact h rfl)
    rw [e]
    exact iequal_len A B _ c _ d w (fun e => h e.symm)
theorem tsame_any (A B : Option Addr) (c d n₀ : Nat) (l k : List Itm) (w : World) (ha : Ir n₀ w A l) (hb : Ir n₀ w B k) (hs : l.length ≤ 1000) : Tells 28 #[.slice A l.length c, .slice B k.length d] w (.bool (decide (l = k))) := by
  have K := Lib.hid (iequal_any A B c d n₀ l k w ha hb hs)
  clear ha hb
  generalize decide (l = k) = q at *
  go_enter Tryz.func28, Tryz.ntmps28
  go_wp2_with fail
  refine K.out.mono ?_
  rintro _ w1 ⟨rfl, z1⟩
  go_wp2
  go_ret
  exact ⟨rfl, z1⟩
end Go.Proofs.YtlpkccpijloidaaGreat.Fo
namespace Go.Proofs.YtlpkccpijloidaaGreat.Fo
set_option maxRecDepth 100000
open Go.RowKit Go.Deep
/-- An act as a value. -/
abbrev av (a : Int × Int) : Value := .agg #[.int .i64 a.1, .int .i64 a.2]
theorem bel_new (w : World) (o : Obj) : Below w.heap.size w (w.alloc o) := (Below.refl _ _).alloc (Nat.le_refl _) _
theorem item_at {T : List Tsk} {p : List Itm} {x : Itm} (h : mayS T (p ++ [x]) = true) : ∃ n : Nat, x.1 = (n : Int) ∧ ∃ hn : n < T.length, 0 ≤ x.2.1 ∧ x.2.1 ≤ T[n].1 ∧ 0 ≤ x.2.2 ∧ x.2.2 ≤ T[n].2.length := by
  have h2 := h
  rw [mayS_snoc, Bool.and_eq_true] at h2
  obtain ⟨⟨a1, a2⟩, ⟨b1, b2⟩, ⟨c1, c2⟩, _⟩ := okI_iff.1 h2.2
  obtain ⟨n, hn⟩ := Int.eq_ofNat_of_zero_le a1
  rw [hn] at a2 b2 c2
  have hl : n < T.length := by omega
  rw [wkA_at hl] at b2
  rw [kdA_at hl] at c2
  exact ⟨n, hn, hl, b1, b2, c1, c2⟩
/-- An act in a box. -/
def Ab (w : World) (g : Nat) (k t : Int) : Prop := w.heap[g]? = some (.cells #[.int .i64 k, .int .i64 t] 88 (0, 0))
theorem Ab.new (w : World) (k t : Int) : Ab (w.alloc (.cells #[.int .i64 k, .int .i64 t] 88)) w.heap.size k t := heap_alloc_new _ _
theorem Ab.cells {w : World} {g : Nat} {k t : Int} (h : Ab w g k t) : w.cell? ⟨g, 0, none⟩ = some (.int .i64 k) ∧ w.cell? ⟨g, 1, none⟩ = some (.int .i64 t) ∧ w.frozen? ⟨g, 0, none⟩ = false ∧ w.frozen? ⟨g, 1, none⟩ = false := by
  unfold Ab at h
  simp [World.cell?, World.frozen?, h]
theorem Ab.below {n : Nat} {w w' : World} {g : Nat} {k t : Int} (h : Ab w g k t) (hb : Below n w w') (hg : g < n) : Ab w' g k t := (hb.block g hg).trans h
theorem Ab.alloc {w : World} {g : Nat} {k t : Int} (h : Ab w g k t) (o : Obj) : Ab (w.alloc o) g k t := (Below.heap_alloc w o g (Array.getElem?_eq_some_iff.1 h).1).trans h
theorem Ab.set {w : World} {g : Nat} {k t : Int} (h : Ab w g k t) (k' t' : Int) : Ab ((w.setCell ⟨g, 0, none⟩ (.int .i64 k')).setCell ⟨g, 1, none⟩ (.int .i64 t')) g k' t' := by
  unfold Ab at h ⊢
  simp [World.setCell, Array.getElem?_modify, h]
theorem Ab.lt {w : World} {g : Nat} {k t : Int} (h : Ab w g k t) : g < w.heap.size := (Array.getElem?_eq_some_iff.1 h).1
theorem results_act {fn : Func} {u : Tmp} (h : fn.results = #[.cell u 88]) (tmps : Array Value) {w : World} {g : Nat} {k t : Int} (hp : tmps.getD u undef = .pointer (some ⟨g, 0, none⟩)) (hb : Ab w g k t) :
    (results fn tmps).run Tryz.prog w = .ok (av (k, t)) w := by
  obtain ⟨c0, c1, _, _⟩ := hb.cells
  have hp2 : tmps[u]?.getD undef = .pointer (some ⟨g, 0, none⟩) := by simpa using hp
  simp [results, h, hp2, go_sem, c0, c1]
theorem tnext_nil (A S : Option Addr) (c cs k : Nat) (w : World) : Tells 84 #[.slice A k c, .slice S 0 cs] w (av (0, 0)) := by
  have Z := Lib.hid (bel_new w (.cells #[.int .i64 0, .int .i64 0] 88))
  have a0 := Ab.new w 0 0
  have AB := Lib.hid a0
  obtain ⟨c0, c1, z0, z1⟩ := a0.cells
  clear a0
  go_enter Tryz.func84, Tryz.ntmps84
  go_upto_region 1 with fail
  generalize w.alloc (.cells #[.int .i64 0, .int .i64 0] 88) = w1 at *
  go_wp2
  refine bodyPost_ret (results_act Tryz.results84 _ rfl (AB.out.set 0 0)) rfl ?_
  exact ⟨rfl, (Z.out.setCell (p := ⟨w.heap.size, 0, none⟩) (Nat.le_refl _) _).setCell (p := ⟨w.heap.size, 1, none⟩) (Nat.le_refl _) _⟩
set_option maxHeartbeats 800000 in
theorem tnext_no (A S : Option Addr) (c cs n₀ m : Nat) (T : List Tsk) (s : List Itm) (w : World) (hT : Tk n₀ w A T) (hS : Ir n₀ w S s) (hn₀ : n₀ ≤ w.heap.size) (hs : Sm T) (hl : s.length ≤ 1000) (hm : mayS T s = false) (hsm : s.length = m + 1) : Tells 84 #[.slice A T.length c, .slice S (m + 1) cs] w (av (0, 0)) := by
  have Z := Lib.hid (bel_new w (.cells #[.int .i64 0, .int .i64 0] 88))
  have AB := Lib.hid (Ab.new w 0 0)
  have HT := Lib.hid hT
  have HS := Lib.hid hS
  have HM := Lib.hid hs
  have HH := Lib.hid hm
  have HL := Lib.hid hsm
  have h0 : ((m : Int) + 1 == 0) = false := by simp; omega
  clear hT hS hs hm hsm
  go_enter Tryz.func84, Tryz.ntmps84
  go_upto_region 1 with fail
  generalize w.alloc (.cells #[.int .i64 0, .int .i64 0] 88) = w1 at *
  go_wp2_with fail
  have K := tmay_any A S c cs n₀ T s w1 (HT.out.below (Z.out.mono hn₀)) (HS.out.below (Z.out.mono hn₀)) (Nat.le_trans hn₀ Z.out.size) HM.out hl
  rw [HL.out, HH.out] at K
  refine K.mono ?_
  rintro _ w2 ⟨rfl, z2⟩
  have a2 := AB.out.below z2 AB.out.lt
  have A2 := Lib.hid a2
  have Z2 := Lib.hid (Z.out.trans (z2.mono Z.out.size))
  obtain ⟨c0, c1, f0, f1⟩ := a2.cells
  clear z2 a2 K
  go_wp2
  refine bodyPost_ret (results_act Tryz.results84 _ rfl (A2.out.set 0 0)) rfl ?_
  exact ⟨rfl, (Z2.out.setCell (p := ⟨w.heap.size, 0, none⟩) (Nat.le_refl _) _).setCell (p := ⟨w.heap.size, 1, none⟩) (Nat.le_refl _) _⟩
set_option maxHeartbeats 1600000 in
theorem tnext_yes (A S : Option Addr) (c cs n₀ m n : Nat) (T : List Tsk) (p : List Itm) (d k : Int) (w : World) (hT : Tk n₀ w A T) (hS : Ir n₀ w S (p ++ [((n : Int), d, k)])) (hn₀ : n₀ ≤ w.heap.size) (hs : Sm T) (hl : p.length = m) (hm1 : m < 1000) (hm : mayS T (p ++ [((n : Int), d, k)]) = true) : Tells 84 #[.slice A T.length c, .slice S (m + 1) cs] w (av (actI T ((n : Int), d, k))) := by
  have Z := Lib.hid (bel_new w (.cells #[.int .i64 0, .int .i64 0] 88))
  have AB := Lib.hid (Ab.new w 0 0)
  have HM := Lib.hid hs
  have HH := Lib.hid hm
  have hlen : (p ++ [((n : Int), d, k)]).length = m + 1 := by simp [hl]
  have HL := Lib.hid hlen
  obtain ⟨n', e0, hn, hd0, hd1, hk0, hk1⟩ := item_at hm
  simp only at e0 hd0 hd1 hk0 hk1
  obtain rfl : n' = n := by omega
  clear e0
  obtain ⟨b, off, rfl, hbl, s0, s1, s2⟩ := hS.at (i := m) (by omega)
  have hlast : (p ++ [((n' : Int), d, k)])[m] = ((n' : Int), d, k) := by subst hl; simp
  rw [hlast] at s0 s1 s2
  simp only at s0 s1 s2
  obtain ⟨b2, o2, K, c', rfl, hal, t0, t1, hkd⟩ := hT.at hn
  have HT := Lib.hid hT
  have HS := Lib.hid hS
  have HKD := Lib.hid hkd
  have hkl := hs.at hn
  have hbw : b < w.heap.size := by omega
  have hbw2 : b2 < w.heap.size := by omega
  have h0 : ((m : Int) + 1 == 0) = false := by simp; omega
  have EA : Hid (actI T ((n' : Int), d, k) = if d < T[n'].1 then (1, (n' : Int)) else if k < T[n'].2.length then (2, T[n'].2.getD k.toNat 0) else (3, (n' : Int))) := Lib.hid (by unfold actI; rw [wkA_at hn, kdA_at hn])
  have K0 := fun w1 (hb : Below w.heap.size w w1) => tmay_any (some ⟨b2, o2, none⟩) (some ⟨b, off, none⟩) c cs n₀ T _ w1 (hT.below (hb.mono hn₀)) (hS.below (hb.mono hn₀)) (Nat.le_trans hn₀ hb.size) hs (by omega)
  rw [hlen, hm] at K0
  have KK := Lib.hid K0
  clear hT hS hs hm hlen hlast hl K0 hkd
  go_enter Tryz.func84, Tryz.ntmps84
  go_upto_region 1 with fail
  generalize w.alloc (.cells #[.int .i64 0, .int .i64 0] 88) = w1 at *
  go_wp2_with fail
  refine (KK.out w1 Z.out).mono ?_
  rintro _ w2 ⟨rfl, z2⟩
  have a2 := AB.out.below z2 AB.out.lt
  have A2 := Lib.hid a2
  have Z2 := Lib.hid (Z.out.trans (z2.mono Z.out.size))
  obtain ⟨c0, c1, f0, f1⟩ := a2.cells
  have s0 := (Z2.out.cell (p := ⟨b, off + m * 3, none⟩) hbw).trans s0
  have s1 := (Z2.out.cell (p := ⟨b, off + m * 3 + 1, none⟩) hbw).trans s1
  have s2 := (Z2.out.cell (p := ⟨b, off + m * 3 + 2, none⟩) hbw).trans s2
  have t0 := (Z2.out.cell (p := ⟨b2, o2 + n' * 2, none⟩) hbw2).trans t0
  have t1 := (Z2.out.cell (p := ⟨b2, o2 + n' * 2 + 1, none⟩) hbw2).trans t1
  have hg : w.heap.size < w2.heap.size := Nat.lt_of_lt_of_le AB.out.lt z2.size
  have hx : b < w2.heap.size := by omega
  have hx2 : b2 < w2.heap.size := by omega
  have hx3 : b < w2.heap.size + 1 := by omega
  have hx4 : b2 < w2.heap.size + 1 := by omega
  have hx5 : w.heap.size < w2.heap.size + 1 := by omega
  have i0 : ((m : Int) + 1 - 1) = (m : Int) := by omega
  have hz1 := hg
  have hz2 := Z2.out.size
  clear z2 a2
  by_cases h1 : d < T[n'].1
  · have E := Lib.hid (show actI T ((n' : Int), d, k) = (1, (n' : Int)) by rw [EA.out, if_pos h1])
    generalize T[n'].1 = W at *
    generalize hl2 : T[n'].2 = L at *
    have HL2 := Lib.hid hl2
    clear hl2
    go_wp2
    refine bodyPost_ret (results_act Tryz.results84 _ rfl (((A2.out.set 1 n').alloc _).alloc _)) rfl ?_
    exact ⟨by rw [E.out], (((Z2.out.setCell (p := ⟨w.heap.size, 0, none⟩) (Nat.le_refl _) _).setCell (p := ⟨w.heap.size, 1, none⟩) (Nat.le_refl _) _).alloc (by simpa using hz2) _).alloc (by simp; omega) _⟩
  · by_cases h2 : k < T[n'].2.length
    · obtain ⟨k', rfl⟩ := Int.eq_ofNat_of_zero_le hk0
      have hk2 : k' < T[n'].2.length := by omega
      obtain ⟨b3, o3, rfl, hb3, r0⟩ := HKD.out.at hk2
      have E := Lib.hid (show actI T ((n' : Int), d, (k' : Int)) = (2, T[n'].2[k']) by rw [EA.out, if_neg h1, if_pos h2, Int.toNat_natCast, List.getD_eq_getElem?_getD, List.getElem?_eq_getElem hk2]; rfl)
      have hbw3 : b3 < w.heap.size := by omega
      have r0 := (Z2.out.cell (p := ⟨b3, o3 + k', none⟩) hbw3).trans r0
      have hx6 : b3 < w2.heap.size := by omega
      have hx7 : b3 < w2.heap.size + 1 := by omega
      generalize T[n'].2[k'] = v at *
      generalize T[n'].1 = W at *
      generalize T[n'].2.length = L at *
      go_wp2
      refine bodyPost_ret (results_act Tryz.results84 _ rfl (((A2.out.set 2 v).alloc _).alloc _)) rfl ?_
      exact ⟨by rw [E.out], (((Z2.out.setCell (p := ⟨w.heap.size, 0, none⟩) (Nat.le_refl _) _).setCell (p := ⟨w.heap.size, 1, none⟩) (Nat.le_refl _) _).alloc (by simpa using hz2) _).alloc (by simp; omega) _⟩
    · have E := Lib.hid (show actI T ((n' : Int), d, k) = (3, (n' : Int)) by rw [EA.out, if_neg h1, if_neg h2])
      generalize T[n'].1 = W at *
      generalize T[n'].2.length = L at *
      go_wp2
      refine bodyPost_ret (results_act Tryz.results84 _ rfl (((A2.out.set 3 n').alloc _).alloc _)) rfl ?_
      exact ⟨by rw [E.out], (((Z2.out.setCell (p := ⟨w.heap.size, 0, none⟩) (Nat.le_refl _) _).setCell (p := ⟨w.heap.size, 1, none⟩) (Nat.le_refl _) _).alloc (by simpa using hz2) _).alloc (by simp; omega) _⟩
theorem tnext_any (A S : Option Addr) (c cs n₀ : Nat) (T : List Tsk) (s : List Itm) (w : World) (hT : Tk n₀ w A T) (hS : Ir n₀ w S s) (hn₀ : n₀ ≤ w.heap.size) (hs : Sm T) (hl : s.length ≤ 1000) : Tells 84 #[.slice A T.length c, .slice S s.length cs] w (av (nextS T s)) := by
  rcases Classical.em (s = []) with rfl | e
  · rw [nextS_nil]
    exact tnext_nil A S c cs _ w
  · obtain ⟨p, x, rfl⟩ := snoc_of e
    have e2 : (p ++ [x]).length = p.length + 1 := by simp
    cases hm : mayS T (p ++ [x])
    · rw [nextS_no hm, e2]
      exact tnext_no A S c cs n₀ p.length T _ w hT hS hn₀ hs hl hm e2
    · rw [nextS_snoc hm, e2]
      obtain ⟨n, e0, _⟩ := item_at hm
      obtain ⟨x0, x1, x2⟩ := x
      simp only at e0
      subst e0
      exact tnext_yes A S c cs n₀ p.length n T p x1 x2 w hT hS hn₀ hs rfl (by omega) hm
end Go.Proofs.YtlpkccpijloidaaGreat.Fo
