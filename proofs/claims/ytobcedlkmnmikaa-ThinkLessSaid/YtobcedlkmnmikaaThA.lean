/- Contracts of think's small functions: isTask, itemMayBe, May. -/
import Derived.Test.YtobcedlkmnmikaaItA
import Derived.Test.YtobcedlkmnmikaaFoD
namespace Go.Proofs.Ytobcedlkmnmikaa.Fo
open Go.RowKit Go.Deep
set_option maxRecDepth 100000 in
theorem wkA_at {T : List Tsk} {n : Nat} (h : n < T.length) : wkA T (n : Int) = T[n].1 := by
  unfold wkA; rw [Int.toNat_natCast, List.getD_eq_getElem?_getD, List.getElem?_eq_getElem h]; rfl
set_option maxRecDepth 100000 in
theorem kdA_at {T : List Tsk} {n : Nat} (h : n < T.length) : kdA T (n : Int) = T[n].2 := by
  unfold kdA; rw [Int.toNat_natCast, List.getD_eq_getElem?_getD, List.getElem?_eq_getElem h]; rfl
set_option maxRecDepth 100000 in
theorem istask_any (A : Option Addr) (c n : Nat) (k : Int) (w : World) : Gives 28 #[.slice A n c, .int .i64 k] w (.bool (decide (0 ≤ k) && decide (k < (n : Int)))) := by
  by_cases h : 0 ≤ k
  · rw [decide_eq_true h, Bool.true_and]
    go_enter Try.func28, Try.ntmps28
    go_wp2
    go_ret
    exact ⟨rfl, rfl⟩
  · rw [decide_eq_false h, Bool.false_and]
    have h' : decide (0 ≤ k) = false := decide_eq_false h
    go_enter Try.func28, Try.ntmps28
    go_wp2
    go_ret
    exact ⟨rfl, rfl⟩
set_option maxRecDepth 100000 in
theorem okI_out {T : List Tsk} {x : Itm} (h : (decide (0 ≤ x.1) && decide (x.1 < T.length)) = false) : okI T x = false := by
  unfold okI; rw [h]; rfl
set_option maxRecDepth 100000 in
theorem okI_at {T : List Tsk} {n : Nat} {d k : Int} (h : n < T.length) : okI T ((n : Int), d, k) = ((decide (0 ≤ d) && decide (d ≤ T[n].1)) && (decide (0 ≤ k) && decide (k ≤ T[n].2.length)) && (decide (k = 0) || decide (T[n].1 ≤ d))) := by
  unfold okI
  simp only [wkA_at h, kdA_at h]
  rw [decide_eq_true (show (0 : Int) ≤ (n : Int) by omega), decide_eq_true (show (n : Int) < (T.length : Int) by omega)]
  simp
set_option maxHeartbeats 1000000 in
set_option maxRecDepth 100000 in
theorem itemmay_any (A : Option Addr) (c n₀ : Nat) (T : List Tsk) (x : Itm) (w : World) (hT : Tk n₀ w A T) (hn₀ : n₀ ≤ w.heap.size) (hs : Sm T) : Tells 32 #[.slice A T.length c, iv x] w (.bool (okI T x)) := by
  obtain ⟨m, d, k⟩ := x
  have Z := Lib.hid ((Below.refl w.heap.size w).alloc (Nat.le_refl _) (.cells #[.int .i64 m, .int .i64 d, .int .i64 k] 40))
  cases hin : (decide (0 ≤ m) && decide (m < (T.length : Int)))
  · have E := Lib.hid (okI_out (x := (m, d, k)) hin)
    have HI := Lib.hid hin
    clear hin hT hs
    go_enter Try.func32, Try.ntmps32
    go_wp2_with (go_at_call 28; refine (istask_any A c T.length m _).mono ?_; rintro _ w1 ⟨rfl, e1⟩; rw [e1, HI.out]; clear e1 w1)
    go_ret
    exact ⟨by rw [E.out]; rfl, Z.out⟩
  · have hm := hin
    rw [Bool.and_eq_true, decide_eq_true_eq, decide_eq_true_eq] at hm
    obtain ⟨n, rfl⟩ := Int.eq_ofNat_of_zero_le hm.1
    have hn : n < T.length := by omega
    have HI := Lib.hid hin
    obtain ⟨b, off, K, c', rfl, hal, c0, c1, _⟩ := hT.at hn
    have hk := hs.at hn
    have hbw : b < w.heap.size := by omega
    rw [okI_at hn]
    have Z2 := Lib.hid (Z.out.alloc Z.out.size (.cells #[.int .i64 T[n].1, .slice K T[n].2.length c'] 37))
    clear hin hT hs hm
    generalize T[n].1 = W at *
    generalize T[n].2.length = L at *
    by_cases h1 : 0 ≤ d
    · by_cases h2 : d ≤ W
      · by_cases h3 : 0 ≤ k
        · by_cases h4 : k ≤ (L : Int)
          · have E := Lib.hid (show (decide (0 ≤ d) && decide (d ≤ W) && (decide (0 ≤ k) && decide (k ≤ (L : Int))) && (decide (k = 0) || decide (W ≤ d))) = (decide (k = 0) || decide (W ≤ d)) by simp [h1, h2, h3, h4])
            by_cases h5 : d = W
            · have E2 := Lib.hid (show (decide (k = 0) || decide (W ≤ d)) = true by subst h5; simp)
              have h5' : decide (d = W) = true := decide_eq_true h5
              have h1' : decide (d < 0) = false := decide_eq_false (by omega)
              have h2' : decide (W < d) = false := decide_eq_false (by omega)
              have h3' : decide (k < 0) = false := decide_eq_false (by omega)
              have h4' : decide ((L : Int) < k) = false := decide_eq_false (by omega)
              subst h5
              go_enter Try.func32, Try.ntmps32
              go_wp2_with (go_at_call 28; refine (istask_any _ c T.length n _).mono ?_; rintro _ w1 ⟨rfl, e1⟩; rw [e1, HI.out]; clear e1 w1)
              go_ret
              exact ⟨by rw [E.out, E2.out]; rfl, Z2.out⟩
            · have h6 : d < W := by omega
              have E2 := Lib.hid (show (decide (k = 0) || decide (W ≤ d)) = (k == 0) by rw [decide_eq_false (show ¬ W ≤ d by omega), Bool.or_false]; rfl)
              have h5' : (d == W) = false := by simpa using h5
              clear h5
              go_enter Try.func32, Try.ntmps32
              go_wp2_with (go_at_call 28; refine (istask_any _ c T.length n _).mono ?_; rintro _ w1 ⟨rfl, e1⟩; rw [e1, HI.out]; clear e1 w1)
              go_ret
              exact ⟨by rw [E.out, E2.out]; rfl, Z2.out⟩
          · have E := Lib.hid (show (decide (0 ≤ d) && decide (d ≤ W) && (decide (0 ≤ k) && decide (k ≤ (L : Int))) && (decide (k = 0) || decide (W ≤ d))) = false by simp [h4])
            have h4' : (L : Int) < k := by omega
            clear h4
            go_enter Try.func32, Try.ntmps32
            go_wp2_with (go_at_call 28; refine (istask_any _ c T.length n _).mono ?_; rintro _ w1 ⟨rfl, e1⟩; rw [e1, HI.out]; clear e1 w1)
            go_ret
            exact ⟨by rw [E.out]; rfl, Z2.out⟩
        · have E := Lib.hid (show (decide (0 ≤ d) && decide (d ≤ W) && (decide (0 ≤ k) && decide (k ≤ (L : Int))) && (decide (k = 0) || decide (W ≤ d))) = false by simp [h3])
          have h3' : k < 0 := by omega
          clear h3
          go_enter Try.func32, Try.ntmps32
          go_wp2_with (go_at_call 28; refine (istask_any _ c T.length n _).mono ?_; rintro _ w1 ⟨rfl, e1⟩; rw [e1, HI.out]; clear e1 w1)
          go_ret
          exact ⟨by rw [E.out]; rfl, Z2.out⟩
      · have E := Lib.hid (show (decide (0 ≤ d) && decide (d ≤ W) && (decide (0 ≤ k) && decide (k ≤ (L : Int))) && (decide (k = 0) || decide (W ≤ d))) = false by simp [h2])
        have h2' : W < d := by omega
        clear h2
        go_enter Try.func32, Try.ntmps32
        go_wp2_with (go_at_call 28; refine (istask_any _ c T.length n _).mono ?_; rintro _ w1 ⟨rfl, e1⟩; rw [e1, HI.out]; clear e1 w1)
        go_ret
        exact ⟨by rw [E.out]; rfl, Z2.out⟩
    · have E := Lib.hid (show (decide (0 ≤ d) && decide (d ≤ W) && (decide (0 ≤ k) && decide (k ≤ (L : Int))) && (decide (k = 0) || decide (W ≤ d))) = false by simp [h1])
      have h1' : d < 0 := by omega
      clear h1
      go_enter Try.func32, Try.ntmps32
      go_wp2_with (go_at_call 28; refine (istask_any _ c T.length n _).mono ?_; rintro _ w1 ⟨rfl, e1⟩; rw [e1, HI.out]; clear e1 w1)
      go_ret
      exact ⟨by rw [E.out]; rfl, Z2.out⟩
end Go.Proofs.Ytobcedlkmnmikaa.Fo
