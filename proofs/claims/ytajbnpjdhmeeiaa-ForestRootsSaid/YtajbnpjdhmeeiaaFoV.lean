/- Contracts of Under, Same, Few, and of rows that are the same. -/
import Derived.Test.YtajbnpjdhmeeiaaFoN
namespace Go.Proofs.Ytajbnpjdhmeeiaa
open Go.RowKit Go.Deep

theorem under_any (A : Option Addr) (c n₀ : Nat) (T : List Tsk) (r : Int) (w : World) (hT : Tk n₀ w A T) (hn₀ : n₀ ≤ w.heap.size) (hs : Sm T) : Calls Try.prog 19 #[.slice A T.length c, .int .i64 r] w (RetL w (und T r)) := by
  unfold und
  by_cases h : may T = true ∧ 0 ≤ r ∧ r < T.length
  · rw [if_pos h]
    obtain ⟨q, rfl⟩ : ∃ q : Nat, r = q := ⟨r.toNat, by omega⟩
    have hq : q < T.length := by omega
    have hl := U1_len (may_parts h.1).2.2 hq
    unfold U1 at hl
    have hs1 := hs.1
    rw [Int.toNat_natCast]
    exact (callsIn_wide (n := 3)).1 (under_in 3 A c n₀ T q w hT hn₀ hs h.1 hq (by omega))
  · rw [if_neg h]
    exact under_no A c n₀ T r w hT hn₀ hs h

theorem take_more {α : Type} {l k : List α} {j : Nat} (hl : j < l.length) (hk : j < k.length) (h : l.take j = k.take j) (hx : l[j] = k[j]) : l.take (j + 1) = k.take (j + 1) := by
  rw [List.take_succ_eq_append_getElem hl, List.take_succ_eq_append_getElem hk, h, hx]
theorem differ {α : Type} [DecidableEq α] {l k : List α} {j : Nat} (hl : j < l.length) (hk : j < k.length) (hx : ¬ l[j] = k[j]) : decide (l = k) = false := by
  apply decide_eq_false
  rintro rfl
  exact hx rfl
theorem agree {α : Type} [DecidableEq α] {l k : List α} {j n : Nat} (hl : l.length = n) (hk : k.length = n) (hj : j ≤ n) (hn : ¬ j < n) (h : l.take j = k.take j) : decide (l = k) = true := by
  obtain rfl : j = n := by omega
  rw [List.take_of_length_le (by omega), List.take_of_length_le (by omega)] at h
  exact decide_eq_true h

set_option maxHeartbeats 400000 in
theorem equal_len (A B : Option Addr) (n c m d : Nat) (w : World) (hne : n ≠ m) : Tells 32 #[.slice A n c, .slice B m d] w (.bool false) := by
  go_enter Try.func32, Try.ntmps32
  go_wp2
  go_ret
  exact ⟨rfl, Below.refl _ _⟩
set_option maxHeartbeats 400000 in
theorem equal_eq (A B : Option Addr) (n c d n₀ : Nat) (l k : List Int) (w : World) (ha : RdB n₀ w A l) (hb : RdB n₀ w B k) (hn : l.length = n) (hm : k.length = n) (hs : n ≤ 1000) : Tells 32 #[.slice A n c, .slice B n d] w (.bool (decide (l = k))) := by
  have HA := Lib.hid ha
  have HB := Lib.hid hb
  have HN := Lib.hid hn
  have HM := Lib.hid hm
  clear ha hb hn hm
  go_enter Try.func32, Try.ntmps32
  go_wp2
  go_loopw [13] (fun i wr => ∃ j q : Nat, j ≤ n ∧ i = .int .i64 j ∧ l.take j = k.take j ∧ wr = w.drewN q) (fun i _ => n - (intOf i).toNat)
  case atStart => exact ⟨0, 0, Nat.zero_le _, rfl, by simp, rfl⟩
  case round =>
    obtain ⟨j, q, hj, rfl, heq, rfl⟩ := hrel
    have HE := Lib.hid heq
    clear heq
    by_cases hlt : j < n
    · obtain ⟨a1, o1, rfl, hal, hx⟩ := HA.out.at (i := j) (by rw [HN.out]; exact hlt)
      obtain ⟨a2, o2, rfl, hbl, hy⟩ := HB.out.at (i := j) (by rw [HM.out]; exact hlt)
      generalize hX : l[j]'(by rw [HN.out]; exact hlt) = x at hx
      generalize hY : k[j]'(by rw [HM.out]; exact hlt) = y at hy
      have HX := Lib.hid hX
      have HY := Lib.hid hY
      clear hX hY
      by_cases hxy : x = y
      · have hne : (x != y) = false := by simp [hxy]
        have HXY := Lib.hid hxy
        clear hxy
        go_wp2
        go_region
        go_wp2
        go_roundw
        case rel => exact ⟨j + 1, q + 1, by omega, by go_num, take_more (by rw [HN.out]; exact hlt) (by rw [HM.out]; exact hlt) HE.out (by rw [HX.out, HY.out, HXY.out]), rfl⟩
        case measure => simp [intOf]; omega
      · have hne : (x != y) = true := by simp [hxy]
        have HXY := Lib.hid hxy
        clear hxy
        go_wp2
        go_region
        go_wp2
        go_ret
        exact ⟨by rw [differ (j := j) (by rw [HN.out]; exact hlt) (by rw [HM.out]; exact hlt) (by rw [HX.out, HY.out]; exact HXY.out)]; rfl, below_drewN _ _⟩
    · go_wp2
      go_ret
      exact ⟨by rw [agree HN.out HM.out hj hlt HE.out]; rfl, below_drewN _ _⟩
theorem equal_any (A B : Option Addr) (c d n₀ : Nat) (l k : List Int) (w : World) (ha : RdB n₀ w A l) (hb : RdB n₀ w B k) (hs : l.length ≤ 1000) : Tells 32 #[.slice A l.length c, .slice B k.length d] w (.bool (decide (l = k))) := by
  by_cases h : k.length = l.length
  · rw [h]
    exact equal_eq A B l.length c d n₀ l k w ha hb rfl h hs
  · have e : decide (l = k) = false := decide_eq_false (by rintro rfl; exact h rfl)
    rw [e]
    exact equal_len A B _ c _ d w (fun e => h e.symm)

/-- A call that yields a value and only draws. -/
abbrev Quiets (f : FuncId) (args : Array Value) (w : World) (v : Value) : Prop := Calls Try.prog f args w fun e w' => e = .returned v ∧ ∃ q, w' = w.drewN q
theorem Quiets.of {f : FuncId} {args : Array Value} {w : World} {v v' : Value} (h : Quiets f args w v) (e : v = v') : Quiets f args w v' := by rw [← e]; exact h
set_option maxHeartbeats 400000 in
theorem ints_len (A B : Option Addr) (n c m d : Nat) (w : World) (hne : n ≠ m) : Quiets 16 #[.slice A n c, .slice B m d] w (.bool false) := by
  go_enter Try.func16, Try.ntmps16
  go_wp2
  go_ret
  exact ⟨rfl, 0, rfl⟩
set_option maxHeartbeats 400000 in
theorem ints_eq (A B : Option Addr) (n c d n₀ : Nat) (l k : List Int) (w : World) (ha : RdB n₀ w A l) (hb : RdB n₀ w B k) (hn : l.length = n) (hm : k.length = n) (hs : n ≤ 1000) : Quiets 16 #[.slice A n c, .slice B n d] w (.bool (decide (l = k))) := by
  have HA := Lib.hid ha
  have HB := Lib.hid hb
  have HN := Lib.hid hn
  have HM := Lib.hid hm
  clear ha hb hn hm
  go_enter Try.func16, Try.ntmps16
  go_wp2
  go_loopw [5] (fun i wr => ∃ j q : Nat, j ≤ n ∧ i = .int .i64 j ∧ l.take j = k.take j ∧ wr = w.drewN q) (fun i _ => n - (intOf i).toNat)
  case atStart => exact ⟨0, 0, Nat.zero_le _, rfl, by simp, rfl⟩
  case round =>
    obtain ⟨j, q, hj, rfl, heq, rfl⟩ := hrel
    have HE := Lib.hid heq
    clear heq
    by_cases hlt : j < n
    · obtain ⟨a1, o1, rfl, hal, hx⟩ := HA.out.at (i := j) (by rw [HN.out]; exact hlt)
      obtain ⟨a2, o2, rfl, hbl, hy⟩ := HB.out.at (i := j) (by rw [HM.out]; exact hlt)
      generalize hX : l[j]'(by rw [HN.out]; exact hlt) = x at hx
      generalize hY : k[j]'(by rw [HM.out]; exact hlt) = y at hy
      have HX := Lib.hid hX
      have HY := Lib.hid hY
      clear hX hY
      by_cases hxy : x = y
      · have hne : (x != y) = false := by simp [hxy]
        have HXY := Lib.hid hxy
        clear hxy
        go_wp2
        go_region
        go_wp2
        go_roundw
        case rel => exact ⟨j + 1, q + 1, by omega, by go_num, take_more (by rw [HN.out]; exact hlt) (by rw [HM.out]; exact hlt) HE.out (by rw [HX.out, HY.out, HXY.out]), rfl⟩
        case measure => simp [intOf]; omega
      · have hne : (x != y) = true := by simp [hxy]
        have HXY := Lib.hid hxy
        clear hxy
        go_wp2
        go_region
        go_wp2
        go_ret
        exact ⟨by rw [differ (j := j) (by rw [HN.out]; exact hlt) (by rw [HM.out]; exact hlt) (by rw [HX.out, HY.out]; exact HXY.out)]; rfl, _, rfl⟩
    · go_wp2
      go_ret
      exact ⟨by rw [agree HN.out HM.out hj hlt HE.out]; rfl, _, rfl⟩
theorem ints_q (A B : Option Addr) (c d n₀ : Nat) (l k : List Int) (w : World) (ha : RdB n₀ w A l) (hb : RdB n₀ w B k) (hs : l.length ≤ 1000) : Quiets 16 #[.slice A l.length c, .slice B k.length d] w (.bool (decide (l = k))) := by
  by_cases h : k.length = l.length
  · rw [h]
    exact ints_eq A B l.length c d n₀ l k w ha hb rfl h hs
  · have e : decide (l = k) = false := decide_eq_false (by rintro rfl; exact h rfl)
    rw [e]
    exact ints_len A B _ c _ d w (fun e => h e.symm)

theorem ints_any (A B : Option Addr) (c d n₀ : Nat) (l k : List Int) (w : World) (ha : RdB n₀ w A l) (hb : RdB n₀ w B k) (hs : l.length ≤ 1000) : Tells 16 #[.slice A l.length c, .slice B k.length d] w (.bool (decide (l = k))) :=
  (ints_q A B c d n₀ l k w ha hb hs).mono fun _ _ ⟨e, _, hq⟩ => ⟨e, hq ▸ below_drewN _ _⟩
theorem same1_any (A B : Option Addr) (c d n₀ : Nat) (a b : Int) (l k : List Int) (w : World) (ha : RdB n₀ w A l) (hb : RdB n₀ w B k) (hn₀ : n₀ ≤ w.heap.size) (hs : l.length ≤ 1000) :
    Tells 31 #[.agg #[.int .i64 a, .slice A l.length c], .agg #[.int .i64 b, .slice B k.length d]] w (.bool (decide ((a, l) = (b, k)))) := by
  have HA := Lib.hid ha
  have HB := Lib.hid hb
  have Z := Lib.hid (((Below.refl w.heap.size w).alloc (Nat.le_refl _) (.cells #[.int .i64 a, .slice A l.length c] 36)).alloc (by simp) (.cells #[.int .i64 b, .slice B k.length d] 36))
  clear ha hb
  by_cases h : a = b
  · subst h
    have e : decide ((a, l) = (a, k)) = decide (l = k) := by simp
    rw [e]
    clear e
    go_enter Try.func31, Try.ntmps31
    go_wp2_with fail
    refine (equal_any A B c d n₀ l k _ (HA.out.below (Z.out.mono hn₀)) (HB.out.below (Z.out.mono hn₀)) hs).mono ?_
    rintro _ w1 ⟨rfl, z1⟩
    replace Z := Lib.hid (Z.out.trans (z1.mono Z.out.size))
    clear z1
    go_wp2
    go_ret
    exact ⟨rfl, Z.out⟩
  · have e : decide ((a, l) = (b, k)) = false := by simp [h]
    have h' : (a == b) = false := by simpa using h
    rw [e]
    clear e h
    go_enter Try.func31, Try.ntmps31
    go_wp2
    go_ret
    exact ⟨rfl, Z.out⟩
theorem eqfunc_len (A B : Option Addr) (n c m d : Nat) (f : Value) (w : World) (hne : n ≠ m) : Tells 30 #[.slice A n c, .slice B m d, f] w (.bool false) := by
  go_enter Try.func30, Try.ntmps30
  go_wp2
  go_ret
  exact ⟨rfl, Below.refl _ _⟩
set_option maxHeartbeats 800000 in
theorem eqfunc_eq (A B : Option Addr) (n c d n₀ : Nat) (T V : List Tsk) (w : World) (ha : Tk n₀ w A T) (hb : Tk n₀ w B V) (hn₀ : n₀ ≤ w.heap.size) (hn : T.length = n) (hm : V.length = n) (hs : Sm T) :
    Tells 30 #[.slice A n c, .slice B n d, .func (.func 31) #[] #[]] w (.bool (decide (T = V))) := by
  have HA := Lib.hid ha
  have HB := Lib.hid hb
  have HN := Lib.hid hn
  have HM := Lib.hid hm
  have HS := Lib.hid hs
  have hs1 : n ≤ 1000 := by rw [← hn]; exact hs.1
  clear ha hb hn hm hs
  go_enter Try.func30, Try.ntmps30
  go_wp2
  go_loopw [17] (fun i wr => ∃ j : Nat, j ≤ n ∧ i = .int .i64 j ∧ T.take j = V.take j ∧ Below w.heap.size w wr) (fun i _ => n - (intOf i).toNat)
  case atStart => exact ⟨0, Nat.zero_le _, rfl, by simp, Below.refl _ _⟩
  case round =>
    obtain ⟨j, hj, rfl, heq, hw⟩ := hrel
    have HE := Lib.hid heq
    have HW := Lib.hid hw
    clear heq hw
    by_cases hlt : j < n
    · have h1 : j < T.length := by rw [HN.out]; exact hlt
      have h2 : j < V.length := by rw [HM.out]; exact hlt
      obtain ⟨b1, o1, K1, c1, rfl, l1, x1, y1, r1⟩ := (HA.out.below (HW.out.mono hn₀)).at h1
      obtain ⟨b2, o2, K2, c2, rfl, l2, x2, y2, r2⟩ := (HB.out.below (HW.out.mono hn₀)).at h2
      have hk := HS.out.at h1
      have Z := Lib.hid ((HW.out.alloc HW.out.size (.cells #[.int .i64 T[j].1, .slice K1 T[j].2.length c1] 36)).alloc (by have := HW.out.size; simp; omega) (.cells #[.int .i64 V[j].1, .slice K2 V[j].2.length c2] 36))
      have R1 := Lib.hid (r1.below (((Below.refl n₀ wr).alloc (by have := HW.out.size; omega) (.cells #[.int .i64 T[j].1, .slice K1 T[j].2.length c1] 36)).alloc (by have := HW.out.size; simp; omega) (.cells #[.int .i64 V[j].1, .slice K2 V[j].2.length c2] 36)))
      have R2 := Lib.hid (r2.below (((Below.refl n₀ wr).alloc (by have := HW.out.size; omega) (.cells #[.int .i64 T[j].1, .slice K1 T[j].2.length c1] 36)).alloc (by have := HW.out.size; simp; omega) (.cells #[.int .i64 V[j].1, .slice K2 V[j].2.length c2] 36)))
      have x2' := x2
      have y2' := y2
      have hb2 : b2 < wr.heap.size := by have := HW.out.size; omega
      clear r1 r2
      by_cases hxy : T[j] = V[j]
      · have E := Lib.hid hxy
        clear hxy
        go_wp2_with fail
        refine (Tells.of (same1_any K1 K2 c1 c2 n₀ _ _ _ _ _ R1.out R2.out (Nat.le_trans hn₀ Z.out.size) hk) (v' := .bool true) (by rw [decide_eq_true (show (T[j].1, T[j].2) = (V[j].1, V[j].2) by rw [E.out])])).mono ?_
        rintro _ w3 ⟨rfl, z3⟩
        replace Z := Lib.hid (Z.out.trans (z3.mono Z.out.size))
        clear z3
        go_wp2
        go_roundw
        case rel => exact ⟨j + 1, by omega, by go_num, take_more h1 h2 HE.out E.out, Z.out⟩
        case measure => simp [intOf]; omega
      · have E := Lib.hid hxy
        clear hxy
        go_wp2_with fail
        refine (Tells.of (same1_any K1 K2 c1 c2 n₀ _ _ _ _ _ R1.out R2.out (Nat.le_trans hn₀ Z.out.size) hk) (v' := .bool false) (by rw [decide_eq_false (show ¬ (T[j].1, T[j].2) = (V[j].1, V[j].2) from E.out)])).mono ?_
        rintro _ w3 ⟨rfl, z3⟩
        replace Z := Lib.hid (Z.out.trans (z3.mono Z.out.size))
        clear z3
        go_wp2
        go_ret
        exact ⟨by rw [differ h1 h2 E.out]; rfl, Z.out⟩
    · go_wp2
      go_ret
      exact ⟨by rw [agree HN.out HM.out hj hlt HE.out]; rfl, HW.out⟩
theorem same_any (A B : Option Addr) (c d n₀ : Nat) (T V : List Tsk) (w : World) (ha : Tk n₀ w A T) (hb : Tk n₀ w B V) (hn₀ : n₀ ≤ w.heap.size) (hs : Sm T) : Tells 22 #[.slice A T.length c, .slice B V.length d] w (.bool (decide (T = V))) := by
  have HA := Lib.hid ha
  have HB := Lib.hid hb
  have HS := Lib.hid hs
  clear ha hb hs
  have key : Tells 30 #[.slice A T.length c, .slice B V.length d, .func (.func 31) #[] #[]] w (.bool (decide (T = V))) := by
    by_cases h : V.length = T.length
    · rw [h]
      exact eqfunc_eq A B T.length c d n₀ T V w HA.out HB.out hn₀ rfl h HS.out
    · have e : decide (T = V) = false := decide_eq_false (by rintro rfl; exact h rfl)
      rw [e]
      exact eqfunc_len A B _ c _ d _ w (fun e => h e.symm)
  have KEY := Lib.hid key
  clear key
  go_enter Try.func22, Try.ntmps22
  go_wp2_with fail
  refine KEY.out.mono ?_
  rintro _ w1 ⟨rfl, z1⟩
  go_wp2
  go_ret
  exact ⟨rfl, z1⟩
theorem few_sm {T : List Tsk} (h : few T = true) : Sm T := by
  unfold few at h
  simp only [Bool.and_eq_true, decide_eq_true_eq, List.all_eq_true] at h
  exact ⟨by omega, fun x hx => by have := h.2 x hx; omega⟩
theorem few_no {T : List Tsk} {j : Nat} (h : j < T.length) (hx : 40 < T[j].2.length) : few T = false := by
  cases e : few T
  · rfl
  · unfold few at e
    simp only [Bool.and_eq_true, decide_eq_true_eq, List.all_eq_true] at e
    have := e.2 _ (List.getElem_mem h)
    omega
theorem few_yes {T : List Tsk} (hl : T.length ≤ 40) (h : ∀ j, (hj : j < T.length) → T[j].2.length ≤ 40) : few T = true := by
  unfold few
  simp only [Bool.and_eq_true, decide_eq_true_eq, List.all_eq_true]
  refine ⟨hl, fun x hx => ?_⟩
  obtain ⟨j, hj, rfl⟩ := List.getElem_of_mem hx
  exact h j hj
theorem few_len {T : List Tsk} (hl : 40 < T.length) : few T = false := by
  unfold few
  rw [decide_eq_false (by omega)]; rfl
set_option maxHeartbeats 400000 in
theorem few_any (A : Option Addr) (c n₀ : Nat) (T : List Tsk) (w : World) (hT : Tk n₀ w A T) (hl : T.length ≤ maxLen) (hk : ∀ x ∈ T, x.2.length ≤ maxLen) : Gives 11 #[.slice A T.length c] w (.bool (few T)) := by
  have HT := Lib.hid hT
  have HK := Lib.hid hk
  clear hT hk
  unfold maxLen at hl
  go_enter Try.func11, Try.ntmps11
  go_wp2
  go_loop [3] (fun i => ∃ j : Nat, j ≤ 41 ∧ j ≤ T.length ∧ i = .int .i64 j ∧ ∀ i, (hi : i < T.length) → i < j → T[i].2.length ≤ 40) (fun i => 41 - (intOf i).toNat)
  case atStart => exact ⟨0, by omega, by omega, rfl, fun i hi h => by omega⟩
  case round =>
    obtain ⟨j, hj, hjl, rfl, hall⟩ := hrel
    have HA := Lib.hid hall
    clear hall
    by_cases hlt : j < T.length
    · have hlt' : decide (j < T.length) = true := decide_eq_true hlt
      by_cases h4 : j ≤ 40
      · obtain ⟨b, off, K, c', rfl, hal, c0, c1, _⟩ := HT.out.at hlt
        have hm := HK.out _ (List.getElem_mem hlt)
        unfold maxLen at hm
        by_cases hx : T[j].2.length ≤ 40
        · go_wp2
          go_round
          case rel => exact ⟨j + 1, by omega, by omega, by go_num, fun i hi h => by
            by_cases e : i = j
            · subst e; exact hx
            · exact HA.out i hi (by omega)⟩
          case measure => simp [intOf]; omega
        · have E := Lib.hid (few_no hlt (by omega))
          go_wp2
          go_ret
          exact ⟨by rw [E.out]; rfl, rfl⟩
      · have E := Lib.hid (few_len (T := T) (by omega))
        go_wp2
        go_ret
        exact ⟨by rw [E.out]; show Ending.returned (.bool (decide ((T.length : Int) ≤ 40))) = _; rw [decide_eq_false (by omega)], rfl⟩
    · by_cases h4 : T.length ≤ 40
      · have E := Lib.hid (few_yes h4 (fun i hi => HA.out i hi (by omega)))
        go_wp2
        go_ret
        exact ⟨by rw [E.out]; show Ending.returned (.bool (decide ((T.length : Int) ≤ 40))) = _; rw [decide_eq_true (by omega)], rfl⟩
      · have E := Lib.hid (few_len (T := T) (by omega))
        go_wp2
        go_ret
        exact ⟨by rw [E.out]; show Ending.returned (.bool (decide ((T.length : Int) ≤ 40))) = _; rw [decide_eq_false (by omega)], rfl⟩
end Go.Proofs.Ytajbnpjdhmeeiaa
