/- The walk of DrawFairer. -/
import Derived.Test.YtnabomdadhgeeaaDrO
namespace Go.Proofs.Ytnabomdadhgeeaa
open Go.RowKit Go.Deep
theorem fairN_more {l : List Pk} {m q f : Nat} (hf : 1 ≤ f) (h : fairN l m q f = true) : fairN l m q (f + 1) = true := by
  refine (fairN_iff (by omega)).2 (fun i hi => okAt_iff.2 (fun k hk => ?_))
  obtain ⟨j, h1, h2, h3⟩ := (seen_iff hk).1 (okAt_iff.1 ((fairN_iff hf).1 h i (by omega)) k hk)
  exact (seen_iff hk).2 ⟨j, h1, by omega, h3⟩
theorem fairN_part {l : List Pk} {m q f : Nat} (hf : 1 ≤ f) (h : fairN l m q f = true) (i n : Nat) : fairN ((l.drop i).take n) m q f = true := by
  refine (fairN_iff hf).2 (fun j hj => ?_)
  simp only [List.length_take, List.length_drop] at hj
  have h2 := (fairN_iff hf).1 h (i + j) (by omega)
  unfold okAt at h2 ⊢
  have e : (((l.drop i).take n).drop j).take f = (l.drop (i + j)).take f := by
    rw [List.drop_take, List.take_take, List.drop_drop, Nat.min_eq_left (by omega)]
  rw [e]; exact h2
theorem fairN_nobody (l : List Pk) (f : Nat) (hf : 1 ≤ f) : fairN l 0 0 f = true := (fairN_iff hf).2 (fun i _ => okAt_iff.2 (fun k hk => by omega))
theorem fairN_nil (m q f : Nat) (hf : 1 ≤ f) : fairN [] m q f = true := (fairN_iff hf).2 (fun i h => by simp at h; omega)
theorem fairer_many (A : Option Addr) (c : Nat) (l : List Pk) (nw ns f i k : Int) (w : World)  (h0 : 60 < (l.length : Int)) : Tells 7 #[.slice A l.length c, .int .i64 nw, .int .i64 ns, .int .i64 f, .int .i64 i, .int .i64 k] w (.bool true) := by
  have d0 : decide (60 < (l.length : Int)) = true := decide_eq_true h0
  go_enter Try.func7, Try.ntmps7
  go_wp2_with fail
  refine (awake_any _).mono ?_
  rintro _ w1 ⟨rfl, z1⟩
  have Z := Lib.hid z1
  clear z1
  go_wp2
  go_ret
  exact ⟨rfl, Z.out⟩
theorem fairer_flo (A : Option Addr) (c : Nat) (l : List Pk) (nw ns f i k : Int) (w : World) (h0 : ¬ 60 < (l.length : Int)) (h1 : f < 1) : Tells 7 #[.slice A l.length c, .int .i64 nw, .int .i64 ns, .int .i64 f, .int .i64 i, .int .i64 k] w (.bool true) := by
  have d0 : decide (60 < (l.length : Int)) = false := decide_eq_false h0
  have d1 : decide (f < 1) = true := decide_eq_true h1
  go_enter Try.func7, Try.ntmps7
  go_wp2_with fail
  refine (awake_any _).mono ?_
  rintro _ w1 ⟨rfl, z1⟩
  have Z := Lib.hid z1
  clear z1
  go_wp2
  go_ret
  exact ⟨rfl, Z.out⟩
theorem fairer_fhi (A : Option Addr) (c : Nat) (l : List Pk) (nw ns f i k : Int) (w : World) (h0 : ¬ 60 < (l.length : Int)) (h1 : ¬ f < 1) (h2 : 100 < f) : Tells 7 #[.slice A l.length c, .int .i64 nw, .int .i64 ns, .int .i64 f, .int .i64 i, .int .i64 k] w (.bool true) := by
  have d0 : decide (60 < (l.length : Int)) = false := decide_eq_false h0
  have d1 : decide (f < 1) = false := decide_eq_false h1
  have d2 : decide (100 < f) = true := decide_eq_true h2
  go_enter Try.func7, Try.ntmps7
  go_wp2_with fail
  refine (awake_any _).mono ?_
  rintro _ w1 ⟨rfl, z1⟩
  have Z := Lib.hid z1
  clear z1
  go_wp2
  go_ret
  exact ⟨rfl, Z.out⟩
theorem fairer_ilo (A : Option Addr) (c : Nat) (l : List Pk) (nw ns f i k : Int) (w : World) (h0 : ¬ 60 < (l.length : Int)) (h1 : ¬ f < 1) (h2 : ¬ 100 < f) (h3 : i < 0) : Tells 7 #[.slice A l.length c, .int .i64 nw, .int .i64 ns, .int .i64 f, .int .i64 i, .int .i64 k] w (.bool true) := by
  have d0 : decide (60 < (l.length : Int)) = false := decide_eq_false h0
  have d1 : decide (f < 1) = false := decide_eq_false h1
  have d2 : decide (100 < f) = false := decide_eq_false h2
  have d3 : decide (i < 0) = true := decide_eq_true h3
  go_enter Try.func7, Try.ntmps7
  go_wp2_with fail
  refine (awake_any _).mono ?_
  rintro _ w1 ⟨rfl, z1⟩
  have Z := Lib.hid z1
  clear z1
  go_wp2
  go_ret
  exact ⟨rfl, Z.out⟩
theorem fairer_klo (A : Option Addr) (c : Nat) (l : List Pk) (nw ns f i k : Int) (w : World) (h0 : ¬ 60 < (l.length : Int)) (h1 : ¬ f < 1) (h2 : ¬ 100 < f) (h3 : ¬ i < 0) (h4 : k < i) : Tells 7 #[.slice A l.length c, .int .i64 nw, .int .i64 ns, .int .i64 f, .int .i64 i, .int .i64 k] w (.bool true) := by
  have d0 : decide (60 < (l.length : Int)) = false := decide_eq_false h0
  have d1 : decide (f < 1) = false := decide_eq_false h1
  have d2 : decide (100 < f) = false := decide_eq_false h2
  have d3 : decide (i < 0) = false := decide_eq_false h3
  have d4 : decide (k < i) = true := decide_eq_true h4
  go_enter Try.func7, Try.ntmps7
  go_wp2_with fail
  refine (awake_any _).mono ?_
  rintro _ w1 ⟨rfl, z1⟩
  have Z := Lib.hid z1
  clear z1
  go_wp2
  go_ret
  exact ⟨rfl, Z.out⟩
theorem fairer_khi (A : Option Addr) (c : Nat) (l : List Pk) (nw ns f i k : Int) (w : World) (h0 : ¬ 60 < (l.length : Int)) (h1 : ¬ f < 1) (h2 : ¬ 100 < f) (h3 : ¬ i < 0) (h4 : ¬ k < i) (h5 : (l.length : Int) < k) : Tells 7 #[.slice A l.length c, .int .i64 nw, .int .i64 ns, .int .i64 f, .int .i64 i, .int .i64 k] w (.bool true) := by
  have d0 : decide (60 < (l.length : Int)) = false := decide_eq_false h0
  have d1 : decide (f < 1) = false := decide_eq_false h1
  have d2 : decide (100 < f) = false := decide_eq_false h2
  have d3 : decide (i < 0) = false := decide_eq_false h3
  have d4 : decide (k < i) = false := decide_eq_false h4
  have d5 : decide ((l.length : Int) < k) = true := decide_eq_true h5
  go_enter Try.func7, Try.ntmps7
  go_wp2_with fail
  refine (awake_any _).mono ?_
  rintro _ w1 ⟨rfl, z1⟩
  have Z := Lib.hid z1
  clear z1
  go_wp2
  go_ret
  exact ⟨rfl, Z.out⟩
theorem fairer_wlo (A : Option Addr) (c : Nat) (l : List Pk) (nw ns f i k : Int) (w : World) (h0 : ¬ 60 < (l.length : Int)) (h1 : ¬ f < 1) (h2 : ¬ 100 < f) (h3 : ¬ i < 0) (h4 : ¬ k < i) (h5 : ¬ (l.length : Int) < k) (h6 : nw < 0) : Tells 7 #[.slice A l.length c, .int .i64 nw, .int .i64 ns, .int .i64 f, .int .i64 i, .int .i64 k] w (.bool true) := by
  have d0 : decide (60 < (l.length : Int)) = false := decide_eq_false h0
  have d1 : decide (f < 1) = false := decide_eq_false h1
  have d2 : decide (100 < f) = false := decide_eq_false h2
  have d3 : decide (i < 0) = false := decide_eq_false h3
  have d4 : decide (k < i) = false := decide_eq_false h4
  have d5 : decide ((l.length : Int) < k) = false := decide_eq_false h5
  have d6 : decide (nw < 0) = true := decide_eq_true h6
  go_enter Try.func7, Try.ntmps7
  go_wp2_with fail
  refine (awake_any _).mono ?_
  rintro _ w1 ⟨rfl, z1⟩
  have Z := Lib.hid z1
  clear z1
  go_wp2
  go_ret
  exact ⟨rfl, Z.out⟩
theorem fairer_whi (A : Option Addr) (c : Nat) (l : List Pk) (nw ns f i k : Int) (w : World) (h0 : ¬ 60 < (l.length : Int)) (h1 : ¬ f < 1) (h2 : ¬ 100 < f) (h3 : ¬ i < 0) (h4 : ¬ k < i) (h5 : ¬ (l.length : Int) < k) (h6 : ¬ nw < 0) (h7 : 20 < nw) : Tells 7 #[.slice A l.length c, .int .i64 nw, .int .i64 ns, .int .i64 f, .int .i64 i, .int .i64 k] w (.bool true) := by
  have d0 : decide (60 < (l.length : Int)) = false := decide_eq_false h0
  have d1 : decide (f < 1) = false := decide_eq_false h1
  have d2 : decide (100 < f) = false := decide_eq_false h2
  have d3 : decide (i < 0) = false := decide_eq_false h3
  have d4 : decide (k < i) = false := decide_eq_false h4
  have d5 : decide ((l.length : Int) < k) = false := decide_eq_false h5
  have d6 : decide (nw < 0) = false := decide_eq_false h6
  have d7 : decide (20 < nw) = true := decide_eq_true h7
  go_enter Try.func7, Try.ntmps7
  go_wp2_with fail
  refine (awake_any _).mono ?_
  rintro _ w1 ⟨rfl, z1⟩
  have Z := Lib.hid z1
  clear z1
  go_wp2
  go_ret
  exact ⟨rfl, Z.out⟩
theorem fairer_slo (A : Option Addr) (c : Nat) (l : List Pk) (nw ns f i k : Int) (w : World) (h0 : ¬ 60 < (l.length : Int)) (h1 : ¬ f < 1) (h2 : ¬ 100 < f) (h3 : ¬ i < 0) (h4 : ¬ k < i) (h5 : ¬ (l.length : Int) < k) (h6 : ¬ nw < 0) (h7 : ¬ 20 < nw) (h8 : ns < 0) : Tells 7 #[.slice A l.length c, .int .i64 nw, .int .i64 ns, .int .i64 f, .int .i64 i, .int .i64 k] w (.bool true) := by
  have d0 : decide (60 < (l.length : Int)) = false := decide_eq_false h0
  have d1 : decide (f < 1) = false := decide_eq_false h1
  have d2 : decide (100 < f) = false := decide_eq_false h2
  have d3 : decide (i < 0) = false := decide_eq_false h3
  have d4 : decide (k < i) = false := decide_eq_false h4
  have d5 : decide ((l.length : Int) < k) = false := decide_eq_false h5
  have d6 : decide (nw < 0) = false := decide_eq_false h6
  have d7 : decide (20 < nw) = false := decide_eq_false h7
  have d8 : decide (ns < 0) = true := decide_eq_true h8
  go_enter Try.func7, Try.ntmps7
  go_wp2_with fail
  refine (awake_any _).mono ?_
  rintro _ w1 ⟨rfl, z1⟩
  have Z := Lib.hid z1
  clear z1
  go_wp2
  go_ret
  exact ⟨rfl, Z.out⟩
theorem fairer_shi (A : Option Addr) (c : Nat) (l : List Pk) (nw ns f i k : Int) (w : World) (h0 : ¬ 60 < (l.length : Int)) (h1 : ¬ f < 1) (h2 : ¬ 100 < f) (h3 : ¬ i < 0) (h4 : ¬ k < i) (h5 : ¬ (l.length : Int) < k) (h6 : ¬ nw < 0) (h7 : ¬ 20 < nw) (h8 : ¬ ns < 0) (h9 : 20 < ns) : Tells 7 #[.slice A l.length c, .int .i64 nw, .int .i64 ns, .int .i64 f, .int .i64 i, .int .i64 k] w (.bool true) := by
  have d0 : decide (60 < (l.length : Int)) = false := decide_eq_false h0
  have d1 : decide (f < 1) = false := decide_eq_false h1
  have d2 : decide (100 < f) = false := decide_eq_false h2
  have d3 : decide (i < 0) = false := decide_eq_false h3
  have d4 : decide (k < i) = false := decide_eq_false h4
  have d5 : decide ((l.length : Int) < k) = false := decide_eq_false h5
  have d6 : decide (nw < 0) = false := decide_eq_false h6
  have d7 : decide (20 < nw) = false := decide_eq_false h7
  have d8 : decide (ns < 0) = false := decide_eq_false h8
  have d9 : decide (20 < ns) = true := decide_eq_true h9
  go_enter Try.func7, Try.ntmps7
  go_wp2_with fail
  refine (awake_any _).mono ?_
  rintro _ w1 ⟨rfl, z1⟩
  have Z := Lib.hid z1
  clear z1
  go_wp2
  go_ret
  exact ⟨rfl, Z.out⟩
set_option maxHeartbeats 1000000 in
theorem fairer_true_at (b' off : Nat) (c : Nat) (l : List Pk) (w : World) (hP : Pr w.heap.size w (some ⟨b', off, none⟩) l) (m q g a b : Nat) (hm : m ≤ 20) (hq : q ≤ 20) (hg : 1 ≤ g) (hg2 : g ≤ 100) (hab : a ≤ b) (hbl : b ≤ l.length) (hl : l.length ≤ 60) (hc : l.length ≤ c) (hcm : c ≤ maxLen) (hca : ¬ c = a) (hv : fairN l m q g = true) : Tells 7 #[.slice (some ⟨b', off, none⟩) l.length c, .int .i64 m, .int .i64 q, .int .i64 g, .int .i64 a, .int .i64 b] w (.bool true) := by
  unfold maxLen at hcm
  have HP := Lib.hid hP
  have IG := Lib.hid (show I (g : Int) by unfold I; omega)
  have IG1 := Lib.hid (show I ((g : Int) + 1) by unfold I; omega)
  have V0 := Lib.hid (show fair l m q g = true by rw [fair_yes hm hq hg]; exact hv)
  have V1 := Lib.hid (show fair l m q ((g : Int) + 1) = true by rw [show (g : Int) + 1 = ((g + 1 : Nat) : Int) by omega, fair_yes hm hq (by omega)]; exact fairN_more hg hv)
  have V2 := Lib.hid (show fair ((l.drop a).take (b - a)) m q g = true by rw [fair_yes hm hq hg]; exact fairN_part hg hv a (b - a))
  have L2 := Lib.hid (show ((l.drop a).take (b - a)).length = b - a by simp; omega)
  have V3 := Lib.hid (show fair l 0 0 g = true by have := fair_yes (l := l) (m := 0) (q := 0) (by omega) (by omega) hg; rw [Int.natCast_zero] at this; rw [this]; exact fairN_nobody l g hg)
  have V4 := Lib.hid (show fair [] m q g = true by rw [fair_yes hm hq hg]; exact fairN_nil m q g hg)
  have d0 : decide (60 < (l.length : Int)) = false := decide_eq_false (by omega)
  have d1 : decide ((g : Int) < 1) = false := decide_eq_false (by omega)
  have d2 : decide (100 < (g : Int)) = false := decide_eq_false (by omega)
  have d3 : decide ((a : Int) < 0) = false := decide_eq_false (by omega)
  have d4 : decide ((b : Int) < (a : Int)) = false := decide_eq_false (by omega)
  have d4' : decide (b < a) = false := decide_eq_false (by omega)
  have d5 : decide ((l.length : Int) < (b : Int)) = false := decide_eq_false (by omega)
  have d5' : decide (l.length < b) = false := decide_eq_false (by omega)
  have d6 : decide ((m : Int) < 0) = false := decide_eq_false (by omega)
  have d7 : decide (20 < (m : Int)) = false := decide_eq_false (by omega)
  have d8 : decide ((q : Int) < 0) = false := decide_eq_false (by omega)
  have d9 : decide (20 < (q : Int)) = false := decide_eq_false (by omega)
  have hbc : b ≤ c := by omega
  clear hP hv
  go_enter Try.func7, Try.ntmps7
  go_wp2_with fail
  refine (awake_any _).mono ?_
  rintro _ w1 ⟨rfl, z1⟩
  have Z := Lib.hid z1
  clear z1
  go_wp2_with fail
  refine (Tells.of (fair_any _ c w.heap.size l m q g w1 (HP.out.below Z.out) Z.out.size (by omega) IG.out) (v' := .bool true) (by rw [V0.out])).mono ?_
  rintro _ w2 ⟨rfl, z1⟩
  replace Z := Lib.hid (Z.out.trans (z1.mono Z.out.size))
  clear z1
  go_wp2_with fail
  refine (Tells.of (fair_any _ c w.heap.size l m q ((g : Int) + 1) w2 (HP.out.below Z.out) Z.out.size (by omega) IG1.out) (v' := .bool true) (by rw [V1.out])).mono ?_
  rintro _ w3 ⟨rfl, z1⟩
  replace Z := Lib.hid (Z.out.trans (z1.mono Z.out.size))
  clear z1
  go_wp2_with fail
  have CF := fair_any (some ⟨b', off + a * 3, none⟩) (c - a) w.heap.size ((l.drop a).take (b - a)) m q g w3 ((HP.out.below Z.out).part a (b - a)) Z.out.size (by rw [L2.out]; omega) IG.out
  rw [L2.out, V2.out] at CF
  refine CF.mono ?_
  rintro _ w4 ⟨rfl, z1⟩
  replace Z := Lib.hid (Z.out.trans (z1.mono Z.out.size))
  clear z1 CF
  go_wp2_with fail
  refine (Tells.of (fair_any _ c w.heap.size l 0 0 g w4 (HP.out.below Z.out) Z.out.size (by omega) IG.out) (v' := .bool true) (by rw [V3.out])).mono ?_
  rintro _ w5 ⟨rfl, z1⟩
  replace Z := Lib.hid (Z.out.trans (z1.mono Z.out.size))
  clear z1
  go_wp2_with fail
  refine (Tells.of (fair_any none 0 w.heap.size [] m q g w5 (Pr.nil _ _ _) Z.out.size (by simp) IG.out) (v' := .bool true) (by rw [V4.out])).mono ?_
  rintro _ w6 ⟨rfl, z1⟩
  replace Z := Lib.hid (Z.out.trans (z1.mono Z.out.size))
  clear z1
  go_wp2
  go_ret
  exact ⟨rfl, Z.out⟩
set_option maxHeartbeats 1000000 in
theorem fairer_true_end (b' off n : Nat) (l : List Pk) (w : World) (hP : Pr w.heap.size w (some ⟨b', off, none⟩) l) (m q g : Nat) (hm : m ≤ 20) (hq : q ≤ 20) (hg : 1 ≤ g) (hg2 : g ≤ 100) (hn : l.length = n) (hn6 : n ≤ 60) (hv : fairN l m q g = true) : Tells 7 #[.slice (some ⟨b', off, none⟩) n n, .int .i64 m, .int .i64 q, .int .i64 g, .int .i64 n, .int .i64 n] w (.bool true) := by
  have HP := Lib.hid hP
  have IG := Lib.hid (show I (g : Int) by unfold I; omega)
  have IG1 := Lib.hid (show I ((g : Int) + 1) by unfold I; omega)
  have V0 := Lib.hid (show fair l m q g = true by rw [fair_yes hm hq hg]; exact hv)
  have V1 := Lib.hid (show fair l m q ((g : Int) + 1) = true by rw [show (g : Int) + 1 = ((g + 1 : Nat) : Int) by omega, fair_yes hm hq (by omega)]; exact fairN_more hg hv)
  have V3 := Lib.hid (show fair l 0 0 g = true by have := fair_yes (l := l) (m := 0) (q := 0) (by omega) (by omega) hg; rw [Int.natCast_zero] at this; rw [this]; exact fairN_nobody l g hg)
  have V4 := Lib.hid (show fair [] m q g = true by rw [fair_yes hm hq hg]; exact fairN_nil m q g hg)
  have d1 : decide ((g : Int) < 1) = false := decide_eq_false (by omega)
  have d2 : decide (100 < (g : Int)) = false := decide_eq_false (by omega)
  have d6 : decide ((m : Int) < 0) = false := decide_eq_false (by omega)
  have d7 : decide (20 < (m : Int)) = false := decide_eq_false (by omega)
  have d8 : decide ((q : Int) < 0) = false := decide_eq_false (by omega)
  have d9 : decide (20 < (q : Int)) = false := decide_eq_false (by omega)
  have HN := Lib.hid hn
  have d0 : decide (60 < (n : Int)) = false := decide_eq_false (by omega)
  have d3 : decide ((n : Int) < 0) = false := decide_eq_false (by omega)
  have d4 : decide ((n : Int) < (n : Int)) = false := decide_eq_false (by omega)
  clear hn
  clear hP hv
  go_enter Try.func7, Try.ntmps7
  go_wp2_with fail
  refine (awake_any _).mono ?_
  rintro _ w1 ⟨rfl, z1⟩
  have Z := Lib.hid z1
  clear z1
  go_wp2_with fail
  have CF := fair_any (some ⟨b', off, none⟩) n w.heap.size l m q g w1 (HP.out.below Z.out) Z.out.size (by rw [HN.out]; omega) IG.out
  rw [V0.out, HN.out] at CF
  refine CF.mono ?_
  rintro _ w2 ⟨rfl, z1⟩
  replace Z := Lib.hid (Z.out.trans (z1.mono Z.out.size))
  clear z1 CF
  go_wp2_with fail
  have CF := fair_any (some ⟨b', off, none⟩) n w.heap.size l m q ((g : Int) + 1) w2 (HP.out.below Z.out) Z.out.size (by rw [HN.out]; omega) IG1.out
  rw [V1.out, HN.out] at CF
  refine CF.mono ?_
  rintro _ w3 ⟨rfl, z1⟩
  replace Z := Lib.hid (Z.out.trans (z1.mono Z.out.size))
  clear z1 CF
  go_wp2_with fail
  have CF := fair_any (some ⟨b', off, none⟩) 0 w.heap.size [] m q g w3 (Pr.nil _ _ _) Z.out.size (by simp) IG.out
  rw [V4.out] at CF
  have e0 : ([] : List Pk).length = 0 := rfl
  rw [e0] at CF
  clear e0
  refine CF.mono ?_
  rintro _ w4 ⟨rfl, z1⟩
  replace Z := Lib.hid (Z.out.trans (z1.mono Z.out.size))
  clear z1 CF
  go_wp2_with fail
  have CF := fair_any (some ⟨b', off, none⟩) n w.heap.size l 0 0 g w4 (HP.out.below Z.out) Z.out.size (by rw [HN.out]; omega) IG.out
  rw [V3.out, HN.out] at CF
  refine CF.mono ?_
  rintro _ w5 ⟨rfl, z1⟩
  replace Z := Lib.hid (Z.out.trans (z1.mono Z.out.size))
  clear z1 CF
  go_wp2_with fail
  have CF := fair_any none 0 w.heap.size [] m q g w5 (Pr.nil _ _ _) Z.out.size (by simp) IG.out
  rw [V4.out] at CF
  have e0 : ([] : List Pk).length = 0 := rfl
  rw [e0] at CF
  clear e0
  refine CF.mono ?_
  rintro _ w6 ⟨rfl, z1⟩
  replace Z := Lib.hid (Z.out.trans (z1.mono Z.out.size))
  clear z1 CF
  go_wp2
  go_ret
  exact ⟨rfl, Z.out⟩
set_option maxHeartbeats 1000000 in
theorem fairer_true_nil  (w : World) (hP : Pr w.heap.size w none []) (m q g : Nat) (hm : m ≤ 20) (hq : q ≤ 20) (hg : 1 ≤ g) (hg2 : g ≤ 100) (hv : fairN [] m q g = true) : Tells 7 #[.slice none 0 0, .int .i64 m, .int .i64 q, .int .i64 g, .int .i64 0, .int .i64 0] w (.bool true) := by
  have HP := Lib.hid hP
  have IG := Lib.hid (show I (g : Int) by unfold I; omega)
  have IG1 := Lib.hid (show I ((g : Int) + 1) by unfold I; omega)
  have V0 := Lib.hid (show fair [] m q g = true by rw [fair_yes hm hq hg]; exact hv)
  have V1 := Lib.hid (show fair [] m q ((g : Int) + 1) = true by rw [show (g : Int) + 1 = ((g + 1 : Nat) : Int) by omega, fair_yes hm hq (by omega)]; exact fairN_more hg hv)
  have V3 := Lib.hid (show fair [] 0 0 g = true by have := fair_yes (l := []) (m := 0) (q := 0) (by omega) (by omega) hg; rw [Int.natCast_zero] at this; rw [this]; exact fairN_nobody [] g hg)
  have V4 := Lib.hid (show fair [] m q g = true by rw [fair_yes hm hq hg]; exact fairN_nil m q g hg)
  have d1 : decide ((g : Int) < 1) = false := decide_eq_false (by omega)
  have d2 : decide (100 < (g : Int)) = false := decide_eq_false (by omega)
  have d6 : decide ((m : Int) < 0) = false := decide_eq_false (by omega)
  have d7 : decide (20 < (m : Int)) = false := decide_eq_false (by omega)
  have d8 : decide ((q : Int) < 0) = false := decide_eq_false (by omega)
  have d9 : decide (20 < (q : Int)) = false := decide_eq_false (by omega)
  clear hP hv
  go_enter Try.func7, Try.ntmps7
  go_wp2_with fail
  refine (awake_any _).mono ?_
  rintro _ w1 ⟨rfl, z1⟩
  have Z := Lib.hid z1
  clear z1
  go_wp2_with fail
  have CF := fair_any none 0 w.heap.size [] m q g w1 (HP.out.below Z.out) Z.out.size (by simp) IG.out
  rw [V0.out] at CF
  have e0 : ([] : List Pk).length = 0 := rfl
  rw [e0] at CF
  clear e0
  refine CF.mono ?_
  rintro _ w2 ⟨rfl, z1⟩
  replace Z := Lib.hid (Z.out.trans (z1.mono Z.out.size))
  clear z1 CF
  go_wp2_with fail
  have CF := fair_any none 0 w.heap.size [] m q ((g : Int) + 1) w2 (HP.out.below Z.out) Z.out.size (by simp) IG1.out
  rw [V1.out] at CF
  have e0 : ([] : List Pk).length = 0 := rfl
  rw [e0] at CF
  clear e0
  refine CF.mono ?_
  rintro _ w3 ⟨rfl, z1⟩
  replace Z := Lib.hid (Z.out.trans (z1.mono Z.out.size))
  clear z1 CF
  go_wp2_with fail
  have CF := fair_any none 0 w.heap.size [] m q g w3 (Pr.nil _ _ _) Z.out.size (by simp) IG.out
  rw [V4.out] at CF
  have e0 : ([] : List Pk).length = 0 := rfl
  rw [e0] at CF
  clear e0
  refine CF.mono ?_
  rintro _ w4 ⟨rfl, z1⟩
  replace Z := Lib.hid (Z.out.trans (z1.mono Z.out.size))
  clear z1 CF
  go_wp2_with fail
  have CF := fair_any none 0 w.heap.size [] 0 0 g w4 (HP.out.below Z.out) Z.out.size (by simp) IG.out
  rw [V3.out] at CF
  have e0 : ([] : List Pk).length = 0 := rfl
  rw [e0] at CF
  clear e0
  refine CF.mono ?_
  rintro _ w5 ⟨rfl, z1⟩
  replace Z := Lib.hid (Z.out.trans (z1.mono Z.out.size))
  clear z1 CF
  go_wp2_with fail
  have CF := fair_any none 0 w.heap.size [] m q g w5 (Pr.nil _ _ _) Z.out.size (by simp) IG.out
  rw [V4.out] at CF
  have e0 : ([] : List Pk).length = 0 := rfl
  rw [e0] at CF
  clear e0
  refine CF.mono ?_
  rintro _ w6 ⟨rfl, z1⟩
  replace Z := Lib.hid (Z.out.trans (z1.mono Z.out.size))
  clear z1 CF
  go_wp2
  go_ret
  exact ⟨rfl, Z.out⟩
set_option maxHeartbeats 1000000 in
theorem fairer_true_none (ad : Addr) (c : Nat) (w : World) (hP : Pr w.heap.size w (some ad) []) (m q g : Nat) (hm : m ≤ 20) (hq : q ≤ 20) (hg : 1 ≤ g) (hg2 : g ≤ 100) (hv : fairN [] m q g = true) : Tells 7 #[.slice (some ad) 0 c, .int .i64 m, .int .i64 q, .int .i64 g, .int .i64 0, .int .i64 0] w (.bool true) := by
  have HP := Lib.hid hP
  have IG := Lib.hid (show I (g : Int) by unfold I; omega)
  have IG1 := Lib.hid (show I ((g : Int) + 1) by unfold I; omega)
  have V0 := Lib.hid (show fair [] m q g = true by rw [fair_yes hm hq hg]; exact hv)
  have V1 := Lib.hid (show fair [] m q ((g : Int) + 1) = true by rw [show (g : Int) + 1 = ((g + 1 : Nat) : Int) by omega, fair_yes hm hq (by omega)]; exact fairN_more hg hv)
  have V3 := Lib.hid (show fair [] 0 0 g = true by have := fair_yes (l := []) (m := 0) (q := 0) (by omega) (by omega) hg; rw [Int.natCast_zero] at this; rw [this]; exact fairN_nobody [] g hg)
  have V4 := Lib.hid (show fair [] m q g = true by rw [fair_yes hm hq hg]; exact fairN_nil m q g hg)
  have d1 : decide ((g : Int) < 1) = false := decide_eq_false (by omega)
  have d2 : decide (100 < (g : Int)) = false := decide_eq_false (by omega)
  have d6 : decide ((m : Int) < 0) = false := decide_eq_false (by omega)
  have d7 : decide (20 < (m : Int)) = false := decide_eq_false (by omega)
  have d8 : decide ((q : Int) < 0) = false := decide_eq_false (by omega)
  have d9 : decide (20 < (q : Int)) = false := decide_eq_false (by omega)
  clear hP hv
  go_enter Try.func7, Try.ntmps7
  go_wp2_with fail
  refine (awake_any _).mono ?_
  rintro _ w1 ⟨rfl, z1⟩
  have Z := Lib.hid z1
  clear z1
  go_wp2_with fail
  have CF := fair_any (some ad) c w.heap.size [] m q g w1 (HP.out.below Z.out) Z.out.size (by simp) IG.out
  rw [V0.out] at CF
  have e0 : ([] : List Pk).length = 0 := rfl
  rw [e0] at CF
  clear e0
  refine CF.mono ?_
  rintro _ w2 ⟨rfl, z1⟩
  replace Z := Lib.hid (Z.out.trans (z1.mono Z.out.size))
  clear z1 CF
  go_wp2_with fail
  have CF := fair_any (some ad) c w.heap.size [] m q ((g : Int) + 1) w2 (HP.out.below Z.out) Z.out.size (by simp) IG1.out
  rw [V1.out] at CF
  have e0 : ([] : List Pk).length = 0 := rfl
  rw [e0] at CF
  clear e0
  refine CF.mono ?_
  rintro _ w3 ⟨rfl, z1⟩
  replace Z := Lib.hid (Z.out.trans (z1.mono Z.out.size))
  clear z1 CF
  go_wp2_with fail
  have CF := fair_any (some ad) c w.heap.size [] m q g w3 (Pr.nil _ _ _) Z.out.size (by simp) IG.out
  rw [V4.out] at CF
  have e0 : ([] : List Pk).length = 0 := rfl
  rw [e0] at CF
  clear e0
  refine CF.mono ?_
  rintro _ w4 ⟨rfl, z1⟩
  replace Z := Lib.hid (Z.out.trans (z1.mono Z.out.size))
  clear z1 CF
  go_wp2_with fail
  have CF := fair_any (some ad) c w.heap.size [] 0 0 g w4 (HP.out.below Z.out) Z.out.size (by simp) IG.out
  rw [V3.out] at CF
  have e0 : ([] : List Pk).length = 0 := rfl
  rw [e0] at CF
  clear e0
  refine CF.mono ?_
  rintro _ w5 ⟨rfl, z1⟩
  replace Z := Lib.hid (Z.out.trans (z1.mono Z.out.size))
  clear z1 CF
  go_wp2_with fail
  have CF := fair_any none 0 w.heap.size [] m q g w5 (Pr.nil _ _ _) Z.out.size (by simp) IG.out
  rw [V4.out] at CF
  have e0 : ([] : List Pk).length = 0 := rfl
  rw [e0] at CF
  clear e0
  refine CF.mono ?_
  rintro _ w6 ⟨rfl, z1⟩
  replace Z := Lib.hid (Z.out.trans (z1.mono Z.out.size))
  clear z1 CF
  go_wp2
  go_ret
  exact ⟨rfl, Z.out⟩
set_option maxHeartbeats 1000000 in
theorem fairer_false_at (A : Option Addr) (c : Nat) (l : List Pk) (w : World) (hP : Pr w.heap.size w A l) (m q g a b : Nat) (hm : m ≤ 20) (hq : q ≤ 20) (hg : 1 ≤ g) (hg2 : g ≤ 100) (hab : a ≤ b) (hbl : b ≤ l.length) (hl : l.length ≤ 60) (hc : l.length ≤ c) (hv : fairN l m q g = false) : Tells 7 #[.slice A l.length c, .int .i64 m, .int .i64 q, .int .i64 g, .int .i64 a, .int .i64 b] w (.bool true) := by
  have HP := Lib.hid hP
  have IG := Lib.hid (show I (g : Int) by unfold I; omega)
  have IG1 := Lib.hid (show I ((g : Int) + 1) by unfold I; omega)
  have V0 := Lib.hid (show fair l m q g = false by rw [fair_yes hm hq hg]; exact hv)
  have V3 := Lib.hid (show fair l 0 0 g = true by have := fair_yes (l := l) (m := 0) (q := 0) (by omega) (by omega) hg; rw [Int.natCast_zero] at this; rw [this]; exact fairN_nobody l g hg)
  have V4 := Lib.hid (show fair [] m q g = true by rw [fair_yes hm hq hg]; exact fairN_nil m q g hg)
  have d0 : decide (60 < (l.length : Int)) = false := decide_eq_false (by omega)
  have d1 : decide ((g : Int) < 1) = false := decide_eq_false (by omega)
  have d2 : decide (100 < (g : Int)) = false := decide_eq_false (by omega)
  have d3 : decide ((a : Int) < 0) = false := decide_eq_false (by omega)
  have d4 : decide ((b : Int) < (a : Int)) = false := decide_eq_false (by omega)
  have d4' : decide (b < a) = false := decide_eq_false (by omega)
  have d5 : decide ((l.length : Int) < (b : Int)) = false := decide_eq_false (by omega)
  have d5' : decide (l.length < b) = false := decide_eq_false (by omega)
  have d6 : decide ((m : Int) < 0) = false := decide_eq_false (by omega)
  have d7 : decide (20 < (m : Int)) = false := decide_eq_false (by omega)
  have d8 : decide ((q : Int) < 0) = false := decide_eq_false (by omega)
  have d9 : decide (20 < (q : Int)) = false := decide_eq_false (by omega)
  have hbc : b ≤ c := by omega
  clear hP hv
  go_enter Try.func7, Try.ntmps7
  go_wp2_with fail
  refine (awake_any _).mono ?_
  rintro _ w1 ⟨rfl, z1⟩
  have Z := Lib.hid z1
  clear z1
  go_wp2_with fail
  refine (Tells.of (fair_any _ c w.heap.size l m q g w1 (HP.out.below Z.out) Z.out.size (by omega) IG.out) (v' := .bool false) (by rw [V0.out])).mono ?_
  rintro _ w2 ⟨rfl, z1⟩
  replace Z := Lib.hid (Z.out.trans (z1.mono Z.out.size))
  clear z1
  go_wp2_with fail
  refine (Tells.of (fair_any _ c w.heap.size l 0 0 g w2 (HP.out.below Z.out) Z.out.size (by omega) IG.out) (v' := .bool true) (by rw [V3.out])).mono ?_
  rintro _ w5 ⟨rfl, z1⟩
  replace Z := Lib.hid (Z.out.trans (z1.mono Z.out.size))
  clear z1
  go_wp2_with fail
  refine (Tells.of (fair_any none 0 w.heap.size [] m q g w5 (Pr.nil _ _ _) Z.out.size (by simp) IG.out) (v' := .bool true) (by rw [V4.out])).mono ?_
  rintro _ w6 ⟨rfl, z1⟩
  replace Z := Lib.hid (Z.out.trans (z1.mono Z.out.size))
  clear z1
  go_wp2
  go_ret
  exact ⟨rfl, Z.out⟩
theorem drawFairer_walk (A : Option Addr) (len c : Nat) (l : List Pk) (nw ns f i k : Int) (w : World) (h : CameP w A len c l) : Tells 7 #[.slice A len c, .int .i64 nw, .int .i64 ns, .int .i64 f, .int .i64 i, .int .i64 k] w (.bool true) := by
  obtain ⟨rfl, hc, hcm, hP, hnil⟩ := h
  by_cases h0 : 60 < (l.length : Int)
  · exact fairer_many A c l nw ns f i k w h0
  · skip
    by_cases h1 : f < 1
    · exact fairer_flo A c l nw ns f i k w h0 h1
    · skip
      by_cases h2 : 100 < f
      · exact fairer_fhi A c l nw ns f i k w h0 h1 h2
      · skip
        by_cases h3 : i < 0
        · exact fairer_ilo A c l nw ns f i k w h0 h1 h2 h3
        · skip
          by_cases h4 : k < i
          · exact fairer_klo A c l nw ns f i k w h0 h1 h2 h3 h4
          · skip
            by_cases h5 : (l.length : Int) < k
            · exact fairer_khi A c l nw ns f i k w h0 h1 h2 h3 h4 h5
            · skip
              by_cases h6 : nw < 0
              · exact fairer_wlo A c l nw ns f i k w h0 h1 h2 h3 h4 h5 h6
              · skip
                by_cases h7 : 20 < nw
                · exact fairer_whi A c l nw ns f i k w h0 h1 h2 h3 h4 h5 h6 h7
                · skip
                  by_cases h8 : ns < 0
                  · exact fairer_slo A c l nw ns f i k w h0 h1 h2 h3 h4 h5 h6 h7 h8
                  · skip
                    by_cases h9 : 20 < ns
                    · exact fairer_shi A c l nw ns f i k w h0 h1 h2 h3 h4 h5 h6 h7 h8 h9
                    · skip
                      obtain ⟨m, rfl⟩ : ∃ m : Nat, nw = m := ⟨nw.toNat, by omega⟩
                      obtain ⟨q, rfl⟩ : ∃ q : Nat, ns = q := ⟨ns.toNat, by omega⟩
                      obtain ⟨g, rfl⟩ : ∃ g : Nat, f = g := ⟨f.toNat, by omega⟩
                      obtain ⟨a, rfl⟩ : ∃ a : Nat, i = a := ⟨i.toNat, by omega⟩
                      obtain ⟨b, rfl⟩ : ∃ b : Nat, k = b := ⟨k.toNat, by omega⟩
                      cases hv : fairN l m q g
                      · exact fairer_false_at A c l w hP m q g a b (by omega) (by omega) (by omega) (by omega) (by omega) (by omega) (by omega) hc hv
                      · by_cases hp : 0 < l.length
                        · obtain ⟨b', off, rfl, _⟩ := hP hp
                          by_cases hca : c = a
                          · obtain ⟨n, hn⟩ : ∃ n, n = l.length := ⟨_, rfl⟩
                            obtain rfl : b = n := by omega
                            obtain rfl : a = b := by omega
                            obtain rfl : c = a := hca
                            rw [← hn]
                            exact fairer_true_end b' off c l w hP m q g (by omega) (by omega) (by omega) (by omega) hn.symm (by omega) hv
                          · exact fairer_true_at b' off c l w hP m q g a b (by omega) (by omega) (by omega) (by omega) (by omega) (by omega) (by omega) hc hcm hca hv
                        · obtain rfl : l = [] := List.eq_nil_of_length_eq_zero (by omega)
                          obtain rfl : a = 0 := by simp at h5; omega
                          obtain rfl : b = 0 := by simp at h5; omega
                          cases A with
                          | none =>
                            obtain rfl : c = 0 := hnil rfl
                            exact fairer_true_nil w hP m q g (by omega) (by omega) (by omega) (by omega) hv
                          | some ad => exact fairer_true_none ad c w hP m q g (by omega) (by omega) (by omega) (by omega) hv
end Go.Proofs.Ytnabomdadhgeeaa
