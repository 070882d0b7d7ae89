/- The walk of FrameOver. -/
import Derived.Test.YtodilnleaodnpaaFrQ
namespace Go.Proofs.Ytodilnleaodnpaa
open Go.RowKit Go.Deep
attribute [local go_sem ↓] eql_fr guard_fr
theorem over_big (A : Option Addr) (n c : Nat) (r : Int) (f : Fr) (w : World) (hn : 300 < n) : Tells 5 #[.slice A n c, .int .i64 r, fv f] w (.bool true) := by
  obtain ⟨o, p, q, v, x, y, s⟩ := f
  have hd : decide ((300 : Int) < (n : Int)) = true := decide_eq_true (by omega)
  go_enter Try.func5, Try.ntmps5
  go_wp2_with fail
  refine (awake_any _).mono ?_
  rintro _ w1 ⟨rfl, z⟩
  have Z := Lib.hid (keep_call z (bel_alloc w _))
  clear z
  go_wp2
  go_ret
  exact ⟨rfl, Z.out⟩
/-- The same list, twice. -/
theorem nums_lists {A B : Option Addr} {n m c d : Nat} {l : List Int} {w : World} (hA : Rd w A l) (hB : Rd w B l) (hl : l.length = n) (hk : l.length = m) (hn : n ≤ 1001) (hm : m ≤ 1001) :
    Calls Try.prog 12 #[.slice A n c, .slice B m d] w fun e w' => e = .returned (.bool true) ∧ ∃ q, w' = w.drewN q := by
  have h := nums_any A B n m c d l l w hA hB hl hk hn hm
  rw [show decide (l = l) = true from decide_eq_true rfl] at h
  exact h
set_option maxHeartbeats 2000000 in
theorem over_a (A : Option Addr) (n c : Nat) (l : List Int) (r o p q v x y s : Int) (w : World) (hA : Rd w A l) (hn : l.length = n) (hc : n ≤ c) (hm : n ≤ 300) (h0 : o < 0) (hs : s ≠ 0) : Tells 5 #[.slice A n c, .int .i64 r, fv ⟨o, p, q, v, x, y, s⟩] w (.bool true) := by
  have hd : decide ((300 : Int) < (n : Int)) = false := decide_eq_false (by omega)
  have d0 : decide (0 ≤ o) = false := decide_eq_false (by omega)
  have E1 := Lib.hid (on_leave (l := l) (r := r) (f := ⟨o, p, q, v, x, y, s⟩) (.inl hs))
  have HS := Lib.hid (show (s != 0) = true by simp [hs])
  have HN := Lib.hid hn
  have HC := Lib.hid hc
  have HM := Lib.hid hm
  have L := Lib.hid hA
  clear hn hc hA hs h0 hm
  go_enter Try.func5, Try.ntmps5
  go_wp2_with fail
  refine (awake_any _).mono ?_
  rintro _ w1 ⟨rfl, z⟩
  have BF := Lib.hid ((Bf.new w ⟨o, p, q, v, x, y, s⟩).after z)
  replace z := keep_call z (bel_alloc w _)
  have Z := Lib.hid z
  replace L := Lib.hid (L.out.below z)
  clear z
  obtain ⟨a0, a1, a2, a3, a4, a5, a6⟩ := BF.out.cells
  have la := BF.out.lt
  simp only at a0 a1 a2 a3 a4 a5 a6 la
  go_wp2_with fail
  refine (once_at l ⟨o, p, q, v, x, y, s⟩ E1.out L.out HN.out HC.out (by have := HM.out; omega)).mono ?_
  rintro _ w2 ⟨A2, c2, rfl, hc2, n2, z⟩
  clear a0 a1 a2 a3 a4 a5 a6 la
  replace Z := Lib.hid (Z.out.trans (z.mono Z.out.size))
  replace L := Lib.hid (L.out.below z)
  replace BF := Lib.hid (BF.out.after z)
  have LA := Lib.hid n2.rd
  have HLA := Lib.hid hc2
  clear z n2 hc2
  obtain ⟨a0, a1, a2, a3, a4, a5, a6⟩ := BF.out.cells
  have la := BF.out.lt
  simp only at a0 a1 a2 a3 a4 a5 a6 la
  go_wp2_with fail
  refine (once_at l ⟨o, p, q, v, x, y, s⟩ E1.out (LA.out.alloc _) rfl HLA.out (by have := HM.out; have := HN.out; omega)).mono ?_
  rintro _ w3 ⟨A3, c3, rfl, hc3, n3, z⟩
  clear a0 a1 a2 a3 a4 a5 a6 la
  have BG := Lib.hid ((Bf.new w2 ⟨o, p, q, v, x, y, s⟩).after z)
  replace z := keep_call z (bel_alloc w2 _)
  replace Z := Lib.hid (Z.out.trans (z.mono Z.out.size))
  replace L := Lib.hid (L.out.below z)
  replace BF := Lib.hid (BF.out.after z)
  replace LA := Lib.hid (LA.out.below z)
  have LB := Lib.hid n3.rd
  have HLB := Lib.hid hc3
  clear z n3 hc3
  obtain ⟨a0, a1, a2, a3, a4, a5, a6⟩ := BF.out.cells
  have la := BF.out.lt
  obtain ⟨b0, b1, b2, b3, b4, b5, b6⟩ := BG.out.cells
  have lb := BG.out.lt
  simp only at a0 a1 a2 a3 a4 a5 a6 la b0 b1 b2 b3 b4 b5 b6 lb
  go_wp2_with fail
  refine (begin_any 1 q v _).mono ?_
  rintro _ w4 ⟨rfl, z⟩
  clear a0 a1 a2 a3 a4 a5 a6 la b0 b1 b2 b3 b4 b5 b6 lb
  have BH := Lib.hid ((Bf.new w3 ⟨o, p, q, v, x, y, s⟩).after z)
  replace z := keep_call z (bel_alloc w3 _)
  replace Z := Lib.hid (Z.out.trans (z.mono Z.out.size))
  replace L := Lib.hid (L.out.below z)
  replace BF := Lib.hid (BF.out.after z)
  replace LA := Lib.hid (LA.out.below z)
  replace BG := Lib.hid (BG.out.after z)
  replace LB := Lib.hid (LB.out.below z)
  clear z
  go_wp2_with fail
  refine (once_at [] ⟨1, 0, q, 0, 0, 0, 3⟩ (on_pop_nil r q v) (Rd.nil _ none) rfl (by decide) (by decide)).mono ?_
  rintro _ w5 ⟨A5, c5, rfl, hc5, n5, z⟩
  replace Z := Lib.hid (Z.out.trans (z.mono Z.out.size))
  replace L := Lib.hid (L.out.below z)
  replace BF := Lib.hid (BF.out.after z)
  replace LA := Lib.hid (LA.out.below z)
  replace BG := Lib.hid (BG.out.after z)
  replace LB := Lib.hid (LB.out.below z)
  replace BH := Lib.hid (BH.out.after z)
  have LD := Lib.hid n5.rd
  have HLD := Lib.hid hc5
  clear z n5 hc5
  clear LD HLD
  obtain ⟨a0, a1, a2, a3, a4, a5, a6⟩ := BF.out.cells
  have la := BF.out.lt
  obtain ⟨b0, b1, b2, b3, b4, b5, b6⟩ := BG.out.cells
  have lb := BG.out.lt
  obtain ⟨d0, d1, d2, d3, d4, d5, d6⟩ := BH.out.cells
  have ld := BH.out.lt
  simp only at a0 a1 a2 a3 a4 a5 a6 la b0 b1 b2 b3 b4 b5 b6 lb d0 d1 d2 d3 d4 d5 d6 ld
  go_wp2_with fail
  refine (nums_lists (LA.out.alloc _) (L.out.alloc _) rfl HN.out (by have := HM.out; have := HN.out; omega) (by have := HM.out; omega)).mono ?_
  rintro _ w6 ⟨rfl, q6, hq⟩
  have z := below_of_drewN hq
  clear hq
  clear a0 a1 a2 a3 a4 a5 a6 la b0 b1 b2 b3 b4 b5 b6 lb d0 d1 d2 d3 d4 d5 d6 ld
  have BN := Lib.hid ((Bf.new w5 ⟨1, 0, q, 0, 0, 0, 3⟩).after z)
  replace z := keep_call z (bel_alloc w5 _)
  replace Z := Lib.hid (Z.out.trans (z.mono Z.out.size))
  replace L := Lib.hid (L.out.below z)
  replace BF := Lib.hid (BF.out.after z)
  replace LA := Lib.hid (LA.out.below z)
  replace BG := Lib.hid (BG.out.after z)
  replace LB := Lib.hid (LB.out.below z)
  replace BH := Lib.hid (BH.out.after z)
  clear z
  obtain ⟨a0, a1, a2, a3, a4, a5, a6⟩ := BF.out.cells
  have la := BF.out.lt
  simp only at a0 a1 a2 a3 a4 a5 a6 la
  go_wp2_with fail
  refine (Tells.of (over_any ⟨o, p, q, v, x, y, s⟩ _) (v' := .bool true) (by rw [← HS.out])).mono ?_
  rintro _ w7 ⟨rfl, z⟩
  clear a0 a1 a2 a3 a4 a5 a6 la
  replace Z := Lib.hid (Z.out.trans (z.mono Z.out.size))
  replace L := Lib.hid (L.out.below z)
  replace BF := Lib.hid (BF.out.after z)
  replace LA := Lib.hid (LA.out.below z)
  replace BG := Lib.hid (BG.out.after z)
  replace LB := Lib.hid (LB.out.below z)
  replace BH := Lib.hid (BH.out.after z)
  replace BN := Lib.hid (BN.out.after z)
  clear z
  obtain ⟨a0, a1, a2, a3, a4, a5, a6⟩ := BF.out.cells
  have la := BF.out.lt
  obtain ⟨b0, b1, b2, b3, b4, b5, b6⟩ := BG.out.cells
  have lb := BG.out.lt
  simp only at a0 a1 a2 a3 a4 a5 a6 la b0 b1 b2 b3 b4 b5 b6 lb
  go_wp2
  go_ret
  exact ⟨rfl, Z.out⟩
set_option maxHeartbeats 2000000 in
theorem over_b (A : Option Addr) (n c : Nat) (l : List Int) (r o p q v x y s : Int) (w : World) (hA : Rd w A l) (hn : l.length = n) (hc : n ≤ c) (hm : n ≤ 300) (h0 : 0 ≤ o) (h4 : o ≤ 4) (hs : s ≠ 0) : Tells 5 #[.slice A n c, .int .i64 r, fv ⟨o, p, q, v, x, y, s⟩] w (.bool true) := by
  have hd : decide ((300 : Int) < (n : Int)) = false := decide_eq_false (by omega)
  have d0 : decide (0 ≤ o) = true := decide_eq_true (by omega)
  have d4 : decide (o ≤ 4) = true := decide_eq_true (by omega)
  have E1 := Lib.hid (on_leave (l := l) (r := r) (f := ⟨o, p, q, v, x, y, s⟩) (.inl hs))
  have HS := Lib.hid (show (s != 0) = true by simp [hs])
  have HN := Lib.hid hn
  have HC := Lib.hid hc
  have HM := Lib.hid hm
  have L := Lib.hid hA
  clear hn hc hA hs h0 h4 hm
  go_enter Try.func5, Try.ntmps5
  go_wp2_with fail
  refine (awake_any _).mono ?_
  rintro _ w1 ⟨rfl, z⟩
  have BF := Lib.hid ((Bf.new w ⟨o, p, q, v, x, y, s⟩).after z)
  replace z := keep_call z (bel_alloc w _)
  have Z := Lib.hid z
  replace L := Lib.hid (L.out.below z)
  clear z
  obtain ⟨a0, a1, a2, a3, a4, a5, a6⟩ := BF.out.cells
  have la := BF.out.lt
  simp only at a0 a1 a2 a3 a4 a5 a6 la
  go_wp2_with fail
  refine (once_at l ⟨o, p, q, v, x, y, s⟩ E1.out L.out HN.out HC.out (by have := HM.out; omega)).mono ?_
  rintro _ w2 ⟨A2, c2, rfl, hc2, n2, z⟩
  clear a0 a1 a2 a3 a4 a5 a6 la
  replace Z := Lib.hid (Z.out.trans (z.mono Z.out.size))
  replace L := Lib.hid (L.out.below z)
  replace BF := Lib.hid (BF.out.after z)
  have LA := Lib.hid n2.rd
  have HLA := Lib.hid hc2
  clear z n2 hc2
  obtain ⟨a0, a1, a2, a3, a4, a5, a6⟩ := BF.out.cells
  have la := BF.out.lt
  simp only at a0 a1 a2 a3 a4 a5 a6 la
  go_wp2_with fail
  refine (once_at l ⟨o, p, q, v, x, y, s⟩ E1.out (LA.out.alloc _) rfl HLA.out (by have := HM.out; have := HN.out; omega)).mono ?_
  rintro _ w3 ⟨A3, c3, rfl, hc3, n3, z⟩
  clear a0 a1 a2 a3 a4 a5 a6 la
  have BG := Lib.hid ((Bf.new w2 ⟨o, p, q, v, x, y, s⟩).after z)
  replace z := keep_call z (bel_alloc w2 _)
  replace Z := Lib.hid (Z.out.trans (z.mono Z.out.size))
  replace L := Lib.hid (L.out.below z)
  replace BF := Lib.hid (BF.out.after z)
  replace LA := Lib.hid (LA.out.below z)
  have LB := Lib.hid n3.rd
  have HLB := Lib.hid hc3
  clear z n3 hc3
  obtain ⟨a0, a1, a2, a3, a4, a5, a6⟩ := BF.out.cells
  have la := BF.out.lt
  obtain ⟨b0, b1, b2, b3, b4, b5, b6⟩ := BG.out.cells
  have lb := BG.out.lt
  simp only at a0 a1 a2 a3 a4 a5 a6 la b0 b1 b2 b3 b4 b5 b6 lb
  go_wp2_with fail
  refine (begin_any 1 q v _).mono ?_
  rintro _ w4 ⟨rfl, z⟩
  clear a0 a1 a2 a3 a4 a5 a6 la b0 b1 b2 b3 b4 b5 b6 lb
  have BH := Lib.hid ((Bf.new w3 ⟨o, p, q, v, x, y, s⟩).after z)
  replace z := keep_call z (bel_alloc w3 _)
  replace Z := Lib.hid (Z.out.trans (z.mono Z.out.size))
  replace L := Lib.hid (L.out.below z)
  replace BF := Lib.hid (BF.out.after z)
  replace LA := Lib.hid (LA.out.below z)
  replace BG := Lib.hid (BG.out.after z)
  replace LB := Lib.hid (LB.out.below z)
  clear z
  go_wp2_with fail
  refine (once_at [] ⟨1, 0, q, 0, 0, 0, 3⟩ (on_pop_nil r q v) (Rd.nil _ none) rfl (by decide) (by decide)).mono ?_
  rintro _ w5 ⟨A5, c5, rfl, hc5, n5, z⟩
  replace Z := Lib.hid (Z.out.trans (z.mono Z.out.size))
  replace L := Lib.hid (L.out.below z)
  replace BF := Lib.hid (BF.out.after z)
  replace LA := Lib.hid (LA.out.below z)
  replace BG := Lib.hid (BG.out.after z)
  replace LB := Lib.hid (LB.out.below z)
  replace BH := Lib.hid (BH.out.after z)
  have LD := Lib.hid n5.rd
  have HLD := Lib.hid hc5
  clear z n5 hc5
  clear LD HLD
  obtain ⟨a0, a1, a2, a3, a4, a5, a6⟩ := BF.out.cells
  have la := BF.out.lt
  obtain ⟨b0, b1, b2, b3, b4, b5, b6⟩ := BG.out.cells
  have lb := BG.out.lt
  obtain ⟨d0, d1, d2, d3, d4, d5, d6⟩ := BH.out.cells
  have ld := BH.out.lt
  simp only at a0 a1 a2 a3 a4 a5 a6 la b0 b1 b2 b3 b4 b5 b6 lb d0 d1 d2 d3 d4 d5 d6 ld
  go_wp2_with fail
  refine (nums_lists (LA.out.alloc _) (L.out.alloc _) rfl HN.out (by have := HM.out; have := HN.out; omega) (by have := HM.out; omega)).mono ?_
  rintro _ w6 ⟨rfl, q6, hq⟩
  have z := below_of_drewN hq
  clear hq
  clear a0 a1 a2 a3 a4 a5 a6 la b0 b1 b2 b3 b4 b5 b6 lb d0 d1 d2 d3 d4 d5 d6 ld
  have BN := Lib.hid ((Bf.new w5 ⟨1, 0, q, 0, 0, 0, 3⟩).after z)
  replace z := keep_call z (bel_alloc w5 _)
  replace Z := Lib.hid (Z.out.trans (z.mono Z.out.size))
  replace L := Lib.hid (L.out.below z)
  replace BF := Lib.hid (BF.out.after z)
  replace LA := Lib.hid (LA.out.below z)
  replace BG := Lib.hid (BG.out.after z)
  replace LB := Lib.hid (LB.out.below z)
  replace BH := Lib.hid (BH.out.after z)
  clear z
  obtain ⟨a0, a1, a2, a3, a4, a5, a6⟩ := BF.out.cells
  have la := BF.out.lt
  simp only at a0 a1 a2 a3 a4 a5 a6 la
  go_wp2_with fail
  refine (Tells.of (over_any ⟨o, p, q, v, x, y, s⟩ _) (v' := .bool true) (by rw [← HS.out])).mono ?_
  rintro _ w7 ⟨rfl, z⟩
  clear a0 a1 a2 a3 a4 a5 a6 la
  replace Z := Lib.hid (Z.out.trans (z.mono Z.out.size))
  replace L := Lib.hid (L.out.below z)
  replace BF := Lib.hid (BF.out.after z)
  replace LA := Lib.hid (LA.out.below z)
  replace BG := Lib.hid (BG.out.after z)
  replace LB := Lib.hid (LB.out.below z)
  replace BH := Lib.hid (BH.out.after z)
  replace BN := Lib.hid (BN.out.after z)
  clear z
  obtain ⟨a0, a1, a2, a3, a4, a5, a6⟩ := BF.out.cells
  have la := BF.out.lt
  obtain ⟨b0, b1, b2, b3, b4, b5, b6⟩ := BG.out.cells
  have lb := BG.out.lt
  simp only at a0 a1 a2 a3 a4 a5 a6 la b0 b1 b2 b3 b4 b5 b6 lb
  go_wp2
  go_ret
  exact ⟨rfl, Z.out⟩
set_option maxHeartbeats 2000000 in
theorem over_c (A : Option Addr) (n c : Nat) (l : List Int) (r o p q v x y s : Int) (w : World) (hA : Rd w A l) (hn : l.length = n) (hc : n ≤ c) (hm : n ≤ 300) (h0 : 0 ≤ o) (h4 : 4 < o) (hs : s ≠ 0) : Tells 5 #[.slice A n c, .int .i64 r, fv ⟨o, p, q, v, x, y, s⟩] w (.bool true) := by
  have hd : decide ((300 : Int) < (n : Int)) = false := decide_eq_false (by omega)
  have d0 : decide (0 ≤ o) = true := decide_eq_true (by omega)
  have d4 : decide (o ≤ 4) = false := decide_eq_false (by omega)
  have E1 := Lib.hid (on_leave (l := l) (r := r) (f := ⟨o, p, q, v, x, y, s⟩) (.inl hs))
  have HS := Lib.hid (show (s != 0) = true by simp [hs])
  have HN := Lib.hid hn
  have HC := Lib.hid hc
  have HM := Lib.hid hm
  have L := Lib.hid hA
  clear hn hc hA hs h0 h4 hm
  go_enter Try.func5, Try.ntmps5
  go_wp2_with fail
  refine (awake_any _).mono ?_
  rintro _ w1 ⟨rfl, z⟩
  have BF := Lib.hid ((Bf.new w ⟨o, p, q, v, x, y, s⟩).after z)
  replace z := keep_call z (bel_alloc w _)
  have Z := Lib.hid z
  replace L := Lib.hid (L.out.below z)
  clear z
  obtain ⟨a0, a1, a2, a3, a4, a5, a6⟩ := BF.out.cells
  have la := BF.out.lt
  simp only at a0 a1 a2 a3 a4 a5 a6 la
  go_wp2_with fail
  refine (once_at l ⟨o, p, q, v, x, y, s⟩ E1.out L.out HN.out HC.out (by have := HM.out; omega)).mono ?_
  rintro _ w2 ⟨A2, c2, rfl, hc2, n2, z⟩
  clear a0 a1 a2 a3 a4 a5 a6 la
  replace Z := Lib.hid (Z.out.trans (z.mono Z.out.size))
  replace L := Lib.hid (L.out.below z)
  replace BF := Lib.hid (BF.out.after z)
  have LA := Lib.hid n2.rd
  have HLA := Lib.hid hc2
  clear z n2 hc2
  obtain ⟨a0, a1, a2, a3, a4, a5, a6⟩ := BF.out.cells
  have la := BF.out.lt
  simp only at a0 a1 a2 a3 a4 a5 a6 la
  go_wp2_with fail
  refine (once_at l ⟨o, p, q, v, x, y, s⟩ E1.out (LA.out.alloc _) rfl HLA.out (by have := HM.out; have := HN.out; omega)).mono ?_
  rintro _ w3 ⟨A3, c3, rfl, hc3, n3, z⟩
  clear a0 a1 a2 a3 a4 a5 a6 la
  have BG := Lib.hid ((Bf.new w2 ⟨o, p, q, v, x, y, s⟩).after z)
  replace z := keep_call z (bel_alloc w2 _)
  replace Z := Lib.hid (Z.out.trans (z.mono Z.out.size))
  replace L := Lib.hid (L.out.below z)
  replace BF := Lib.hid (BF.out.after z)
  replace LA := Lib.hid (LA.out.below z)
  have LB := Lib.hid n3.rd
  have HLB := Lib.hid hc3
  clear z n3 hc3
  obtain ⟨a0, a1, a2, a3, a4, a5, a6⟩ := BF.out.cells
  have la := BF.out.lt
  obtain ⟨b0, b1, b2, b3, b4, b5, b6⟩ := BG.out.cells
  have lb := BG.out.lt
  simp only at a0 a1 a2 a3 a4 a5 a6 la b0 b1 b2 b3 b4 b5 b6 lb
  go_wp2_with fail
  refine (begin_any 1 q v _).mono ?_
  rintro _ w4 ⟨rfl, z⟩
  clear a0 a1 a2 a3 a4 a5 a6 la b0 b1 b2 b3 b4 b5 b6 lb
  have BH := Lib.hid ((Bf.new w3 ⟨o, p, q, v, x, y, s⟩).after z)
  replace z := keep_call z (bel_alloc w3 _)
  replace Z := Lib.hid (Z.out.trans (z.mono Z.out.size))
  replace L := Lib.hid (L.out.below z)
  replace BF := Lib.hid (BF.out.after z)
  replace LA := Lib.hid (LA.out.below z)
  replace BG := Lib.hid (BG.out.after z)
  replace LB := Lib.hid (LB.out.below z)
  clear z
  go_wp2_with fail
  refine (once_at [] ⟨1, 0, q, 0, 0, 0, 3⟩ (on_pop_nil r q v) (Rd.nil _ none) rfl (by decide) (by decide)).mono ?_
  rintro _ w5 ⟨A5, c5, rfl, hc5, n5, z⟩
  replace Z := Lib.hid (Z.out.trans (z.mono Z.out.size))
  replace L := Lib.hid (L.out.below z)
  replace BF := Lib.hid (BF.out.after z)
  replace LA := Lib.hid (LA.out.below z)
  replace BG := Lib.hid (BG.out.after z)
  replace LB := Lib.hid (LB.out.below z)
  replace BH := Lib.hid (BH.out.after z)
  have LD := Lib.hid n5.rd
  have HLD := Lib.hid hc5
  clear z n5 hc5
  clear LD HLD
  obtain ⟨a0, a1, a2, a3, a4, a5, a6⟩ := BF.out.cells
  have la := BF.out.lt
  obtain ⟨b0, b1, b2, b3, b4, b5, b6⟩ := BG.out.cells
  have lb := BG.out.lt
  obtain ⟨d0, d1, d2, d3, d4, d5, d6⟩ := BH.out.cells
  have ld := BH.out.lt
  simp only at a0 a1 a2 a3 a4 a5 a6 la b0 b1 b2 b3 b4 b5 b6 lb d0 d1 d2 d3 d4 d5 d6 ld
  go_wp2_with fail
  refine (nums_lists (LA.out.alloc _) (L.out.alloc _) rfl HN.out (by have := HM.out; have := HN.out; omega) (by have := HM.out; omega)).mono ?_
  rintro _ w6 ⟨rfl, q6, hq⟩
  have z := below_of_drewN hq
  clear hq
  clear a0 a1 a2 a3 a4 a5 a6 la b0 b1 b2 b3 b4 b5 b6 lb d0 d1 d2 d3 d4 d5 d6 ld
  have BN := Lib.hid ((Bf.new w5 ⟨1, 0, q, 0, 0, 0, 3⟩).after z)
  replace z := keep_call z (bel_alloc w5 _)
  replace Z := Lib.hid (Z.out.trans (z.mono Z.out.size))
  replace L := Lib.hid (L.out.below z)
  replace BF := Lib.hid (BF.out.after z)
  replace LA := Lib.hid (LA.out.below z)
  replace BG := Lib.hid (BG.out.after z)
  replace LB := Lib.hid (LB.out.below z)
  replace BH := Lib.hid (BH.out.after z)
  clear z
  obtain ⟨a0, a1, a2, a3, a4, a5, a6⟩ := BF.out.cells
  have la := BF.out.lt
  simp only at a0 a1 a2 a3 a4 a5 a6 la
  go_wp2_with fail
  refine (Tells.of (over_any ⟨o, p, q, v, x, y, s⟩ _) (v' := .bool true) (by rw [← HS.out])).mono ?_
  rintro _ w7 ⟨rfl, z⟩
  clear a0 a1 a2 a3 a4 a5 a6 la
  replace Z := Lib.hid (Z.out.trans (z.mono Z.out.size))
  replace L := Lib.hid (L.out.below z)
  replace BF := Lib.hid (BF.out.after z)
  replace LA := Lib.hid (LA.out.below z)
  replace BG := Lib.hid (BG.out.after z)
  replace LB := Lib.hid (LB.out.below z)
  replace BH := Lib.hid (BH.out.after z)
  replace BN := Lib.hid (BN.out.after z)
  clear z
  obtain ⟨a0, a1, a2, a3, a4, a5, a6⟩ := BF.out.cells
  have la := BF.out.lt
  obtain ⟨b0, b1, b2, b3, b4, b5, b6⟩ := BG.out.cells
  have lb := BG.out.lt
  simp only at a0 a1 a2 a3 a4 a5 a6 la b0 b1 b2 b3 b4 b5 b6 lb
  go_wp2
  go_ret
  exact ⟨rfl, Z.out⟩
set_option maxHeartbeats 2000000 in
theorem over_d (A : Option Addr) (n c : Nat) (l : List Int) (r o p q v x y s : Int) (w : World) (hA : Rd w A l) (hn : l.length = n) (hc : n ≤ c) (hm : n ≤ 300) (h0 : o < 0) (hs : s = 0) : Tells 5 #[.slice A n c, .int .i64 r, fv ⟨o, p, q, v, x, y, s⟩] w (.bool true) := by
  have hd : decide ((300 : Int) < (n : Int)) = false := decide_eq_false (by omega)
  have d0 : decide (0 ≤ o) = false := decide_eq_false (by omega)
  have E1 := Lib.hid (on_leave (l := l) (r := r) (f := ⟨o, p, q, v, x, y, s⟩) (.inr (.inl h0)))
  have HS := Lib.hid (show (s != 0) = false by simp [hs])
  have HN := Lib.hid hn
  have HC := Lib.hid hc
  have HM := Lib.hid hm
  have L := Lib.hid hA
  clear hn hc hA hs h0 hm
  go_enter Try.func5, Try.ntmps5
  go_wp2_with fail
  refine (awake_any _).mono ?_
  rintro _ w1 ⟨rfl, z⟩
  have BF := Lib.hid ((Bf.new w ⟨o, p, q, v, x, y, s⟩).after z)
  replace z := keep_call z (bel_alloc w _)
  have Z := Lib.hid z
  replace L := Lib.hid (L.out.below z)
  clear z
  obtain ⟨a0, a1, a2, a3, a4, a5, a6⟩ := BF.out.cells
  have la := BF.out.lt
  simp only at a0 a1 a2 a3 a4 a5 a6 la
  go_wp2_with fail
  refine (once_at l ⟨o, p, q, v, x, y, s⟩ E1.out L.out HN.out HC.out (by have := HM.out; omega)).mono ?_
  rintro _ w2 ⟨A2, c2, rfl, hc2, n2, z⟩
  clear a0 a1 a2 a3 a4 a5 a6 la
  replace Z := Lib.hid (Z.out.trans (z.mono Z.out.size))
  replace L := Lib.hid (L.out.below z)
  replace BF := Lib.hid (BF.out.after z)
  have LA := Lib.hid n2.rd
  have HLA := Lib.hid hc2
  clear z n2 hc2
  obtain ⟨a0, a1, a2, a3, a4, a5, a6⟩ := BF.out.cells
  have la := BF.out.lt
  simp only at a0 a1 a2 a3 a4 a5 a6 la
  go_wp2_with fail
  refine (once_at l ⟨o, p, q, v, x, y, s⟩ E1.out (LA.out.alloc _) rfl HLA.out (by have := HM.out; have := HN.out; omega)).mono ?_
  rintro _ w3 ⟨A3, c3, rfl, hc3, n3, z⟩
  clear a0 a1 a2 a3 a4 a5 a6 la
  have BG := Lib.hid ((Bf.new w2 ⟨o, p, q, v, x, y, s⟩).after z)
  replace z := keep_call z (bel_alloc w2 _)
  replace Z := Lib.hid (Z.out.trans (z.mono Z.out.size))
  replace L := Lib.hid (L.out.below z)
  replace BF := Lib.hid (BF.out.after z)
  replace LA := Lib.hid (LA.out.below z)
  have LB := Lib.hid n3.rd
  have HLB := Lib.hid hc3
  clear z n3 hc3
  obtain ⟨a0, a1, a2, a3, a4, a5, a6⟩ := BF.out.cells
  have la := BF.out.lt
  obtain ⟨b0, b1, b2, b3, b4, b5, b6⟩ := BG.out.cells
  have lb := BG.out.lt
  simp only at a0 a1 a2 a3 a4 a5 a6 la b0 b1 b2 b3 b4 b5 b6 lb
  go_wp2_with fail
  refine (begin_any 1 q v _).mono ?_
  rintro _ w4 ⟨rfl, z⟩
  clear a0 a1 a2 a3 a4 a5 a6 la b0 b1 b2 b3 b4 b5 b6 lb
  have BH := Lib.hid ((Bf.new w3 ⟨o, p, q, v, x, y, s⟩).after z)
  replace z := keep_call z (bel_alloc w3 _)
  replace Z := Lib.hid (Z.out.trans (z.mono Z.out.size))
  replace L := Lib.hid (L.out.below z)
  replace BF := Lib.hid (BF.out.after z)
  replace LA := Lib.hid (LA.out.below z)
  replace BG := Lib.hid (BG.out.after z)
  replace LB := Lib.hid (LB.out.below z)
  clear z
  go_wp2_with fail
  refine (once_at [] ⟨1, 0, q, 0, 0, 0, 3⟩ (on_pop_nil r q v) (Rd.nil _ none) rfl (by decide) (by decide)).mono ?_
  rintro _ w5 ⟨A5, c5, rfl, hc5, n5, z⟩
  replace Z := Lib.hid (Z.out.trans (z.mono Z.out.size))
  replace L := Lib.hid (L.out.below z)
  replace BF := Lib.hid (BF.out.after z)
  replace LA := Lib.hid (LA.out.below z)
  replace BG := Lib.hid (BG.out.after z)
  replace LB := Lib.hid (LB.out.below z)
  replace BH := Lib.hid (BH.out.after z)
  have LD := Lib.hid n5.rd
  have HLD := Lib.hid hc5
  clear z n5 hc5
  clear LD HLD
  obtain ⟨a0, a1, a2, a3, a4, a5, a6⟩ := BF.out.cells
  have la := BF.out.lt
  obtain ⟨b0, b1, b2, b3, b4, b5, b6⟩ := BG.out.cells
  have lb := BG.out.lt
  obtain ⟨d0, d1, d2, d3, d4, d5, d6⟩ := BH.out.cells
  have ld := BH.out.lt
  simp only at a0 a1 a2 a3 a4 a5 a6 la b0 b1 b2 b3 b4 b5 b6 lb d0 d1 d2 d3 d4 d5 d6 ld
  go_wp2_with fail
  refine (nums_lists (LA.out.alloc _) (L.out.alloc _) rfl HN.out (by have := HM.out; have := HN.out; omega) (by have := HM.out; omega)).mono ?_
  rintro _ w6 ⟨rfl, q6, hq⟩
  have z := below_of_drewN hq
  clear hq
  clear a0 a1 a2 a3 a4 a5 a6 la b0 b1 b2 b3 b4 b5 b6 lb d0 d1 d2 d3 d4 d5 d6 ld
  have BN := Lib.hid ((Bf.new w5 ⟨1, 0, q, 0, 0, 0, 3⟩).after z)
  replace z := keep_call z (bel_alloc w5 _)
  replace Z := Lib.hid (Z.out.trans (z.mono Z.out.size))
  replace L := Lib.hid (L.out.below z)
  replace BF := Lib.hid (BF.out.after z)
  replace LA := Lib.hid (LA.out.below z)
  replace BG := Lib.hid (BG.out.after z)
  replace LB := Lib.hid (LB.out.below z)
  replace BH := Lib.hid (BH.out.after z)
  clear z
  obtain ⟨a0, a1, a2, a3, a4, a5, a6⟩ := BF.out.cells
  have la := BF.out.lt
  simp only at a0 a1 a2 a3 a4 a5 a6 la
  go_wp2_with fail
  refine (Tells.of (over_any ⟨o, p, q, v, x, y, s⟩ _) (v' := .bool false) (by rw [← HS.out])).mono ?_
  rintro _ w7 ⟨rfl, z⟩
  clear a0 a1 a2 a3 a4 a5 a6 la
  replace Z := Lib.hid (Z.out.trans (z.mono Z.out.size))
  replace L := Lib.hid (L.out.below z)
  replace BF := Lib.hid (BF.out.after z)
  replace LA := Lib.hid (LA.out.below z)
  replace BG := Lib.hid (BG.out.after z)
  replace LB := Lib.hid (LB.out.below z)
  replace BH := Lib.hid (BH.out.after z)
  replace BN := Lib.hid (BN.out.after z)
  clear z
  obtain ⟨a0, a1, a2, a3, a4, a5, a6⟩ := BF.out.cells
  have la := BF.out.lt
  obtain ⟨b0, b1, b2, b3, b4, b5, b6⟩ := BG.out.cells
  have lb := BG.out.lt
  simp only at a0 a1 a2 a3 a4 a5 a6 la b0 b1 b2 b3 b4 b5 b6 lb
  go_wp2
  go_ret
  exact ⟨rfl, Z.out⟩
set_option maxHeartbeats 2000000 in
theorem over_e (A : Option Addr) (n c : Nat) (l : List Int) (r o p q v x y s : Int) (w : World) (hA : Rd w A l) (hn : l.length = n) (hc : n ≤ c) (hm : n ≤ 300) (h0 : 0 ≤ o) (h4 : 4 < o) (hs : s = 0) : Tells 5 #[.slice A n c, .int .i64 r, fv ⟨o, p, q, v, x, y, s⟩] w (.bool true) := by
  have hd : decide ((300 : Int) < (n : Int)) = false := decide_eq_false (by omega)
  have d0 : decide (0 ≤ o) = true := decide_eq_true (by omega)
  have d4 : decide (o ≤ 4) = false := decide_eq_false (by omega)
  have E1 := Lib.hid (on_leave (l := l) (r := r) (f := ⟨o, p, q, v, x, y, s⟩) (.inr (.inr h4)))
  have HS := Lib.hid (show (s != 0) = false by simp [hs])
  have HN := Lib.hid hn
  have HC := Lib.hid hc
  have HM := Lib.hid hm
  have L := Lib.hid hA
  clear hn hc hA hs h0 h4 hm
  go_enter Try.func5, Try.ntmps5
  go_wp2_with fail
  refine (awake_any _).mono ?_
  rintro _ w1 ⟨rfl, z⟩
  have BF := Lib.hid ((Bf.new w ⟨o, p, q, v, x, y, s⟩).after z)
  replace z := keep_call z (bel_alloc w _)
  have Z := Lib.hid z
  replace L := Lib.hid (L.out.below z)
  clear z
  obtain ⟨a0, a1, a2, a3, a4, a5, a6⟩ := BF.out.cells
  have la := BF.out.lt
  simp only at a0 a1 a2 a3 a4 a5 a6 la
  go_wp2_with fail
  refine (once_at l ⟨o, p, q, v, x, y, s⟩ E1.out L.out HN.out HC.out (by have := HM.out; omega)).mono ?_
  rintro _ w2 ⟨A2, c2, rfl, hc2, n2, z⟩
  clear a0 a1 a2 a3 a4 a5 a6 la
  replace Z := Lib.hid (Z.out.trans (z.mono Z.out.size))
  replace L := Lib.hid (L.out.below z)
  replace BF := Lib.hid (BF.out.after z)
  have LA := Lib.hid n2.rd
  have HLA := Lib.hid hc2
  clear z n2 hc2
  obtain ⟨a0, a1, a2, a3, a4, a5, a6⟩ := BF.out.cells
  have la := BF.out.lt
  simp only at a0 a1 a2 a3 a4 a5 a6 la
  go_wp2_with fail
  refine (once_at l ⟨o, p, q, v, x, y, s⟩ E1.out (LA.out.alloc _) rfl HLA.out (by have := HM.out; have := HN.out; omega)).mono ?_
  rintro _ w3 ⟨A3, c3, rfl, hc3, n3, z⟩
  clear a0 a1 a2 a3 a4 a5 a6 la
  have BG := Lib.hid ((Bf.new w2 ⟨o, p, q, v, x, y, s⟩).after z)
  replace z := keep_call z (bel_alloc w2 _)
  replace Z := Lib.hid (Z.out.trans (z.mono Z.out.size))
  replace L := Lib.hid (L.out.below z)
  replace BF := Lib.hid (BF.out.after z)
  replace LA := Lib.hid (LA.out.below z)
  have LB := Lib.hid n3.rd
  have HLB := Lib.hid hc3
  clear z n3 hc3
  obtain ⟨a0, a1, a2, a3, a4, a5, a6⟩ := BF.out.cells
  have la := BF.out.lt
  obtain ⟨b0, b1, b2, b3, b4, b5, b6⟩ := BG.out.cells
  have lb := BG.out.lt
  simp only at a0 a1 a2 a3 a4 a5 a6 la b0 b1 b2 b3 b4 b5 b6 lb
  go_wp2_with fail
  refine (begin_any 1 q v _).mono ?_
  rintro _ w4 ⟨rfl, z⟩
  clear a0 a1 a2 a3 a4 a5 a6 la b0 b1 b2 b3 b4 b5 b6 lb
  have BH := Lib.hid ((Bf.new w3 ⟨o, p, q, v, x, y, s⟩).after z)
  replace z := keep_call z (bel_alloc w3 _)
  replace Z := Lib.hid (Z.out.trans (z.mono Z.out.size))
  replace L := Lib.hid (L.out.below z)
  replace BF := Lib.hid (BF.out.after z)
  replace LA := Lib.hid (LA.out.below z)
  replace BG := Lib.hid (BG.out.after z)
  replace LB := Lib.hid (LB.out.below z)
  clear z
  go_wp2_with fail
  refine (once_at [] ⟨1, 0, q, 0, 0, 0, 3⟩ (on_pop_nil r q v) (Rd.nil _ none) rfl (by decide) (by decide)).mono ?_
  rintro _ w5 ⟨A5, c5, rfl, hc5, n5, z⟩
  replace Z := Lib.hid (Z.out.trans (z.mono Z.out.size))
  replace L := Lib.hid (L.out.below z)
  replace BF := Lib.hid (BF.out.after z)
  replace LA := Lib.hid (LA.out.below z)
  replace BG := Lib.hid (BG.out.after z)
  replace LB := Lib.hid (LB.out.below z)
  replace BH := Lib.hid (BH.out.after z)
  have LD := Lib.hid n5.rd
  have HLD := Lib.hid hc5
  clear z n5 hc5
  clear LD HLD
  obtain ⟨a0, a1, a2, a3, a4, a5, a6⟩ := BF.out.cells
  have la := BF.out.lt
  obtain ⟨b0, b1, b2, b3, b4, b5, b6⟩ := BG.out.cells
  have lb := BG.out.lt
  obtain ⟨d0, d1, d2, d3, d4, d5, d6⟩ := BH.out.cells
  have ld := BH.out.lt
  simp only at a0 a1 a2 a3 a4 a5 a6 la b0 b1 b2 b3 b4 b5 b6 lb d0 d1 d2 d3 d4 d5 d6 ld
  go_wp2_with fail
  refine (nums_lists (LA.out.alloc _) (L.out.alloc _) rfl HN.out (by have := HM.out; have := HN.out; omega) (by have := HM.out; omega)).mono ?_
  rintro _ w6 ⟨rfl, q6, hq⟩
  have z := below_of_drewN hq
  clear hq
  clear a0 a1 a2 a3 a4 a5 a6 la b0 b1 b2 b3 b4 b5 b6 lb d0 d1 d2 d3 d4 d5 d6 ld
  have BN := Lib.hid ((Bf.new w5 ⟨1, 0, q, 0, 0, 0, 3⟩).after z)
  replace z := keep_call z (bel_alloc w5 _)
  replace Z := Lib.hid (Z.out.trans (z.mono Z.out.size))
  replace L := Lib.hid (L.out.below z)
  replace BF := Lib.hid (BF.out.after z)
  replace LA := Lib.hid (LA.out.below z)
  replace BG := Lib.hid (BG.out.after z)
  replace LB := Lib.hid (LB.out.below z)
  replace BH := Lib.hid (BH.out.after z)
  clear z
  obtain ⟨a0, a1, a2, a3, a4, a5, a6⟩ := BF.out.cells
  have la := BF.out.lt
  simp only at a0 a1 a2 a3 a4 a5 a6 la
  go_wp2_with fail
  refine (Tells.of (over_any ⟨o, p, q, v, x, y, s⟩ _) (v' := .bool false) (by rw [← HS.out])).mono ?_
  rintro _ w7 ⟨rfl, z⟩
  clear a0 a1 a2 a3 a4 a5 a6 la
  replace Z := Lib.hid (Z.out.trans (z.mono Z.out.size))
  replace L := Lib.hid (L.out.below z)
  replace BF := Lib.hid (BF.out.after z)
  replace LA := Lib.hid (LA.out.below z)
  replace BG := Lib.hid (BG.out.after z)
  replace LB := Lib.hid (LB.out.below z)
  replace BH := Lib.hid (BH.out.after z)
  replace BN := Lib.hid (BN.out.after z)
  clear z
  obtain ⟨a0, a1, a2, a3, a4, a5, a6⟩ := BF.out.cells
  have la := BF.out.lt
  obtain ⟨b0, b1, b2, b3, b4, b5, b6⟩ := BG.out.cells
  have lb := BG.out.lt
  simp only at a0 a1 a2 a3 a4 a5 a6 la b0 b1 b2 b3 b4 b5 b6 lb
  go_wp2
  go_ret
  exact ⟨rfl, Z.out⟩
set_option maxHeartbeats 2000000 in
theorem over_f (A : Option Addr) (n c : Nat) (l : List Int) (r o p q v x y s : Int) (w : World) (hA : Rd w A l) (hn : l.length = n) (hc : n ≤ c) (hm : n ≤ 300) (h0 : 0 ≤ o) (h4 : o ≤ 4) (hs : s = 0) : Tells 5 #[.slice A n c, .int .i64 r, fv ⟨o, p, q, v, x, y, s⟩] w (.bool true) := by
  have hd : decide ((300 : Int) < (n : Int)) = false := decide_eq_false (by omega)
  have d0 : decide (0 ≤ o) = true := decide_eq_true (by omega)
  have d4 : decide (o ≤ 4) = true := decide_eq_true (by omega)
  obtain ⟨l1, u, t, e1, ht, hl1⟩ := on_known (l := l) (r := r) (f := ⟨o, p, q, v, x, y, s⟩) hs h0 h4
  simp only at e1
  have E1 := Lib.hid e1
  have E2 := Lib.hid (on_leave (l := l1) (r := r) (f := ⟨o, 0, q, u, 0, 0, t⟩) (.inl ht))
  have ho : ((t != 0) = true) := by simpa using ht
  have HO := Lib.hid ho
  have HL1 := Lib.hid (show l1.length ≤ 301 by omega)
  clear e1 ht hl1 ho
  have HS := Lib.hid (show (s != 0) = false by simp [hs])
  have HN := Lib.hid hn
  have HC := Lib.hid hc
  have HM := Lib.hid hm
  have L := Lib.hid hA
  clear hn hc hA hs h0 h4 hm
  go_enter Try.func5, Try.ntmps5
  go_wp2_with fail
  refine (awake_any _).mono ?_
  rintro _ w1 ⟨rfl, z⟩
  have BF := Lib.hid ((Bf.new w ⟨o, p, q, v, x, y, s⟩).after z)
  replace z := keep_call z (bel_alloc w _)
  have Z := Lib.hid z
  replace L := Lib.hid (L.out.below z)
  clear z
  obtain ⟨a0, a1, a2, a3, a4, a5, a6⟩ := BF.out.cells
  have la := BF.out.lt
  simp only at a0 a1 a2 a3 a4 a5 a6 la
  go_wp2_with fail
  refine (once_at l1 ⟨o, 0, q, u, 0, 0, t⟩ E1.out L.out HN.out HC.out (by have := HM.out; omega)).mono ?_
  rintro _ w2 ⟨A2, c2, rfl, hc2, n2, z⟩
  clear a0 a1 a2 a3 a4 a5 a6 la
  replace Z := Lib.hid (Z.out.trans (z.mono Z.out.size))
  replace L := Lib.hid (L.out.below z)
  replace BF := Lib.hid (BF.out.after z)
  have LA := Lib.hid n2.rd
  have HLA := Lib.hid hc2
  clear z n2 hc2
  obtain ⟨a0, a1, a2, a3, a4, a5, a6⟩ := BF.out.cells
  have la := BF.out.lt
  simp only at a0 a1 a2 a3 a4 a5 a6 la
  go_wp2_with fail
  refine (once_at l1 ⟨o, 0, q, u, 0, 0, t⟩ E2.out (LA.out.alloc _) rfl HLA.out (by have := HL1.out; omega)).mono ?_
  rintro _ w3 ⟨A3, c3, rfl, hc3, n3, z⟩
  clear a0 a1 a2 a3 a4 a5 a6 la
  have BG := Lib.hid ((Bf.new w2 ⟨o, 0, q, u, 0, 0, t⟩).after z)
  replace z := keep_call z (bel_alloc w2 _)
  replace Z := Lib.hid (Z.out.trans (z.mono Z.out.size))
  replace L := Lib.hid (L.out.below z)
  replace BF := Lib.hid (BF.out.after z)
  replace LA := Lib.hid (LA.out.below z)
  have LB := Lib.hid n3.rd
  have HLB := Lib.hid hc3
  clear z n3 hc3
  obtain ⟨a0, a1, a2, a3, a4, a5, a6⟩ := BF.out.cells
  have la := BF.out.lt
  obtain ⟨b0, b1, b2, b3, b4, b5, b6⟩ := BG.out.cells
  have lb := BG.out.lt
  simp only at a0 a1 a2 a3 a4 a5 a6 la b0 b1 b2 b3 b4 b5 b6 lb
  go_wp2_with fail
  refine (begin_any 1 q v _).mono ?_
  rintro _ w4 ⟨rfl, z⟩
  clear a0 a1 a2 a3 a4 a5 a6 la b0 b1 b2 b3 b4 b5 b6 lb
  have BH := Lib.hid ((Bf.new w3 ⟨o, 0, q, u, 0, 0, t⟩).after z)
  replace z := keep_call z (bel_alloc w3 _)
  replace Z := Lib.hid (Z.out.trans (z.mono Z.out.size))
  replace L := Lib.hid (L.out.below z)
  replace BF := Lib.hid (BF.out.after z)
  replace LA := Lib.hid (LA.out.below z)
  replace BG := Lib.hid (BG.out.after z)
  replace LB := Lib.hid (LB.out.below z)
  clear z
  go_wp2_with fail
  refine (once_at [] ⟨1, 0, q, 0, 0, 0, 3⟩ (on_pop_nil r q v) (Rd.nil _ none) rfl (by decide) (by decide)).mono ?_
  rintro _ w5 ⟨A5, c5, rfl, hc5, n5, z⟩
  replace Z := Lib.hid (Z.out.trans (z.mono Z.out.size))
  replace L := Lib.hid (L.out.below z)
  replace BF := Lib.hid (BF.out.after z)
  replace LA := Lib.hid (LA.out.below z)
  replace BG := Lib.hid (BG.out.after z)
  replace LB := Lib.hid (LB.out.below z)
  replace BH := Lib.hid (BH.out.after z)
  have LD := Lib.hid n5.rd
  have HLD := Lib.hid hc5
  clear z n5 hc5
  clear LD HLD
  obtain ⟨a0, a1, a2, a3, a4, a5, a6⟩ := BF.out.cells
  have la := BF.out.lt
  obtain ⟨b0, b1, b2, b3, b4, b5, b6⟩ := BG.out.cells
  have lb := BG.out.lt
  obtain ⟨d0, d1, d2, d3, d4, d5, d6⟩ := BH.out.cells
  have ld := BH.out.lt
  simp only at a0 a1 a2 a3 a4 a5 a6 la b0 b1 b2 b3 b4 b5 b6 lb d0 d1 d2 d3 d4 d5 d6 ld
  go_wp2_with fail
  obtain ⟨bb, hbb⟩ := nums_some (n := l1.length) (m := n) (c := c2) (d := c) (LA.out.alloc (.cells #[.int .i64 1, .int .i64 0, .int .i64 q, .int .u64 0, .int .u64 0, .int .u64 0, .int .i64 3] 25)) (L.out.alloc _) rfl HN.out (by have := HL1.out; omega) (by have := HM.out; omega)
  refine (hbb).mono ?_
  rintro _ w6 ⟨rfl, q6, hq⟩
  have z := below_of_drewN hq
  clear hq
  clear a0 a1 a2 a3 a4 a5 a6 la b0 b1 b2 b3 b4 b5 b6 lb d0 d1 d2 d3 d4 d5 d6 ld
  have BN := Lib.hid ((Bf.new w5 ⟨1, 0, q, 0, 0, 0, 3⟩).after z)
  replace z := keep_call z (bel_alloc w5 _)
  replace Z := Lib.hid (Z.out.trans (z.mono Z.out.size))
  replace L := Lib.hid (L.out.below z)
  replace BF := Lib.hid (BF.out.after z)
  replace LA := Lib.hid (LA.out.below z)
  replace BG := Lib.hid (BG.out.after z)
  replace LB := Lib.hid (LB.out.below z)
  replace BH := Lib.hid (BH.out.after z)
  clear z
  clear hbb
  obtain ⟨a0, a1, a2, a3, a4, a5, a6⟩ := BF.out.cells
  have la := BF.out.lt
  simp only at a0 a1 a2 a3 a4 a5 a6 la
  go_wp2_with fail
  refine (Tells.of (over_any ⟨o, p, q, v, x, y, s⟩ _) (v' := .bool false) (by rw [← HS.out])).mono ?_
  rintro _ w7 ⟨rfl, z⟩
  clear a0 a1 a2 a3 a4 a5 a6 la
  replace Z := Lib.hid (Z.out.trans (z.mono Z.out.size))
  replace L := Lib.hid (L.out.below z)
  replace BF := Lib.hid (BF.out.after z)
  replace LA := Lib.hid (LA.out.below z)
  replace BG := Lib.hid (BG.out.after z)
  replace LB := Lib.hid (LB.out.below z)
  replace BH := Lib.hid (BH.out.after z)
  replace BN := Lib.hid (BN.out.after z)
  clear z
  go_wp2_with fail
  refine (nums_eq LA.out LB.out rfl (by have := HL1.out; omega)).mono ?_
  rintro _ w8 ⟨rfl, q8, hq⟩
  have z := below_of_drewN hq
  clear hq
  replace Z := Lib.hid (Z.out.trans (z.mono Z.out.size))
  replace L := Lib.hid (L.out.below z)
  replace BF := Lib.hid (BF.out.after z)
  replace LA := Lib.hid (LA.out.below z)
  replace BG := Lib.hid (BG.out.after z)
  replace LB := Lib.hid (LB.out.below z)
  replace BH := Lib.hid (BH.out.after z)
  replace BN := Lib.hid (BN.out.after z)
  clear z
  obtain ⟨b0, b1, b2, b3, b4, b5, b6⟩ := BG.out.cells
  have lb := BG.out.lt
  simp only at b0 b1 b2 b3 b4 b5 b6 lb
  go_wp2_with fail
  refine (Tells.of (over_any ⟨o, 0, q, u, 0, 0, t⟩ _) (v' := .bool true) (by rw [← HO.out])).mono ?_
  rintro _ w9 ⟨rfl, z⟩
  clear b0 b1 b2 b3 b4 b5 b6 lb
  replace Z := Lib.hid (Z.out.trans (z.mono Z.out.size))
  replace L := Lib.hid (L.out.below z)
  replace BF := Lib.hid (BF.out.after z)
  replace LA := Lib.hid (LA.out.below z)
  replace BG := Lib.hid (BG.out.after z)
  replace LB := Lib.hid (LB.out.below z)
  replace BH := Lib.hid (BH.out.after z)
  replace BN := Lib.hid (BN.out.after z)
  clear z
  obtain ⟨a0, a1, a2, a3, a4, a5, a6⟩ := BF.out.cells
  have la := BF.out.lt
  obtain ⟨b0, b1, b2, b3, b4, b5, b6⟩ := BG.out.cells
  have lb := BG.out.lt
  obtain ⟨d0, d1, d2, d3, d4, d5, d6⟩ := BH.out.cells
  have ld := BH.out.lt
  obtain ⟨e0, e1, e2, e3, e4, e5, e6⟩ := BN.out.cells
  have le := BN.out.lt
  simp only at a0 a1 a2 a3 a4 a5 a6 la b0 b1 b2 b3 b4 b5 b6 lb d0 d1 d2 d3 d4 d5 d6 ld e0 e1 e2 e3 e4 e5 e6 le
  go_wp2
  go_ret
  exact ⟨rfl, Z.out⟩
theorem frameOver_walk (A : Option Addr) (n c : Nat) (l : List Int) (r : Int) (f : Fr) (w : World) (hA : Rd w A l) (hn : l.length = n) (hc : n ≤ c) : Tells 5 #[.slice A n c, .int .i64 r, fv f] w (.bool true) := by
  by_cases hm : n ≤ 300
  · obtain ⟨o, p, q, v, x, y, s⟩ := f
    by_cases hs : s = 0
    · by_cases h0 : o < 0
      · exact over_d A n c l r o p q v x y s w hA hn hc hm h0 hs
      by_cases h4 : 4 < o
      · exact over_e A n c l r o p q v x y s w hA hn hc hm (by omega) h4 hs
      exact over_f A n c l r o p q v x y s w hA hn hc hm (by omega) (by omega) hs
    · by_cases h0 : o < 0
      · exact over_a A n c l r o p q v x y s w hA hn hc hm h0 hs
      by_cases h4 : 4 < o
      · exact over_c A n c l r o p q v x y s w hA hn hc hm (by omega) h4 hs
      exact over_b A n c l r o p q v x y s w hA hn hc hm (by omega) (by omega) hs
  · exact over_big A n c r f w (by omega)
end Go.Proofs.Ytodilnleaodnpaa
