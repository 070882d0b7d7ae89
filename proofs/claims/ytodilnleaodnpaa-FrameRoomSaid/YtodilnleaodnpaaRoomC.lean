/- The walk of FrameRoom: what is put in, or taken. -/
import Derived.Test.YtodilnleaodnpaaRoomH
namespace Go.Proofs.Ytodilnleaodnpaa
open Go.RowKit Go.Deep
set_option maxHeartbeats 2000000 in
theorem room_Pl (A : Option Addr) (n c m : Nat) (l l1 : List Int) (r i o p q v x y u : Int) (w : World) (hA : Rd w A l) (hn : l.length = n) (hc : n ≤ c) (hm : n ≤ 300) (hl1 : l1.length = m) (e1 : on l r ⟨o, p, q, v, x, y, 0⟩ = (l1, ⟨o, 0, q, u, 0, 0, 1⟩)) (dm : m = n + 1) (same : ∀ j u, l1[j]? = some u → j < n → l[j]? = some u) (hr : (n : Int) ≤ r ∧ (m : Int) ≤ r) (h2 : (o == 2) = false) (h4 : (o == 4) = false) : Tells 6 #[.slice A n c, .int .i64 r, fv ⟨o, p, q, v, x, y, 0⟩, .int .i64 i] w (.bool true) := by
  have hd : decide ((300 : Int) < (n : Int)) = false := decide_eq_false (by omega)
  have E1 := Lib.hid e1
  have HN := Lib.hid hn
  have HC := Lib.hid hc
  have HM := Lib.hid hm
  have HL1 := Lib.hid hl1
  have SM := Lib.hid same
  have L := Lib.hid hA
  have HR := Lib.hid hr
  have DM := Lib.hid dm
  clear e1 hn hc hA hl1 same hr dm
  go_enter Try.func6, Try.ntmps6
  go_wp2_with fail
  refine (awake_any _).mono ?_
  rintro _ w1 ⟨rfl, z⟩
  have BF := Lib.hid ((Bf.new w ⟨o, p, q, v, x, y, 0⟩).after z)
  replace z := keep_call z (bel_alloc w _)
  have Z := Lib.hid z
  replace L := Lib.hid (L.out.below z)
  clear z
  obtain ⟨a0, a1, a2, a3, a4, a5, a6⟩ := BF.out.cells
  have la := BF.out.lt
  simp only at a0 a1 a2 a3 a4 a5 a6 la
  go_wp2_with fail
  refine (once_at l1 ⟨o, 0, q, u, 0, 0, 1⟩ E1.out L.out HN.out HC.out (by have := HM.out; omega)).mono ?_
  rintro _ w2 ⟨A2, c2, rfl, hc2, n2, z⟩
  clear a0 a1 a2 a3 a4 a5 a6 la
  replace Z := Lib.hid (Z.out.trans (z.mono Z.out.size))
  replace L := Lib.hid (L.out.below z)
  replace BF := Lib.hid (BF.out.after z)
  have LA := Lib.hid n2.rd
  have HLA := Lib.hid hc2
  clear z n2 hc2
  have hml := HL1.out
  rw [hml]
  clear hml
  obtain ⟨a0, a1, a2, a3, a4, a5, a6⟩ := BF.out.cells
  have la := BF.out.lt
  simp only at a0 a1 a2 a3 a4 a5 a6 la
  have hr := HR.out
  have dm := DM.out
  have x1 : decide ((n : Int) + 1 < (m : Int)) = false := decide_eq_false (by omega)
  have x2 : decide ((m : Int) < (n : Int) - 1) = false := decide_eq_false (by omega)
  have x3 : decide ((n : Int) ≤ r) = true := decide_eq_true hr.1
  have x4 : decide (r < (m : Int)) = false := decide_eq_false (by omega)
  have x5 : ((m : Int) != (n : Int)) = true := by simp; omega
  clear hr dm
  by_cases i0 : i < 0
  · have y0 : decide (i < 0) = true := decide_eq_true i0
    go_wp2
    go_ret
    exact ⟨rfl, Z.out.alloc Z.out.size _⟩
  have y0 : decide (i < 0) = false := decide_eq_false i0
  by_cases i1 : (m : Int) ≤ i
  · have y1 : decide ((m : Int) ≤ i) = true := decide_eq_true i1
    go_wp2
    go_ret
    exact ⟨rfl, Z.out.alloc Z.out.size _⟩
  have y1 : decide ((m : Int) ≤ i) = false := decide_eq_false i1
  by_cases i2 : (n : Int) ≤ i
  · have y2 : decide ((n : Int) ≤ i) = true := decide_eq_true i2
    go_wp2
    go_ret
    exact ⟨rfl, Z.out.alloc Z.out.size _⟩
  have y2 : decide ((n : Int) ≤ i) = false := decide_eq_false i2
  obtain ⟨j, rfl⟩ : ∃ j : Nat, i = (j : Int) := ⟨i.toNat, by omega⟩
  have jm : j < l1.length := by rw [HL1.out]; omega
  have jn : j < n := by omega
  have jm2 : (j : Int) < (m : Int) := by omega
  have jn2 : (j : Int) < (n : Int) := by omega
  have jp : (0 : Int) ≤ (j : Int) := by omega
  obtain ⟨k, ek⟩ : ∃ k, l1[j]? = some k := ⟨_, List.getElem?_eq_getElem jm⟩
  have ek2 := SM.out j k ek jn
  clear i0 i1 i2
  have LA2 := LA.out.alloc (.cells #[.int .i64 o, .int .i64 0, .int .i64 q, .int .u64 u, .int .u64 0, .int .u64 0, .int .i64 1] 25)
  have L2 := L.out.alloc (.cells #[.int .i64 o, .int .i64 0, .int .i64 q, .int .u64 u, .int .u64 0, .int .u64 0, .int .i64 1] 25)
  obtain ⟨ad, rfl, al, ac⟩ := LA2 (by omega)
  obtain ⟨bd, rfl, bl, bc⟩ := L2 (by rw [HN.out]; omega)
  have c1 := ac j k ek
  have c2 := bc _ k ek2
  clear ac bc al bl ek ek2 jm jn
  go_wp2_with fail
  go_quiet (fail)
  go_wp2
  go_ret
  exact ⟨rfl, then_drew (Z.out.alloc Z.out.size _)⟩
set_option maxHeartbeats 2000000 in
theorem room_Ll (A : Option Addr) (n c m : Nat) (l l1 : List Int) (r i o p q v x y u : Int) (w : World) (hA : Rd w A l) (hn : l.length = n) (hc : n ≤ c) (hm : n ≤ 300) (hl1 : l1.length = m) (e1 : on l r ⟨o, p, q, v, x, y, 0⟩ = (l1, ⟨o, 0, q, u, 0, 0, 1⟩)) (dm : n = m + 1) (same : ∀ j u, l1[j]? = some u → j < n → l[j]? = some u) (hr : (n : Int) ≤ r ∧ (m : Int) ≤ r) (h2 : (o == 2) = false) (h4 : (o == 4) = false) : Tells 6 #[.slice A n c, .int .i64 r, fv ⟨o, p, q, v, x, y, 0⟩, .int .i64 i] w (.bool true) := by
  have hd : decide ((300 : Int) < (n : Int)) = false := decide_eq_false (by omega)
  have E1 := Lib.hid e1
  have HN := Lib.hid hn
  have HC := Lib.hid hc
  have HM := Lib.hid hm
  have HL1 := Lib.hid hl1
  have SM := Lib.hid same
  have L := Lib.hid hA
  have HR := Lib.hid hr
  have DM := Lib.hid dm
  clear e1 hn hc hA hl1 same hr dm
  go_enter Try.func6, Try.ntmps6
  go_wp2_with fail
  refine (awake_any _).mono ?_
  rintro _ w1 ⟨rfl, z⟩
  have BF := Lib.hid ((Bf.new w ⟨o, p, q, v, x, y, 0⟩).after z)
  replace z := keep_call z (bel_alloc w _)
  have Z := Lib.hid z
  replace L := Lib.hid (L.out.below z)
  clear z
  obtain ⟨a0, a1, a2, a3, a4, a5, a6⟩ := BF.out.cells
  have la := BF.out.lt
  simp only at a0 a1 a2 a3 a4 a5 a6 la
  go_wp2_with fail
  refine (once_at l1 ⟨o, 0, q, u, 0, 0, 1⟩ E1.out L.out HN.out HC.out (by have := HM.out; omega)).mono ?_
  rintro _ w2 ⟨A2, c2, rfl, hc2, n2, z⟩
  clear a0 a1 a2 a3 a4 a5 a6 la
  replace Z := Lib.hid (Z.out.trans (z.mono Z.out.size))
  replace L := Lib.hid (L.out.below z)
  replace BF := Lib.hid (BF.out.after z)
  have LA := Lib.hid n2.rd
  have HLA := Lib.hid hc2
  clear z n2 hc2
  have hml := HL1.out
  rw [hml]
  clear hml
  obtain ⟨a0, a1, a2, a3, a4, a5, a6⟩ := BF.out.cells
  have la := BF.out.lt
  simp only at a0 a1 a2 a3 a4 a5 a6 la
  have hr := HR.out
  have dm := DM.out
  have x1 : decide ((n : Int) + 1 < (m : Int)) = false := decide_eq_false (by omega)
  have x2 : decide ((m : Int) < (n : Int) - 1) = false := decide_eq_false (by omega)
  have x3 : decide ((n : Int) ≤ r) = true := decide_eq_true hr.1
  have x4 : decide (r < (m : Int)) = false := decide_eq_false (by omega)
  have x5 : ((m : Int) != (n : Int)) = true := by simp; omega
  clear hr dm
  by_cases i0 : i < 0
  · have y0 : decide (i < 0) = true := decide_eq_true i0
    go_wp2
    go_ret
    exact ⟨rfl, Z.out.alloc Z.out.size _⟩
  have y0 : decide (i < 0) = false := decide_eq_false i0
  by_cases i1 : (m : Int) ≤ i
  · have y1 : decide ((m : Int) ≤ i) = true := decide_eq_true i1
    go_wp2
    go_ret
    exact ⟨rfl, Z.out.alloc Z.out.size _⟩
  have y1 : decide ((m : Int) ≤ i) = false := decide_eq_false i1
  by_cases i2 : (n : Int) ≤ i
  · have y2 : decide ((n : Int) ≤ i) = true := decide_eq_true i2
    go_wp2
    go_ret
    exact ⟨rfl, Z.out.alloc Z.out.size _⟩
  have y2 : decide ((n : Int) ≤ i) = false := decide_eq_false i2
  obtain ⟨j, rfl⟩ : ∃ j : Nat, i = (j : Int) := ⟨i.toNat, by omega⟩
  have jm : j < l1.length := by rw [HL1.out]; omega
  have jn : j < n := by omega
  have jm2 : (j : Int) < (m : Int) := by omega
  have jn2 : (j : Int) < (n : Int) := by omega
  have jp : (0 : Int) ≤ (j : Int) := by omega
  obtain ⟨k, ek⟩ : ∃ k, l1[j]? = some k := ⟨_, List.getElem?_eq_getElem jm⟩
  have ek2 := SM.out j k ek jn
  clear i0 i1 i2
  have LA2 := LA.out.alloc (.cells #[.int .i64 o, .int .i64 0, .int .i64 q, .int .u64 u, .int .u64 0, .int .u64 0, .int .i64 1] 25)
  have L2 := L.out.alloc (.cells #[.int .i64 o, .int .i64 0, .int .i64 q, .int .u64 u, .int .u64 0, .int .u64 0, .int .i64 1] 25)
  obtain ⟨ad, rfl, al, ac⟩ := LA2 (by omega)
  obtain ⟨bd, rfl, bl, bc⟩ := L2 (by rw [HN.out]; omega)
  have c1 := ac j k ek
  have c2 := bc _ k ek2
  clear ac bc al bl ek ek2 jm jn
  go_wp2_with fail
  go_quiet (fail)
  go_wp2
  go_ret
  exact ⟨rfl, then_drew (Z.out.alloc Z.out.size _)⟩
set_option maxHeartbeats 2000000 in
theorem room_F2l (A : Option Addr) (n c m : Nat) (l l1 : List Int) (r i p q v x y u : Int) (w : World) (hA : Rd w A l) (hn : l.length = n) (hc : n ≤ c) (hm : n ≤ 300) (hl1 : l1.length = m) (e1 : on l r ⟨2, p, q, v, x, y, 0⟩ = (l1, ⟨2, 0, q, u, 0, 0, 1⟩)) (dm : n = m + 1) (same : ∀ j u, l1[j]? = some u → l[j + 1]? = some u) (hr : (n : Int) ≤ r ∧ (m : Int) ≤ r) : Tells 6 #[.slice A n c, .int .i64 r, fv ⟨2, p, q, v, x, y, 0⟩, .int .i64 i] w (.bool true) := by
  have hd : decide ((300 : Int) < (n : Int)) = false := decide_eq_false (by omega)
  have E1 := Lib.hid e1
  have HN := Lib.hid hn
  have HC := Lib.hid hc
  have HM := Lib.hid hm
  have HL1 := Lib.hid hl1
  have SM := Lib.hid same
  have L := Lib.hid hA
  have HR := Lib.hid hr
  have DM := Lib.hid dm
  clear e1 hn hc hA hl1 same hr dm
  go_enter Try.func6, Try.ntmps6
  go_wp2_with fail
  refine (awake_any _).mono ?_
  rintro _ w1 ⟨rfl, z⟩
  have BF := Lib.hid ((Bf.new w ⟨2, p, q, v, x, y, 0⟩).after z)
  replace z := keep_call z (bel_alloc w _)
  have Z := Lib.hid z
  replace L := Lib.hid (L.out.below z)
  clear z
  obtain ⟨a0, a1, a2, a3, a4, a5, a6⟩ := BF.out.cells
  have la := BF.out.lt
  simp only at a0 a1 a2 a3 a4 a5 a6 la
  go_wp2_with fail
  refine (once_at l1 ⟨2, 0, q, u, 0, 0, 1⟩ E1.out L.out HN.out HC.out (by have := HM.out; omega)).mono ?_
  rintro _ w2 ⟨A2, c2, rfl, hc2, n2, z⟩
  clear a0 a1 a2 a3 a4 a5 a6 la
  replace Z := Lib.hid (Z.out.trans (z.mono Z.out.size))
  replace L := Lib.hid (L.out.below z)
  replace BF := Lib.hid (BF.out.after z)
  have LA := Lib.hid n2.rd
  have HLA := Lib.hid hc2
  clear z n2 hc2
  have hml := HL1.out
  rw [hml]
  clear hml
  obtain ⟨a0, a1, a2, a3, a4, a5, a6⟩ := BF.out.cells
  have la := BF.out.lt
  simp only at a0 a1 a2 a3 a4 a5 a6 la
  have hr := HR.out
  have dm := DM.out
  have x1 : decide ((n : Int) + 1 < (m : Int)) = false := decide_eq_false (by omega)
  have x2 : decide ((m : Int) < (n : Int) - 1) = false := decide_eq_false (by omega)
  have x3 : decide ((n : Int) ≤ r) = true := decide_eq_true hr.1
  have x4 : decide (r < (m : Int)) = false := decide_eq_false (by omega)
  have x5 : ((m : Int) != (n : Int)) = true := by simp; omega
  clear hr dm
  by_cases i0 : i < 0
  · have y0 : decide (i < 0) = true := decide_eq_true i0
    go_wp2
    go_ret
    exact ⟨rfl, Z.out.alloc Z.out.size _⟩
  have y0 : decide (i < 0) = false := decide_eq_false i0
  by_cases i1 : (m : Int) ≤ i
  · have y1 : decide ((m : Int) ≤ i) = true := decide_eq_true i1
    go_wp2
    go_ret
    exact ⟨rfl, Z.out.alloc Z.out.size _⟩
  have y1 : decide ((m : Int) ≤ i) = false := decide_eq_false i1
  by_cases i2 : (n : Int) ≤ i
  · have y2 : decide ((n : Int) ≤ i) = true := decide_eq_true i2
    go_wp2
    go_ret
    exact ⟨rfl, Z.out.alloc Z.out.size _⟩
  have y2 : decide ((n : Int) ≤ i) = false := decide_eq_false i2
  obtain ⟨j, rfl⟩ : ∃ j : Nat, i = (j : Int) := ⟨i.toNat, by omega⟩
  have jm : j < l1.length := by rw [HL1.out]; omega
  have jn : j < n := by omega
  have jm2 : (j : Int) < (m : Int) := by omega
  have jn2 : (j : Int) < (n : Int) := by omega
  have jp : (0 : Int) ≤ (j : Int) := by omega
  obtain ⟨k, ek⟩ : ∃ k, l1[j]? = some k := ⟨_, List.getElem?_eq_getElem jm⟩
  have ek2 := SM.out j k ek
  have j3 : (j : Int) + 1 < (n : Int) := by have := DM.out; omega
  have j4 : decide ((n : Int) ≤ (j : Int) + 1) = false := decide_eq_false (by omega)
  have j5 : IntKind.i64.wrap ((j : Int) + 1) = (j : Int) + 1 := by rw [IntKind.wrap_i64]; omega
  have j6 : ((j : Int) + 1).toNat = j + 1 := by omega
  have j7 : (0 : Int) ≤ (j : Int) + 1 := by omega
  clear i0 i1 i2
  go_wp2_with fail
  refine (Tells.of (over_any ⟨2, p, q, v, x, y, 0⟩ _) (v' := .bool false) rfl).mono ?_
  rintro _ w3 ⟨rfl, z⟩
  clear a0 a1 a2 a3 a4 a5 a6 la
  have BG := Lib.hid ((Bf.new w2 ⟨2, 0, q, u, 0, 0, 1⟩).after z)
  replace z := keep_call z (bel_alloc w2 _)
  replace Z := Lib.hid (Z.out.trans (z.mono Z.out.size))
  replace L := Lib.hid (L.out.below z)
  replace BF := Lib.hid (BF.out.after z)
  replace LA := Lib.hid (LA.out.below z)
  clear z
  obtain ⟨ad, rfl, al, ac⟩ := LA.out (by omega)
  obtain ⟨bd, rfl, bl, bc⟩ := L.out (by rw [HN.out]; omega)
  have c3 : World.cell? w3 ⟨bd.block, bd.off + (j + 1), none⟩ = some (.int .u64 k) := by simpa [Addr.add] using bc _ k ek2
  have c1 := ac j k ek
  have c2 := bc _ k ek2
  clear ac bc al bl ek ek2 jm jn
  go_wp2_with fail
  go_quiet (fail)
  go_wp2
  go_ret
  exact ⟨rfl, then_drew Z.out⟩
set_option maxHeartbeats 2000000 in
theorem room_F4l (A : Option Addr) (n c m : Nat) (l l1 : List Int) (r i p q v x y u : Int) (w : World) (hA : Rd w A l) (hn : l.length = n) (hc : n ≤ c) (hm : n ≤ 300) (hl1 : l1.length = m) (e1 : on l r ⟨4, p, q, v, x, y, 0⟩ = (l1, ⟨4, 0, q, u, 0, 0, 1⟩)) (dm : n = m + 1) (same : ∀ j u, l1[j]? = some u → l[j + 1]? = some u) (hr : (n : Int) ≤ r ∧ (m : Int) ≤ r) : Tells 6 #[.slice A n c, .int .i64 r, fv ⟨4, p, q, v, x, y, 0⟩, .int .i64 i] w (.bool true) := by
  have hd : decide ((300 : Int) < (n : Int)) = false := decide_eq_false (by omega)
  have E1 := Lib.hid e1
  have HN := Lib.hid hn
  have HC := Lib.hid hc
  have HM := Lib.hid hm
  have HL1 := Lib.hid hl1
  have SM := Lib.hid same
  have L := Lib.hid hA
  have HR := Lib.hid hr
  have DM := Lib.hid dm
  clear e1 hn hc hA hl1 same hr dm
  go_enter Try.func6, Try.ntmps6
  go_wp2_with fail
  refine (awake_any _).mono ?_
  rintro _ w1 ⟨rfl, z⟩
  have BF := Lib.hid ((Bf.new w ⟨4, p, q, v, x, y, 0⟩).after z)
  replace z := keep_call z (bel_alloc w _)
  have Z := Lib.hid z
  replace L := Lib.hid (L.out.below z)
  clear z
  obtain ⟨a0, a1, a2, a3, a4, a5, a6⟩ := BF.out.cells
  have la := BF.out.lt
  simp only at a0 a1 a2 a3 a4 a5 a6 la
  go_wp2_with fail
  refine (once_at l1 ⟨4, 0, q, u, 0, 0, 1⟩ E1.out L.out HN.out HC.out (by have := HM.out; omega)).mono ?_
  rintro _ w2 ⟨A2, c2, rfl, hc2, n2, z⟩
  clear a0 a1 a2 a3 a4 a5 a6 la
  replace Z := Lib.hid (Z.out.trans (z.mono Z.out.size))
  replace L := Lib.hid (L.out.below z)
  replace BF := Lib.hid (BF.out.after z)
  have LA := Lib.hid n2.rd
  have HLA := Lib.hid hc2
  clear z n2 hc2
  have hml := HL1.out
  rw [hml]
  clear hml
  obtain ⟨a0, a1, a2, a3, a4, a5, a6⟩ := BF.out.cells
  have la := BF.out.lt
  simp only at a0 a1 a2 a3 a4 a5 a6 la
  have hr := HR.out
  have dm := DM.out
  have x1 : decide ((n : Int) + 1 < (m : Int)) = false := decide_eq_false (by omega)
  have x2 : decide ((m : Int) < (n : Int) - 1) = false := decide_eq_false (by omega)
  have x3 : decide ((n : Int) ≤ r) = true := decide_eq_true hr.1
  have x4 : decide (r < (m : Int)) = false := decide_eq_false (by omega)
  have x5 : ((m : Int) != (n : Int)) = true := by simp; omega
  clear hr dm
  by_cases i0 : i < 0
  · have y0 : decide (i < 0) = true := decide_eq_true i0
    go_wp2
    go_ret
    exact ⟨rfl, Z.out.alloc Z.out.size _⟩
  have y0 : decide (i < 0) = false := decide_eq_false i0
  by_cases i1 : (m : Int) ≤ i
  · have y1 : decide ((m : Int) ≤ i) = true := decide_eq_true i1
    go_wp2
    go_ret
    exact ⟨rfl, Z.out.alloc Z.out.size _⟩
  have y1 : decide ((m : Int) ≤ i) = false := decide_eq_false i1
  by_cases i2 : (n : Int) ≤ i
  · have y2 : decide ((n : Int) ≤ i) = true := decide_eq_true i2
    go_wp2
    go_ret
    exact ⟨rfl, Z.out.alloc Z.out.size _⟩
  have y2 : decide ((n : Int) ≤ i) = false := decide_eq_false i2
  obtain ⟨j, rfl⟩ : ∃ j : Nat, i = (j : Int) := ⟨i.toNat, by omega⟩
  have jm : j < l1.length := by rw [HL1.out]; omega
  have jn : j < n := by omega
  have jm2 : (j : Int) < (m : Int) := by omega
  have jn2 : (j : Int) < (n : Int) := by omega
  have jp : (0 : Int) ≤ (j : Int) := by omega
  obtain ⟨k, ek⟩ : ∃ k, l1[j]? = some k := ⟨_, List.getElem?_eq_getElem jm⟩
  have ek2 := SM.out j k ek
  have j3 : (j : Int) + 1 < (n : Int) := by have := DM.out; omega
  have j4 : decide ((n : Int) ≤ (j : Int) + 1) = false := decide_eq_false (by omega)
  have j5 : IntKind.i64.wrap ((j : Int) + 1) = (j : Int) + 1 := by rw [IntKind.wrap_i64]; omega
  have j6 : ((j : Int) + 1).toNat = j + 1 := by omega
  have j7 : (0 : Int) ≤ (j : Int) + 1 := by omega
  clear i0 i1 i2
  go_wp2_with fail
  refine (Tells.of (over_any ⟨4, p, q, v, x, y, 0⟩ _) (v' := .bool false) rfl).mono ?_
  rintro _ w3 ⟨rfl, z⟩
  clear a0 a1 a2 a3 a4 a5 a6 la
  have BG := Lib.hid ((Bf.new w2 ⟨4, 0, q, u, 0, 0, 1⟩).after z)
  replace z := keep_call z (bel_alloc w2 _)
  replace Z := Lib.hid (Z.out.trans (z.mono Z.out.size))
  replace L := Lib.hid (L.out.below z)
  replace BF := Lib.hid (BF.out.after z)
  replace LA := Lib.hid (LA.out.below z)
  clear z
  obtain ⟨ad, rfl, al, ac⟩ := LA.out (by omega)
  obtain ⟨bd, rfl, bl, bc⟩ := L.out (by rw [HN.out]; omega)
  have c3 : World.cell? w3 ⟨bd.block, bd.off + (j + 1), none⟩ = some (.int .u64 k) := by simpa [Addr.add] using bc _ k ek2
  have c1 := ac j k ek
  have c2 := bc _ k ek2
  clear ac bc al bl ek ek2 jm jn
  go_wp2_with fail
  go_quiet (fail)
  go_wp2
  go_ret
  exact ⟨rfl, then_drew Z.out⟩
set_option maxHeartbeats 2000000 in
theorem room_Lg (A : Option Addr) (n c m : Nat) (l l1 : List Int) (r i o p q v x y u : Int) (w : World) (hA : Rd w A l) (hn : l.length = n) (hc : n ≤ c) (hm : n ≤ 300) (hl1 : l1.length = m) (e1 : on l r ⟨o, p, q, v, x, y, 0⟩ = (l1, ⟨o, 0, q, u, 0, 0, 1⟩)) (dm : n = m + 1) (same : ∀ j u, l1[j]? = some u → j < n → l[j]? = some u) (hr : r < (n : Int)) (h2 : (o == 2) = false) (h4 : (o == 4) = false) : Tells 6 #[.slice A n c, .int .i64 r, fv ⟨o, p, q, v, x, y, 0⟩, .int .i64 i] w (.bool true) := by
  have hd : decide ((300 : Int) < (n : Int)) = false := decide_eq_false (by omega)
  have E1 := Lib.hid e1
  have HN := Lib.hid hn
  have HC := Lib.hid hc
  have HM := Lib.hid hm
  have HL1 := Lib.hid hl1
  have SM := Lib.hid same
  have L := Lib.hid hA
  have HR := Lib.hid hr
  have DM := Lib.hid dm
  clear e1 hn hc hA hl1 same hr dm
  go_enter Try.func6, Try.ntmps6
  go_wp2_with fail
  refine (awake_any _).mono ?_
  rintro _ w1 ⟨rfl, z⟩
  have BF := Lib.hid ((Bf.new w ⟨o, p, q, v, x, y, 0⟩).after z)
  replace z := keep_call z (bel_alloc w _)
  have Z := Lib.hid z
  replace L := Lib.hid (L.out.below z)
  clear z
  obtain ⟨a0, a1, a2, a3, a4, a5, a6⟩ := BF.out.cells
  have la := BF.out.lt
  simp only at a0 a1 a2 a3 a4 a5 a6 la
  go_wp2_with fail
  refine (once_at l1 ⟨o, 0, q, u, 0, 0, 1⟩ E1.out L.out HN.out HC.out (by have := HM.out; omega)).mono ?_
  rintro _ w2 ⟨A2, c2, rfl, hc2, n2, z⟩
  clear a0 a1 a2 a3 a4 a5 a6 la
  replace Z := Lib.hid (Z.out.trans (z.mono Z.out.size))
  replace L := Lib.hid (L.out.below z)
  replace BF := Lib.hid (BF.out.after z)
  have LA := Lib.hid n2.rd
  have HLA := Lib.hid hc2
  clear z n2 hc2
  have hml := HL1.out
  rw [hml]
  clear hml
  obtain ⟨a0, a1, a2, a3, a4, a5, a6⟩ := BF.out.cells
  have la := BF.out.lt
  simp only at a0 a1 a2 a3 a4 a5 a6 la
  have hr := HR.out
  have dm := DM.out
  have x1 : decide ((n : Int) + 1 < (m : Int)) = false := decide_eq_false (by omega)
  have x2 : decide ((m : Int) < (n : Int) - 1) = false := decide_eq_false (by omega)
  have x3 : decide ((n : Int) ≤ r) = false := decide_eq_false (by omega)
  have x5 : ((m : Int) != (n : Int)) = true := by simp; omega
  clear hr dm
  by_cases i0 : i < 0
  · have y0 : decide (i < 0) = true := decide_eq_true i0
    go_wp2
    go_ret
    exact ⟨rfl, Z.out.alloc Z.out.size _⟩
  have y0 : decide (i < 0) = false := decide_eq_false i0
  by_cases i1 : (m : Int) ≤ i
  · have y1 : decide ((m : Int) ≤ i) = true := decide_eq_true i1
    go_wp2
    go_ret
    exact ⟨rfl, Z.out.alloc Z.out.size _⟩
  have y1 : decide ((m : Int) ≤ i) = false := decide_eq_false i1
  by_cases i2 : (n : Int) ≤ i
  · have y2 : decide ((n : Int) ≤ i) = true := decide_eq_true i2
    go_wp2
    go_ret
    exact ⟨rfl, Z.out.alloc Z.out.size _⟩
  have y2 : decide ((n : Int) ≤ i) = false := decide_eq_false i2
  obtain ⟨j, rfl⟩ : ∃ j : Nat, i = (j : Int) := ⟨i.toNat, by omega⟩
  have jm : j < l1.length := by rw [HL1.out]; omega
  have jn : j < n := by omega
  have jm2 : (j : Int) < (m : Int) := by omega
  have jn2 : (j : Int) < (n : Int) := by omega
  have jp : (0 : Int) ≤ (j : Int) := by omega
  obtain ⟨k, ek⟩ : ∃ k, l1[j]? = some k := ⟨_, List.getElem?_eq_getElem jm⟩
  have ek2 := SM.out j k ek jn
  clear i0 i1 i2
  have LA2 := LA.out.alloc (.cells #[.int .i64 o, .int .i64 0, .int .i64 q, .int .u64 u, .int .u64 0, .int .u64 0, .int .i64 1] 25)
  have L2 := L.out.alloc (.cells #[.int .i64 o, .int .i64 0, .int .i64 q, .int .u64 u, .int .u64 0, .int .u64 0, .int .i64 1] 25)
  obtain ⟨ad, rfl, al, ac⟩ := LA2 (by omega)
  obtain ⟨bd, rfl, bl, bc⟩ := L2 (by rw [HN.out]; omega)
  have c1 := ac j k ek
  have c2 := bc _ k ek2
  clear ac bc al bl ek ek2 jm jn
  go_wp2_with fail
  go_quiet (fail)
  go_wp2
  go_ret
  exact ⟨rfl, then_drew (Z.out.alloc Z.out.size _)⟩
set_option maxHeartbeats 2000000 in
theorem room_F2g (A : Option Addr) (n c m : Nat) (l l1 : List Int) (r i p q v x y u : Int) (w : World) (hA : Rd w A l) (hn : l.length = n) (hc : n ≤ c) (hm : n ≤ 300) (hl1 : l1.length = m) (e1 : on l r ⟨2, p, q, v, x, y, 0⟩ = (l1, ⟨2, 0, q, u, 0, 0, 1⟩)) (dm : n = m + 1) (same : ∀ j u, l1[j]? = some u → l[j + 1]? = some u) (hr : r < (n : Int)) : Tells 6 #[.slice A n c, .int .i64 r, fv ⟨2, p, q, v, x, y, 0⟩, .int .i64 i] w (.bool true) := by
  have hd : decide ((300 : Int) < (n : Int)) = false := decide_eq_false (by omega)
  have E1 := Lib.hid e1
  have HN := Lib.hid hn
  have HC := Lib.hid hc
  have HM := Lib.hid hm
  have HL1 := Lib.hid hl1
  have SM := Lib.hid same
  have L := Lib.hid hA
  have HR := Lib.hid hr
  have DM := Lib.hid dm
  clear e1 hn hc hA hl1 same hr dm
  go_enter Try.func6, Try.ntmps6
  go_wp2_with fail
  refine (awake_any _).mono ?_
  rintro _ w1 ⟨rfl, z⟩
  have BF := Lib.hid ((Bf.new w ⟨2, p, q, v, x, y, 0⟩).after z)
  replace z := keep_call z (bel_alloc w _)
  have Z := Lib.hid z
  replace L := Lib.hid (L.out.below z)
  clear z
  obtain ⟨a0, a1, a2, a3, a4, a5, a6⟩ := BF.out.cells
  have la := BF.out.lt
  simp only at a0 a1 a2 a3 a4 a5 a6 la
  go_wp2_with fail
  refine (once_at l1 ⟨2, 0, q, u, 0, 0, 1⟩ E1.out L.out HN.out HC.out (by have := HM.out; omega)).mono ?_
  rintro _ w2 ⟨A2, c2, rfl, hc2, n2, z⟩
  clear a0 a1 a2 a3 a4 a5 a6 la
  replace Z := Lib.hid (Z.out.trans (z.mono Z.out.size))
  replace L := Lib.hid (L.out.below z)
  replace BF := Lib.hid (BF.out.after z)
  have LA := Lib.hid n2.rd
  have HLA := Lib.hid hc2
  clear z n2 hc2
  have hml := HL1.out
  rw [hml]
  clear hml
  obtain ⟨a0, a1, a2, a3, a4, a5, a6⟩ := BF.out.cells
  have la := BF.out.lt
  simp only at a0 a1 a2 a3 a4 a5 a6 la
  have hr := HR.out
  have dm := DM.out
  have x1 : decide ((n : Int) + 1 < (m : Int)) = false := decide_eq_false (by omega)
  have x2 : decide ((m : Int) < (n : Int) - 1) = false := decide_eq_false (by omega)
  have x3 : decide ((n : Int) ≤ r) = false := decide_eq_false (by omega)
  have x5 : ((m : Int) != (n : Int)) = true := by simp; omega
  clear hr dm
  by_cases i0 : i < 0
  · have y0 : decide (i < 0) = true := decide_eq_true i0
    go_wp2
    go_ret
    exact ⟨rfl, Z.out.alloc Z.out.size _⟩
  have y0 : decide (i < 0) = false := decide_eq_false i0
  by_cases i1 : (m : Int) ≤ i
  · have y1 : decide ((m : Int) ≤ i) = true := decide_eq_true i1
    go_wp2
    go_ret
    exact ⟨rfl, Z.out.alloc Z.out.size _⟩
  have y1 : decide ((m : Int) ≤ i) = false := decide_eq_false i1
  by_cases i2 : (n : Int) ≤ i
  · have y2 : decide ((n : Int) ≤ i) = true := decide_eq_true i2
    go_wp2
    go_ret
    exact ⟨rfl, Z.out.alloc Z.out.size _⟩
  have y2 : decide ((n : Int) ≤ i) = false := decide_eq_false i2
  obtain ⟨j, rfl⟩ : ∃ j : Nat, i = (j : Int) := ⟨i.toNat, by omega⟩
  have jm : j < l1.length := by rw [HL1.out]; omega
  have jn : j < n := by omega
  have jm2 : (j : Int) < (m : Int) := by omega
  have jn2 : (j : Int) < (n : Int) := by omega
  have jp : (0 : Int) ≤ (j : Int) := by omega
  obtain ⟨k, ek⟩ : ∃ k, l1[j]? = some k := ⟨_, List.getElem?_eq_getElem jm⟩
  have ek2 := SM.out j k ek
  have j3 : (j : Int) + 1 < (n : Int) := by have := DM.out; omega
  have j4 : decide ((n : Int) ≤ (j : Int) + 1) = false := decide_eq_false (by omega)
  have j5 : IntKind.i64.wrap ((j : Int) + 1) = (j : Int) + 1 := by rw [IntKind.wrap_i64]; omega
  have j6 : ((j : Int) + 1).toNat = j + 1 := by omega
  have j7 : (0 : Int) ≤ (j : Int) + 1 := by omega
  clear i0 i1 i2
  go_wp2_with fail
  refine (Tells.of (over_any ⟨2, p, q, v, x, y, 0⟩ _) (v' := .bool false) rfl).mono ?_
  rintro _ w3 ⟨rfl, z⟩
  clear a0 a1 a2 a3 a4 a5 a6 la
  have BG := Lib.hid ((Bf.new w2 ⟨2, 0, q, u, 0, 0, 1⟩).after z)
  replace z := keep_call z (bel_alloc w2 _)
  replace Z := Lib.hid (Z.out.trans (z.mono Z.out.size))
  replace L := Lib.hid (L.out.below z)
  replace BF := Lib.hid (BF.out.after z)
  replace LA := Lib.hid (LA.out.below z)
  clear z
  obtain ⟨ad, rfl, al, ac⟩ := LA.out (by omega)
  obtain ⟨bd, rfl, bl, bc⟩ := L.out (by rw [HN.out]; omega)
  have c3 : World.cell? w3 ⟨bd.block, bd.off + (j + 1), none⟩ = some (.int .u64 k) := by simpa [Addr.add] using bc _ k ek2
  have c1 := ac j k ek
  have c2 := bc _ k ek2
  clear ac bc al bl ek ek2 jm jn
  go_wp2_with fail
  go_quiet (fail)
  go_wp2
  go_ret
  exact ⟨rfl, then_drew Z.out⟩
set_option maxHeartbeats 2000000 in
theorem room_F4g (A : Option Addr) (n c m : Nat) (l l1 : List Int) (r i p q v x y u : Int) (w : World) (hA : Rd w A l) (hn : l.length = n) (hc : n ≤ c) (hm : n ≤ 300) (hl1 : l1.length = m) (e1 : on l r ⟨4, p, q, v, x, y, 0⟩ = (l1, ⟨4, 0, q, u, 0, 0, 1⟩)) (dm : n = m + 1) (same : ∀ j u, l1[j]? = some u → l[j + 1]? = some u) (hr : r < (n : Int)) : Tells 6 #[.slice A n c, .int .i64 r, fv ⟨4, p, q, v, x, y, 0⟩, .int .i64 i] w (.bool true) := by
  have hd : decide ((300 : Int) < (n : Int)) = false := decide_eq_false (by omega)
  have E1 := Lib.hid e1
  have HN := Lib.hid hn
  have HC := Lib.hid hc
  have HM := Lib.hid hm
  have HL1 := Lib.hid hl1
  have SM := Lib.hid same
  have L := Lib.hid hA
  have HR := Lib.hid hr
  have DM := Lib.hid dm
  clear e1 hn hc hA hl1 same hr dm
  go_enter Try.func6, Try.ntmps6
  go_wp2_with fail
  refine (awake_any _).mono ?_
  rintro _ w1 ⟨rfl, z⟩
  have BF := Lib.hid ((Bf.new w ⟨4, p, q, v, x, y, 0⟩).after z)
  replace z := keep_call z (bel_alloc w _)
  have Z := Lib.hid z
  replace L := Lib.hid (L.out.below z)
  clear z
  obtain ⟨a0, a1, a2, a3, a4, a5, a6⟩ := BF.out.cells
  have la := BF.out.lt
  simp only at a0 a1 a2 a3 a4 a5 a6 la
  go_wp2_with fail
  refine (once_at l1 ⟨4, 0, q, u, 0, 0, 1⟩ E1.out L.out HN.out HC.out (by have := HM.out; omega)).mono ?_
  rintro _ w2 ⟨A2, c2, rfl, hc2, n2, z⟩
  clear a0 a1 a2 a3 a4 a5 a6 la
  replace Z := Lib.hid (Z.out.trans (z.mono Z.out.size))
  replace L := Lib.hid (L.out.below z)
  replace BF := Lib.hid (BF.out.after z)
  have LA := Lib.hid n2.rd
  have HLA := Lib.hid hc2
  clear z n2 hc2
  have hml := HL1.out
  rw [hml]
  clear hml
  obtain ⟨a0, a1, a2, a3, a4, a5, a6⟩ := BF.out.cells
  have la := BF.out.lt
  simp only at a0 a1 a2 a3 a4 a5 a6 la
  have hr := HR.out
  have dm := DM.out
  have x1 : decide ((n : Int) + 1 < (m : Int)) = false := decide_eq_false (by omega)
  have x2 : decide ((m : Int) < (n : Int) - 1) = false := decide_eq_false (by omega)
  have x3 : decide ((n : Int) ≤ r) = false := decide_eq_false (by omega)
  have x5 : ((m : Int) != (n : Int)) = true := by simp; omega
  clear hr dm
  by_cases i0 : i < 0
  · have y0 : decide (i < 0) = true := decide_eq_true i0
    go_wp2
    go_ret
    exact ⟨rfl, Z.out.alloc Z.out.size _⟩
  have y0 : decide (i < 0) = false := decide_eq_false i0
  by_cases i1 : (m : Int) ≤ i
  · have y1 : decide ((m : Int) ≤ i) = true := decide_eq_true i1
    go_wp2
    go_ret
    exact ⟨rfl, Z.out.alloc Z.out.size _⟩
  have y1 : decide ((m : Int) ≤ i) = false := decide_eq_false i1
  by_cases i2 : (n : Int) ≤ i
  · have y2 : decide ((n : Int) ≤ i) = true := decide_eq_true i2
    go_wp2
    go_ret
    exact ⟨rfl, Z.out.alloc Z.out.size _⟩
  have y2 : decide ((n : Int) ≤ i) = false := decide_eq_false i2
  obtain ⟨j, rfl⟩ : ∃ j : Nat, i = (j : Int) := ⟨i.toNat, by omega⟩
  have jm : j < l1.length := by rw [HL1.out]; omega
  have jn : j < n := by omega
  have jm2 : (j : Int) < (m : Int) := by omega
  have jn2 : (j : Int) < (n : Int) := by omega
  have jp : (0 : Int) ≤ (j : Int) := by omega
  obtain ⟨k, ek⟩ : ∃ k, l1[j]? = some k := ⟨_, List.getElem?_eq_getElem jm⟩
  have ek2 := SM.out j k ek
  have j3 : (j : Int) + 1 < (n : Int) := by have := DM.out; omega
  have j4 : decide ((n : Int) ≤ (j : Int) + 1) = false := decide_eq_false (by omega)
  have j5 : IntKind.i64.wrap ((j : Int) + 1) = (j : Int) + 1 := by rw [IntKind.wrap_i64]; omega
  have j6 : ((j : Int) + 1).toNat = j + 1 := by omega
  have j7 : (0 : Int) ≤ (j : Int) + 1 := by omega
  clear i0 i1 i2
  go_wp2_with fail
  refine (Tells.of (over_any ⟨4, p, q, v, x, y, 0⟩ _) (v' := .bool false) rfl).mono ?_
  rintro _ w3 ⟨rfl, z⟩
  clear a0 a1 a2 a3 a4 a5 a6 la
  have BG := Lib.hid ((Bf.new w2 ⟨4, 0, q, u, 0, 0, 1⟩).after z)
  replace z := keep_call z (bel_alloc w2 _)
  replace Z := Lib.hid (Z.out.trans (z.mono Z.out.size))
  replace L := Lib.hid (L.out.below z)
  replace BF := Lib.hid (BF.out.after z)
  replace LA := Lib.hid (LA.out.below z)
  clear z
  obtain ⟨ad, rfl, al, ac⟩ := LA.out (by omega)
  obtain ⟨bd, rfl, bl, bc⟩ := L.out (by rw [HN.out]; omega)
  have c3 : World.cell? w3 ⟨bd.block, bd.off + (j + 1), none⟩ = some (.int .u64 k) := by simpa [Addr.add] using bc _ k ek2
  have c1 := ac j k ek
  have c2 := bc _ k ek2
  clear ac bc al bl ek ek2 jm jn
  go_wp2_with fail
  go_quiet (fail)
  go_wp2
  go_ret
  exact ⟨rfl, then_drew Z.out⟩
end Go.Proofs.Ytodilnleaodnpaa
