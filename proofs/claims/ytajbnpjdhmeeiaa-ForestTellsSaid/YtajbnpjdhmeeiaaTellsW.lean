/- The walk of ForestTells. -/
import Derived.Test.YtajbnpjdhmeeiaaFoO
namespace Go.Proofs.Ytajbnpjdhmeeiaa
open Go.RowKit Go.Deep
theorem tells_few0 (A B : Option Addr) (c d : Nat) (T V : List Tsk) (k : Int) (w : World) (ha : Came w A T.length T) (hb : Came w B V.length V) (h : few T = false) : Tells 3 #[.slice A T.length c, .slice B V.length d, .int .i64 k] w (.bool true) := by
  have HA := Lib.hid ha
  have HB := Lib.hid hb
  have H := Lib.hid h
  clear ha hb h
  go_enter Try.func3, Try.ntmps3
  go_wp2_with fail
  refine (awake_any _).mono ?_
  rintro _ w1 ⟨rfl, z1⟩
  have Z := Lib.hid z1
  clear z1
  go_wp2_with fail
  refine (Gives.of (few_any A c w.heap.size T w1 (HA.out.2.2.2.below Z.out) HA.out.2.1 HA.out.2.2.1) (v' := .bool false) (by rw [H.out])).mono ?_
  rintro _ _ ⟨rfl, rfl⟩
  go_wp2_with fail
  refine (few_any B d w.heap.size V _ (HB.out.2.2.2.below Z.out) HB.out.2.1 HB.out.2.2.1).mono ?_
  rintro _ _ ⟨rfl, rfl⟩
  go_wp2
  go_ret
  exact ⟨rfl, Z.out⟩
theorem tells_few1 (A B : Option Addr) (c d : Nat) (T V : List Tsk) (k : Int) (w : World) (ha : Came w A T.length T) (hb : Came w B V.length V) (h : few T = true) (h' : few V = false) : Tells 3 #[.slice A T.length c, .slice B V.length d, .int .i64 k] w (.bool true) := by
  have HA := Lib.hid ha
  have HB := Lib.hid hb
  have H := Lib.hid h
  have H' := Lib.hid h'
  clear ha hb h h'
  go_enter Try.func3, Try.ntmps3
  go_wp2_with fail
  refine (awake_any _).mono ?_
  rintro _ w1 ⟨rfl, z1⟩
  have Z := Lib.hid z1
  clear z1
  go_wp2_with fail
  refine (Gives.of (few_any A c w.heap.size T w1 (HA.out.2.2.2.below Z.out) HA.out.2.1 HA.out.2.2.1) (v' := .bool true) (by rw [H.out])).mono ?_
  rintro _ _ ⟨rfl, rfl⟩
  go_wp2_with fail
  refine (Gives.of (few_any B d w.heap.size V _ (HB.out.2.2.2.below Z.out) HB.out.2.1 HB.out.2.2.1) (v' := .bool false) (by rw [H'.out])).mono ?_
  rintro _ _ ⟨rfl, rfl⟩
  go_wp2
  go_ret
  exact ⟨rfl, Z.out⟩
theorem rts_len (T : List Tsk) (h : Sm T) : (rts T).length ≤ 1000 := by
  unfold rts
  split
  · have := rtN_le T T.length
    have := h.1
    omega
  · simp
theorem und_len (T : List Tsk) (r : Int) (h : Sm T) : (und T r).length ≤ 1000 := by
  unfold und
  split
  · rename_i h'
    have := U1_len (may_parts h'.1).2.2 (r := r.toNat) (by omega)
    unfold U1 at this
    have := h.1
    omega
  · simp
set_option maxRecDepth 100000 in
set_option maxHeartbeats 4000000 in
theorem tells_all (A B : Option Addr) (c d : Nat) (T V : List Tsk) (k : Int) (w : World) (ha : Came w A T.length T) (hb : Came w B V.length V) (h : few T = true) (h' : few V = true) : Tells 3 #[.slice A T.length c, .slice B V.length d, .int .i64 k] w (.bool true) := by
  have HA := Lib.hid ha
  have HB := Lib.hid hb
  have H := Lib.hid h
  have H' := Lib.hid h'
  have HS := Lib.hid (few_sm h)
  clear ha hb h h'
  go_enter Try.func3, Try.ntmps3
  go_wp2_with fail
  refine (awake_any _).mono ?_
  rintro _ w1 ⟨rfl, z1⟩
  have Z := Lib.hid z1
  clear z1
  go_wp2_with fail
  refine (Gives.of (few_any A c w.heap.size T w1 (HA.out.2.2.2.below Z.out) HA.out.2.1 HA.out.2.2.1) (v' := .bool true) (by rw [H.out])).mono ?_
  rintro _ _ ⟨rfl, rfl⟩
  go_wp2_with fail
  refine (Gives.of (few_any B d w.heap.size V _ (HB.out.2.2.2.below Z.out) HB.out.2.1 HB.out.2.2.1) (v' := .bool true) (by rw [H'.out])).mono ?_
  rintro _ _ ⟨rfl, rfl⟩
  go_wp2_with fail
  refine (sums_any A c w.heap.size T _ (HA.out.2.2.2.below Z.out) Z.out.size HS.out).mono ?_
  rintro _ w2 ⟨rfl, z2⟩
  replace Z := Lib.hid (Z.out.trans (z2.mono Z.out.size))
  clear z2
  go_wp2_with fail
  refine (rsums_any A c w.heap.size T _ (HA.out.2.2.2.below Z.out) Z.out.size HS.out).mono ?_
  rintro _ w3 ⟨rfl, z2⟩
  replace Z := Lib.hid (Z.out.trans (z2.mono Z.out.size))
  clear z2
  go_wp2_with fail
  refine (rmay_any A c w.heap.size T _ (HA.out.2.2.2.below Z.out) Z.out.size HS.out).mono ?_
  rintro _ w4 ⟨rfl, z2⟩
  replace Z := Lib.hid (Z.out.trans (z2.mono Z.out.size))
  clear z2
  go_wp2_with fail
  refine (rsame_any A B c d w.heap.size T V _ (HA.out.2.2.2.below Z.out) (HB.out.2.2.2.below Z.out) Z.out.size HS.out).mono ?_
  rintro _ w5 ⟨rfl, z2⟩
  replace Z := Lib.hid (Z.out.trans (z2.mono Z.out.size))
  clear z2
  go_wp2_with fail
  refine (roots_any A c w.heap.size T _ (HA.out.2.2.2.below Z.out) Z.out.size HS.out).mono ?_
  rintro _ w6 ⟨R1, e1, rfl, hr1, z2⟩
  replace Z := Lib.hid (Z.out.trans (z2.mono Z.out.size))
  have HR1 := Lib.hid hr1
  clear z2 hr1
  go_wp2_with fail
  refine (rroots_any A c w.heap.size T _ (HA.out.2.2.2.below Z.out) Z.out.size HS.out).mono ?_
  rintro _ w7 ⟨R2, e2, rfl, hr2, z2⟩
  replace Z := Lib.hid (Z.out.trans (z2.mono Z.out.size))
  replace HR1 := Lib.hid ((HR1.out.below z2).mono z2.size)
  have HR2 := Lib.hid hr2
  clear z2 hr2
  go_wp2_with fail
  refine (Tells.of (ints_any R1 R2 e1 e2 _ (rts T) (rts T) _ HR1.out HR2.out (rts_len T HS.out)) (v' := .bool true) (by rw [decide_eq_true rfl])).mono ?_
  rintro _ w8 ⟨rfl, z2⟩
  replace Z := Lib.hid (Z.out.trans (z2.mono Z.out.size))
  clear z2 HR1 HR2
  go_wp2_with fail
  refine (under_any A c w.heap.size T k _ (HA.out.2.2.2.below Z.out) Z.out.size HS.out).mono ?_
  rintro _ w9 ⟨R3, e3, rfl, hr1, z2⟩
  replace Z := Lib.hid (Z.out.trans (z2.mono Z.out.size))
  have HR1 := Lib.hid hr1
  clear z2 hr1
  go_wp2_with fail
  refine (rUnder_any A c w.heap.size T k _ (HA.out.2.2.2.below Z.out) Z.out.size HS.out).mono ?_
  rintro _ w10 ⟨R4, e4, rfl, hr2, z2⟩
  replace Z := Lib.hid (Z.out.trans (z2.mono Z.out.size))
  replace HR1 := Lib.hid ((HR1.out.below z2).mono z2.size)
  have HR2 := Lib.hid hr2
  clear z2 hr2
  go_wp2_with fail
  refine (Tells.of (ints_any R3 R4 e3 e4 _ (und T k) (und T k) _ HR1.out HR2.out (und_len T k HS.out)) (v' := .bool true) (by rw [decide_eq_true rfl])).mono ?_
  rintro _ w11 ⟨rfl, z2⟩
  replace Z := Lib.hid (Z.out.trans (z2.mono Z.out.size))
  clear z2 HR1 HR2
  go_wp2_with fail
  refine (may_any A c w.heap.size T _ (HA.out.2.2.2.below Z.out) Z.out.size HS.out).mono ?_
  rintro _ w12 ⟨rfl, z2⟩
  replace Z := Lib.hid (Z.out.trans (z2.mono Z.out.size))
  clear z2
  go_wp2_with fail
  refine (same_any A B c d w.heap.size T V _ (HA.out.2.2.2.below Z.out) (HB.out.2.2.2.below Z.out) Z.out.size HS.out).mono ?_
  rintro _ w13 ⟨rfl, z2⟩
  replace Z := Lib.hid (Z.out.trans (z2.mono Z.out.size))
  clear z2
  go_wp2_with fail
  refine (parent_any A c w.heap.size T k _ (HA.out.2.2.2.below Z.out) Z.out.size HS.out).mono ?_
  rintro _ w14 ⟨rfl, z2⟩
  replace Z := Lib.hid (Z.out.trans (z2.mono Z.out.size))
  clear z2
  go_wp2_with fail
  refine (rpar_any A c w.heap.size T k _ (HA.out.2.2.2.below Z.out) Z.out.size HS.out).mono ?_
  rintro _ w15 ⟨rfl, z2⟩
  replace Z := Lib.hid (Z.out.trans (z2.mono Z.out.size))
  clear z2
  go_wp2
  go_ret
  exact ⟨rfl, Z.out⟩
theorem forestTells_walk (A B : Option Addr) (n c m d : Nat) (T V : List Tsk) (k : Int) (w : World) (ha : Came w A n T) (hb : Came w B m V) : Tells 3 #[.slice A n c, .slice B m d, .int .i64 k] w (.bool true) := by
  obtain rfl := ha.1
  obtain rfl := hb.1
  cases h : few T
  · exact tells_few0 A B c d T V k w ha hb h
  · cases h' : few V
    · exact tells_few1 A B c d T V k w ha hb h h'
    · exact tells_all A B c d T V k w ha hb h h'
end Go.Proofs.Ytajbnpjdhmeeiaa
