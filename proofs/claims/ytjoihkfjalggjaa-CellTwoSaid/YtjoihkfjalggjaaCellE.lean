/- Contract of awake: the chapter's example comes out. -/
import Derived.Test.YtjoihkfjalggjaaCellC
import Derived.Test.YtjoihkfjalggjaaCellD
namespace Go.Proofs.Ytjoihkfjalggjaa
open Go.RowKit Go.Deep
theorem RetA.of {w : World} {n : Nat} {l l' : List Int} {u u' : Int} {P : Program} {f : FuncId} {args : Array Value} (h : Calls P f args w (RetA w n l u)) (e1 : l = l') (e2 : u = u') : Calls P f args w (RetA w n l' u') := by rw [← e1, ← e2]; exact h
theorem RetC.of {w : World} {n : Nat} {l l' : List Int} {u u' : Bool} {P : Program} {f : FuncId} {args : Array Value} (h : Calls P f args w (RetC w n l u)) (e1 : l = l') (e2 : u = u') : Calls P f args w (RetC w n l' u') := by rw [← e1, ← e2]; exact h
theorem RetM.of {w : World} {n : Nat} {l l' : List Int} {P : Program} {f : FuncId} {args : Array Value} (h : Calls P f args w (RetM w n l)) (e1 : l = l') : Calls P f args w (RetM w n l') := by rw [← e1]; exact h
theorem ret_of {w : World} {v v' : Value} {P : Program} {f : FuncId} {args : Array Value} (h : Calls P f args w fun e w' => e = .returned v ∧ Below w.heap.size w w') (e1 : v = v') : Calls P f args w fun e w' => e = .returned v' ∧ Below w.heap.size w w' := by rw [← e1]; exact h
set_option maxHeartbeats 400000 in
theorem awake_any (w : World) : Calls Try.prog 10 #[] w fun e w' => e = .returned (.bool true) ∧ Below w.heap.size w w' := by
  go_enter Try.func10, Try.ntmps10
  go_wp2_with fail
  have b0 : Bk (w.alloc (.cells #[.int .u64 5, .int .u64 7] 24)) w.heap.size [5, 7] := heap_alloc_new _ _
  have z0 : Below w.heap.size w (w.alloc (.cells #[.int .u64 5, .int .u64 7] 24)) := (Below.refl _ _).alloc (Nat.le_refl _) _
  refine (RetA.of (add_any _ 2 2 [5, 7] 0 2 _ b0.rd rfl (by decide)) (l' := [7, 7]) (u' := 5) (by decide) (by decide)).mono ?_
  rintro e w1 ⟨g1, rfl, b1, z1⟩
  have Z1 := Lib.hid (z0.trans (z1.mono (by simp)))
  have B1 := Lib.hid b1.rd
  clear b0 z0 b1 z1
  go_wp2_with fail
  refine (RetC.of (cas_any _ 2 2 [7, 7] 1 7 9 _ B1.out rfl (by decide)) (l' := [7, 9]) (u' := true) (by decide) (by decide)).mono ?_
  rintro e w2 ⟨g2, rfl, b2, z2⟩
  have Z2 := Lib.hid (Z1.out.trans (z2.mono Z1.out.size))
  replace B1 := Lib.hid (B1.out.below z2)
  have B2 := Lib.hid b2.rd
  clear b2 z2 Z1
  go_wp2_with fail
  refine (ret_of (load_any _ 2 2 [7, 7] 0 _ B1.out rfl (by decide)) (v' := .int .u64 7) rfl).mono ?_
  rintro e w3 ⟨rfl, z3⟩
  have Z3 := Lib.hid (Z2.out.trans (z3.mono Z2.out.size))
  replace B1 := Lib.hid (B1.out.below z3)
  replace B2 := Lib.hid (B2.out.below z3)
  clear z3 Z2
  go_wp2_with fail
  refine (ret_of (load_any _ 2 2 [7, 9] 1 _ B2.out rfl (by decide)) (v' := .int .u64 9) rfl).mono ?_
  rintro e w4 ⟨rfl, z4⟩
  have Z4 := Lib.hid (Z3.out.trans (z4.mono Z3.out.size))
  replace B1 := Lib.hid (B1.out.below z4)
  replace B2 := Lib.hid (B2.out.below z4)
  clear z4 Z3
  go_wp2_with fail
  refine (RetM.of (store_any _ 2 2 [7, 9] 1 3 _ B2.out rfl (by decide)) (l' := [7, 3]) (by decide)).mono ?_
  rintro e w5 ⟨g5, rfl, b5, z5⟩
  have Z5 := Lib.hid (Z4.out.trans (z5.mono Z4.out.size))
  replace B1 := Lib.hid (B1.out.below z5)
  have B5 := Lib.hid b5.rd
  clear z5 Z4 b5
  go_wp2_with fail
  refine (ret_of (load_any _ 2 2 [7, 3] 1 _ B5.out rfl (by decide)) (v' := .int .u64 3) rfl).mono ?_
  rintro e w6 ⟨rfl, z6⟩
  have Z6 := Lib.hid (Z5.out.trans (z6.mono Z5.out.size))
  replace B1 := Lib.hid (B1.out.below z6)
  clear z6 Z5
  go_wp2_with fail
  refine (ret_of (same_any _ _ 2 2 2 2 [7, 7] [7, 7] _ B1.out B1.out rfl rfl (by decide)) (v' := .bool true) rfl).mono ?_
  rintro e w7 ⟨rfl, z7⟩
  have Z7 := Lib.hid (Z6.out.trans (z7.mono Z6.out.size))
  go_wp2
  go_ret
  exact ⟨rfl, Z7.out⟩
end Go.Proofs.Ytjoihkfjalggjaa
