/- Merged: CellC, CellD, CellE, CellF. -/
import Derived.Test.YtlpkccpijloidaaGreatCelA
import Derived.RegionTactic
import Derived.Deep.LoopGhost
import Derived.Deep.RegionHeld3
import Derived.IntWalk
namespace Go.Proofs.YtlpkccpijloidaaGreat
set_option maxRecDepth 100000
open Go.RowKit Go.Deep
set_option maxHeartbeats 400000 in
theorem add_in (A : Option Addr) (n c k : Nat) (l : List Int) (u x : Int) (w : World) (h : Rd w A l) (hn : l.length = n) (hs : n ≤ 500) (hu : l[k]? = some x) :
    Calls Tryz.prog 79 #[.slice A n c, .int .i64 k, .int .u64 u] w (RetA w n (l.set k (IntKind.u64.wrap (x + u))) x) := by
  have hk : k < n := by have := (List.getElem?_eq_some_iff.1 hu).1; omega
  have HN := Lib.hid hn
  have HU := Lib.hid hu
  have h1 : Below w.heap.size w (w.alloc (.cells #[.int .u64 u] 28)) := ((Below.refl _ _).alloc (Nat.le_refl _) _)
  have H := Lib.hid (h.below h1)
  clear hn h h1 hu
  go_enter Tryz.func79, Tryz.ntmps79
  go_wp2_with fail
  refine (copied_any A n c (w.heap.size + 1) l _ H.out HN.out hs (by simp)).mono ?_
  rintro e w1 ⟨rfl, hB, hb⟩
  have hbox : w1.cell? ⟨w.heap.size, 0, none⟩ = some (.int .u64 u) := (hb.cell (p := ⟨w.heap.size, 0, none⟩) (by simp)).trans (by simp)
  have hcell := hB.cell k _ HU.out
  have hfz := hB.frozen k
  have hlt := hB.lt
  have hl0 : w.heap.size < w1.heap.size := by omega
  have hl1 : w.heap.size + 1 < w1.heap.size := by omega
  have HB := Lib.hid hB
  have Hb := Lib.hid hb
  clear hB hb
  go_wp2
  go_region
  go_wp2
  go_end0
  go_wp2
  go_end0
  go_wp2
  go_region
  go_wp2
  go_ret2
  refine ⟨_, rfl, (HB.out.set k _).alloc _, ?_⟩
  exact (((((Below.refl _ _).alloc (Nat.le_refl _) _).trans (Hb.out.mono (by simp))).setCell (by simp) _).alloc (by simp [World.setCell]; omega) _).drew.drew
set_option maxHeartbeats 400000 in
theorem add_out (A : Option Addr) (n c : Nat) (l : List Int) (i u : Int) (w : World) (h : Rd w A l) (hn : l.length = n) (hs : n ≤ 500) (hi : i < 0 ∨ (n : Int) ≤ i) :
    Calls Tryz.prog 79 #[.slice A n c, .int .i64 i, .int .u64 u] w (RetA w n l 0) := by
  have HN := Lib.hid hn
  have h1 : Below w.heap.size w (w.alloc (.cells #[.int .u64 u] 28)) := ((Below.refl _ _).alloc (Nat.le_refl _) _)
  have H := Lib.hid (h.below h1)
  clear hn h h1
  rcases hi with hi | hi
  all_goals
    go_enter Tryz.func79, Tryz.ntmps79
    go_wp2_with fail
    refine (copied_any A n c (w.heap.size + 1) l _ H.out HN.out hs (by simp)).mono ?_
    rintro e w1 ⟨rfl, hB, hb⟩
    have hlt := hB.lt
    have HB := Lib.hid hB
    have Hb := Lib.hid hb
    clear hB hb
    go_wp2
    go_end0
    go_wp2
    go_region
    go_wp2
    go_ret2
    refine ⟨_, rfl, HB.out.alloc _, ?_⟩
    exact ((((Below.refl _ _).alloc (Nat.le_refl _) _).trans (Hb.out.mono (by simp))).alloc (by omega) _).drew
/-- Is the number at place i the number u? -/
def isAt (l : List Int) (i u : Int) : Bool := decide (0 ≤ i) && l[i.toNat]? == some u
theorem add_any (A : Option Addr) (n c : Nat) (l : List Int) (i u : Int) (w : World) (h : Rd w A l) (hn : l.length = n) (hs : n ≤ 500) :
    Calls Tryz.prog 79 #[.slice A n c, .int .i64 i, .int .u64 u] w (RetA w n (put l i (IntKind.u64.wrap (at0 l i + u))) (at0 l i)) := by
  by_cases hi : 0 ≤ i ∧ i < n
  · obtain ⟨k, rfl⟩ := Int.eq_ofNat_of_zero_le hi.1
    have hk : k < l.length := by omega
    have e : at0 l (k : Int) = l[k] := by simp [at0, hk]
    rw [e, show put l (k : Int) (IntKind.u64.wrap (l[k] + u)) = l.set k (IntKind.u64.wrap (l[k] + u)) by simp [put]]
    exact add_in A n c k l u _ w h hn hs (List.getElem?_eq_getElem hk)
  · have e : at0 l i = 0 := by
      unfold at0
      split
      · rw [List.getD_eq_getElem?_getD, List.getElem?_eq_none (by omega)]; rfl
      · rfl
    have e2 : put l i (IntKind.u64.wrap (at0 l i + u)) = l := by
      unfold put
      split
      · rw [List.set_eq_of_length_le (by omega)]
      · rfl
    rw [e2, e]
    exact add_out A n c l i u w h hn hs (by omega)
end Go.Proofs.YtlpkccpijloidaaGreat
namespace Go.Proofs.YtlpkccpijloidaaGreat
set_option maxRecDepth 100000
open Go.RowKit Go.Deep

end Go.Proofs.YtlpkccpijloidaaGreat
namespace Go.Proofs.YtlpkccpijloidaaGreat
set_option maxRecDepth 100000
open Go.RowKit Go.Deep
theorem RetA.of {w : World} {n : Nat} {l l' : List Int} {u u' : Int} {P : Program} {f : FuncId} {args : Array Value} (h : Calls P f args w (RetA w n l u)) (e1 : l = l') (e2 : u = u') : Calls P f args w (RetA w n l' u') := by rw [← e1, ← e2]; exact h
theorem RetC.of {w : World} {n : Nat} {l l' : List Int} {u u' : Bool} {P : Program} {f : FuncId} {args : Array Value} (h : Calls P f args w (RetC w n l u)) (e1 : l = l') (e2 : u = u') : Calls P f args w (RetC w n l' u') := by rw [← e1, ← e2]; exact h
theorem RetM.of {w : World} {n : Nat} {l l' : List Int} {P : Program} {f : FuncId} {args : Array Value} (h : Calls P f args w (RetM w n l)) (e1 : l = l') : Calls P f args w (RetM w n l') := by rw [← e1]; exact h
theorem ret_of {w : World} {v v' : Value} {P : Program} {f : FuncId} {args : Array Value} (h : Calls P f args w fun e w' => e = .returned v ∧ Below w.heap.size w w') (e1 : v = v') : Calls P f args w fun e w' => e = .returned v' ∧ Below w.heap.size w w' := by rw [← e1]; exact h
end Go.Proofs.YtlpkccpijloidaaGreat
namespace Go.Proofs.YtlpkccpijloidaaGreat
set_option maxRecDepth 100000
open Go.RowKit Go.Deep
theorem len_put (l : List Int) (i v : Int) : (put l i v).length = l.length := by unfold put; split <;> simp
theorem put_out {l : List Int} {i : Int} (v : Int) (h : i < 0 ∨ (l.length : Int) ≤ i) : put l i v = l := by
  unfold put
  split
  · rw [List.set_eq_of_length_le (by omega)]
  · rfl
theorem at0_out {l : List Int} {i : Int} (h : i < 0 ∨ (l.length : Int) ≤ i) : at0 l i = 0 := by
  unfold at0
  split
  · rw [List.getD_eq_getElem?_getD, List.getElem?_eq_none (by omega)]; rfl
  · rfl
theorem at0_in {l : List Int} {i : Int} (h0 : 0 ≤ i) (h : i < (l.length : Int)) : at0 l i = l[i.toNat]'(by omega) := by
  unfold at0
  rw [if_pos h0, List.getD_eq_getElem?_getD, List.getElem?_eq_getElem (by omega)]; rfl
theorem at0_put {l : List Int} {i : Int} (v : Int) (h0 : 0 ≤ i) (h : i < (l.length : Int)) : at0 (put l i v) i = v := by
  rw [at0_in h0 (by rw [len_put]; exact h)]
  simp [put, h0]
theorem at0_put_ne (l : List Int) {i k : Int} (v : Int) (h : ¬ i = k) : at0 (put l i v) k = at0 l k := by
  unfold at0 put
  split
  · split
    · rw [List.getD_eq_getElem?_getD, List.getElem?_set_ne (by omega), List.getD_eq_getElem?_getD]
    · rfl
  · rfl
end Go.Proofs.YtlpkccpijloidaaGreat
