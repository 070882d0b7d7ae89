/- Merged: CellC, CellD, CellE, CellF. -/
import Derived.Test.YtgemaeibmgkneaaCelA
import Derived.RegionTactic
import Derived.Deep.LoopGhost
import Derived.Deep.RegionHeld3
import Derived.IntWalk
namespace Go.Proofs.Ytgemaeibmgkneaa
open Go.RowKit Go.Deep
set_option maxHeartbeats 400000 in
set_option maxRecDepth 100000 in
theorem cas_yes (A : Option Addr) (n c k : Nat) (l : List Int) (u v : Int) (w : World) (h : Rd w A l) (hn : l.length = n) (hs : n ≤ 500) (hu : l[k]? = some u) :
    Calls Try.prog 68 #[.slice A n c, .int .i64 k, .int .u64 u, .int .u64 v] w (RetC w n (l.set k v) true) := by
  have hk : k < n := by have := (List.getElem?_eq_some_iff.1 hu).1; omega
  have HN := Lib.hid hn
  have HU := Lib.hid hu
  have h1 : Below w.heap.size w ((w.alloc (.cells #[.int .u64 u] 32)).alloc (.cells #[.int .u64 v] 32)) := ((Below.refl _ _).alloc (Nat.le_refl _) _).alloc (by simp) _
  have H := Lib.hid (h.below h1)
  clear hn h h1 hu
  go_enter Try.func68, Try.ntmps68
  go_wp2_with fail
  refine (copied_any A n c (w.heap.size + 2) l _ H.out HN.out hs (by simp)).mono ?_
  rintro e w1 ⟨rfl, hB, hb⟩
  have hbox : w1.cell? ⟨w.heap.size, 0, none⟩ = some (.int .u64 u) := (hb.cell (p := ⟨w.heap.size, 0, none⟩) (by simp)).trans (by simp)
  have hbox2 : w1.cell? ⟨w.heap.size + 1, 0, none⟩ = some (.int .u64 v) := (hb.cell (p := ⟨w.heap.size + 1, 0, none⟩) (by simp)).trans (by simp)
  have hcell := hB.cell k _ HU.out
  have hfz := hB.frozen k
  have hlt := hB.lt
  have hl0 : w.heap.size < w1.heap.size := by omega
  have hl1 : w.heap.size + 1 < w1.heap.size := by omega
  have HB := Lib.hid hB
  have Hb := Lib.hid hb
  clear hB hb
  go_wp2
  go_region
  go_wp2
  go_end0
  go_wp2
  go_end0
  go_wp2
  go_region
  go_wp2
  go_ret2
  refine ⟨_, rfl, (HB.out.set k _).alloc _, ?_⟩
  exact ((((((Below.refl _ _).alloc (Nat.le_refl _) _).alloc (by simp) _).trans (Hb.out.mono (by simp))).setCell (by simp) _).alloc (by simp [World.setCell]; omega) _).drew.drew
set_option maxHeartbeats 400000 in
set_option maxRecDepth 100000 in
theorem cas_no (A : Option Addr) (n c k : Nat) (l : List Int) (u v x : Int) (w : World) (h : Rd w A l) (hn : l.length = n) (hs : n ≤ 500) (hu : l[k]? = some x) (hx : (x == u) = false) :
    Calls Try.prog 68 #[.slice A n c, .int .i64 k, .int .u64 u, .int .u64 v] w (RetC w n l false) := by
  have hk : k < n := by have := (List.getElem?_eq_some_iff.1 hu).1; omega
  have HN := Lib.hid hn
  have HU := Lib.hid hu
  have h1 : Below w.heap.size w ((w.alloc (.cells #[.int .u64 u] 32)).alloc (.cells #[.int .u64 v] 32)) := ((Below.refl _ _).alloc (Nat.le_refl _) _).alloc (by simp) _
  have H := Lib.hid (h.below h1)
  clear hn h h1 hu
  go_enter Try.func68, Try.ntmps68
  go_wp2_with fail
  refine (copied_any A n c (w.heap.size + 2) l _ H.out HN.out hs (by simp)).mono ?_
  rintro e w1 ⟨rfl, hB, hb⟩
  have hbox : w1.cell? ⟨w.heap.size, 0, none⟩ = some (.int .u64 u) := (hb.cell (p := ⟨w.heap.size, 0, none⟩) (by simp)).trans (by simp)
  have hbox2 : w1.cell? ⟨w.heap.size + 1, 0, none⟩ = some (.int .u64 v) := (hb.cell (p := ⟨w.heap.size + 1, 0, none⟩) (by simp)).trans (by simp)
  have hcell := hB.cell k _ HU.out
  have hlt := hB.lt
  have hl0 : w.heap.size < w1.heap.size := by omega
  have hl1 : w.heap.size + 1 < w1.heap.size := by omega
  have HB := Lib.hid hB
  have Hb := Lib.hid hb
  clear hB hb
  go_wp2
  go_region
  go_wp2
  go_end0
  go_wp2
  go_end0
  go_wp2
  go_region
  go_wp2
  go_ret2
  refine ⟨_, rfl, HB.out.alloc _, ?_⟩
  exact (((((Below.refl _ _).alloc (Nat.le_refl _) _).alloc (by simp) _).trans (Hb.out.mono (by simp))).alloc (by omega) _).drew.drew
set_option maxHeartbeats 400000 in
set_option maxRecDepth 100000 in
theorem cas_out (A : Option Addr) (n c : Nat) (l : List Int) (i u v : Int) (w : World) (h : Rd w A l) (hn : l.length = n) (hs : n ≤ 500) (hi : i < 0 ∨ (n : Int) ≤ i) :
    Calls Try.prog 68 #[.slice A n c, .int .i64 i, .int .u64 u, .int .u64 v] w (RetC w n l false) := by
  have HN := Lib.hid hn
  have h1 : Below w.heap.size w ((w.alloc (.cells #[.int .u64 u] 32)).alloc (.cells #[.int .u64 v] 32)) := ((Below.refl _ _).alloc (Nat.le_refl _) _).alloc (by simp) _
  have H := Lib.hid (h.below h1)
  clear hn h h1
  rcases hi with hi | hi
  all_goals
    go_enter Try.func68, Try.ntmps68
    go_wp2_with fail
    refine (copied_any A n c (w.heap.size + 2) l _ H.out HN.out hs (by simp)).mono ?_
    rintro e w1 ⟨rfl, hB, hb⟩
    have hlt := hB.lt
    have HB := Lib.hid hB
    have Hb := Lib.hid hb
    clear hB hb
    go_wp2
    go_end0
    go_wp2
    go_region
    go_wp2
    go_ret2
    refine ⟨_, rfl, HB.out.alloc _, ?_⟩
    exact (((((Below.refl _ _).alloc (Nat.le_refl _) _).alloc (by simp) _).trans (Hb.out.mono (by simp))).alloc (by omega) _).drew
/-- Is the number at place i the number u? -/
def isAt (l : List Int) (i u : Int) : Bool := decide (0 ≤ i) && l[i.toNat]? == some u
set_option maxRecDepth 100000 in
theorem cas_any (A : Option Addr) (n c : Nat) (l : List Int) (i u v : Int) (w : World) (h : Rd w A l) (hn : l.length = n) (hs : n ≤ 500) :
    Calls Try.prog 68 #[.slice A n c, .int .i64 i, .int .u64 u, .int .u64 v] w (RetC w n (if isAt l i u = true then put l i v else l) (isAt l i u)) := by
  by_cases hi : 0 ≤ i ∧ i < n
  · obtain ⟨k, rfl⟩ := Int.eq_ofNat_of_zero_le hi.1
    have hk : k < l.length := by omega
    by_cases hx : l[k] = u
    · have e : isAt l (k : Int) u = true := by simp [isAt, List.getElem?_eq_getElem hk, hx]
      rw [e, if_pos rfl, show put l (k : Int) v = l.set k v by simp [put]]
      exact cas_yes A n c k l u v w h hn hs (by rw [List.getElem?_eq_getElem hk, hx])
    · have e : isAt l (k : Int) u = false := by simp [isAt, List.getElem?_eq_getElem hk, hx]
      rw [e, if_neg (by simp)]
      exact cas_no A n c k l u v _ w h hn hs (List.getElem?_eq_getElem hk) (by simp [hx])
  · have e : isAt l i u = false := by
      unfold isAt
      by_cases h0 : 0 ≤ i
      · rw [List.getElem?_eq_none (by omega)]; simp
      · simp [h0]
    rw [e, if_neg (by simp)]
    exact cas_out A n c l i u v w h hn hs (by omega)
end Go.Proofs.Ytgemaeibmgkneaa
namespace Go.Proofs.Ytgemaeibmgkneaa
open Go.RowKit Go.Deep

end Go.Proofs.Ytgemaeibmgkneaa
namespace Go.Proofs.Ytgemaeibmgkneaa
open Go.RowKit Go.Deep
set_option maxRecDepth 100000 in
theorem RetA.of {w : World} {n : Nat} {l l' : List Int} {u u' : Int} {P : Program} {f : FuncId} {args : Array Value} (h : Calls P f args w (RetA w n l u)) (e1 : l = l') (e2 : u = u') : Calls P f args w (RetA w n l' u') := by rw [← e1, ← e2]; exact h
set_option maxRecDepth 100000 in
theorem RetC.of {w : World} {n : Nat} {l l' : List Int} {u u' : Bool} {P : Program} {f : FuncId} {args : Array Value} (h : Calls P f args w (RetC w n l u)) (e1 : l = l') (e2 : u = u') : Calls P f args w (RetC w n l' u') := by rw [← e1, ← e2]; exact h
set_option maxRecDepth 100000 in
theorem RetM.of {w : World} {n : Nat} {l l' : List Int} {P : Program} {f : FuncId} {args : Array Value} (h : Calls P f args w (RetM w n l)) (e1 : l = l') : Calls P f args w (RetM w n l') := by rw [← e1]; exact h
set_option maxRecDepth 100000 in
theorem ret_of {w : World} {v v' : Value} {P : Program} {f : FuncId} {args : Array Value} (h : Calls P f args w fun e w' => e = .returned v ∧ Below w.heap.size w w') (e1 : v = v') : Calls P f args w fun e w' => e = .returned v' ∧ Below w.heap.size w w' := by rw [← e1]; exact h
end Go.Proofs.Ytgemaeibmgkneaa
namespace Go.Proofs.Ytgemaeibmgkneaa
open Go.RowKit Go.Deep
set_option maxRecDepth 100000 in
theorem len_put (l : List Int) (i v : Int) : (put l i v).length = l.length := by unfold put; split <;> simp
set_option maxRecDepth 100000 in
theorem put_put (l : List Int) (i v u : Int) : put (put l i v) i u = put l i u := by unfold put; split <;> simp
set_option maxRecDepth 100000 in
theorem put_out {l : List Int} {i : Int} (v : Int) (h : i < 0 ∨ (l.length : Int) ≤ i) : put l i v = l := by
  unfold put
  split
  · rw [List.set_eq_of_length_le (by omega)]
  · rfl
set_option maxRecDepth 100000 in
theorem at0_out {l : List Int} {i : Int} (h : i < 0 ∨ (l.length : Int) ≤ i) : at0 l i = 0 := by
  unfold at0
  split
  · rw [List.getD_eq_getElem?_getD, List.getElem?_eq_none (by omega)]; rfl
  · rfl
set_option maxRecDepth 100000 in
theorem at0_in {l : List Int} {i : Int} (h0 : 0 ≤ i) (h : i < (l.length : Int)) : at0 l i = l[i.toNat]'(by omega) := by
  unfold at0
  rw [if_pos h0, List.getD_eq_getElem?_getD, List.getElem?_eq_getElem (by omega)]; rfl
set_option maxRecDepth 100000 in
theorem at0_put {l : List Int} {i : Int} (v : Int) (h0 : 0 ≤ i) (h : i < (l.length : Int)) : at0 (put l i v) i = v := by
  rw [at0_in h0 (by rw [len_put]; exact h)]
  simp [put, h0]
set_option maxRecDepth 100000 in
theorem at0_put_ne (l : List Int) {i k : Int} (v : Int) (h : ¬ i = k) : at0 (put l i v) k = at0 l k := by
  unfold at0 put
  split
  · split
    · rw [List.getD_eq_getElem?_getD, List.getElem?_set_ne (by omega), List.getD_eq_getElem?_getD]
    · rfl
  · rfl
set_option maxRecDepth 100000 in
theorem put_at0 (l : List Int) (i : Int) : put l i (at0 l i) = l := by
  by_cases h : 0 ≤ i ∧ i < (l.length : Int)
  · rw [at0_in h.1 h.2]; simp [put, h.1]
  · exact put_out _ (by omega)
set_option maxRecDepth 100000 in
theorem put_comm (l : List Int) {i k : Int} (v u : Int) (h : ¬ i = k) : put (put l i v) k u = put (put l k u) i v := by
  unfold put
  split
  · split
    · rw [List.set_comm _ _ (by omega)]
    · rfl
  · split <;> rfl
set_option maxRecDepth 100000 in
theorem put_ne {l : List Int} {i v : Int} (h0 : 0 ≤ i) (h : i < (l.length : Int)) : put l i v = l ↔ v = at0 l i := by
  constructor
  · intro e
    rw [← at0_put v h0 h, e]
  · rintro rfl
    exact put_at0 l i
set_option maxRecDepth 100000 in
theorem isAt_iff (l : List Int) (i u : Int) : isAt l i u = true ↔ (0 ≤ i ∧ i < (l.length : Int)) ∧ at0 l i = u := by
  unfold isAt
  constructor
  · intro h
    simp only [Bool.and_eq_true, decide_eq_true_eq, beq_iff_eq] at h
    obtain ⟨h0, h1⟩ := h
    obtain ⟨hl, h2⟩ := List.getElem?_eq_some_iff.1 h1
    have hi : i < (l.length : Int) := by omega
    exact ⟨⟨h0, hi⟩, by rw [at0_in h0 hi]; exact h2⟩
  · rintro ⟨⟨h0, hi⟩, rfl⟩
    rw [at0_in h0 hi]
    simp [h0, List.getElem?_eq_getElem (show i.toNat < l.length by omega)]
end Go.Proofs.Ytgemaeibmgkneaa
