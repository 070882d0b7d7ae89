/- Merged: CellC, CellD, CellE, CellF. -/
import Derived.Test.YtjddglandcpfpaaCelA
import Derived.RegionTactic
import Derived.Deep.LoopGhost
import Derived.Deep.RegionHeld3
import Derived.IntWalk
namespace Go.Proofs.Ytjddglandcpfpaa
open Go.RowKit Go.Deep
set_option maxHeartbeats 400000 in
theorem cas_yes (A : Option Addr) (n c k : Nat) (l : List Int) (u v : Int) (w : World) (h : Rd w A l) (hn : l.length = n) (hs : n ≤ 500) (hu : l[k]? = some u) :
    Calls Try.prog 62 #[.slice A n c, .int .i64 k, .int .u64 u, .int .u64 v] w (RetC w n (l.set k v) true) := by
  have hk : k < n := by have := (List.getElem?_eq_some_iff.1 hu).1; omega
  have HN := Lib.hid hn
  have HU := Lib.hid hu
  have h1 : Below w.heap.size w ((w.alloc (.cells #[.int .u64 u] 27)).alloc (.cells #[.int .u64 v] 27)) := ((Below.refl _ _).alloc (Nat.le_refl _) _).alloc (by simp) _
  have H := Lib.hid (h.below h1)
  clear hn h h1 hu
  go_enter Try.func62, Try.ntmps62
  go_wp2_with fail
  refine (copied_any A n c (w.heap.size + 2) l _ H.out HN.out hs (by simp)).mono ?_
  rintro e w1 ⟨rfl, hB, hb⟩
  have hbox : w1.cell? ⟨w.heap.size, 0, none⟩ = some (.int .u64 u) := (hb.cell (p := ⟨w.heap.size, 0, none⟩) (by simp)).trans (by simp)
  have hbox2 : w1.cell? ⟨w.heap.size + 1, 0, none⟩ = some (.int .u64 v) := (hb.cell (p := ⟨w.heap.size + 1, 0, none⟩) (by simp)).trans (by simp)
  have hcell := hB.cell k _ HU.out
  have hfz := hB.frozen k
  have hlt := hB.lt
  have hl0 : w.heap.size < w1.heap.size := by omega
  have hl1 : w.heap.size + 1 < w1.heap.size := by omega
  have HB := Lib.hid hB
  have Hb := Lib.hid hb
  clear hB hb
  go_wp2
  go_region
  go_wp2
  go_end0
  go_wp2
  go_end0
  go_wp2
  go_region
  go_wp2
  go_ret2
  refine ⟨_, rfl, (HB.out.set k _).alloc _, ?_⟩
  exact ((((((Below.refl _ _).alloc (Nat.le_refl _) _).alloc (by simp) _).trans (Hb.out.mono (by simp))).setCell (by simp) _).alloc (by simp [World.setCell]; omega) _).drew.drew
set_option maxHeartbeats 400000 in
theorem cas_no (A : Option Addr) (n c k : Nat) (l : List Int) (u v x : Int) (w : World) (h : Rd w A l) (hn : l.length = n) (hs : n ≤ 500) (hu : l[k]? = some x) (hx : (x == u) = false) :
    Calls Try.prog 62 #[.slice A n c, .int .i64 k, .int .u64 u, .int .u64 v] w (RetC w n l false) := by
  have hk : k < n := by have := (List.getElem?_eq_some_iff.1 hu).1; omega
  have HN := Lib.hid hn
  have HU := Lib.hid hu
  have h1 : Below w.heap.size w ((w.alloc (.cells #[.int .u64 u] 27)).alloc (.cells #[.int .u64 v] 27)) := ((Below.refl _ _).alloc (Nat.le_refl _) _).alloc (by simp) _
  have H := Lib.hid (h.below h1)
  clear hn h h1 hu
  go_enter Try.func62, Try.ntmps62
  go_wp2_with fail
  refine (copied_any A n c (w.heap.size + 2) l _ H.out HN.out hs (by simp)).mono ?_
  rintro e w1 ⟨rfl, hB, hb⟩
  have hbox : w1.cell? ⟨w.heap.size, 0, none⟩ = some (.int .u64 u) := (hb.cell (p := ⟨w.heap.size, 0, none⟩) (by simp)).trans (by simp)
  have hbox2 : w1.cell? ⟨w.heap.size + 1, 0, none⟩ = some (.int .u64 v) := (hb.cell (p := ⟨w.heap.size + 1, 0, none⟩) (by simp)).trans (by simp)
  have hcell := hB.cell k _ HU.out
  have hlt := hB.lt
  have hl0 : w.heap.size < w1.heap.size := by omega
  have hl1 : w.heap.size + 1 < w1.heap.size := by omega
  have HB := Lib.hid hB
  have Hb := Lib.hid hb
  clear hB hb
  go_wp2
  go_region
  go_wp2
  go_end0
  go_wp2
  go_end0
  go_wp2
  go_region
  go_wp2
  go_ret2
  refine ⟨_, rfl, HB.out.alloc _, ?_⟩
  exact (((((Below.refl _ _).alloc (Nat.le_refl _) _).alloc (by simp) _).trans (Hb.out.mono (by simp))).alloc (by omega) _).drew.drew
set_option maxHeartbeats 400000 in
theorem cas_out (A : Option Addr) (n c : Nat) (l : List Int) (i u v : Int) (w : World) (h : Rd w A l) (hn : l.length = n) (hs : n ≤ 500) (hi : i < 0 ∨ (n : Int) ≤ i) :
    Calls Try.prog 62 #[.slice A n c, .int .i64 i, .int .u64 u, .int .u64 v] w (RetC w n l false) := by
  have HN := Lib.hid hn
  have h1 : Below w.heap.size w ((w.alloc (.cells #[.int .u64 u] 27)).alloc (.cells #[.int .u64 v] 27)) := ((Below.refl _ _).alloc (Nat.le_refl _) _).alloc (by simp) _
  have H := Lib.hid (h.below h1)
  clear hn h h1
  rcases hi with hi | hi
  all_goals
    go_enter Try.func62, Try.ntmps62
    go_wp2_with fail
    refine (copied_any A n c (w.heap.size + 2) l _ H.out HN.out hs (by simp)).mono ?_
    rintro e w1 ⟨rfl, hB, hb⟩
    have hlt := hB.lt
    have HB := Lib.hid hB
    have Hb := Lib.hid hb
    clear hB hb
    go_wp2
    go_end0
    go_wp2
    go_region
    go_wp2
    go_ret2
    refine ⟨_, rfl, HB.out.alloc _, ?_⟩
    exact (((((Below.refl _ _).alloc (Nat.le_refl _) _).alloc (by simp) _).trans (Hb.out.mono (by simp))).alloc (by omega) _).drew
/-- Is the number at place i the number u? -/
def isAt (l : List Int) (i u : Int) : Bool := decide (0 ≤ i) && l[i.toNat]? == some u
theorem cas_any (A : Option Addr) (n c : Nat) (l : List Int) (i u v : Int) (w : World) (h : Rd w A l) (hn : l.length = n) (hs : n ≤ 500) :
    Calls Try.prog 62 #[.slice A n c, .int .i64 i, .int .u64 u, .int .u64 v] w (RetC w n (if isAt l i u = true then put l i v else l) (isAt l i u)) := by
  by_cases hi : 0 ≤ i ∧ i < n
  · obtain ⟨k, rfl⟩ := Int.eq_ofNat_of_zero_le hi.1
    have hk : k < l.length := by omega
    by_cases hx : l[k] = u
    · have e : isAt l (k : Int) u = true := by simp [isAt, List.getElem?_eq_getElem hk, hx]
      rw [e, if_pos rfl, show put l (k : Int) v = l.set k v by simp [put]]
      exact cas_yes A n c k l u v w h hn hs (by rw [List.getElem?_eq_getElem hk, hx])
    · have e : isAt l (k : Int) u = false := by simp [isAt, List.getElem?_eq_getElem hk, hx]
      rw [e, if_neg (by simp)]
      exact cas_no A n c k l u v _ w h hn hs (List.getElem?_eq_getElem hk) (by simp [hx])
  · have e : isAt l i u = false := by
      unfold isAt
      by_cases h0 : 0 ≤ i
      · rw [List.getElem?_eq_none (by omega)]; simp
      · simp [h0]
    rw [e, if_neg (by simp)]
    exact cas_out A n c l i u v w h hn hs (by omega)
end Go.Proofs.Ytjddglandcpfpaa
namespace Go.Proofs.Ytjddglandcpfpaa
open Go.RowKit Go.Deep
set_option maxHeartbeats 400000 in
theorem same_len (A B : Option Addr) (n c m d : Nat) (w : World) (hne : n ≠ m) :
    Calls Try.prog 23 #[.slice A n c, .slice B m d] w fun e w' => e = .returned (.bool false) ∧ Below w.heap.size w w' := by
  go_enter Try.func23, Try.ntmps23
  go_wp2
  go_step3
  go_wp2
  rw [Exit.noGoto_ret]
  go_ret
  exact ⟨rfl, Below.refl _ _⟩
set_option maxHeartbeats 400000 in
theorem same_eq (A B : Option Addr) (n c d : Nat) (l k : List Int) (w : World) (ha : Rd w A l) (hb : Rd w B k) (hn : l.length = n) (hm : k.length = n) (hs : n ≤ 501) :
    Calls Try.prog 23 #[.slice A n c, .slice B n d] w fun e w' => e = .returned (.bool (decide (l = k))) ∧ Below w.heap.size w w' := by
  have HA := Lib.hid ha
  have HB := Lib.hid hb
  have HN := Lib.hid hn
  have HM := Lib.hid hm
  clear ha hb hn hm
  go_enter Try.func23, Try.ntmps23
  go_wp2
  go_step3
  go_wp2
  go_step3
  go_wp2
  go_loopw [5, 14] (fun s i wr => ∃ j q : Nat, j ≤ n ∧ i = .int .i64 j ∧ s = .bool true ∧ l.take j = k.take j ∧ wr = w.drewN q) (fun _ i _ => n - (intOf i).toNat)
  case atStart => exact ⟨0, 0, Nat.zero_le _, rfl, rfl, by simp, rfl⟩
  case round =>
    obtain ⟨j, q, hj, rfl, rfl, heq, rfl⟩ := hrel
    have HE := Lib.hid heq
    clear heq
    by_cases hlt : j < n
    · obtain ⟨ad, rfl, hal, hac⟩ := HA.out (by rw [HN.out]; omega)
      obtain ⟨bd, rfl, hbl, hbc⟩ := HB.out (by rw [HM.out]; omega)
      have hx := hac j _ (List.getElem?_eq_getElem (by rw [HN.out]; exact hlt))
      have hy := hbc j _ (List.getElem?_eq_getElem (by rw [HM.out]; exact hlt))
      clear hac hbc
      generalize hX : l[j]'(by rw [HN.out]; exact hlt) = x at hx
      generalize hY : k[j]'(by rw [HM.out]; exact hlt) = y at hy
      have HX := Lib.hid hX
      have HY := Lib.hid hY
      clear hX hY
      by_cases hxy : x = y
      · have hne : (x != y) = false := by simp [hxy]
        have HXY := Lib.hid hxy
        clear hxy
        go_wp2
        go_region
        go_wp2
        go_roundw
        case rel => exact ⟨j + 1, q + 1, by omega, by go_num, rfl, take_more (by rw [HN.out]; exact hlt) (by rw [HM.out]; exact hlt) HE.out (by rw [HX.out, HY.out, HXY.out]), rfl⟩
        case measure => simp [intOf]; omega
      · have hne : (x != y) = true := by simp [hxy]
        have HXY := Lib.hid hxy
        clear hxy
        go_wp2
        go_region
        go_wp2
        rw [Exit.noGoto_ret]
        go_ret
        exact ⟨by rw [differ (j := j) (by rw [HN.out]; exact hlt) (by rw [HM.out]; exact hlt) (by rw [HX.out, HY.out]; exact HXY.out)]; rfl, below_drewN _ _⟩
    · go_wp2
      rw [Exit.noGoto_ret]
      go_ret
      exact ⟨by rw [agree HN.out HM.out hj hlt HE.out]; rfl, below_drewN _ _⟩
theorem same_any (A B : Option Addr) (n c m d : Nat) (l k : List Int) (w : World) (ha : Rd w A l) (hb : Rd w B k) (hn : l.length = n) (hm : k.length = m) (hs : n ≤ 501) :
    Calls Try.prog 23 #[.slice A n c, .slice B m d] w fun e w' => e = .returned (.bool (decide (l = k))) ∧ Below w.heap.size w w' := by
  by_cases h : n = m
  · subst h
    exact same_eq A B n c d l k w ha hb hn hm hs
  · have e : decide (l = k) = false := decide_eq_false (by rintro rfl; exact h (hn.symm.trans hm))
    rw [e]
    exact same_len A B n c m d w h
end Go.Proofs.Ytjddglandcpfpaa
namespace Go.Proofs.Ytjddglandcpfpaa
open Go.RowKit Go.Deep
theorem RetA.of {w : World} {n : Nat} {l l' : List Int} {u u' : Int} {P : Program} {f : FuncId} {args : Array Value} (h : Calls P f args w (RetA w n l u)) (e1 : l = l') (e2 : u = u') : Calls P f args w (RetA w n l' u') := by rw [← e1, ← e2]; exact h
theorem RetC.of {w : World} {n : Nat} {l l' : List Int} {u u' : Bool} {P : Program} {f : FuncId} {args : Array Value} (h : Calls P f args w (RetC w n l u)) (e1 : l = l') (e2 : u = u') : Calls P f args w (RetC w n l' u') := by rw [← e1, ← e2]; exact h
theorem RetM.of {w : World} {n : Nat} {l l' : List Int} {P : Program} {f : FuncId} {args : Array Value} (h : Calls P f args w (RetM w n l)) (e1 : l = l') : Calls P f args w (RetM w n l') := by rw [← e1]; exact h
theorem ret_of {w : World} {v v' : Value} {P : Program} {f : FuncId} {args : Array Value} (h : Calls P f args w fun e w' => e = .returned v ∧ Below w.heap.size w w') (e1 : v = v') : Calls P f args w fun e w' => e = .returned v' ∧ Below w.heap.size w w' := by rw [← e1]; exact h
end Go.Proofs.Ytjddglandcpfpaa
namespace Go.Proofs.Ytjddglandcpfpaa
open Go.RowKit Go.Deep
theorem len_put (l : List Int) (i v : Int) : (put l i v).length = l.length := by unfold put; split <;> simp
theorem put_put (l : List Int) (i v u : Int) : put (put l i v) i u = put l i u := by unfold put; split <;> simp
theorem put_out {l : List Int} {i : Int} (v : Int) (h : i < 0 ∨ (l.length : Int) ≤ i) : put l i v = l := by
  unfold put
  split
  · rw [List.set_eq_of_length_le (by omega)]
  · rfl
theorem at0_out {l : List Int} {i : Int} (h : i < 0 ∨ (l.length : Int) ≤ i) : at0 l i = 0 := by
  unfold at0
  split
  · rw [List.getD_eq_getElem?_getD, List.getElem?_eq_none (by omega)]; rfl
  · rfl
theorem at0_in {l : List Int} {i : Int} (h0 : 0 ≤ i) (h : i < (l.length : Int)) : at0 l i = l[i.toNat]'(by omega) := by
  unfold at0
  rw [if_pos h0, List.getD_eq_getElem?_getD, List.getElem?_eq_getElem (by omega)]; rfl
theorem at0_put {l : List Int} {i : Int} (v : Int) (h0 : 0 ≤ i) (h : i < (l.length : Int)) : at0 (put l i v) i = v := by
  rw [at0_in h0 (by rw [len_put]; exact h)]
  simp [put, h0]
theorem at0_put_ne (l : List Int) {i k : Int} (v : Int) (h : ¬ i = k) : at0 (put l i v) k = at0 l k := by
  unfold at0 put
  split
  · split
    · rw [List.getD_eq_getElem?_getD, List.getElem?_set_ne (by omega), List.getD_eq_getElem?_getD]
    · rfl
  · rfl
theorem put_at0 (l : List Int) (i : Int) : put l i (at0 l i) = l := by
  by_cases h : 0 ≤ i ∧ i < (l.length : Int)
  · rw [at0_in h.1 h.2]; simp [put, h.1]
  · exact put_out _ (by omega)
theorem put_comm (l : List Int) {i k : Int} (v u : Int) (h : ¬ i = k) : put (put l i v) k u = put (put l k u) i v := by
  unfold put
  split
  · split
    · rw [List.set_comm _ _ (by omega)]
    · rfl
  · split <;> rfl
theorem put_ne {l : List Int} {i v : Int} (h0 : 0 ≤ i) (h : i < (l.length : Int)) : put l i v = l ↔ v = at0 l i := by
  constructor
  · intro e
    rw [← at0_put v h0 h, e]
  · rintro rfl
    exact put_at0 l i
theorem isAt_iff (l : List Int) (i u : Int) : isAt l i u = true ↔ (0 ≤ i ∧ i < (l.length : Int)) ∧ at0 l i = u := by
  unfold isAt
  constructor
  · intro h
    simp only [Bool.and_eq_true, decide_eq_true_eq, beq_iff_eq] at h
    obtain ⟨h0, h1⟩ := h
    obtain ⟨hl, h2⟩ := List.getElem?_eq_some_iff.1 h1
    have hi : i < (l.length : Int) := by omega
    exact ⟨⟨h0, hi⟩, by rw [at0_in h0 hi]; exact h2⟩
  · rintro ⟨⟨h0, hi⟩, rfl⟩
    rw [at0_in h0 hi]
    simp [h0, List.getElem?_eq_getElem (show i.toNat < l.length by omega)]
end Go.Proofs.Ytjddglandcpfpaa
