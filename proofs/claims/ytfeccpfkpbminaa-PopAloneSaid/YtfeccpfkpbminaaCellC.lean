/- Contracts of Cas and Add. -/
import Derived.Test.YtfeccpfkpbminaaCellB
import Derived.RegionTactic
namespace Go.Proofs.Ytfeccpfkpbminaa
open Go.RowKit Go.Deep
set_option maxHeartbeats 400000 in
theorem cas_yes (A : Option Addr) (n c k : Nat) (l : List Int) (u v : Int) (w : World) (h : Rd w A l) (hn : l.length = n) (hs : n ≤ 500) (hu : l[k]? = some u) :
    Calls Try.prog 49 #[.slice A n c, .int .i64 k, .int .u64 u, .int .u64 v] w (RetC w n (l.set k v) true) := by
  have hk : k < n := by have := (List.getElem?_eq_some_iff.1 hu).1; omega
  have HN := Lib.hid hn
  have HU := Lib.hid hu
  have h1 : Below w.heap.size w ((w.alloc (.cells #[.int .u64 u] 26)).alloc (.cells #[.int .u64 v] 26)) := ((Below.refl _ _).alloc (Nat.le_refl _) _).alloc (by simp) _
  have H := Lib.hid (h.below h1)
  clear hn h h1 hu
  go_enter Try.func49, Try.ntmps49
  go_wp2_with fail
  refine (copied_any A n c (w.heap.size + 2) l _ H.out HN.out hs (by simp)).mono ?_
  rintro e w1 ⟨rfl, hB, hb⟩
  have hbox : w1.cell? ⟨w.heap.size, 0, none⟩ = some (.int .u64 u) := (hb.cell (p := ⟨w.heap.size, 0, none⟩) (by simp)).trans (by simp)
  have hbox2 : w1.cell? ⟨w.heap.size + 1, 0, none⟩ = some (.int .u64 v) := (hb.cell (p := ⟨w.heap.size + 1, 0, none⟩) (by simp)).trans (by simp)
  have hcell := hB.cell k _ HU.out
  have hfz := hB.frozen k
  have hlt := hB.lt
  have hl0 : w.heap.size < w1.heap.size := by omega
  have hl1 : w.heap.size + 1 < w1.heap.size := by omega
  have HB := Lib.hid hB
  have Hb := Lib.hid hb
  clear hB hb
  go_wp2
  go_region
  go_wp2
  go_end0
  go_wp2
  go_end0
  go_wp2
  go_region
  go_wp2
  go_ret2
  refine ⟨_, rfl, (HB.out.set k _).alloc _, ?_⟩
  exact ((((((Below.refl _ _).alloc (Nat.le_refl _) _).alloc (by simp) _).trans (Hb.out.mono (by simp))).setCell (by simp) _).alloc (by simp [World.setCell]; omega) _).drew.drew
set_option maxHeartbeats 400000 in
theorem cas_no (A : Option Addr) (n c k : Nat) (l : List Int) (u v x : Int) (w : World) (h : Rd w A l) (hn : l.length = n) (hs : n ≤ 500) (hu : l[k]? = some x) (hx : (x == u) = false) :
    Calls Try.prog 49 #[.slice A n c, .int .i64 k, .int .u64 u, .int .u64 v] w (RetC w n l false) := by
  have hk : k < n := by have := (List.getElem?_eq_some_iff.1 hu).1; omega
  have HN := Lib.hid hn
  have HU := Lib.hid hu
  have h1 : Below w.heap.size w ((w.alloc (.cells #[.int .u64 u] 26)).alloc (.cells #[.int .u64 v] 26)) := ((Below.refl _ _).alloc (Nat.le_refl _) _).alloc (by simp) _
  have H := Lib.hid (h.below h1)
  clear hn h h1 hu
  go_enter Try.func49, Try.ntmps49
  go_wp2_with fail
  refine (copied_any A n c (w.heap.size + 2) l _ H.out HN.out hs (by simp)).mono ?_
  rintro e w1 ⟨rfl, hB, hb⟩
  have hbox : w1.cell? ⟨w.heap.size, 0, none⟩ = some (.int .u64 u) := (hb.cell (p := ⟨w.heap.size, 0, none⟩) (by simp)).trans (by simp)
  have hbox2 : w1.cell? ⟨w.heap.size + 1, 0, none⟩ = some (.int .u64 v) := (hb.cell (p := ⟨w.heap.size + 1, 0, none⟩) (by simp)).trans (by simp)
  have hcell := hB.cell k _ HU.out
  have hlt := hB.lt
  have hl0 : w.heap.size < w1.heap.size := by omega
  have hl1 : w.heap.size + 1 < w1.heap.size := by omega
  have HB := Lib.hid hB
  have Hb := Lib.hid hb
  clear hB hb
  go_wp2
  go_region
  go_wp2
  go_end0
  go_wp2
  go_end0
  go_wp2
  go_region
  go_wp2
  go_ret2
  refine ⟨_, rfl, HB.out.alloc _, ?_⟩
  exact (((((Below.refl _ _).alloc (Nat.le_refl _) _).alloc (by simp) _).trans (Hb.out.mono (by simp))).alloc (by omega) _).drew.drew
set_option maxHeartbeats 400000 in
theorem cas_out (A : Option Addr) (n c : Nat) (l : List Int) (i u v : Int) (w : World) (h : Rd w A l) (hn : l.length = n) (hs : n ≤ 500) (hi : i < 0 ∨ (n : Int) ≤ i) :
    Calls Try.prog 49 #[.slice A n c, .int .i64 i, .int .u64 u, .int .u64 v] w (RetC w n l false) := by
  have HN := Lib.hid hn
  have h1 : Below w.heap.size w ((w.alloc (.cells #[.int .u64 u] 26)).alloc (.cells #[.int .u64 v] 26)) := ((Below.refl _ _).alloc (Nat.le_refl _) _).alloc (by simp) _
  have H := Lib.hid (h.below h1)
  clear hn h h1
  rcases hi with hi | hi
  all_goals
    go_enter Try.func49, Try.ntmps49
    go_wp2_with fail
    refine (copied_any A n c (w.heap.size + 2) l _ H.out HN.out hs (by simp)).mono ?_
    rintro e w1 ⟨rfl, hB, hb⟩
    have hlt := hB.lt
    have HB := Lib.hid hB
    have Hb := Lib.hid hb
    clear hB hb
    go_wp2
    go_end0
    go_wp2
    go_region
    go_wp2
    go_ret2
    refine ⟨_, rfl, HB.out.alloc _, ?_⟩
    exact (((((Below.refl _ _).alloc (Nat.le_refl _) _).alloc (by simp) _).trans (Hb.out.mono (by simp))).alloc (by omega) _).drew
/-- Is the number at place i the number u? -/
def isAt (l : List Int) (i u : Int) : Bool := decide (0 ≤ i) && l[i.toNat]? == some u
theorem cas_any (A : Option Addr) (n c : Nat) (l : List Int) (i u v : Int) (w : World) (h : Rd w A l) (hn : l.length = n) (hs : n ≤ 500) :
    Calls Try.prog 49 #[.slice A n c, .int .i64 i, .int .u64 u, .int .u64 v] w (RetC w n (if isAt l i u = true then put l i v else l) (isAt l i u)) := by
  by_cases hi : 0 ≤ i ∧ i < n
  · obtain ⟨k, rfl⟩ := Int.eq_ofNat_of_zero_le hi.1
    have hk : k < l.length := by omega
    by_cases hx : l[k] = u
    · have e : isAt l (k : Int) u = true := by simp [isAt, List.getElem?_eq_getElem hk, hx]
      rw [e, if_pos rfl, show put l (k : Int) v = l.set k v by simp [put]]
      exact cas_yes A n c k l u v w h hn hs (by rw [List.getElem?_eq_getElem hk, hx])
    · have e : isAt l (k : Int) u = false := by simp [isAt, List.getElem?_eq_getElem hk, hx]
      rw [e, if_neg (by simp)]
      exact cas_no A n c k l u v _ w h hn hs (List.getElem?_eq_getElem hk) (by simp [hx])
  · have e : isAt l i u = false := by
      unfold isAt
      by_cases h0 : 0 ≤ i
      · rw [List.getElem?_eq_none (by omega)]; simp
      · simp [h0]
    rw [e, if_neg (by simp)]
    exact cas_out A n c l i u v w h hn hs (by omega)
end Go.Proofs.Ytfeccpfkpbminaa
