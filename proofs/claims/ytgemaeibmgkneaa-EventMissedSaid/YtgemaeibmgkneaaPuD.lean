/- Contracts of a push's last two steps. -/
import Derived.Test.YtgemaeibmgkneaaPuA2
import Derived.IntWalk
namespace Go.Proofs.Ytgemaeibmgkneaa
open Go.RowKit Go.Deep
/-- What a store leaves: numbers in new memory. -/
def RetK (w : World) (n : Nat) (l : List Int) (e : Ending) (w' : World) : Prop :=
  ∃ g, e = .returned (.slice (some ⟨g, 0, none⟩) n n) ∧ w.heap.size ≤ g ∧ Bk w' g l ∧ Below w.heap.size w w'
set_option maxHeartbeats 400000 in
set_option maxRecDepth 100000 in
theorem snew_in (A : Option Addr) (n c k : Nat) (l : List Int) (v : Int) (w : World) (h : Rd w A l) (hn : l.length = n) (hs : n ≤ 500) (hk : k < n) :
    Calls Try.prog 75 #[.slice A n c, .int .i64 k, .int .u64 v] w (RetK w n (l.set k v)) := by
  have HN := Lib.hid hn
  have hr : Rd (w.alloc (.cells #[.int .u64 v] 32)) A l := h.below ((Below.refl _ _).alloc (Nat.le_refl _) _)
  have H := Lib.hid hr
  clear hn hr h
  go_enter Try.func75, Try.ntmps75
  go_wp2_with fail
  refine (copied_any A n c (w.heap.size + 1) l _ H.out HN.out hs (by simp)).mono ?_
  rintro e w1 ⟨rfl, hB, hb⟩
  have hbox : w1.cell? ⟨w.heap.size, 0, none⟩ = some (.int .u64 v) := (hb.cell (p := ⟨w.heap.size, 0, none⟩) (by simp)).trans (by simp)
  have hcell := hB.cell k _ (List.getElem?_eq_getElem (by rw [HN.out]; exact hk))
  have hfz := hB.frozen k
  have HB := Lib.hid hB
  have Hb := Lib.hid hb
  clear hB hb
  go_wp2
  go_end0
  go_wp2
  go_end0
  go_wp2
  go_ret
  exact ⟨_, rfl, by simp, HB.out.set k v, (((Below.refl _ _).alloc (Nat.le_refl _) _).trans (Hb.out.mono (by simp))).setCell (by simp) _⟩
set_option maxHeartbeats 400000 in
set_option maxRecDepth 100000 in
theorem snew_out (A : Option Addr) (n c : Nat) (l : List Int) (i v : Int) (w : World) (h : Rd w A l) (hn : l.length = n) (hs : n ≤ 500) (hi : i < 0 ∨ (n : Int) ≤ i) :
    Calls Try.prog 75 #[.slice A n c, .int .i64 i, .int .u64 v] w (RetK w n l) := by
  have HN := Lib.hid hn
  have hr : Rd (w.alloc (.cells #[.int .u64 v] 32)) A l := h.below ((Below.refl _ _).alloc (Nat.le_refl _) _)
  have H := Lib.hid hr
  clear hn hr h
  rcases hi with hi | hi
  all_goals
    go_enter Try.func75, Try.ntmps75
    go_wp2_with fail
    refine (copied_any A n c (w.heap.size + 1) l _ H.out HN.out hs (by simp)).mono ?_
    rintro e w1 ⟨rfl, hB, hb⟩
    have HB := Lib.hid hB
    have Hb := Lib.hid hb
    clear hB hb
    go_wp2
    go_end0
    go_wp2
    go_ret
    exact ⟨_, rfl, by simp, HB.out, ((Below.refl _ _).alloc (Nat.le_refl _) _).trans (Hb.out.mono (by simp))⟩
set_option maxRecDepth 100000 in
theorem store_new (A : Option Addr) (n c : Nat) (l : List Int) (i v : Int) (w : World) (h : Rd w A l) (hn : l.length = n) (hs : n ≤ 500) :
    Calls Try.prog 75 #[.slice A n c, .int .i64 i, .int .u64 v] w (RetK w n (put l i v)) := by
  by_cases hi : 0 ≤ i ∧ i < n
  · obtain ⟨k, rfl⟩ := Int.eq_ofNat_of_zero_le hi.1
    have e : put l (k : Int) v = l.set k v := by simp [put]
    rw [e]
    exact snew_in A n c k l v w h hn hs (by omega)
  · have e : put l i v = l := by
      unfold put
      split
      · rw [List.set_eq_of_length_le (by omega)]
      · rfl
    rw [e]
    exact snew_out A n c l i v w h hn hs (by omega)
end Go.Proofs.Ytgemaeibmgkneaa
