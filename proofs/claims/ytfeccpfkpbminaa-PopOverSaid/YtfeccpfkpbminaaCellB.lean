/- Contracts of the calls of package cell. -/
import Derived.Test.YtfeccpfkpbminaaCellA
namespace Go.Proofs.Ytfeccpfkpbminaa
open Go.RowKit Go.Deep
set_option maxHeartbeats 400000 in
theorem load_in (ad : Addr) (n c k : Nat) (u : Int) (w : World) (hc : w.cell? (ad.add k) = some (.int .u64 u)) (hk : k < n) (_ : n ≤ 500) (hlt : ad.block < w.heap.size) :
    Calls Try.prog 36 #[.slice (some ad) n c, .int .i64 k] w fun e w' => e = .returned (.int .u64 u) ∧ Below w.heap.size w w' := by
  have hc1 : ∀ o, (w.alloc o).cell? (ad.add k) = some (.int .u64 u) := fun o => (World.cell?_alloc_lt w o _ (by rw [block_add]; exact hlt)).trans hc
  clear hc
  go_enter Try.func36, Try.ntmps36
  go_wp2
  go_end0
  go_wp2
  go_end0
  go_wp2
  go_ret
  exact ⟨rfl, (Below.refl _ _).alloc (Nat.le_refl _) _⟩
set_option maxHeartbeats 400000 in
theorem load_out (A : Option Addr) (n c : Nat) (i : Int) (w : World) (hs : n ≤ 500) (hi : i < 0 ∨ (n : Int) ≤ i) :
    Calls Try.prog 36 #[.slice A n c, .int .i64 i] w fun e w' => e = .returned (.int .u64 0) ∧ Below w.heap.size w w' := by
  rcases hi with hi | hi
  all_goals
    go_enter Try.func36, Try.ntmps36
    go_wp2
    go_end0
    go_wp2
    go_ret
    exact ⟨rfl, (Below.refl _ _).alloc (Nat.le_refl _) _⟩
/-- The number at place i, or 0. -/
def at0 (l : List Int) (i : Int) : Int := if 0 ≤ i then l.getD i.toNat 0 else 0
/-- The numbers with v at place i, if there is one. -/
def put (l : List Int) (i : Int) (v : Int) : List Int := if 0 ≤ i then l.set i.toNat v else l
theorem load_any (A : Option Addr) (n c : Nat) (l : List Int) (i : Int) (w : World) (h : Rd w A l) (hn : l.length = n) (hs : n ≤ 500) :
    Calls Try.prog 36 #[.slice A n c, .int .i64 i] w fun e w' => e = .returned (.int .u64 (at0 l i)) ∧ Below w.heap.size w w' := by
  by_cases hi : 0 ≤ i ∧ i < n
  · obtain ⟨k, rfl⟩ := Int.eq_ofNat_of_zero_le hi.1
    have hk : k < n := by omega
    obtain ⟨ad, rfl, hlt, hc⟩ := h (by omega)
    have e : at0 l (k : Int) = l[k]'(by omega) := by simp [at0, hn, hk]
    rw [e]
    exact load_in ad n c k _ w (hc k _ (List.getElem?_eq_getElem (by omega))) hk hs hlt
  · have e : at0 l i = 0 := by
      unfold at0
      split
      · rw [List.getD_eq_getElem?_getD, List.getElem?_eq_none (by omega)]; rfl
      · rfl
    rw [e]
    exact load_out A n c i w hs (by omega)
/-- What a call that answers cells leaves: numbers of its own, and nothing that was there has changed. -/
def RetM (w : World) (n : Nat) (l : List Int) (e : Ending) (w' : World) : Prop :=
  ∃ g, e = .returned (.slice (some ⟨g, 0, none⟩) n n) ∧ Bk w' g l ∧ Below w.heap.size w w'
set_option maxHeartbeats 400000 in
theorem store_in (A : Option Addr) (n c k : Nat) (l : List Int) (v : Int) (w : World) (h : Rd w A l) (hn : l.length = n) (hs : n ≤ 500) (hk : k < n) :
    Calls Try.prog 47 #[.slice A n c, .int .i64 k, .int .u64 v] w (RetM w n (l.set k v)) := by
  have HN := Lib.hid hn
  have hr : Rd (w.alloc (.cells #[.int .u64 v] 26)) A l := h.below ((Below.refl _ _).alloc (Nat.le_refl _) _)
  have H := Lib.hid hr
  clear hn hr h
  go_enter Try.func47, Try.ntmps47
  go_wp2_with fail
  refine (copied_any A n c (w.heap.size + 1) l _ H.out HN.out hs (by simp)).mono ?_
  rintro e w1 ⟨rfl, hB, hb⟩
  have hbox : w1.cell? ⟨w.heap.size, 0, none⟩ = some (.int .u64 v) := (hb.cell (p := ⟨w.heap.size, 0, none⟩) (by simp)).trans (by simp)
  have hcell := hB.cell k _ (List.getElem?_eq_getElem (by rw [HN.out]; exact hk))
  have hfz := hB.frozen k
  have HB := Lib.hid hB
  have Hb := Lib.hid hb
  clear hB hb
  go_wp2
  go_end0
  go_wp2
  go_end0
  go_wp2
  go_ret
  exact ⟨_, rfl, HB.out.set k v, (((Below.refl _ _).alloc (Nat.le_refl _) _).trans (Hb.out.mono (by simp))).setCell (by simp) _⟩
set_option maxHeartbeats 400000 in
theorem store_out (A : Option Addr) (n c : Nat) (l : List Int) (i v : Int) (w : World) (h : Rd w A l) (hn : l.length = n) (hs : n ≤ 500) (hi : i < 0 ∨ (n : Int) ≤ i) :
    Calls Try.prog 47 #[.slice A n c, .int .i64 i, .int .u64 v] w (RetM w n l) := by
  have HN := Lib.hid hn
  have hr : Rd (w.alloc (.cells #[.int .u64 v] 26)) A l := h.below ((Below.refl _ _).alloc (Nat.le_refl _) _)
  have H := Lib.hid hr
  clear hn hr h
  rcases hi with hi | hi
  all_goals
    go_enter Try.func47, Try.ntmps47
    go_wp2_with fail
    refine (copied_any A n c (w.heap.size + 1) l _ H.out HN.out hs (by simp)).mono ?_
    rintro e w1 ⟨rfl, hB, hb⟩
    have HB := Lib.hid hB
    have Hb := Lib.hid hb
    clear hB hb
    go_wp2
    go_end0
    go_wp2
    go_ret
    exact ⟨_, rfl, HB.out, ((Below.refl _ _).alloc (Nat.le_refl _) _).trans (Hb.out.mono (by simp))⟩
theorem store_any (A : Option Addr) (n c : Nat) (l : List Int) (i v : Int) (w : World) (h : Rd w A l) (hn : l.length = n) (hs : n ≤ 500) :
    Calls Try.prog 47 #[.slice A n c, .int .i64 i, .int .u64 v] w (RetM w n (put l i v)) := by
  by_cases hi : 0 ≤ i ∧ i < n
  · obtain ⟨k, rfl⟩ := Int.eq_ofNat_of_zero_le hi.1
    have e : put l (k : Int) v = l.set k v := by simp [put]
    rw [e]
    exact store_in A n c k l v w h hn hs (by omega)
  · have e : put l i v = l := by
      unfold put
      split
      · rw [List.set_eq_of_length_le (by omega)]
      · rfl
    rw [e]
    exact store_out A n c l i v w h hn hs (by omega)
/-- What an exchange leaves. -/
def RetC (w : World) (n : Nat) (l : List Int) (b : Bool) (e : Ending) (w' : World) : Prop :=
  ∃ g, e = .returned (.tuple #[.slice (some ⟨g, 0, none⟩) n n, .bool b]) ∧ Bk w' g l ∧ Below w.heap.size w w'
/-- What an addition leaves. -/
def RetA (w : World) (n : Nat) (l : List Int) (u : Int) (e : Ending) (w' : World) : Prop :=
  ∃ g, e = .returned (.tuple #[.slice (some ⟨g, 0, none⟩) n n, .int .u64 u]) ∧ Bk w' g l ∧ Below w.heap.size w w'
end Go.Proofs.Ytfeccpfkpbminaa
