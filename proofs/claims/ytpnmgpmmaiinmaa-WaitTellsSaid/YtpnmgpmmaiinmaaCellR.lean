/- Contracts of the document's own answers for layer 1. -/
import Derived.Test.YtpnmgpmmaiinmaaCelC
namespace Go.Proofs.Ytpnmgpmmaiinmaa
open Go.RowKit Go.Deep
def RetRC (w : World) (n : Nat) (l : List Int) (b : Bool) (e : Ending) (w' : World) : Prop :=
  ∃ A c, e = .returned (.tuple #[.slice A n c, .bool b]) ∧ Rd w' A l ∧ Below w.heap.size w w'
def RetRA (w : World) (n : Nat) (l : List Int) (u : Int) (e : Ending) (w' : World) : Prop :=
  ∃ A c, e = .returned (.tuple #[.slice A n c, .int .u64 u]) ∧ Rd w' A l ∧ Below w.heap.size w w'
theorem RetR.of {w : World} {n : Nat} {l l' : List Int} {P : Program} {f : FuncId} {args : Array Value} (h : Calls P f args w (RetR w n l)) (e1 : l = l') : Calls P f args w (RetR w n l') := by rw [← e1]; exact h
set_option maxHeartbeats 400000 in
theorem rload_in (ad : Addr) (n c k : Nat) (u : Int) (w : World) (hc : w.cell? (ad.add k) = some (.int .u64 u)) (hk : k < n) :
    Calls Try.prog 29 #[.slice (some ad) n c, .int .i64 k] w fun e w' => e = .returned (.int .u64 u) ∧ Below w.heap.size w w' := by
  go_enter Try.func29, Try.ntmps29
  go_wp2
  go_ret
  exact ⟨rfl, Below.refl _ _⟩
set_option maxHeartbeats 400000 in
theorem rload_out (A : Option Addr) (n c : Nat) (i : Int) (w : World) (hi : i < 0 ∨ (n : Int) ≤ i) :
    Calls Try.prog 29 #[.slice A n c, .int .i64 i] w fun e w' => e = .returned (.int .u64 0) ∧ Below w.heap.size w w' := by
  rcases hi with hi | hi
  all_goals
    go_enter Try.func29, Try.ntmps29
    go_wp2
    go_ret
    exact ⟨rfl, Below.refl _ _⟩
theorem rload_any (A : Option Addr) (n c : Nat) (l : List Int) (i : Int) (w : World) (h : Rd w A l) (hn : l.length = n) :
    Calls Try.prog 29 #[.slice A n c, .int .i64 i] w fun e w' => e = .returned (.int .u64 (at0 l i)) ∧ Below w.heap.size w w' := by
  by_cases hi : 0 ≤ i ∧ i < n
  · obtain ⟨k, rfl⟩ := Int.eq_ofNat_of_zero_le hi.1
    obtain ⟨ad, rfl, hlt, hc⟩ := h (by omega)
    rw [at0_in hi.1 (by omega)]
    exact rload_in ad n c k _ w (hc k _ (List.getElem?_eq_getElem (by omega))) (by omega)
  · rw [at0_out (by omega)]
    exact rload_out A n c i w (by omega)
set_option maxHeartbeats 400000 in
theorem rstore_in (A : Option Addr) (n c k : Nat) (l : List Int) (v : Int) (w : World) (h : Rd w A l) (hn : l.length = n) (hs : n ≤ 500) (hk : k < n) :
    Calls Try.prog 35 #[.slice A n c, .int .i64 k, .int .u64 v] w (RetR w n (l.set k v)) := by
  have ho : Own w w.heap.size none 0 0 [] := World.ownsRow_nil _ _ _ _
  obtain ⟨A', c', w1, hrun, hown, hb⟩ := run_app ho c h hn (by omega) (Nat.le_refl _)
  simp only [Nat.zero_add, List.nil_append] at hrun hown
  obtain ⟨g, u, rfl, hg, hcell, hfz, hset⟩ := hown.set hk
  have HO := Lib.hid (hset v)
  have HB := Lib.hid hb
  have HRUN := Lib.hid hrun
  have HN := Lib.hid hn
  clear hrun hown hset hb ho h hn
  go_enter Try.func35, Try.ntmps35
  go_wp2_with (at_builtin; (with_reducible refine wpList_append_run HRUN.out ?_ ?_ ?_ ?_); exact ⟨_, _, rfl, rfl, rfl⟩; rfl; rfl)
  go_ret
  exact ⟨_, _, rfl, HO.out.rd, HB.out.setCell hg _⟩
set_option maxHeartbeats 400000 in
theorem rstore_out (A : Option Addr) (n c : Nat) (l : List Int) (i v : Int) (w : World) (h : Rd w A l) (hn : l.length = n) (hs : n ≤ 500) (hi : i < 0 ∨ (n : Int) ≤ i) :
    Calls Try.prog 35 #[.slice A n c, .int .i64 i, .int .u64 v] w (RetR w n l) := by
  have ho : Own w w.heap.size none 0 0 [] := World.ownsRow_nil _ _ _ _
  obtain ⟨A', c', w1, hrun, hown, hb⟩ := run_app ho c h hn (by omega) (Nat.le_refl _)
  simp only [Nat.zero_add, List.nil_append] at hrun hown
  have HO := Lib.hid hown
  have HB := Lib.hid hb
  have HRUN := Lib.hid hrun
  have HN := Lib.hid hn
  clear hrun hown hb ho h hn
  rcases hi with hi | hi
  all_goals
    go_enter Try.func35, Try.ntmps35
    go_wp2_with (at_builtin; (with_reducible refine wpList_append_run HRUN.out ?_ ?_ ?_ ?_); exact ⟨_, _, rfl, rfl, rfl⟩; rfl; rfl)
    go_ret
    exact ⟨_, _, rfl, HO.out.rd, HB.out⟩
theorem rstore_any (A : Option Addr) (n c : Nat) (l : List Int) (i v : Int) (w : World) (h : Rd w A l) (hn : l.length = n) (hs : n ≤ 500) :
    Calls Try.prog 35 #[.slice A n c, .int .i64 i, .int .u64 v] w (RetR w n (put l i v)) := by
  by_cases hi : 0 ≤ i ∧ i < n
  · obtain ⟨k, rfl⟩ := Int.eq_ofNat_of_zero_le hi.1
    rw [show put l (k : Int) v = l.set k v by simp [put]]
    exact rstore_in A n c k l v w h hn hs (by omega)
  · rw [put_out v (by omega)]
    exact rstore_out A n c l i v w h hn hs (by omega)
set_option maxHeartbeats 400000 in
theorem rcas_yes (ad : Addr) (n c k : Nat) (l : List Int) (u v : Int) (w : World) (h : Rd w (some ad) l) (hn : l.length = n) (hs : n ≤ 500) (hu : w.cell? (ad.add k) = some (.int .u64 u)) (hk : k < n) :
    Calls Try.prog 32 #[.slice (some ad) n c, .int .i64 k, .int .u64 u, .int .u64 v] w (RetRC w n (put l k v) true) := by
  have H := Lib.hid h
  have HN := Lib.hid hn
  clear h hn
  go_enter Try.func32, Try.ntmps32
  go_wp2_with fail
  refine (rstore_any _ n c l _ _ _ H.out HN.out hs).mono ?_
  rintro e w1 ⟨A1, c1, rfl, r1, z1⟩
  have R := Lib.hid r1
  have Z := Lib.hid z1
  clear r1 z1
  go_wp2
  go_ret2
  exact ⟨_, _, rfl, R.out, Z.out⟩
set_option maxHeartbeats 400000 in
theorem rcas_no (ad : Addr) (n c k : Nat) (l : List Int) (u v x : Int) (w : World) (h : Rd w (some ad) l) (hn : l.length = n) (hs : n ≤ 500) (hu : w.cell? (ad.add k) = some (.int .u64 x)) (hk : k < n) (hx : (x != u) = true) :
    Calls Try.prog 32 #[.slice (some ad) n c, .int .i64 k, .int .u64 u, .int .u64 v] w (RetRC w n l false) := by
  have H := Lib.hid h
  have HN := Lib.hid hn
  clear h hn
  go_enter Try.func32, Try.ntmps32
  go_wp2_with fail
  refine (RetR.of (rstore_any _ n c l _ _ _ H.out HN.out hs) (l' := l) (put_out _ (by omega))).mono ?_
  rintro e w1 ⟨A1, c1, rfl, r1, z1⟩
  have R := Lib.hid r1
  have Z := Lib.hid z1
  clear r1 z1
  go_wp2
  go_ret2
  exact ⟨_, _, rfl, R.out, Z.out⟩
set_option maxHeartbeats 400000 in
theorem rcas_out (A : Option Addr) (n c : Nat) (l : List Int) (i u v : Int) (w : World) (h : Rd w A l) (hn : l.length = n) (hs : n ≤ 500) (hi : i < 0 ∨ (n : Int) ≤ i) :
    Calls Try.prog 32 #[.slice A n c, .int .i64 i, .int .u64 u, .int .u64 v] w (RetRC w n l false) := by
  have H := Lib.hid h
  have HN := Lib.hid hn
  clear h hn
  rcases hi with hi | hi
  all_goals
    go_enter Try.func32, Try.ntmps32
    go_wp2_with fail
    refine (RetR.of (rstore_any _ n c l _ _ _ H.out HN.out hs) (l' := l) (put_out _ (by omega))).mono ?_
    rintro e w1 ⟨A1, c1, rfl, r1, z1⟩
    have R := Lib.hid r1
    have Z := Lib.hid z1
    clear r1 z1
    go_wp2
    go_ret2
    exact ⟨_, _, rfl, R.out, Z.out⟩
theorem rcas_any (A : Option Addr) (n c : Nat) (l : List Int) (i u v : Int) (w : World) (h : Rd w A l) (hn : l.length = n) (hs : n ≤ 500) :
    Calls Try.prog 32 #[.slice A n c, .int .i64 i, .int .u64 u, .int .u64 v] w (RetRC w n (if isAt l i u = true then put l i v else l) (isAt l i u)) := by
  by_cases hi : 0 ≤ i ∧ i < n
  · obtain ⟨k, rfl⟩ := Int.eq_ofNat_of_zero_le hi.1
    have hk : k < l.length := by omega
    obtain ⟨ad, rfl, hlt, hc⟩ := h (by omega)
    have hck := hc k _ (List.getElem?_eq_getElem hk)
    by_cases hx : l[k] = u
    · have e : isAt l (k : Int) u = true := by simp [isAt, List.getElem?_eq_getElem hk, hx]
      rw [e, if_pos rfl]
      rw [hx] at hck
      exact rcas_yes ad n c k l u v w h hn hs hck (by omega)
    · have e : isAt l (k : Int) u = false := by simp [isAt, List.getElem?_eq_getElem hk, hx]
      rw [e, if_neg (by simp)]
      exact rcas_no ad n c k l u v _ w h hn hs hck (by omega) (by simp [hx])
  · have e : isAt l i u = false := by
      rw [Bool.eq_false_iff]
      intro e
      have := ((isAt_iff l i u).1 e).1
      omega
    rw [e, if_neg (by simp)]
    exact rcas_out A n c l i u v w h hn hs (by omega)
end Go.Proofs.Ytpnmgpmmaiinmaa
