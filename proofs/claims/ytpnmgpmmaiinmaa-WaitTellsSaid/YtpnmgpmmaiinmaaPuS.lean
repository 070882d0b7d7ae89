/- Contract of the document's own Step. -/
import Derived.Test.YtpnmgpmmaiinmaaPuR
import Derived.Test.YtpnmgpmmaiinmaaPuH2
import Derived.Test.YtpnmgpmmaiinmaaCellR
import Derived.IntWalk
namespace Go.Proofs.Ytpnmgpmmaiinmaa
open Go.RowKit Go.Deep
/-- What the document's own step leaves: cells that may be read, and a call. -/
def RetT (w : World) (n : Nat) (l : List Int) (f : Fr) (e : Ending) (w' : World) : Prop :=
  ∃ A c, e = .returned (.tuple #[.slice A n c, fv f]) ∧ Rd w' A l ∧ Below w.heap.size w w'
/-- The same, told where the cells are: as they were, or in new memory. -/
def RetU (w : World) (A₀ : Option Addr) (l₀ : List Int) (n : Nat) (l : List Int) (f : Fr) (e : Ending) (w' : World) : Prop :=
  ∃ A c, e = .returned (.tuple #[.slice A n c, fv f]) ∧ ((A = A₀ ∧ l = l₀) ∨ Rn w.heap.size w' A l) ∧ Below w.heap.size w w'
theorem RetU.t {w : World} {A₀ : Option Addr} {l₀ : List Int} {n : Nat} {l : List Int} {f : Fr} {e : Ending} {w' : World} (h : RetU w A₀ l₀ n l f e w') (h0 : Rd w A₀ l₀) : RetT w n l f e w' := by
  obtain ⟨A, c, he, ⟨rfl, rfl⟩ | h1, h2⟩ := h
  · exact ⟨A, c, he, h0.below h2, h2⟩
  · exact ⟨A, c, he, h1.rd, h2⟩
theorem Rn.pfO {lo : Nat} {w : World} {A : Option Addr} {l : List Int} (h : Rn lo w A l) {g n : Nat} (k : g < lo) (hg : n ≤ g) (f : Fr) : Rn n (Go.Proofs.Ytpnmgpmmaiinmaa.pf w g f) A l := (h.pf k f).mono (by omega)
theorem Bf.setPc {w : World} {g : Nat} {f : Fr} (h : Bf w g f) (z : Int) : Bf (w.setCell ⟨g, 1, none⟩ (.int .i64 z)) g { f with pc := z } := by
  unfold Bf at h ⊢
  simp [World.setCell, Array.getElem?_modify, h]
theorem Bf.setX {w : World} {g : Nat} {f : Fr} (h : Bf w g f) (z : Int) : Bf (w.setCell ⟨g, 4, none⟩ (.int .u64 z)) g { f with x := z } := by
  unfold Bf at h ⊢
  simp [World.setCell, Array.getElem?_modify, h]
theorem Bf.setY {w : World} {g : Nat} {f : Fr} (h : Bf w g f) (z : Int) : Bf (w.setCell ⟨g, 5, none⟩ (.int .u64 z)) g { f with y := z } := by
  unfold Bf at h ⊢
  simp [World.setCell, Array.getElem?_modify, h]
theorem Bf.other {w : World} {g : Nat} {f : Fr} (h : Bf w g f) {p : Addr} (hp : g ≠ p.block) (v : Value) : Bf (w.setCell p v) g f := (Below.heap_setCell w p v g hp).trans h
theorem Bx.other {w : World} {g : Nat} {W D J S : Int} (h : Bx w g W D J S) {p : Addr} (hp : g ≠ p.block) (v : Value) : Bx (w.setCell p v) g W D J S := by
  have e := Below.heap_setCell w p v g hp
  exact ⟨by simpa using h.1, (World.cell?_of_block e).trans h.2.1, (World.cell?_of_block e).trans h.2.2.1, (World.cell?_of_block e).trans h.2.2.2.1, (World.cell?_of_block e).trans h.2.2.2.2⟩
theorem hd_set7 {S : World → Prop} {n : Nat} {w0 w : World} (K : ∀ x, Below n w0 x → S x) (G : ∀ x, S x → Below n w0 x) (v0 v1 v2 v3 v4 v5 v6 : Value) (h : S w) : S (((((((w.setCell ⟨n, 0, none⟩ v0).setCell ⟨n, 1, none⟩ v1).setCell ⟨n, 2, none⟩ v2).setCell ⟨n, 3, none⟩ v3).setCell ⟨n, 4, none⟩ v4).setCell ⟨n, 5, none⟩ v5).setCell ⟨n, 6, none⟩ v6) :=
  K _ ((((((((G _ h).setCell (p := ⟨n, 0, none⟩) (Nat.le_refl _) _).setCell (p := ⟨n, 1, none⟩) (Nat.le_refl _) _).setCell (p := ⟨n, 2, none⟩) (Nat.le_refl _) _).setCell (p := ⟨n, 3, none⟩) (Nat.le_refl _) _).setCell (p := ⟨n, 4, none⟩) (Nat.le_refl _) _).setCell (p := ⟨n, 5, none⟩) (Nat.le_refl _) _).setCell (p := ⟨n, 6, none⟩) (Nat.le_refl _) _)
set_option maxHeartbeats 400000 in
theorem rsnew_in (A : Option Addr) (n c k : Nat) (l : List Int) (v : Int) (w : World) (h : Rd w A l) (hn : l.length = n) (hs : n ≤ 500) (hk : k < n) :
    Calls Try.prog 35 #[.slice A n c, .int .i64 k, .int .u64 v] w (RetN w n (l.set k v)) := by
  have ho : Own w w.heap.size none 0 0 [] := World.ownsRow_nil _ _ _ _
  obtain ⟨A', c', w1, hrun, hown, hb⟩ := run_app ho c h hn (by omega) (Nat.le_refl _)
  simp only [Nat.zero_add, List.nil_append] at hrun hown
  obtain ⟨g, u, rfl, hg, hcell, hfz, hset⟩ := hown.set hk
  have HO := Lib.hid (hset v)
  have HB := Lib.hid hb
  have HRUN := Lib.hid hrun
  have HN := Lib.hid hn
  clear hrun hown hset hb ho h hn
  go_enter Try.func35, Try.ntmps35
  go_wp2_with (at_builtin; (with_reducible refine wpList_append_run HRUN.out ?_ ?_ ?_ ?_); exact ⟨_, _, rfl, rfl, rfl⟩; rfl; rfl)
  go_ret
  exact ⟨_, _, rfl, HO.out.rn, HB.out.setCell hg _⟩
set_option maxHeartbeats 400000 in
theorem rsnew_out (A : Option Addr) (n c : Nat) (l : List Int) (i v : Int) (w : World) (h : Rd w A l) (hn : l.length = n) (hs : n ≤ 500) (hi : i < 0 ∨ (n : Int) ≤ i) :
    Calls Try.prog 35 #[.slice A n c, .int .i64 i, .int .u64 v] w (RetN w n l) := by
  have ho : Own w w.heap.size none 0 0 [] := World.ownsRow_nil _ _ _ _
  obtain ⟨A', c', w1, hrun, hown, hb⟩ := run_app ho c h hn (by omega) (Nat.le_refl _)
  simp only [Nat.zero_add, List.nil_append] at hrun hown
  have HO := Lib.hid hown
  have HB := Lib.hid hb
  have HRUN := Lib.hid hrun
  have HN := Lib.hid hn
  clear hrun hown hb ho h hn
  rcases hi with hi | hi
  all_goals
    go_enter Try.func35, Try.ntmps35
    go_wp2_with (at_builtin; (with_reducible refine wpList_append_run HRUN.out ?_ ?_ ?_ ?_); exact ⟨_, _, rfl, rfl, rfl⟩; rfl; rfl)
    go_ret
    exact ⟨_, _, rfl, HO.out.rn, HB.out⟩
theorem rstore_new (A : Option Addr) (n c : Nat) (l : List Int) (i v : Int) (w : World) (h : Rd w A l) (hn : l.length = n) (hs : n ≤ 500) :
    Calls Try.prog 35 #[.slice A n c, .int .i64 i, .int .u64 v] w (RetN w n (put l i v)) := by
  by_cases hi : 0 ≤ i ∧ i < n
  · obtain ⟨k, rfl⟩ := Int.eq_ofNat_of_zero_le hi.1
    rw [show put l (k : Int) v = l.set k v by simp [put]]
    exact rsnew_in A n c k l v w h hn hs (by omega)
  · rw [put_out v (by omega)]
    exact rsnew_out A n c l i v w h hn hs (by omega)
theorem RetU.of {w : World} {A₀ : Option Addr} {l₀ : List Int} {n : Nat} {l l' : List Int} {f f' : Fr} {P : Program} {F : FuncId} {args : Array Value} (h : Calls P F args w (RetU w A₀ l₀ n l f)) (e1 : l = l') (e2 : f = f') : Calls P F args w (RetU w A₀ l₀ n l' f') := by rw [← e1, ← e2]; exact h
end Go.Proofs.Ytpnmgpmmaiinmaa
