/- What the texts of pop's and steal's next share: a box of cells, a box of a function, exchanges into new memory, and what a closure leaves. -/
import Derived.Test.YtlpkccpijloidaaGreatPuG2
import Derived.Test.YtlpkccpijloidaaGreatDqB2
import Derived.WalkMore
import Derived.RegionTactic
namespace Go.Proofs.YtlpkccpijloidaaGreat
set_option maxRecDepth 100000
open Go.RowKit Go.Deep
/-- Block g holds one variable. -/
def Bv (w : World) (g : Nat) (v : Value) (ty : Nat) : Prop := w.heap[g]? = some (.cells #[v] ty (0, 0))
theorem Bv.lt {w : World} {g ty : Nat} {v : Value} (h : Bv w g v ty) : g < w.heap.size := by
  rcases Nat.lt_or_ge g w.heap.size with hlt | hge
  · exact hlt
  · unfold Bv at h; rw [Array.getElem?_eq_none hge] at h; cases h
theorem Bv.below {w w' : World} {g B ty : Nat} {v : Value} (h : Bv w g v ty) (hb : Below B w w') (hg : g < B) : Bv w' g v ty := (hb.block g hg).trans h
theorem Bv.after {w w' : World} {g ty : Nat} {v : Value} (h : Bv w g v ty) (hb : Below w.heap.size w w') : Bv w' g v ty := h.below hb h.lt
theorem Bv.drew {w : World} {g ty : Nat} {v : Value} (h : Bv w g v ty) : Bv w.drew g v ty := h
theorem Bv.cell {w : World} {g ty : Nat} {v : Value} (h : Bv w g v ty) : w.cell? ⟨g, 0, none⟩ = some v := by
  unfold Bv at h
  rw [cell_of_row w g _ _ _ _ h]; rfl
theorem Bv.free {w : World} {g ty : Nat} {v : Value} (h : Bv w g v ty) (i : Nat) : w.frozen? ⟨g, i, none⟩ = false := by
  unfold Bv at h
  simp [World.frozen?, h]
theorem Bv.set {w : World} {g ty : Nat} {v : Value} (h : Bv w g v ty) (z : Value) : Bv (w.setCell ⟨g, 0, none⟩ z) g z ty := by
  unfold Bv at h ⊢
  simp [World.setCell, Array.getElem?_modify, h]
theorem Bv.other {w : World} {g k i ty : Nat} {v : Value} (h : Bv w g v ty) (hk : g ≠ k) (z : Value) : Bv (w.setCell ⟨k, i, none⟩ z) g v ty := (Below.heap_setCell w ⟨k, i, none⟩ z g hk).trans h
theorem Bv.pf {w : World} {g k ty : Nat} {v : Value} (h : Bv w g v ty) (hk : g ≠ k) (f : Fr) : Bv (pf w k f) g v ty :=
  ((((((h.other hk _).other hk _).other hk _).other hk _).other hk _).other hk _).other hk _
theorem Bv.kb {w w' : World} {g k ty : Nat} {v : Value} (h : Bv w g v ty) (hk : Kb k w w') (hc : g ≠ k) : Bv w' g v ty := (hk.others g h.lt hc).trans h
/-- Block g holds one variable of cells. -/
def Bm (w : World) (g : Nat) (v : Value) : Prop := Bv w g v 26
section
variable {w w' : World} {g k : Nat} {v : Value}
theorem Bm.lt (h : Bm w g v) : g < w.heap.size := Bv.lt h
theorem Bm.below {B : Nat} (h : Bm w g v) (hb : Below B w w') (hg : g < B) : Bm w' g v := Bv.below h hb hg
theorem Bm.after (h : Bm w g v) (hb : Below w.heap.size w w') : Bm w' g v := Bv.after h hb
theorem Bm.drew (h : Bm w g v) : Bm w.drew g v := h
theorem Bm.cell (h : Bm w g v) : w.cell? ⟨g, 0, none⟩ = some v := Bv.cell h
theorem Bm.free (h : Bm w g v) (i : Nat) : w.frozen? ⟨g, i, none⟩ = false := Bv.free h i
theorem Bm.set (h : Bm w g v) (z : Value) : Bm (w.setCell ⟨g, 0, none⟩ z) g z := Bv.set h z
theorem Bm.other {i : Nat} (h : Bm w g v) (hk : g ≠ k) (z : Value) : Bm (w.setCell ⟨k, i, none⟩ z) g v := Bv.other h hk z
theorem Bm.pf (h : Bm w g v) (hk : g ≠ k) (f : Fr) : Bm (Go.Proofs.YtlpkccpijloidaaGreat.pf w k f) g v := Bv.pf h hk f
theorem Bm.kb (h : Bm w g v) (hk : Kb k w w') (hc : g ≠ k) : Bm w' g v := Bv.kb h hk hc
end
theorem kb_drew {S : World → Prop} {g : Nat} {w x : World} (K : ∀ x, Kb g w x → S x) (G : ∀ x, S x → Kb g w x) (h : S x) : S x.drew := K _ (G _ h).drew
theorem kb_call {S : World → Prop} {g : Nat} {w x x' : World} (K : ∀ x, Kb g w x → S x) (G : ∀ x, S x → Kb g w x) (hg : g < w.heap.size) (hc : Below x.heap.size x x') (h : S x) : S x' := K _ ((G _ h).call hg hc)
theorem kb_set {S : World → Prop} {g : Nat} {w x : World} (K : ∀ x, Kb g w x → S x) (G : ∀ x, S x → Kb g w x) (k : Nat) (v : Value) (h : S x) : S (x.setCell ⟨g, k, none⟩ v) := K _ ((G _ h).set k v)
theorem Kb.trans {g : Nat} {w1 w2 w3 : World} (h : Kb g w1 w2) (k : Kb g w2 w3) : Kb g w1 w3 :=
  ⟨h.low.trans k.low, fun b h1 h2 => (k.others b (Nat.lt_of_lt_of_le h1 h.size) h2).trans (h.others b h1 h2)⟩
/-- What an exchange leaves: numbers in new memory. -/
def RetD (w : World) (n : Nat) (l : List Int) (b : Bool) (e : Ending) (w' : World) : Prop :=
  ∃ g, e = .returned (.tuple #[.slice (some ⟨g, 0, none⟩) n n, .bool b]) ∧ w.heap.size ≤ g ∧ Bk w' g l ∧ Below w.heap.size w w'
set_option maxHeartbeats 400000 in
theorem casn_yes (A : Option Addr) (n c k : Nat) (l : List Int) (u v : Int) (w : World) (h : Rd w A l) (hn : l.length = n) (hs : n ≤ 500) (hu : l[k]? = some u) :
    Calls Tryz.prog 131 #[.slice A n c, .int .i64 k, .int .u64 u, .int .u64 v] w (RetD w n (l.set k v) true) := by
  have hk : k < n := by have := (List.getElem?_eq_some_iff.1 hu).1; omega
  have HN := Lib.hid hn
  have HU := Lib.hid hu
  have h1 : Below w.heap.size w ((w.alloc (.cells #[.int .u64 u] 28)).alloc (.cells #[.int .u64 v] 28)) := ((Below.refl _ _).alloc (Nat.le_refl _) _).alloc (by simp) _
  have H := Lib.hid (h.below h1)
  clear hn h h1 hu
  go_enter Tryz.func131, Tryz.ntmps131
  go_wp2_with fail
  refine (copied_any A n c (w.heap.size + 2) l _ H.out HN.out hs (by simp)).mono ?_
  rintro e w1 ⟨rfl, hB, hb⟩
  have hbox : w1.cell? ⟨w.heap.size, 0, none⟩ = some (.int .u64 u) := (hb.cell (p := ⟨w.heap.size, 0, none⟩) (by simp)).trans (by simp)
  have hbox2 : w1.cell? ⟨w.heap.size + 1, 0, none⟩ = some (.int .u64 v) := (hb.cell (p := ⟨w.heap.size + 1, 0, none⟩) (by simp)).trans (by simp)
  have hcell := hB.cell k _ HU.out
  have hfz := hB.frozen k
  have hlt := hB.lt
  have hl0 : w.heap.size < w1.heap.size := by omega
  have hl1 : w.heap.size + 1 < w1.heap.size := by omega
  have HB := Lib.hid hB
  have Hb := Lib.hid hb
  clear hB hb
  go_wp2
  go_region
  go_wp2
  go_end0
  go_wp2
  go_end0
  go_wp2
  go_region
  go_wp2
  go_ret2
  refine ⟨_, rfl, by simp, (HB.out.set k _).alloc _, ?_⟩
  exact ((((((Below.refl _ _).alloc (Nat.le_refl _) _).alloc (by simp) _).trans (Hb.out.mono (by simp))).setCell (by simp) _).alloc (by simp [World.setCell]; omega) _).drew.drew
set_option maxHeartbeats 400000 in
theorem casn_no (A : Option Addr) (n c k : Nat) (l : List Int) (u v x : Int) (w : World) (h : Rd w A l) (hn : l.length = n) (hs : n ≤ 500) (hu : l[k]? = some x) (hx : (x == u) = false) :
    Calls Tryz.prog 131 #[.slice A n c, .int .i64 k, .int .u64 u, .int .u64 v] w (RetD w n l false) := by
  have hk : k < n := by have := (List.getElem?_eq_some_iff.1 hu).1; omega
  have HN := Lib.hid hn
  have HU := Lib.hid hu
  have h1 : Below w.heap.size w ((w.alloc (.cells #[.int .u64 u] 28)).alloc (.cells #[.int .u64 v] 28)) := ((Below.refl _ _).alloc (Nat.le_refl _) _).alloc (by simp) _
  have H := Lib.hid (h.below h1)
  clear hn h h1 hu
  go_enter Tryz.func131, Tryz.ntmps131
  go_wp2_with fail
  refine (copied_any A n c (w.heap.size + 2) l _ H.out HN.out hs (by simp)).mono ?_
  rintro e w1 ⟨rfl, hB, hb⟩
  have hbox : w1.cell? ⟨w.heap.size, 0, none⟩ = some (.int .u64 u) := (hb.cell (p := ⟨w.heap.size, 0, none⟩) (by simp)).trans (by simp)
  have hbox2 : w1.cell? ⟨w.heap.size + 1, 0, none⟩ = some (.int .u64 v) := (hb.cell (p := ⟨w.heap.size + 1, 0, none⟩) (by simp)).trans (by simp)
  have hcell := hB.cell k _ HU.out
  have hlt := hB.lt
  have hl0 : w.heap.size < w1.heap.size := by omega
  have hl1 : w.heap.size + 1 < w1.heap.size := by omega
  have HB := Lib.hid hB
  have Hb := Lib.hid hb
  clear hB hb
  go_wp2
  go_region
  go_wp2
  go_end0
  go_wp2
  go_end0
  go_wp2
  go_region
  go_wp2
  go_ret2
  refine ⟨_, rfl, by simp, HB.out.alloc _, ?_⟩
  exact (((((Below.refl _ _).alloc (Nat.le_refl _) _).alloc (by simp) _).trans (Hb.out.mono (by simp))).alloc (by omega) _).drew.drew
set_option maxHeartbeats 400000 in
theorem casn_out (A : Option Addr) (n c : Nat) (l : List Int) (i u v : Int) (w : World) (h : Rd w A l) (hn : l.length = n) (hs : n ≤ 500) (hi : i < 0 ∨ (n : Int) ≤ i) :
    Calls Tryz.prog 131 #[.slice A n c, .int .i64 i, .int .u64 u, .int .u64 v] w (RetD w n l false) := by
  have HN := Lib.hid hn
  have h1 : Below w.heap.size w ((w.alloc (.cells #[.int .u64 u] 28)).alloc (.cells #[.int .u64 v] 28)) := ((Below.refl _ _).alloc (Nat.le_refl _) _).alloc (by simp) _
  have H := Lib.hid (h.below h1)
  clear hn h h1
  rcases hi with hi | hi
  all_goals
    go_enter Tryz.func131, Tryz.ntmps131
    go_wp2_with fail
    refine (copied_any A n c (w.heap.size + 2) l _ H.out HN.out hs (by simp)).mono ?_
    rintro e w1 ⟨rfl, hB, hb⟩
    have hlt := hB.lt
    have HB := Lib.hid hB
    have Hb := Lib.hid hb
    clear hB hb
    go_wp2
    go_end0
    go_wp2
    go_region
    go_wp2
    go_ret2
    refine ⟨_, rfl, by simp, HB.out.alloc _, ?_⟩
    exact (((((Below.refl _ _).alloc (Nat.le_refl _) _).alloc (by simp) _).trans (Hb.out.mono (by simp))).alloc (by omega) _).drew
theorem casn_any (A : Option Addr) (n c : Nat) (l : List Int) (i u v : Int) (w : World) (h : Rd w A l) (hn : l.length = n) (hs : n ≤ 500) :
    Calls Tryz.prog 131 #[.slice A n c, .int .i64 i, .int .u64 u, .int .u64 v] w (RetD w n (if isAt l i u = true then put l i v else l) (isAt l i u)) := by
  by_cases hi : 0 ≤ i ∧ i < n
  · obtain ⟨k, rfl⟩ := Int.eq_ofNat_of_zero_le hi.1
    have hk : k < l.length := by omega
    by_cases hx : l[k] = u
    · have e : isAt l (k : Int) u = true := by simp [isAt, List.getElem?_eq_getElem hk, hx]
      rw [e, if_pos rfl, show put l (k : Int) v = l.set k v by simp [put]]
      exact casn_yes A n c k l u v w h hn hs (by rw [List.getElem?_eq_getElem hk, hx])
    · have e : isAt l (k : Int) u = false := by simp [isAt, List.getElem?_eq_getElem hk, hx]
      rw [e, if_neg (by simp)]
      exact casn_no A n c k l u v _ w h hn hs (List.getElem?_eq_getElem hk) (by simp [hx])
  · have e : isAt l i u = false := by
      unfold isAt
      by_cases h0 : 0 ≤ i
      · rw [List.getElem?_eq_none (by omega)]; simp
      · simp [h0]
    rw [e, if_neg (by simp)]
    exact casn_out A n c l i u v w h hn hs (by omega)
theorem casn_n {A : Option Addr} {n c : Nat} {l : List Int} {i u v : Int} {w : World} (h : Rd w A l) (hn : l.length = n) (hs : n ≤ 500) {b : Bool} {T : List Int} (eb : isAt l i u = b) (eT : (if isAt l i u = true then put l i v else l) = T) :
    Calls Tryz.prog 131 #[.slice A n c, .int .i64 i, .int .u64 u, .int .u64 v] w (RetD w n T b) := by
  subst eb eT
  exact casn_any A n c l i u v w h hn hs
theorem Bk.other {w : World} {g k : Nat} {l : List Int} (h : Bk w k l) (hk : k ≠ g) (z : Value) : Bk (w.setCell ⟨g, 0, none⟩ z) k l := (Below.heap_setCell w ⟨g, 0, none⟩ z k hk).trans h
theorem Bk.kb {w w' : World} {g k : Nat} {l : List Int} (h : Bk w k l) (hK : Kb g w w') (hk : k ≠ g) : Bk w' k l := (hK.others k h.lt hk).trans h
/-- What a closure that stores leaves: the cells, new, in the variable; all other blocks stay. -/
def RetV (w : World) (g n : Nat) (v : Value) (l : List Int) (e : Ending) (w' : World) : Prop :=
  ∃ k, e = .returned v ∧ w.heap.size ≤ k ∧ Bk w' k l ∧ Bm w' g (.slice (some ⟨k, 0, none⟩) n n) ∧ Kb g w w'
/-- What a closure that stores into the call's box leaves. -/
def RetF (w : World) (g : Nat) (f : Fr) (e : Ending) (w' : World) : Prop := e = .returned (.tuple #[]) ∧ Bf w' g f ∧ Kb g w w'
theorem isAt_at0 {l : List Int} {i u : Int} (h0 : 0 ≤ i) (h1 : i < l.length) : isAt l i u = decide (at0 l i = u) := by
  obtain ⟨k, rfl⟩ := Int.eq_ofNat_of_zero_le h0
  have hk : k < l.length := by omega
  simp [isAt, at0, hk]
  exact Bool.eq_iff_iff.2 (by simp)
theorem Bf.wPc {w : World} {g : Nat} {f : Fr} (h : Bf w g f) (z : Int) : Bf (w.setCell ⟨g, 1, none⟩ (.int .i64 z)) g { f with pc := z } := by
  unfold Bf at h ⊢
  simp [World.setCell, Array.getElem?_modify, h]
theorem Bf.wVal {w : World} {g : Nat} {f : Fr} (h : Bf w g f) (z : Int) : Bf (w.setCell ⟨g, 3, none⟩ (.int .u64 z)) g { f with val := z } := by
  unfold Bf at h ⊢
  simp [World.setCell, Array.getElem?_modify, h]
theorem Bf.wX {w : World} {g : Nat} {f : Fr} (h : Bf w g f) (z : Int) : Bf (w.setCell ⟨g, 4, none⟩ (.int .u64 z)) g { f with x := z } := by
  unfold Bf at h ⊢
  simp [World.setCell, Array.getElem?_modify, h]
theorem Bf.wY {w : World} {g : Nat} {f : Fr} (h : Bf w g f) (z : Int) : Bf (w.setCell ⟨g, 5, none⟩ (.int .u64 z)) g { f with y := z } := by
  unfold Bf at h ⊢
  simp [World.setCell, Array.getElem?_modify, h]
theorem Bf.oth {w : World} {g k i : Nat} {f : Fr} (h : Bf w g f) (hk : g ≠ k) (z : Value) : Bf (w.setCell ⟨k, i, none⟩ z) g f := (Below.heap_setCell w ⟨k, i, none⟩ z g hk).trans h
theorem Bx.oth {w : World} {g k i : Nat} {W D J S : Int} (h : Bx w g W D J S) (hk : g ≠ k) (z : Value) : Bx (w.setCell ⟨k, i, none⟩ z) g W D J S := by
  have e : (w.setCell ⟨k, i, none⟩ z).heap[g]? = w.heap[g]? := Below.heap_setCell w ⟨k, i, none⟩ z g hk
  exact ⟨by simpa using h.1, (World.cell?_of_block e).trans h.2.1, (World.cell?_of_block e).trans h.2.2.1, (World.cell?_of_block e).trans h.2.2.2.1, (World.cell?_of_block e).trans h.2.2.2.2⟩
/-- What a step hands back: cells in a block from number lo on, and the call. -/
def RetQ (lo : Nat) (w : World) (n : Nat) (l : List Int) (f : Fr) (e : Ending) (w' : World) : Prop :=
  ∃ A c, e = .returned (.tuple #[.slice A n c, fv f]) ∧ Rn lo w' A l ∧ Below w.heap.size w w'
theorem RetQ.of {lo : Nat} {w : World} {n : Nat} {l l' : List Int} {f f' : Fr} {P : Program} {F : FuncId} {args : Array Value} (h : Calls P F args w (RetQ lo w n l f)) (e1 : l = l') (e2 : f = f') : Calls P F args w (RetQ lo w n l' f') := by
  rw [← e1, ← e2]; exact h
end Go.Proofs.YtlpkccpijloidaaGreat
