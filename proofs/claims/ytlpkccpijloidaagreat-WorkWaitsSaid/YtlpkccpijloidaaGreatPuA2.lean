/- Merged: PuA, PuB, PuC. -/
import Derived.Test.YtlpkccpijloidaaGreatFr0
import Derived.Test.YtlpkccpijloidaaGreatLaC
import Derived.Test.YtlpkccpijloidaaGreatCelC
import Derived.Test.YtlpkccpijloidaaGreatBaM
import Derived.IntWalk
namespace Go.Proofs.YtlpkccpijloidaaGreat
set_option maxRecDepth 100000
open Go.RowKit Go.Deep
/-- A push lies in block g: its call, the layout, and its cells. -/
def Bp (w : World) (g : Nat) (f : Fr) (W D J S : Int) (v : Value) : Prop := w.heap[g]? = some (.cells #[.int .i64 f.op, .int .i64 f.pc, .int .i64 f.who, .int .u64 f.val, .int .u64 f.x, .int .u64 f.y, .int .i64 f.res, .int .i64 W, .int .i64 D, .int .i64 J, .int .i64 S, v] 120 (0, 0))
theorem Bp.lt {w : World} {g : Nat} {f : Fr} {W D J S : Int} {v : Value} (h : Bp w g f W D J S v) : g < w.heap.size := by
  rcases Nat.lt_or_ge g w.heap.size with hlt | hge
  · exact hlt
  · unfold Bp at h; rw [Array.getElem?_eq_none hge] at h; cases h
theorem Bp.below {w w' : World} {g B : Nat} {f : Fr} {W D J S : Int} {v : Value} (h : Bp w g f W D J S v) (hb : Below B w w') (hg : g < B) : Bp w' g f W D J S v := (hb.block g hg).trans h
theorem Bp.after {w w' : World} {g : Nat} {f : Fr} {W D J S : Int} {v : Value} (h : Bp w g f W D J S v) (hb : Below w.heap.size w w') : Bp w' g f W D J S v := h.below hb h.lt
theorem Bp.drew {w : World} {g : Nat} {f : Fr} {W D J S : Int} {v : Value} (h : Bp w g f W D J S v) : Bp w.drew g f W D J S v := h
theorem Bp.cells {w : World} {g : Nat} {f : Fr} {W D J S : Int} {v : Value} (h : Bp w g f W D J S v) : w.cell? ⟨g, 0, none⟩ = some (.int .i64 f.op) ∧ w.cell? ⟨g, 1, none⟩ = some (.int .i64 f.pc) ∧ w.cell? ⟨g, 2, none⟩ = some (.int .i64 f.who) ∧ w.cell? ⟨g, 3, none⟩ = some (.int .u64 f.val)
    ∧ w.cell? ⟨g, 4, none⟩ = some (.int .u64 f.x) ∧ w.cell? ⟨g, 5, none⟩ = some (.int .u64 f.y) ∧ w.cell? ⟨g, 6, none⟩ = some (.int .i64 f.res)
    ∧ w.cell? ⟨g, 7, none⟩ = some (.int .i64 W) ∧ w.cell? ⟨g, 8, none⟩ = some (.int .i64 D) ∧ w.cell? ⟨g, 9, none⟩ = some (.int .i64 J) ∧ w.cell? ⟨g, 10, none⟩ = some (.int .i64 S) ∧ w.cell? ⟨g, 11, none⟩ = some v := by
  unfold Bp at h
  refine ⟨?_, ?_, ?_, ?_, ?_, ?_, ?_, ?_, ?_, ?_, ?_, ?_⟩ <;> (rw [cell_of_row w g _ _ _ _ h]; rfl)
theorem Bp.free {w : World} {g : Nat} {f : Fr} {W D J S : Int} {v : Value} (h : Bp w g f W D J S v) (i : Nat) : w.frozen? ⟨g, i, none⟩ = false := by
  unfold Bp at h
  simp [World.frozen?, h]
theorem Bp.setPc {w : World} {g : Nat} {f : Fr} {W D J S : Int} {v : Value} (h : Bp w g f W D J S v) (z : Int) : Bp (w.setCell ⟨g, 1, none⟩ (.int .i64 z)) g { f with pc := z } W D J S v := by
  unfold Bp at h ⊢
  simp [World.setCell, Array.getElem?_modify, h]
theorem Bp.setX {w : World} {g : Nat} {f : Fr} {W D J S : Int} {v : Value} (h : Bp w g f W D J S v) (z : Int) : Bp (w.setCell ⟨g, 4, none⟩ (.int .u64 z)) g { f with x := z } W D J S v := by
  unfold Bp at h ⊢
  simp [World.setCell, Array.getElem?_modify, h]
theorem Bp.setY {w : World} {g : Nat} {f : Fr} {W D J S : Int} {v : Value} (h : Bp w g f W D J S v) (z : Int) : Bp (w.setCell ⟨g, 5, none⟩ (.int .u64 z)) g { f with y := z } W D J S v := by
  unfold Bp at h ⊢
  simp [World.setCell, Array.getElem?_modify, h]
theorem Bp.setM {w : World} {g : Nat} {f : Fr} {W D J S : Int} {v : Value} (h : Bp w g f W D J S v) (z : Value) : Bp (w.setCell ⟨g, 11, none⟩ z) g f W D J S z := by
  unfold Bp at h ⊢
  simp [World.setCell, Array.getElem?_modify, h]
theorem Bp.pf {w : World} {g : Nat} {f : Fr} {W D J S : Int} {v : Value} (h : Bp w g f W D J S v) (f' : Fr) : Bp (pf w g f') g f' W D J S v := by
  unfold Bp at h ⊢
  unfold YtlpkccpijloidaaGreat.pf
  simp [World.setCell, Array.getElem?_modify, h]
/-- The slice at A reads as the numbers l, in a block from number lo on that is not g. -/
def Rx (lo g : Nat) (w : World) (A : Option Addr) (l : List Int) : Prop :=
  0 < l.length → ∃ ad, A = some ad ∧ lo ≤ ad.block ∧ ad.block ≠ g ∧ ad.block < w.heap.size ∧ ∀ j u, l[j]? = some u → w.cell? (ad.add j) = some (.int .u64 u)
theorem Rx.rn {lo g : Nat} {w : World} {A : Option Addr} {l : List Int} (h : Rx lo g w A l) : Rn lo w A l := fun hp => by
  obtain ⟨ad, e, hlo, _, hlt, hc⟩ := h hp
  exact ⟨ad, e, hlo, hlt, hc⟩
theorem Rx.rd {lo g : Nat} {w : World} {A : Option Addr} {l : List Int} (h : Rx lo g w A l) : Rd w A l := h.rn.rd
theorem Rx.after {lo g : Nat} {w w' : World} {A : Option Addr} {l : List Int} (h : Rx lo g w A l) (hb : Below w.heap.size w w') : Rx lo g w' A l := fun hp => by
  obtain ⟨ad, e, hl, hne, hlt, hc⟩ := h hp
  exact ⟨ad, e, hl, hne, Nat.lt_of_lt_of_le hlt hb.size, fun j u hu => (hb.cell (p := ad.add j) (by rw [block_add]; exact hlt)).trans (hc j u hu)⟩
theorem Rx.drew {lo g : Nat} {w : World} {A : Option Addr} {l : List Int} (h : Rx lo g w A l) : Rx lo g w.drew A l := h
theorem Rx.set {lo g : Nat} {w : World} {A : Option Addr} {l : List Int} (h : Rx lo g w A l) {p : Addr} (hp : p.block = g) (v : Value) : Rx lo g (w.setCell p v) A l := fun hq => by
  obtain ⟨ad, e, hl, hne, hlt, hc⟩ := h hq
  refine ⟨ad, e, hl, hne, by simpa using hlt, fun j u hu => ?_⟩
  refine Eq.trans ?_ (hc j u hu)
  have hne : (ad.add j).block ≠ p.block := by rw [block_add, hp]; exact hne
  exact World.cell?_of_block (Below.heap_setCell w p v _ hne)
theorem Rx.pf {lo g : Nat} {w : World} {A : Option Addr} {l : List Int} (h : Rx lo g w A l) (f : Fr) : Rx lo g (pf w g f) A l :=
  ((((((h.set rfl _).set rfl _).set rfl _).set rfl _).set rfl _).set rfl _).set rfl _
theorem Rn.rx {lo lo' g : Nat} {w : World} {A : Option Addr} {l : List Int} (h : Rn lo' w A l) (hl : lo ≤ lo') (hg : g < lo' ∨ w.heap.size ≤ g) : Rx lo g w A l := fun hp => by
  obtain ⟨ad, e, hlo, hlt, hc⟩ := h hp
  exact ⟨ad, e, by omega, by omega, hlt, hc⟩
theorem Bk.rx {lo g k : Nat} {w : World} {l : List Int} (h : Bk w k l) (hk : k ≠ g) (hl : lo ≤ k) : Rx lo g w (some ⟨k, 0, none⟩) l := fun _ =>
  ⟨_, rfl, hl, hk, h.lt, fun j u hu => by rw [add_zero']; exact h.cell j u hu⟩
theorem Bk.ne_box {g k : Nat} {w : World} {l : List Int} {f : Fr} {W D J S : Int} {v : Value} (h : Bk w k l) (hb : Bp w g f W D J S v) : k ≠ g := by
  rintro rfl
  unfold Bk at h
  unfold Bp at hb
  rw [h] at hb
  injection hb with hb
  injection hb with _ hb _
  cases hb
/-- What a step leaves: the box with the call, and cells; nothing below it has changed. -/
def Lv (lo : Nat) (w : World) (g : Nat) (f : Fr) (W D J S : Int) (l : List Int) (e : Ending) (w' : World) : Prop :=
  ∃ A c, e = .returned (.tuple #[]) ∧ Bp w' g f W D J S (.slice A l.length c) ∧ Rx lo g w' A l ∧ Below g w w'
/-- What is held while block g's cell k alone is stored into. -/
structure Kx (g k : Nat) (w w' : World) : Prop where
  size : w.heap.size ≤ w'.heap.size
  others : ∀ b, b < w.heap.size → b ≠ g → w'.heap[b]? = w.heap[b]?
  cells : ∀ i, i ≠ k → w'.cell? ⟨g, i, none⟩ = w.cell? ⟨g, i, none⟩
theorem Kx.refl (g k : Nat) (w : World) : Kx g k w w := ⟨Nat.le_refl _, fun _ _ _ => rfl, fun _ _ => rfl⟩
theorem Kx.drew {g k : Nat} {w w' : World} (h : Kx g k w w') : Kx g k w w'.drew := ⟨h.size, h.others, h.cells⟩
theorem Kx.call {g k : Nat} {w w1 w2 : World} (h : Kx g k w w1) (hg : g < w.heap.size) (hb : Below w1.heap.size w1 w2) : Kx g k w w2 :=
  ⟨Nat.le_trans h.size hb.size, fun b hb1 hb2 => (hb.block b (Nat.lt_of_lt_of_le hb1 h.size)).trans (h.others b hb1 hb2), fun i hi => (hb.cell (p := ⟨g, i, none⟩) (Nat.lt_of_lt_of_le hg h.size)).trans (h.cells i hi)⟩
theorem Kx.set {g k : Nat} {w w1 : World} (h : Kx g k w w1) (v : Value) : Kx g k w (w1.setCell ⟨g, k, none⟩ v) :=
  ⟨by simpa using h.size, fun b hb1 hb2 => (Below.heap_setCell w1 ⟨g, k, none⟩ v b hb2).trans (h.others b hb1 hb2), fun i hi => (World.cell?_setCell_other w1 ⟨g, k, none⟩ ⟨g, i, none⟩ v (fun e => hi (by injection e with _ e; exact e.symm))).trans (h.cells i hi)⟩
theorem kx_drew {S : World → Prop} {g k : Nat} {w x : World} (K : ∀ x, Kx g k w x → S x) (G : ∀ x, S x → Kx g k w x) (h : S x) : S x.drew := K _ (G _ h).drew
theorem kx_call {S : World → Prop} {g k : Nat} {w x x' : World} (K : ∀ x, Kx g k w x → S x) (G : ∀ x, S x → Kx g k w x) (hg : g < w.heap.size) (hc : Below x.heap.size x x') (h : S x) : S x' := K _ ((G _ h).call hg hc)
theorem kx_set {S : World → Prop} {g k : Nat} {w x : World} (K : ∀ x, Kx g k w x → S x) (G : ∀ x, S x → Kx g k w x) (v : Value) (h : S x) : S (x.setCell ⟨g, k, none⟩ v) := K _ ((G _ h).set v)
end Go.Proofs.YtlpkccpijloidaaGreat
namespace Go.Proofs.YtlpkccpijloidaaGreat
set_option maxRecDepth 100000
open Go.RowKit Go.Deep
set_option maxHeartbeats 2000000 in
theorem pend_any (lo g : Nat) (f : Fr) (W D J S r : Int) (A : Option Addr) (c : Nat) (l : List Int) (w : World) (hB : Bp w g f W D J S (.slice A l.length c)) (hA : Rx lo g w A l) :
    Calls Tryz.prog 164 #[.pointer (some ⟨g, 0, none⟩), .int .i64 r] w (Lv lo w g (ed f r f.val) W D J S l) := by
  have HB := Lib.hid hB
  have HA := Lib.hid hA
  clear hB hA
  obtain ⟨o, p, q, v, x, y, s⟩ := f
  have e := HB.out
  obtain ⟨a0, a1, a2, a3, a4, a5, a6, a7, a8, a9, a10, a11⟩ := e.cells
  have fz := e.free
  have hg := e.lt
  clear e
  go_enter Tryz.func164, Tryz.ntmps164
  go_region_with (go_at_call 133; (refine (end_any ⟨o, p, q, v, x, y, s⟩ _ _ _).mono ?_); rintro _ w2 ⟨rfl, hb⟩; have Hb := Lib.hid hb; have e := HB.out.drew.after hb; obtain ⟨a0, a1, a2, a3, a4, a5, a6, a7, a8, a9, a10, a11⟩ := e.cells; have fz := e.free; clear hb e)
  all_goals
    change bodyPost _ _ _ _ _ (pf w2 g (ed ⟨o, p, q, v, x, y, s⟩ r v))
    refine bodyPost_ret (by simp [results, Tryz.results164, go_sem]; try rfl) rfl ?_
    exact ⟨A, c, rfl, (HB.out.drew.after Hb.out).pf _, (HA.out.drew.after Hb.out).pf _, below_pf ((Below.refl g w).drew.trans (Hb.out.mono (Nat.le_of_lt hg))) (Nat.le_refl _) _⟩
set_option maxHeartbeats 2000000 in
theorem loadBottom_any (lo g : Nat) (f : Fr) (W D J S : Int) (A : Option Addr) (c : Nat) (l : List Int) (w : World) (hB : Bp w g f W D J S (.slice A l.length c)) (hA : Rx lo g w A l) (hs : l.length ≤ 500) :
    Calls Tryz.prog 123 #[.pointer (some ⟨g, 0, none⟩)] w (Lv lo w g { f with x := at0 l (ow W D J S f.who 1), pc := 1 } W D J S l) := by
  have HB := Lib.hid hB
  have HA := Lib.hid hA
  have HS := Lib.hid hs
  clear hB hA hs
  obtain ⟨o, p, q, v, x, y, s⟩ := f
  have e := HB.out
  obtain ⟨a0, a1, a2, a3, a4, a5, a6, a7, a8, a9, a10, a11⟩ := e.cells
  have fz := e.free
  have hg := e.lt
  have zr := Below.refl w.heap.size w
  have HK := Lib.hid (show ∀ x', Kx g 4 w x' → (fun w' => w'.cell? ⟨g, 2, none⟩ = some (.int .i64 q) ∧ w'.cell? ⟨g, 7, none⟩ = some (.int .i64 W) ∧ w'.cell? ⟨g, 8, none⟩ = some (.int .i64 D) ∧ w'.cell? ⟨g, 9, none⟩ = some (.int .i64 J) ∧ w'.cell? ⟨g, 10, none⟩ = some (.int .i64 S) ∧ w'.cell? ⟨g, 11, none⟩ = some (.slice A l.length c) ∧ Kx g 4 w w') x' from fun x' hx =>
    ⟨(hx.cells 2 (by decide)).trans a2, (hx.cells 7 (by decide)).trans a7, (hx.cells 8 (by decide)).trans a8, (hx.cells 9 (by decide)).trans a9, (hx.cells 10 (by decide)).trans a10, (hx.cells 11 (by decide)).trans a11, hx⟩)
  have hHeld0 := HK.out _ (Kx.refl g 4 w)
  clear e
  go_enter Tryz.func123, Tryz.ntmps123
  go_wp2_with fail
  go_region_held3 (fun w' => w'.cell? ⟨g, 2, none⟩ = some (.int .i64 q) ∧ w'.cell? ⟨g, 7, none⟩ = some (.int .i64 W) ∧ w'.cell? ⟨g, 8, none⟩ = some (.int .i64 D) ∧ w'.cell? ⟨g, 9, none⟩ = some (.int .i64 J) ∧ w'.cell? ⟨g, 10, none⟩ = some (.int .i64 S) ∧ w'.cell? ⟨g, 11, none⟩ = some (.slice A l.length c) ∧ Kx g 4 w w')
    (first | with_reducible exact kx_drew HK.out (fun _ h => h.2.2.2.2.2.2) (by assumption) | with_reducible exact kx_call HK.out (fun _ h => h.2.2.2.2.2.2) hg (by assumption) (by assumption) | with_reducible exact kx_set HK.out (fun _ h => h.2.2.2.2.2.2) _ (by assumption))
    (first
    | (go_at_call 82; (refine (bottom_any W D J S q _).mono ?_); rintro _ w1 ⟨rfl, hb⟩; have z1 := keep_call (w2 := w) hb zr.drew; have Z1 := Lib.hid z1; have e := HB.out.after z1; obtain ⟨b0, b1, b2, b3, b4, b5, b6, b7, b8, b9, b10, b11⟩ := e.cells; have fz := e.free; clear e)
    | (go_at_call 13; (refine (load_any A l.length c l _ _ (HA.out.after Z1.out).rd rfl HS.out).mono ?_); rintro _ w2 ⟨rfl, hb2⟩; have z2 := keep_call (w2 := w) hb2 Z1.out; have Z2 := Lib.hid z2; have e := HB.out.after z2; obtain ⟨b0, b1, b2, b3, b4, b5, b6, b7, b8, b9, b10, b11⟩ := e.cells; have fz := e.free; clear e))
  all_goals
    go_wp2
    refine bodyPost_ret (by simp [results, Tryz.results123, go_sem]; try rfl) rfl ?_
    exact ⟨A, c, rfl, ((HB.out.after Z2.out).setX _).setPc _, ((HA.out.after Z2.out).set rfl _).set rfl _, ((Z2.out.mono (Nat.le_of_lt hg)).setCell (Nat.le_refl _) _).setCell (Nat.le_refl _) _⟩
end Go.Proofs.YtlpkccpijloidaaGreat
namespace Go.Proofs.YtlpkccpijloidaaGreat
set_option maxRecDepth 100000
open Go.RowKit Go.Deep
set_option maxHeartbeats 2000000 in
theorem loadTop_any (lo g : Nat) (f : Fr) (W D J S Y : Int) (b : Bool) (A : Option Addr) (c : Nat) (l : List Int) (w : World) (hB : Bp w g f W D J S (.slice A l.length c)) (hA : Rx lo g w A l) (hs : l.length ≤ 500)
    (hD : 1 ≤ D ∧ D ≤ 16) (hY : at0 l (ow W D J S f.who 0) = Y) (hb : decide ((f.x - Y) % 18446744073709551616 ≥ D) = b) (F : Fr) (hF : F = if b then ed f 2 f.val else { f with y := Y, pc := 2 }) :
    Calls Tryz.prog 124 #[.pointer (some ⟨g, 0, none⟩)] w (Lv lo w g F W D J S l) := by
  have HB := Lib.hid hB
  have HA := Lib.hid hA
  have HS := Lib.hid hs
  clear hB hA hs
  obtain ⟨o, p, q, v, x, y, s⟩ := f
  simp only at hY hb
  have HY := Lib.hid hY
  have e := HB.out
  obtain ⟨a0, a1, a2, a3, a4, a5, a6, a7, a8, a9, a10, a11⟩ := e.cells
  have fz := e.free
  have hg := e.lt
  have zr := Below.refl w.heap.size w
  have HK := Lib.hid (show ∀ x', Kx g 5 w x' → (fun w' => w'.cell? ⟨g, 2, none⟩ = some (.int .i64 q) ∧ w'.cell? ⟨g, 7, none⟩ = some (.int .i64 W) ∧ w'.cell? ⟨g, 8, none⟩ = some (.int .i64 D) ∧ w'.cell? ⟨g, 9, none⟩ = some (.int .i64 J) ∧ w'.cell? ⟨g, 10, none⟩ = some (.int .i64 S) ∧ w'.cell? ⟨g, 11, none⟩ = some (.slice A l.length c) ∧ Kx g 5 w w') x' from fun x' hx =>
    ⟨(hx.cells 2 (by decide)).trans a2, (hx.cells 7 (by decide)).trans a7, (hx.cells 8 (by decide)).trans a8, (hx.cells 9 (by decide)).trans a9, (hx.cells 10 (by decide)).trans a10, (hx.cells 11 (by decide)).trans a11, hx⟩)
  have hHeld0 := HK.out _ (Kx.refl g 5 w)
  have hT : IntKind.u64.wrap (x - Y) = (x - Y) % 18446744073709551616 := IntKind.wrap_u64 _
  have HD1 := Lib.hid hD
  have HBB := Lib.hid hb
  have HF := Lib.hid hF
  clear e hY hb hD hF
  generalize (x - Y) % 18446744073709551616 = T at hT HBB
  go_enter Tryz.func124, Tryz.ntmps124
  go_wp2_with fail
  go_region_held3 (fun w' => w'.cell? ⟨g, 2, none⟩ = some (.int .i64 q) ∧ w'.cell? ⟨g, 7, none⟩ = some (.int .i64 W) ∧ w'.cell? ⟨g, 8, none⟩ = some (.int .i64 D) ∧ w'.cell? ⟨g, 9, none⟩ = some (.int .i64 J) ∧ w'.cell? ⟨g, 10, none⟩ = some (.int .i64 S) ∧ w'.cell? ⟨g, 11, none⟩ = some (.slice A l.length c) ∧ Kx g 5 w w')
    (first | with_reducible exact kx_drew HK.out (fun _ h => h.2.2.2.2.2.2) (by assumption) | with_reducible exact kx_call HK.out (fun _ h => h.2.2.2.2.2.2) hg (by assumption) (by assumption) | with_reducible exact kx_set HK.out (fun _ h => h.2.2.2.2.2.2) _ (by assumption))
    (first
    | (go_at_call 81; (refine (top_any W D J S q _).mono ?_); rintro _ w1 ⟨rfl, hb⟩; have z1 := keep_call (w2 := w) hb zr.drew; have Z1 := Lib.hid z1; have e := HB.out.after z1; obtain ⟨b0, b1, b2, b3, b4, b5, b6, b7, b8, b9, b10, b11⟩ := e.cells; have fz := e.free; clear e)
    | (go_at_call 13; (refine (ret_of (load_any A l.length c l _ _ (HA.out.after Z1.out).rd rfl HS.out) (v' := .int .u64 Y) (by rw [HY.out])).mono ?_); rintro _ w2 ⟨rfl, hb2⟩; have z2 := keep_call (w2 := w) hb2 Z1.out; have Z2 := Lib.hid z2; have e := HB.out.after z2; obtain ⟨b0, b1, b2, b3, b4, b5, b6, b7, b8, b9, b10, b11⟩ := e.cells; have fz := e.free; clear e))
  all_goals
    go_wp2_with fail
    have e : Bp ((w2.setCell ⟨g, 5, none⟩ (.int .u64 Y)).setCell ⟨g, 1, none⟩ (.int .i64 2)) g ⟨o, 2, q, v, x, Y, s⟩ W D J S (.slice A l.length c) := ((HB.out.after Z2.out).setY _).setPc _
    have eA : Rx lo g ((w2.setCell ⟨g, 5, none⟩ (.int .u64 Y)).setCell ⟨g, 1, none⟩ (.int .i64 2)) A l := ((HA.out.after Z2.out).set rfl _).set rfl _
    have eb : Below g w ((w2.setCell ⟨g, 5, none⟩ (.int .u64 Y)).setCell ⟨g, 1, none⟩ (.int .i64 2)) := ((Z2.out.mono (Nat.le_of_lt hg)).setCell (Nat.le_refl _) _).setCell (Nat.le_refl _) _
    generalize (w2.setCell ⟨g, 5, none⟩ (.int .u64 Y)).setCell ⟨g, 1, none⟩ (.int .i64 2) = w4 at e eA eb ⊢
    clear Z2 Z1 HK HB HA HS HY
    obtain ⟨c0, c1, c2, c3, c4, c5, c6, c7, c8, c9, c10, c11⟩ := e.cells
    have E := Lib.hid e
    have EA := Lib.hid eA
    have EB := Lib.hid eb
    have hT2 := hT
    have hDw : IntKind.u64.wrap D = D := by have := HD1.out; rw [IntKind.wrap_u64]; omega
    have hge : decide (T ≥ D) = b := HBB.out
    clear e eA eb
    cases b
    · obtain rfl : F = ⟨o, 2, q, v, x, Y, s⟩ := HF.out
      go_quiet (fail)
      go_wp2
      refine bodyPost_ret (by simp [results, Tryz.results124, go_sem]; try rfl) rfl ?_
      exact ⟨A, c, rfl, E.out.after (below_drewN _ _), EA.out.after (below_drewN _ _), EB.out.trans ((below_drewN _ _).mono (Nat.le_of_lt E.out.lt))⟩
    · obtain rfl : F = ed ⟨o, 2, q, v, x, Y, s⟩ 2 v := HF.out
      go_quiet (fail)
      go_wp2_with fail
      refine (pend_any lo g ⟨o, 2, q, v, x, Y, s⟩ W D J S 2 A c l _ (E.out.after (below_drewN _ _)) (EA.out.after (below_drewN _ _))).mono ?_
      rintro _ w5 ⟨A', c', rfl, hb, ha, hbe⟩
      go_wp2
      refine bodyPost_ret (by simp [results, Tryz.results124, go_sem]; try rfl) rfl ?_
      exact ⟨A', c', rfl, hb, ha, (EB.out.trans ((below_drewN _ _).mono (Nat.le_of_lt E.out.lt))).trans hbe⟩
end Go.Proofs.YtlpkccpijloidaaGreat
