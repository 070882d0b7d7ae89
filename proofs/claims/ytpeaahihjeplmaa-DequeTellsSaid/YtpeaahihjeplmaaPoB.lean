/- The world of a pop's next: a box for the layout, one for the cells, one for the call, and one for the call that goes out. -/
import Derived.Test.YtpeaahihjeplmaaNxA
import Derived.Test.YtpeaahihjeplmaaPoA
namespace Go.Proofs.Ytpeaahihjeplmaa
open Go.RowKit Go.Deep
/-- The slice at A reads as the numbers l, in a block from number lo on that is none of p to p + 3. -/
def Ry (lo p : Nat) (w : World) (A : Option Addr) (l : List Int) : Prop :=
  0 < l.length → ∃ ad, A = some ad ∧ lo ≤ ad.block ∧ (ad.block < p ∨ p + 4 ≤ ad.block) ∧ ad.block < w.heap.size ∧ ∀ j u, l[j]? = some u → w.cell? (ad.add j) = some (.int .u64 u)
set_option maxRecDepth 100000 in
theorem Ry.rn {lo p : Nat} {w : World} {A : Option Addr} {l : List Int} (h : Ry lo p w A l) : Rn lo w A l := fun hp => by
  obtain ⟨ad, e, hlo, _, hlt, hc⟩ := h hp
  exact ⟨ad, e, hlo, hlt, hc⟩
set_option maxRecDepth 100000 in
theorem Ry.rd {lo p : Nat} {w : World} {A : Option Addr} {l : List Int} (h : Ry lo p w A l) : Rd w A l := h.rn.rd
set_option maxRecDepth 100000 in
theorem Ry.after {lo p : Nat} {w w' : World} {A : Option Addr} {l : List Int} (h : Ry lo p w A l) (hb : Below w.heap.size w w') : Ry lo p w' A l := fun hp => by
  obtain ⟨ad, e, hl, hne, hlt, hc⟩ := h hp
  exact ⟨ad, e, hl, hne, Nat.lt_of_lt_of_le hlt hb.size, fun j u hu => (hb.cell (p := ad.add j) (by rw [block_add]; exact hlt)).trans (hc j u hu)⟩
set_option maxRecDepth 100000 in
theorem Ry.set {lo p : Nat} {w : World} {A : Option Addr} {l : List Int} (h : Ry lo p w A l) {k i : Nat} (hk : p ≤ k ∧ k < p + 4) (v : Value) : Ry lo p (w.setCell ⟨k, i, none⟩ v) A l := fun hq => by
  obtain ⟨ad, e, hl, hne, hlt, hc⟩ := h hq
  refine ⟨ad, e, hl, hne, by simpa using hlt, fun j u hu => ?_⟩
  refine Eq.trans ?_ (hc j u hu)
  have hne : (ad.add j).block ≠ k := by rw [block_add]; omega
  exact World.cell?_of_block (Below.heap_setCell w ⟨k, i, none⟩ v _ hne)
set_option maxRecDepth 100000 in
theorem Ry.pf {lo p : Nat} {w : World} {A : Option Addr} {l : List Int} (h : Ry lo p w A l) {k : Nat} (hk : p ≤ k ∧ k < p + 4) (f : Fr) : Ry lo p (pf w k f) A l :=
  ((((((h.set hk _).set hk _).set hk _).set hk _).set hk _).set hk _).set hk _
set_option maxRecDepth 100000 in
theorem Bk.ry {lo p k : Nat} {w : World} {l : List Int} (h : Bk w k l) (hk : p + 4 ≤ k) (hl : lo ≤ k) : Ry lo p w (some ⟨k, 0, none⟩) l := fun _ =>
  ⟨_, rfl, hl, .inr hk, h.lt, fun j u hu => by rw [add_zero']; exact h.cell j u hu⟩
set_option maxRecDepth 100000 in
theorem Rn.ry {lo : Nat} {w : World} {A : Option Addr} {l : List Int} (h : Rn lo w A l) {w' : World} (hb : Below w.heap.size w w') : Ry lo w.heap.size w' A l := fun hp => by
  obtain ⟨ad, e, hlo, hlt, hc⟩ := h hp
  exact ⟨ad, e, hlo, .inl hlt, Nat.lt_of_lt_of_le hlt hb.size, fun j u hu => (hb.cell (p := ad.add j) (by rw [block_add]; exact hlt)).trans (hc j u hu)⟩
/-- What a pop's next has at hand. -/
structure Nx (w : World) (lo : Nat) (W D J S : Int) (A : Option Addr) (n c : Nat) (l : List Int) (f : Fr) (w1 : World) : Prop where
  bx : Bx w1 w.heap.size W D J S
  bm : Bm w1 (w.heap.size + 1) (.slice A n c)
  bf : Bf w1 (w.heap.size + 1 + 1) f
  br : Bf w1 (w.heap.size + 1 + 1 + 1) f0
  ry : Ry lo w.heap.size w1 A l
  be : Below w.heap.size w w1
  nl : l.length = n
section
variable {w : World} {lo : Nat} {W D J S : Int} {A : Option Addr} {n c : Nat} {l : List Int} {f : Fr} {w1 : World}
set_option maxRecDepth 100000 in
theorem Nx.call (h : Nx w lo W D J S A n c l f w1) {w2 : World} (z : Below w1.heap.size w1 w2) : Nx w lo W D J S A n c l f w2 :=
  ⟨h.bx.below z, h.bm.after z, h.bf.after z, h.br.after z, h.ry.after z, keep_call z h.be, h.nl⟩
set_option maxRecDepth 100000 in
theorem Nx.drew (h : Nx w lo W D J S A n c l f w1) : Nx w lo W D J S A n c l f w1.drew := h.call (Below.refl _ _).drew
set_option maxRecDepth 100000 in
theorem Nx.setPc (h : Nx w lo W D J S A n c l f w1) (z : Int) : Nx w lo W D J S A n c l { f with pc := z } (w1.setCell ⟨w.heap.size + 1 + 1, 1, none⟩ (.int .i64 z)) :=
  ⟨h.bx.oth (by omega) _, h.bm.other (by omega) _, h.bf.wPc z, h.br.oth (by omega) _, h.ry.set (by omega) _, h.be.setCell (by simp only; omega) _, h.nl⟩
set_option maxRecDepth 100000 in
theorem Nx.setVal (h : Nx w lo W D J S A n c l f w1) (z : Int) : Nx w lo W D J S A n c l { f with val := z } (w1.setCell ⟨w.heap.size + 1 + 1, 3, none⟩ (.int .u64 z)) :=
  ⟨h.bx.oth (by omega) _, h.bm.other (by omega) _, h.bf.wVal z, h.br.oth (by omega) _, h.ry.set (by omega) _, h.be.setCell (by simp only; omega) _, h.nl⟩
set_option maxRecDepth 100000 in
theorem Nx.setX (h : Nx w lo W D J S A n c l f w1) (z : Int) : Nx w lo W D J S A n c l { f with x := z } (w1.setCell ⟨w.heap.size + 1 + 1, 4, none⟩ (.int .u64 z)) :=
  ⟨h.bx.oth (by omega) _, h.bm.other (by omega) _, h.bf.wX z, h.br.oth (by omega) _, h.ry.set (by omega) _, h.be.setCell (by simp only; omega) _, h.nl⟩
set_option maxRecDepth 100000 in
theorem Nx.setY (h : Nx w lo W D J S A n c l f w1) (z : Int) : Nx w lo W D J S A n c l { f with y := z } (w1.setCell ⟨w.heap.size + 1 + 1, 5, none⟩ (.int .u64 z)) :=
  ⟨h.bx.oth (by omega) _, h.bm.other (by omega) _, h.bf.wY z, h.br.oth (by omega) _, h.ry.set (by omega) _, h.be.setCell (by simp only; omega) _, h.nl⟩
set_option maxRecDepth 100000 in
/-- Behind a closure that stores. -/
theorem Nx.stored (h : Nx w lo W D J S A n c l f w1) {w2 : World} {k : Nat} {l' : List Int} (hk : w1.heap.size ≤ k) (hB : Bk w2 k l') (hM : Bm w2 (w.heap.size + 1) (.slice (some ⟨k, 0, none⟩) n n)) (hK : Kb (w.heap.size + 1) w1 w2) (hl : l'.length = l.length) (hlo : lo ≤ w.heap.size) : Nx w lo W D J S (some ⟨k, 0, none⟩) n n l' f w2 := by
  have h4 := h.br.lt
  exact ⟨h.bx.kb hK (by omega), hM, h.bf.kb hK (by omega), h.br.kb hK (by omega), hB.ry (by omega) (by omega), h.be.trans (hK.low.mono (by omega)), hl.trans h.nl⟩
set_option maxRecDepth 100000 in
theorem Nx.facts (h : Nx w lo W D J S A n c l f w1) : w.heap.size < w1.heap.size ∧ w.heap.size + 1 < w1.heap.size ∧ w.heap.size + 1 + 1 < w1.heap.size ∧ w.heap.size + 1 + 1 + 1 < w1.heap.size := by
  have := h.br.lt
  omega
set_option maxRecDepth 100000 in
theorem Nx.back (h : Nx w lo W D J S A n c l f w1) (f' : Fr) : Bf (pf w1 (w.heap.size + 1 + 1 + 1) f').drew (w.heap.size + 1 + 1 + 1) f' ∧ RetQ lo w n l f' (.returned (.tuple #[.slice A n c, fv f'])) (pf w1 (w.heap.size + 1 + 1 + 1) f').drew :=
  ⟨(h.br.pf f').drew, A, c, rfl, ((h.ry.pf (by omega) f').rn).drew, (below_pf h.be (by omega) f').drew⟩
set_option maxRecDepth 100000 in
theorem Nx.back2 (h : Nx w lo W D J S A n c l f w1) (f' : Fr) : Bf (pf w1 (w.heap.size + 1 + 1 + 1) f') (w.heap.size + 1 + 1 + 1) f' ∧ RetQ lo w n l f' (.returned (.tuple #[.slice A n c, fv f'])) (pf w1 (w.heap.size + 1 + 1 + 1) f') :=
  ⟨h.br.pf f', A, c, rfl, (h.ry.pf (by omega) f').rn, below_pf h.be (by omega) f'⟩
end
/-- The four boxes. -/
def bx4 (w : World) (W D J S : Int) (v : Value) (f : Fr) : World := (((w.alloc (.cells #[.int .i64 W, .int .i64 D, .int .i64 J, .int .i64 S] 23)).alloc (.cells #[v] 25)).alloc (.cells #[.int .i64 f.op, .int .i64 f.pc, .int .i64 f.who, .int .u64 f.val, .int .u64 f.x, .int .u64 f.y, .int .i64 f.res] 28)).alloc (.cells #[.int .i64 0, .int .i64 0, .int .i64 0, .int .u64 0, .int .u64 0, .int .u64 0, .int .i64 0] 28)
set_option maxRecDepth 100000 in
theorem boxes4 {w : World} {lo : Nat} {W D J S : Int} {A : Option Addr} {n c : Nat} {l : List Int} (f : Fr) (h : Rn lo w A l) (hn : l.length = n) : Nx w lo W D J S A n c l f (bx4 w W D J S (.slice A n c) f) := by
  have hb : Below w.heap.size w (bx4 w W D J S (.slice A n c) f) := by
    unfold bx4
    exact ((((Below.refl _ _).alloc (Nat.le_refl _) _).alloc (by simp) _).alloc (by simp; omega) _).alloc (by simp; omega) _
  refine ⟨?_, ?_, ?_, ?_, h.ry hb, hb, hn⟩
  · exact (((Bx.mk w W D J S 23).alloc _).alloc _).alloc _
  · have e : Bm ((w.alloc (.cells #[.int .i64 W, .int .i64 D, .int .i64 J, .int .i64 S] 23)).alloc (.cells #[.slice A n c] 25)) (w.heap.size + 1) (.slice A n c) := by
      have := heap_alloc_new (w.alloc (.cells #[.int .i64 W, .int .i64 D, .int .i64 J, .int .i64 S] 23)) (.cells #[.slice A n c] 25)
      simpa [Bm, Bv] using this
    exact (e.after (box_below _ _)).after (box_below _ _)
  · have e : Bf (((w.alloc (.cells #[.int .i64 W, .int .i64 D, .int .i64 J, .int .i64 S] 23)).alloc (.cells #[.slice A n c] 25)).alloc (.cells #[.int .i64 f.op, .int .i64 f.pc, .int .i64 f.who, .int .u64 f.val, .int .u64 f.x, .int .u64 f.y, .int .i64 f.res] 28)) (w.heap.size + 1 + 1) f := by
      have := Bf.new ((w.alloc (.cells #[.int .i64 W, .int .i64 D, .int .i64 J, .int .i64 S] 23)).alloc (.cells #[.slice A n c] 25)) f
      simpa using this
    exact e.after (box_below _ _)
  · have := heap_alloc_new (((w.alloc (.cells #[.int .i64 W, .int .i64 D, .int .i64 J, .int .i64 S] 23)).alloc (.cells #[.slice A n c] 25)).alloc (.cells #[.int .i64 f.op, .int .i64 f.pc, .int .i64 f.who, .int .u64 f.val, .int .u64 f.x, .int .u64 f.y, .int .i64 f.res] 28)) (.cells #[.int .i64 0, .int .i64 0, .int .i64 0, .int .u64 0, .int .u64 0, .int .u64 0, .int .i64 0] 28)
    simpa [bx4, Bf, f0] using this
end Go.Proofs.Ytpeaahihjeplmaa
