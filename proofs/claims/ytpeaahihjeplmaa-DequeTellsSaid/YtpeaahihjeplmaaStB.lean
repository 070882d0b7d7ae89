/- The world of a steal's next: a box for the layout, one for the cells, one for the call, one for the call that goes out, three for functions, and one for the deeds. -/
import Derived.Test.YtpeaahihjeplmaaStA
namespace Go.Proofs.Ytpeaahihjeplmaa
open Go.RowKit Go.Deep
/-- The slice at A reads as the numbers l, in a block from number lo on that is none of p to p + 7. -/
def Rz (lo p : Nat) (w : World) (A : Option Addr) (l : List Int) : Prop :=
  0 < l.length → ∃ ad, A = some ad ∧ lo ≤ ad.block ∧ (ad.block < p ∨ p + 8 ≤ ad.block) ∧ ad.block < w.heap.size ∧ ∀ j u, l[j]? = some u → w.cell? (ad.add j) = some (.int .u64 u)
set_option maxRecDepth 100000 in
theorem Rz.rn {lo p : Nat} {w : World} {A : Option Addr} {l : List Int} (h : Rz lo p w A l) : Rn lo w A l := fun hp => by
  obtain ⟨ad, e, hlo, _, hlt, hc⟩ := h hp
  exact ⟨ad, e, hlo, hlt, hc⟩
set_option maxRecDepth 100000 in
theorem Rz.rd {lo p : Nat} {w : World} {A : Option Addr} {l : List Int} (h : Rz lo p w A l) : Rd w A l := h.rn.rd
set_option maxRecDepth 100000 in
theorem Rz.after {lo p : Nat} {w w' : World} {A : Option Addr} {l : List Int} (h : Rz lo p w A l) (hb : Below w.heap.size w w') : Rz lo p w' A l := fun hp => by
  obtain ⟨ad, e, hl, hne, hlt, hc⟩ := h hp
  exact ⟨ad, e, hl, hne, Nat.lt_of_lt_of_le hlt hb.size, fun j u hu => (hb.cell (p := ad.add j) (by rw [block_add]; exact hlt)).trans (hc j u hu)⟩
set_option maxRecDepth 100000 in
theorem Rz.set {lo p : Nat} {w : World} {A : Option Addr} {l : List Int} (h : Rz lo p w A l) {k i : Nat} (hk : p ≤ k ∧ k < p + 8) (v : Value) : Rz lo p (w.setCell ⟨k, i, none⟩ v) A l := fun hq => by
  obtain ⟨ad, e, hl, hne, hlt, hc⟩ := h hq
  refine ⟨ad, e, hl, hne, by simpa using hlt, fun j u hu => ?_⟩
  refine Eq.trans ?_ (hc j u hu)
  have hne : (ad.add j).block ≠ k := by rw [block_add]; omega
  exact World.cell?_of_block (Below.heap_setCell w ⟨k, i, none⟩ v _ hne)
set_option maxRecDepth 100000 in
theorem Rz.kb {lo p k : Nat} {w w' : World} {A : Option Addr} {l : List Int} (h : Rz lo p w A l) (hK : Kb k w w') (hk : p ≤ k ∧ k < p + 8) : Rz lo p w' A l := fun hq => by
  obtain ⟨ad, e, hl, hne, hlt, hc⟩ := h hq
  exact ⟨ad, e, hl, hne, Nat.lt_of_lt_of_le hlt hK.size, fun j u hu => (World.cell?_of_block (by rw [block_add]; exact hK.others _ hlt (by omega))).trans (hc j u hu)⟩
set_option maxRecDepth 100000 in
theorem Rz.pf {lo p : Nat} {w : World} {A : Option Addr} {l : List Int} (h : Rz lo p w A l) {k : Nat} (hk : p ≤ k ∧ k < p + 8) (f : Fr) : Rz lo p (pf w k f) A l :=
  ((((((h.set hk _).set hk _).set hk _).set hk _).set hk _).set hk _).set hk _
set_option maxRecDepth 100000 in
theorem Bk.rz {lo p k : Nat} {w : World} {l : List Int} (h : Bk w k l) (hk : p + 8 ≤ k) (hl : lo ≤ k) : Rz lo p w (some ⟨k, 0, none⟩) l := fun _ =>
  ⟨_, rfl, hl, .inr hk, h.lt, fun j u hu => by rw [add_zero']; exact h.cell j u hu⟩
set_option maxRecDepth 100000 in
theorem Rn.rz {lo : Nat} {w : World} {A : Option Addr} {l : List Int} (h : Rn lo w A l) {w' : World} (hb : Below w.heap.size w w') : Rz lo w.heap.size w' A l := fun hp => by
  obtain ⟨ad, e, hlo, hlt, hc⟩ := h hp
  exact ⟨ad, e, hlo, .inl hlt, Nat.lt_of_lt_of_le hlt hb.size, fun j u hu => (hb.cell (p := ad.add j) (by rw [block_add]; exact hlt)).trans (hc j u hu)⟩
/-- What a steal's next has at hand. -/
structure Nz (w : World) (lo : Nat) (W D J S : Int) (A : Option Addr) (n c : Nat) (l : List Int) (f : Fr) (w1 : World) : Prop where
  bx : Bx w1 w.heap.size W D J S
  bm : Bm w1 (w.heap.size + 1) (.slice A n c)
  bf : Bf w1 (w.heap.size + 1 + 1) f
  br : Bf w1 (w.heap.size + 1 + 1 + 1) f0
  c4 : Bv w1 (w.heap.size + 1 + 1 + 1 + 1) (.func (.func 94) #[] #[.pointer (some ⟨w.heap.size + 1, 0, none⟩)]) 100
  c5 : Bv w1 (w.heap.size + 1 + 1 + 1 + 1 + 1) (.func (.func 95) #[] #[.pointer (some ⟨w.heap.size + 1 + 1, 0, none⟩)]) 102
  c6 : Bv w1 (w.heap.size + 1 + 1 + 1 + 1 + 1 + 1) (.func (.func 96) #[] #[.pointer (some ⟨w.heap.size + 1, 0, none⟩), .pointer (some ⟨w.heap.size, 0, none⟩), .pointer (some ⟨w.heap.size + 1 + 1, 0, none⟩)]) 31
  sz : w.heap.size + 1 + 1 + 1 + 1 + 1 + 1 + 1 < w1.heap.size
  rz : Rz lo w.heap.size w1 A l
  be : Below w.heap.size w w1
  nl : l.length = n
section
variable {w : World} {lo : Nat} {W D J S : Int} {A : Option Addr} {n c : Nat} {l : List Int} {f : Fr} {w1 : World}
set_option maxRecDepth 100000 in
theorem Nz.setPc (h : Nz w lo W D J S A n c l f w1) (z : Int) : Nz w lo W D J S A n c l { f with pc := z } (w1.setCell ⟨w.heap.size + 1 + 1, 1, none⟩ (.int .i64 z)) :=
  ⟨h.bx.oth (by omega) _, h.bm.other (by omega) _, h.bf.wPc z, h.br.oth (by omega) _, h.c4.other (by omega) _, h.c5.other (by omega) _, h.c6.other (by omega) _, by simpa using h.sz, h.rz.set (by omega) _, h.be.setCell (by simp only; omega) _, h.nl⟩
set_option maxRecDepth 100000 in
/-- Behind a deed that turns the call alone. -/
theorem Nz.kf (h : Nz w lo W D J S A n c l f w1) {w2 : World} {f' : Fr} (hb : Bf w2 (w.heap.size + 1 + 1) f') (hK : Kb (w.heap.size + 1 + 1) w1 w2) : Nz w lo W D J S A n c l f' w2 :=
  ⟨h.bx.kb hK (by omega), h.bm.kb hK (by omega), hb, h.br.kb hK (by omega), h.c4.kb hK (by omega), h.c5.kb hK (by omega), h.c6.kb hK (by omega), Nat.lt_of_lt_of_le h.sz hK.size, h.rz.kb hK (by omega), h.be.trans (hK.low.mono (by omega)), h.nl⟩
set_option maxRecDepth 100000 in
/-- Behind an exchange. -/
theorem Nz.stored (h : Nz w lo W D J S A n c l f w1) {w2 : World} {k : Nat} {l' : List Int} (hk : w1.heap.size ≤ k) (hB : Bk w2 k l') (hM : Bm w2 (w.heap.size + 1) (.slice (some ⟨k, 0, none⟩) n n)) (hK : Kb (w.heap.size + 1) w1 w2) (hl : l'.length = l.length) (hlo : lo ≤ w.heap.size) : Nz w lo W D J S (some ⟨k, 0, none⟩) n n l' f w2 := by
  have h4 := h.sz
  exact ⟨h.bx.kb hK (by omega), hM, h.bf.kb hK (by omega), h.br.kb hK (by omega), h.c4.kb hK (by omega), h.c5.kb hK (by omega), h.c6.kb hK (by omega), Nat.lt_of_lt_of_le h.sz hK.size, hB.rz (by omega) (by omega), h.be.trans (hK.low.mono (by omega)), hl.trans h.nl⟩
set_option maxRecDepth 100000 in
theorem Nz.facts (h : Nz w lo W D J S A n c l f w1) : w.heap.size < w1.heap.size ∧ w.heap.size + 1 < w1.heap.size ∧ w.heap.size + 1 + 1 < w1.heap.size ∧ w.heap.size + 1 + 1 + 1 < w1.heap.size := by
  have := h.sz
  omega
set_option maxRecDepth 100000 in
theorem Nz.back (h : Nz w lo W D J S A n c l f w1) (f' : Fr) : Bf (pf w1 (w.heap.size + 1 + 1 + 1) f').drew (w.heap.size + 1 + 1 + 1) f' ∧ Rn lo (pf w1 (w.heap.size + 1 + 1 + 1) f').drew A l ∧ Below w.heap.size w (pf w1 (w.heap.size + 1 + 1 + 1) f').drew :=
  ⟨(h.br.pf f').drew, ((h.rz.pf (by omega) f').rn).drew, (below_pf h.be (by omega) f').drew⟩
end
/-- The eight boxes. -/
def bx8 (w : World) (W D J S : Int) (v : Value) (f : Fr) : World := (((((((w.alloc (.cells #[.int .i64 W, .int .i64 D, .int .i64 J, .int .i64 S] 23)).alloc (.cells #[v] 25)).alloc (.cells #[.int .i64 f.op, .int .i64 f.pc, .int .i64 f.who, .int .u64 f.val, .int .u64 f.x, .int .u64 f.y, .int .i64 f.res] 28)).alloc (.cells #[.int .i64 0, .int .i64 0, .int .i64 0, .int .u64 0, .int .u64 0, .int .u64 0, .int .i64 0] 28)).alloc (.cells #[.func (.func 94) #[] #[.pointer (some ⟨w.heap.size + 1, 0, none⟩)]] 100)).alloc (.cells #[.func (.func 95) #[] #[.pointer (some ⟨w.heap.size + 1 + 1, 0, none⟩)]] 102)).alloc (.cells #[.func (.func 96) #[] #[.pointer (some ⟨w.heap.size + 1, 0, none⟩), .pointer (some ⟨w.heap.size, 0, none⟩), .pointer (some ⟨w.heap.size + 1 + 1, 0, none⟩)]] 31)).alloc (.cells #[.func (.func 97) #[] #[.pointer (some ⟨w.heap.size + 1 + 1 + 1 + 1, 0, none⟩), .pointer (some ⟨w.heap.size, 0, none⟩), .pointer (some ⟨w.heap.size + 1 + 1, 0, none⟩)], .func (.func 98) #[] #[.pointer (some ⟨w.heap.size + 1 + 1 + 1 + 1, 0, none⟩), .pointer (some ⟨w.heap.size, 0, none⟩), .pointer (some ⟨w.heap.size + 1 + 1, 0, none⟩), .pointer (some ⟨w.heap.size + 1 + 1 + 1 + 1 + 1, 0, none⟩)], .func (.func 99) #[] #[.pointer (some ⟨w.heap.size + 1 + 1 + 1 + 1, 0, none⟩), .pointer (some ⟨w.heap.size, 0, none⟩), .pointer (some ⟨w.heap.size + 1 + 1, 0, none⟩)], .func (.func 100) #[] #[.pointer (some ⟨w.heap.size + 1 + 1 + 1 + 1 + 1 + 1, 0, none⟩), .pointer (some ⟨w.heap.size + 1 + 1 + 1 + 1 + 1, 0, none⟩), .pointer (some ⟨w.heap.size + 1 + 1, 0, none⟩)]] 79)
set_option maxRecDepth 100000 in
theorem heap_alloc_at (w : World) (o : Obj) {k : Nat} (hk : k = w.heap.size) : (w.alloc o).heap[k]? = some o := by subst hk; exact heap_alloc_new w o
set_option maxRecDepth 100000 in
theorem boxes8 {w : World} {lo : Nat} {W D J S : Int} {A : Option Addr} {n c : Nat} {l : List Int} (f : Fr) (h : Rn lo w A l) (hn : l.length = n) : Nz w lo W D J S A n c l f (bx8 w W D J S (.slice A n c) f) := by
  have hb : Below w.heap.size w (bx8 w W D J S (.slice A n c) f) := by
    unfold bx8
    exact ((((((((Below.refl _ _).alloc (Nat.le_refl _) _).alloc (by simp) _).alloc (by simp; omega) _).alloc (by simp; omega) _).alloc (by simp; omega) _).alloc (by simp; omega) _).alloc (by simp; omega) _).alloc (by simp; omega) _
  refine ⟨?_, ?_, ?_, ?_, ?_, ?_, ?_, ?_, h.rz hb, hb, hn⟩
  · exact (((((((Bx.mk w W D J S 23).alloc _).alloc _).alloc _).alloc _).alloc _).alloc _).alloc _
  · unfold bx8
    exact Bm.after (Bm.after (Bm.after (Bm.after (Bm.after (Bm.after (show Bm _ _ _ from heap_alloc_at _ _ (by simp)) (box_below _ _)) (box_below _ _)) (box_below _ _)) (box_below _ _)) (box_below _ _)) (box_below _ _)
  · unfold bx8
    exact Bf.after (Bf.after (Bf.after (Bf.after (Bf.after (show Bf _ _ _ from heap_alloc_at _ _ (by simp)) (box_below _ _)) (box_below _ _)) (box_below _ _)) (box_below _ _)) (box_below _ _)
  · unfold bx8
    exact Bf.after (Bf.after (Bf.after (Bf.after (show Bf _ _ _ from heap_alloc_at _ _ (by simp)) (box_below _ _)) (box_below _ _)) (box_below _ _)) (box_below _ _)
  · unfold bx8
    exact Bv.after (Bv.after (Bv.after (show Bv _ _ _ _ from heap_alloc_at _ _ (by simp)) (box_below _ _)) (box_below _ _)) (box_below _ _)
  · unfold bx8
    exact Bv.after (Bv.after (show Bv _ _ _ _ from heap_alloc_at _ _ (by simp)) (box_below _ _)) (box_below _ _)
  · unfold bx8
    exact Bv.after (show Bv _ _ _ _ from heap_alloc_at _ _ (by simp)) (box_below _ _)
  · unfold bx8
    simp
end Go.Proofs.Ytpeaahihjeplmaa
