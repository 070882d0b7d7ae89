/- A call in a box; lists that a call makes; copied and leave. -/
import Derived.Test.YtgemaeibmgkneaaFrA
namespace Go.Proofs.Ytgemaeibmgkneaa
open Go.RowKit Go.Deep
/-- The slice at A reads as the numbers l, in a block from number lo on. -/
def Rn (lo : Nat) (w : World) (A : Option Addr) (l : List Int) : Prop :=
  0 < l.length → ∃ ad, A = some ad ∧ lo ≤ ad.block ∧ ad.block < w.heap.size ∧ ∀ j u, l[j]? = some u → w.cell? (ad.add j) = some (.int .u64 u)
set_option maxRecDepth 100000 in
theorem Rn.rd {lo : Nat} {w : World} {A : Option Addr} {l : List Int} (h : Rn lo w A l) : Rd w A l := fun hp => by
  obtain ⟨ad, e, _, hlt, hc⟩ := h hp
  exact ⟨ad, e, hlt, hc⟩
set_option maxRecDepth 100000 in
theorem Rn.below {lo : Nat} {w w' : World} {A : Option Addr} {l : List Int} (h : Rn lo w A l) (hb : Below w.heap.size w w') : Rn lo w' A l := fun hp => by
  obtain ⟨ad, e, hlo, hlt, hc⟩ := h hp
  exact ⟨ad, e, hlo, Nat.lt_of_lt_of_le hlt hb.size, fun j u hu => (hb.cell (p := ad.add j) (by unfold Addr.add; split <;> exact hlt)).trans (hc j u hu)⟩
set_option maxRecDepth 100000 in
theorem Rn.mono {lo lo' : Nat} {w : World} {A : Option Addr} {l : List Int} (h : Rn lo w A l) (hl : lo' ≤ lo) : Rn lo' w A l := fun hp => by
  obtain ⟨ad, e, hlo, hlt, hc⟩ := h hp
  exact ⟨ad, e, Nat.le_trans hl hlo, hlt, hc⟩
set_option maxRecDepth 100000 in
theorem Rn.nil (lo : Nat) (w : World) (A : Option Addr) : Rn lo w A [] := fun h => by simp at h
set_option maxRecDepth 100000 in
theorem Rn.drew {lo : Nat} {w : World} {A : Option Addr} {l : List Int} (h : Rn lo w A l) : Rn lo w.drew A l := h
set_option maxRecDepth 100000 in
/-- What is stored elsewhere does not matter. -/
theorem Rn.set {lo : Nat} {w : World} {A : Option Addr} {l : List Int} (h : Rn lo w A l) {p : Addr} (hp : p.block < lo) (v : Value) : Rn lo (w.setCell p v) A l := fun hq => by
  obtain ⟨ad, e, hlo, hlt, hc⟩ := h hq
  refine ⟨ad, e, hlo, by simpa using hlt, fun j u hu => ?_⟩
  refine Eq.trans ?_ (hc j u hu)
  have hne : (ad.add j).block ≠ p.block := by rw [block_add]; omega
  exact World.cell?_of_block (Below.heap_setCell w p v _ hne)
set_option maxRecDepth 100000 in
theorem Bk.rn {w : World} {g : Nat} {l : List Int} (h : Bk w g l) {lo : Nat} (hl : lo ≤ g) : Rn lo w (some ⟨g, 0, none⟩) l := fun _ =>
  ⟨_, rfl, hl, h.lt, fun j u hu => by rw [add_zero']; exact h.cell j u hu⟩
/-- The call f lies in block g. -/
def Bf (w : World) (g : Nat) (f : Fr) : Prop := w.heap[g]? = some (.cells #[.int .i64 f.op, .int .i64 f.pc, .int .i64 f.who, .int .u64 f.val, .int .u64 f.x, .int .u64 f.y, .int .i64 f.res] 34 (0, 0))
set_option maxRecDepth 100000 in
theorem Bf.lt {w : World} {g : Nat} {f : Fr} (h : Bf w g f) : g < w.heap.size := by
  rcases Nat.lt_or_ge g w.heap.size with hlt | hge
  · exact hlt
  · unfold Bf at h; rw [Array.getElem?_eq_none hge] at h; cases h
set_option maxRecDepth 100000 in
theorem Bf.below {w w' : World} {g B : Nat} {f : Fr} (h : Bf w g f) (hb : Below B w w') (hg : g < B) : Bf w' g f := (hb.block g hg).trans h
set_option maxRecDepth 100000 in
theorem Bf.drew {w : World} {g : Nat} {f : Fr} (h : Bf w g f) : Bf w.drew g f := h
set_option maxRecDepth 100000 in
theorem Bf.cells {w : World} {g : Nat} {f : Fr} (h : Bf w g f) : w.cell? ⟨g, 0, none⟩ = some (.int .i64 f.op) ∧ w.cell? ⟨g, 1, none⟩ = some (.int .i64 f.pc) ∧ w.cell? ⟨g, 2, none⟩ = some (.int .i64 f.who) ∧ w.cell? ⟨g, 3, none⟩ = some (.int .u64 f.val)
    ∧ w.cell? ⟨g, 4, none⟩ = some (.int .u64 f.x) ∧ w.cell? ⟨g, 5, none⟩ = some (.int .u64 f.y) ∧ w.cell? ⟨g, 6, none⟩ = some (.int .i64 f.res) := by
  unfold Bf at h
  refine ⟨?_, ?_, ?_, ?_, ?_, ?_, ?_⟩ <;> (rw [cell_of_row w g _ _ _ _ h]; rfl)
set_option maxRecDepth 100000 in
theorem Bf.free {w : World} {g : Nat} {f : Fr} (h : Bf w g f) (i : Nat) : w.frozen? ⟨g, i, none⟩ = false := by
  unfold Bf at h
  simp [World.frozen?, h]
/-- Nothing yet. -/
def f0 : Fr := ⟨0, 0, 0, 0, 0, 0, 0⟩
/-- A box for the call that came in, and one for the call that goes out. -/
def bxs (w : World) (f : Fr) : World := (w.alloc (.cells #[.int .i64 f.op, .int .i64 f.pc, .int .i64 f.who, .int .u64 f.val, .int .u64 f.x, .int .u64 f.y, .int .i64 f.res] 34)).alloc (.cells #[.int .i64 0, .int .i64 0, .int .i64 0, .int .u64 0, .int .u64 0, .int .u64 0, .int .i64 0] 34)
set_option maxRecDepth 100000 in
theorem boxes (w : World) (f : Fr) : Bf (bxs w f) w.heap.size f ∧ Bf (bxs w f) (w.heap.size + 1) f0 ∧ Below w.heap.size w (bxs w f) ∧ (bxs w f).heap.size = w.heap.size + 2 := by
  unfold bxs
  refine ⟨?_, ?_, ?_, ?_⟩
  · unfold Bf; rw [Below.heap_alloc _ _ _ (by simp)]; exact heap_alloc_new _ _
  · have := heap_alloc_new (w.alloc (.cells #[.int .i64 f.op, .int .i64 f.pc, .int .i64 f.who, .int .u64 f.val, .int .u64 f.x, .int .u64 f.y, .int .i64 f.res] 34)) (.cells #[.int .i64 0, .int .i64 0, .int .i64 0, .int .u64 0, .int .u64 0, .int .u64 0, .int .i64 0] 34)
    simpa [Bf, f0] using this
  · exact ((Below.refl _ _).alloc (Nat.le_refl _) _).alloc (by simp) _
  · simp
/-- The call f, laid into block g. -/
def pf (w : World) (g : Nat) (f : Fr) : World := ((((((w.setCell ⟨g, 0, none⟩ (.int .i64 f.op)).setCell ⟨g, 1, none⟩ (.int .i64 f.pc)).setCell ⟨g, 2, none⟩ (.int .i64 f.who)).setCell ⟨g, 3, none⟩ (.int .u64 f.val)).setCell ⟨g, 4, none⟩ (.int .u64 f.x)).setCell ⟨g, 5, none⟩ (.int .u64 f.y)).setCell ⟨g, 6, none⟩ (.int .i64 f.res)
set_option maxRecDepth 100000 in
theorem Bf.pf {w : World} {g : Nat} {f : Fr} (h : Bf w g f) (f' : Fr) : Bf (pf w g f') g f' := by
  unfold Bf at h ⊢
  unfold Ytgemaeibmgkneaa.pf
  simp [World.setCell, Array.getElem?_modify, h]
set_option maxRecDepth 100000 in
theorem below_pf {n : Nat} {w w' : World} (h : Below n w w') {g : Nat} (k : n ≤ g) (f : Fr) : Below n w (pf w' g f) :=
  ((((((h.setCell k _).setCell k _).setCell k _).setCell k _).setCell k _).setCell k _).setCell k _
set_option maxRecDepth 100000 in
theorem Rn.pf {lo : Nat} {w : World} {A : Option Addr} {l : List Int} (h : Rn lo w A l) {g : Nat} (k : g < lo) (f : Fr) : Rn lo (pf w g f) A l :=
  ((((((h.set k _).set k _).set k _).set k _).set k _).set k _).set k _
set_option maxRecDepth 100000 in
/-- What a function hands back whose second result lies in a box. -/
theorem results_fr {fn : Func} {t u : Tmp} (h : fn.results = #[.tmp t, .cell u 34]) (tmps : Array Value) {w : World} {g : Nat} {f : Fr} (hp : tmps.getD u undef = .pointer (some ⟨g, 0, none⟩)) (hb : Bf w g f) :
    (results fn tmps).run Try.prog w = .ok (.tuple #[tmps.getD t undef, fv f]) w := by
  obtain ⟨c0, c1, c2, c3, c4, c5, c6⟩ := hb.cells
  have hp2 : tmps[u]?.getD undef = .pointer (some ⟨g, 0, none⟩) := by simpa using hp
  simp [results, h, hp2, go_sem, c0, c1, c2, c3, c4, c5, c6]
/-- What a call that is done at once leaves: a list in new memory, and a call; nothing that was there has changed. -/
def RetO (w : World) (l : List Int) (f : Fr) (e : Ending) (w' : World) : Prop :=
  ∃ A c, e = .returned (.tuple #[.slice A l.length c, fv f]) ∧ l.length ≤ c ∧ Rn w.heap.size w' A l ∧ Below w.heap.size w w'
end Go.Proofs.Ytgemaeibmgkneaa
