/- Merged: WkA, WkB. -/
import Derived.Test.YtlpkccpijloidaaGreatWkS
import Derived.Test.YtlpkccpijloidaaGreatStp
import Derived.Test.YtlpkccpijloidaaGreatTh1
import Derived.Test.YtlpkccpijloidaaGreatEv2
import Derived.Test.YtlpkccpijloidaaGreatNxA
import Derived.BigQuiet
import Derived.Deep.RegionHeld3
namespace Go.Proofs.YtlpkccpijloidaaGreat
set_option maxRecDepth 100000
open Go.RowKit Go.Deep
/-- A worker lies in block g: its state (the stack as a slice), the layout, the tasks, the cells, itself, the draw, what has happened. -/
def Wkb (w : World) (g : Nat) (x : WkS) (sv : Value) (W D J S : Int) (tv mv : Value) (me d : Int) (hv : Value) : Prop := w.heap[g]? = some (.cells #[.int .i64 x.pc, sv, .int .i64 x.f.op, .int .i64 x.f.pc, .int .i64 x.f.who, .int .u64 x.f.val, .int .u64 x.f.x, .int .u64 x.f.y, .int .i64 x.f.res, .int .i64 x.spins, .int .i64 x.look, .int .i64 W, .int .i64 D, .int .i64 J, .int .i64 S, tv, mv, .int .i64 me, .int .u64 d, hv] 56 (0, 0))
/-- A call, laid into such a box. -/
def pwk (w : World) (g : Nat) (f : Fr) : World := (((((((w.setCell ⟨g, 2, none⟩ (.int .i64 f.op)).setCell ⟨g, 3, none⟩ (.int .i64 f.pc)).setCell ⟨g, 4, none⟩ (.int .i64 f.who)).setCell ⟨g, 5, none⟩ (.int .u64 f.val)).setCell ⟨g, 6, none⟩ (.int .u64 f.x)).setCell ⟨g, 7, none⟩ (.int .u64 f.y)).setCell ⟨g, 8, none⟩ (.int .i64 f.res))
section
variable {w w' : World} {g : Nat} {x : WkS} {sv tv mv hv : Value} {W D J S me d : Int}
theorem Wkb.lt (h : Wkb w g x sv W D J S tv mv me d hv) : g < w.heap.size := by
  rcases Nat.lt_or_ge g w.heap.size with hlt | hge
  · exact hlt
  · unfold Wkb at h; rw [Array.getElem?_eq_none hge] at h; cases h
theorem Wkb.below {B : Nat} (h : Wkb w g x sv W D J S tv mv me d hv) (hb : Below B w w') (hg : g < B) : Wkb w' g x sv W D J S tv mv me d hv := (hb.block g hg).trans h
theorem Wkb.after (h : Wkb w g x sv W D J S tv mv me d hv) (hb : Below w.heap.size w w') : Wkb w' g x sv W D J S tv mv me d hv := h.below hb h.lt
theorem Wkb.drew (h : Wkb w g x sv W D J S tv mv me d hv) : Wkb w.drew g x sv W D J S tv mv me d hv := h
theorem Wkb.cells (h : Wkb w g x sv W D J S tv mv me d hv) : w.cell? ⟨g, 0, none⟩ = some (.int .i64 x.pc) ∧ w.cell? ⟨g, 1, none⟩ = some sv ∧ w.cell? ⟨g, 2, none⟩ = some (.int .i64 x.f.op) ∧ w.cell? ⟨g, 3, none⟩ = some (.int .i64 x.f.pc) ∧ w.cell? ⟨g, 4, none⟩ = some (.int .i64 x.f.who) ∧ w.cell? ⟨g, 5, none⟩ = some (.int .u64 x.f.val) ∧ w.cell? ⟨g, 6, none⟩ = some (.int .u64 x.f.x) ∧ w.cell? ⟨g, 7, none⟩ = some (.int .u64 x.f.y) ∧ w.cell? ⟨g, 8, none⟩ = some (.int .i64 x.f.res) ∧ w.cell? ⟨g, 9, none⟩ = some (.int .i64 x.spins) ∧ w.cell? ⟨g, 10, none⟩ = some (.int .i64 x.look)
    ∧ w.cell? ⟨g, 11, none⟩ = some (.int .i64 W) ∧ w.cell? ⟨g, 12, none⟩ = some (.int .i64 D) ∧ w.cell? ⟨g, 13, none⟩ = some (.int .i64 J) ∧ w.cell? ⟨g, 14, none⟩ = some (.int .i64 S) ∧ w.cell? ⟨g, 15, none⟩ = some tv ∧ w.cell? ⟨g, 16, none⟩ = some mv ∧ w.cell? ⟨g, 17, none⟩ = some (.int .i64 me) ∧ w.cell? ⟨g, 18, none⟩ = some (.int .u64 d) ∧ w.cell? ⟨g, 19, none⟩ = some hv := by
  unfold Wkb at h
  refine ⟨?_, ?_, ?_, ?_, ?_, ?_, ?_, ?_, ?_, ?_, ?_, ?_, ?_, ?_, ?_, ?_, ?_, ?_, ?_, ?_⟩ <;> (rw [cell_of_row w g _ _ _ _ h]; rfl)
theorem Wkb.free (h : Wkb w g x sv W D J S tv mv me d hv) (i : Nat) : w.frozen? ⟨g, i, none⟩ = false := by
  unfold Wkb at h
  simp [World.frozen?, h]
theorem Wkb.setPc (h : Wkb w g x sv W D J S tv mv me d hv) (z : Int) : Wkb (w.setCell ⟨g, 0, none⟩ (.int .i64 z)) g { x with pc := z } sv W D J S tv mv me d hv := by
  unfold Wkb at h ⊢
  simp [World.setCell, Array.getElem?_modify, h]
theorem Wkb.setS (h : Wkb w g x sv W D J S tv mv me d hv) (l : List Fo.Itm) (z : Value) : Wkb (w.setCell ⟨g, 1, none⟩ z) g { x with stk := l } z W D J S tv mv me d hv := by
  unfold Wkb at h ⊢
  simp [World.setCell, Array.getElem?_modify, h]
theorem Wkb.setVal (h : Wkb w g x sv W D J S tv mv me d hv) (z : Int) : Wkb (w.setCell ⟨g, 5, none⟩ (.int .u64 z)) g { x with f := { x.f with val := z } } sv W D J S tv mv me d hv := by
  unfold Wkb at h ⊢
  simp [World.setCell, Array.getElem?_modify, h]
theorem Wkb.setSp (h : Wkb w g x sv W D J S tv mv me d hv) (z : Int) : Wkb (w.setCell ⟨g, 9, none⟩ (.int .i64 z)) g { x with spins := z } sv W D J S tv mv me d hv := by
  unfold Wkb at h ⊢
  simp [World.setCell, Array.getElem?_modify, h]
theorem Wkb.setLk (h : Wkb w g x sv W D J S tv mv me d hv) (z : Int) : Wkb (w.setCell ⟨g, 10, none⟩ (.int .i64 z)) g { x with look := z } sv W D J S tv mv me d hv := by
  unfold Wkb at h ⊢
  simp [World.setCell, Array.getElem?_modify, h]
theorem Wkb.setM (h : Wkb w g x sv W D J S tv mv me d hv) (z : Value) : Wkb (w.setCell ⟨g, 16, none⟩ z) g x sv W D J S tv z me d hv := by
  unfold Wkb at h ⊢
  simp [World.setCell, Array.getElem?_modify, h]
theorem Wkb.setE (h : Wkb w g x sv W D J S tv mv me d hv) (z : Value) : Wkb (w.setCell ⟨g, 19, none⟩ z) g x sv W D J S tv mv me d z := by
  unfold Wkb at h ⊢
  simp [World.setCell, Array.getElem?_modify, h]
theorem Wkb.pwk (h : Wkb w g x sv W D J S tv mv me d hv) (f : Fr) : Wkb (pwk w g f) g { x with f := f } sv W D J S tv mv me d hv := by
  unfold Wkb at h ⊢
  unfold YtlpkccpijloidaaGreat.pwk
  simp [World.setCell, Array.getElem?_modify, h]
end
theorem Kb.pwk {g : Nat} {w w' : World} (h : Kb g w w') (f : Fr) : Kb g w (pwk w' g f) :=
  ((((((h.set 2 _).set 3 _).set 4 _).set 5 _).set 6 _).set 7 _).set 8 _
/-- The slice at A reads as the items l, not in block g. -/
def Iyy (lo g : Nat) (w : World) (A : Option Addr) (l : List Fo.Itm) : Prop :=
  0 < l.length → ∃ b off, A = some ⟨b, off, none⟩ ∧ (lo ≤ b ∧ b ≠ g) ∧ b < w.heap.size ∧ ∀ i x, l[i]? = some x →
    w.cell? ⟨b, off + i * 3, none⟩ = some (.int .i64 x.1) ∧ w.cell? ⟨b, off + i * 3 + 1, none⟩ = some (.int .i64 x.2.1) ∧ w.cell? ⟨b, off + i * 3 + 2, none⟩ = some (.int .i64 x.2.2)
theorem Iyy.ir {lo g : Nat} {w : World} {A : Option Addr} {l : List Fo.Itm} (h : Iyy lo g w A l) : Fo.Ir w.heap.size w A l := fun hp => by
  obtain ⟨b, off, e, _, hlt, hc⟩ := h hp
  exact ⟨b, off, e, hlt, hc⟩
theorem Iyy.kb {lo g : Nat} {w w' : World} {A : Option Addr} {l : List Fo.Itm} (h : Iyy lo g w A l) (hk : Kb g w w') : Iyy lo g w' A l := fun hp => by
  obtain ⟨b, off, e, hne, hlt, hc⟩ := h hp
  refine ⟨b, off, e, hne, Nat.lt_of_lt_of_le hlt hk.size, fun i x hx => ?_⟩
  obtain ⟨h1, h2, h3⟩ := hc i x hx
  have q := hk.others b hlt hne.2
  exact ⟨(World.cell?_of_block (a := ⟨b, off + i * 3, none⟩) q).trans h1, (World.cell?_of_block (a := ⟨b, off + i * 3 + 1, none⟩) q).trans h2, (World.cell?_of_block (a := ⟨b, off + i * 3 + 2, none⟩) q).trans h3⟩
theorem Iyy.after {lo g : Nat} {w w' : World} {A : Option Addr} {l : List Fo.Itm} (h : Iyy lo g w A l) (hb : Below w.heap.size w w') : Iyy lo g w' A l := fun hp => by
  obtain ⟨b, off, e, hne, hlt, hc⟩ := h hp
  refine ⟨b, off, e, hne, Nat.lt_of_lt_of_le hlt hb.size, fun i x hx => ?_⟩
  obtain ⟨h1, h2, h3⟩ := hc i x hx
  have q := hb.block b hlt
  exact ⟨(World.cell?_of_block (a := ⟨b, off + i * 3, none⟩) q).trans h1, (World.cell?_of_block (a := ⟨b, off + i * 3 + 1, none⟩) q).trans h2, (World.cell?_of_block (a := ⟨b, off + i * 3 + 2, none⟩) q).trans h3⟩
theorem Iow_iyy {lo g base n c : Nat} {w : World} {A : Option Addr} {l : List Fo.Itm} (h : Fo.Iow w base A n c l) (hl : lo ≤ base) (hg : g < base ∨ w.heap.size ≤ g) : Iyy lo g w A l := fun hp => by
  have hn : 0 < n := by rw [← h.len]; exact hp
  obtain ⟨q, e, hb, _, _⟩ := h.at hn
  obtain ⟨b, off, e2, hlt, hc⟩ := h.ir hp
  refine ⟨b, off, e2, ?_, hlt, hc⟩
  rw [e] at e2
  injection e2 with e2
  injection e2 with e2
  omega
theorem Evx_kb {g base n c : Nat} {w w' : World} {A : Option Addr} {l : List Evn} (h : Evx.Iow w base A n c l) (hg : g < base) (hk : Kb g w w') : Evx.Iow w' base A n c l :=
  h.kept fun k hk2 => hk.others k (World.ownsRow.lt h k hk2).2 (by have := (World.ownsRow.lt h k hk2).1; omega)
/-- What stays while a worker steps: the tasks lie below n₀, its own stack from n₁ on; its box g; the layout, itself, the draw, the tasks. -/
structure Wc where
  n₀ : Nat
  n₁ : Nat
  g : Nat
  W : Int
  D : Int
  J : Int
  S : Int
  me : Int
  d : Int
  AT : Option Addr
  T : List Fo.Tsk
  ct : Nat
/-- Two slices lie in different blocks (the second one, if it has something). -/
def Apart (E A : Option Addr) (n : Nat) : Prop := 0 < n → ∀ e a : Addr, E = some e → A = some a → a.block ≠ e.block
/-- All blocks but block g stay, and but blocks of what happens. -/
structure Kd (g : Nat) (w w' : World) : Prop where
  low : Below g w w'
  others : ∀ b, b < w.heap.size → b ≠ g → (∀ c z, w.heap[b]? ≠ some (.cells c 44 z)) → w'.heap[b]? = w.heap[b]?
theorem Kb.kd {g : Nat} {w w' : World} (h : Kb g w w') : Kd g w w' := ⟨h.low, fun b h1 h2 _ => h.others b h1 h2⟩
theorem Kd.size {g : Nat} {w w' : World} (h : Kd g w w') : w.heap.size ≤ w'.heap.size := h.low.size
theorem Kd.trans {g : Nat} {w1 w2 w3 : World} (h : Kd g w1 w2) (k : Kd g w2 w3) : Kd g w1 w3 :=
  ⟨h.low.trans k.low, fun b h1 h2 h3 => by
    have e := h.others b h1 h2 h3
    exact (k.others b (Nat.lt_of_lt_of_le h1 h.size) h2 (fun c z => by rw [e]; exact h3 c z)).trans e⟩
theorem apart_new {E A : Option Addr} {n c k base lo : Nat} {l : List Evn} {w : World} (h : Evx.Iow w base E n c l) (hlo : w.heap.size ≤ lo) (hf : 0 < k → ∀ a : Addr, A = some a → lo ≤ a.block) : Apart E A k := by
  intro hk e a he ha
  subst he
  have := (World.ownsRow.lt h e.block rfl).2
  have := hf hk a ha
  omega
theorem apart_bk {E : Option Addr} {n c k base b : Nat} {l : List Evn} {m : List Int} {w : World} (h : Evx.Iow w base E n c l) (hb : Bk w b m) : Apart E (some ⟨b, 0, none⟩) k := by
  rintro _ e a he ha rfl2
  subst he
  injection ha with ha
  subst ha
  rcases h.2 with ⟨h1, _⟩ | ⟨g, cap, cur, h1, _, h2, _⟩
  · cases h1
  · injection h1 with h1 _ _
    injection h1 with h1
    subst h1
    simp only at rfl2
    subst rfl2
    unfold Bk at hb
    rw [hb] at h2
    injection h2 with h2
    injection h2 with _ h2 _
    cases h2
/-- A worker lies in its box, with what it reads. -/
structure Wsx (k : Wc) (x : WkS) (m : List Int) (l : List Evn) (w : World) (A : Option Addr) (c : Nat) (SA : Option Addr) (cs : Nat) (E : Option Addr) (ce : Nat) : Prop where
  bx : Wkb w k.g x (.slice SA x.stk.length cs) k.W k.D k.J k.S (.slice k.AT k.T.length k.ct) (.slice A m.length c) k.me k.d (.slice E l.length ce)
  rm : Rx 0 k.g w A m
  rs : Iyy k.n₁ k.g w SA x.stk
  re : Evx.Iow w (k.g + 1) E l.length ce l
  tk : Fo.Tk k.n₀ w k.AT k.T
  hn : k.n₀ ≤ k.g
  hn1 : k.n₁ ≤ k.g
  nm : Apart E A m.length
  ns : Apart E SA x.stk.length
def Wst (k : Wc) (x : WkS) (m : List Int) (l : List Evn) (w : World) : Prop := ∃ A c SA cs E ce, Wsx k x m l w A c SA cs E ce
/-- What a step method leaves. -/
def Wrt (k : Wc) (x : WkS) (m : List Int) (l : List Evn) (w : World) (e : Ending) (w' : World) : Prop := e = .returned (.tuple #[]) ∧ Wst k x m l w' ∧ Kd k.g w w'
section
variable {k : Wc} {x : WkS} {m : List Int} {l : List Evn} {w w' : World} {A : Option Addr} {c : Nat} {SA : Option Addr} {cs : Nat} {E : Option Addr} {ce : Nat}
theorem Wsx.kb (h : Wsx k x m l w A c SA cs E ce) (hk : Kb k.g w w') {y : WkS} (hy : y.stk = x.stk) (hb : Wkb w' k.g y (.slice SA x.stk.length cs) k.W k.D k.J k.S (.slice k.AT k.T.length k.ct) (.slice A m.length c) k.me k.d (.slice E l.length ce)) : Wsx k y m l w' A c SA cs E ce := by
  refine ⟨by rw [hy]; exact hb, h.rm.kb hk, by rw [hy]; exact h.rs.kb hk, Evx_kb h.re (Nat.lt_succ_self _) hk, h.tk.below (hk.low.mono h.hn), h.hn, h.hn1, h.nm, by rw [hy]; exact h.ns⟩
theorem Wsx.after (h : Wsx k x m l w A c SA cs E ce) (hb : Below w.heap.size w w') : Wsx k x m l w' A c SA cs E ce :=
  h.kb ((Kb.refl _ _).call h.bx.lt hb) rfl (h.bx.after hb)
theorem Wsx.drew (h : Wsx k x m l w A c SA cs E ce) : Wsx k x m l w.drew A c SA cs E ce := h.kb (Kb.refl _ _).drew rfl h.bx.drew
theorem Wsx.setPc (h : Wsx k x m l w A c SA cs E ce) (z : Int) : Wsx k { x with pc := z } m l (w.setCell ⟨k.g, 0, none⟩ (.int .i64 z)) A c SA cs E ce := h.kb ((Kb.refl _ _).set _ _) rfl (h.bx.setPc z)
theorem Wsx.setVal (h : Wsx k x m l w A c SA cs E ce) (z : Int) : Wsx k { x with f := { x.f with val := z } } m l (w.setCell ⟨k.g, 5, none⟩ (.int .u64 z)) A c SA cs E ce := h.kb ((Kb.refl _ _).set _ _) rfl (h.bx.setVal z)
theorem Wsx.setSp (h : Wsx k x m l w A c SA cs E ce) (z : Int) : Wsx k { x with spins := z } m l (w.setCell ⟨k.g, 9, none⟩ (.int .i64 z)) A c SA cs E ce := h.kb ((Kb.refl _ _).set _ _) rfl (h.bx.setSp z)
theorem Wsx.setLk (h : Wsx k x m l w A c SA cs E ce) (z : Int) : Wsx k { x with look := z } m l (w.setCell ⟨k.g, 10, none⟩ (.int .i64 z)) A c SA cs E ce := h.kb ((Kb.refl _ _).set _ _) rfl (h.bx.setLk z)
theorem Wsx.pwk (h : Wsx k x m l w A c SA cs E ce) (f : Fr) : Wsx k { x with f := f } m l (pwk w k.g f) A c SA cs E ce := h.kb ((Kb.refl _ _).pwk _) rfl (h.bx.pwk f)
theorem Wsx.setM (h : Wsx k x m l w A c SA cs E ce) {A' : Option Addr} {c' : Nat} {m' : List Int} (hr : Rx 0 k.g w A' m') (hn : Apart E A' m'.length) : Wsx k x m' l (w.setCell ⟨k.g, 16, none⟩ (.slice A' m'.length c')) A' c' SA cs E ce := by
  have hk := (Kb.refl k.g w).set 16 (.slice A' m'.length c')
  exact ⟨h.bx.setM _, hr.kb hk, h.rs.kb hk, Evx_kb h.re (Nat.lt_succ_self _) hk, h.tk.below (hk.low.mono h.hn), h.hn, h.hn1, hn, h.ns⟩
theorem Wsx.setS (h : Wsx k x m l w A c SA cs E ce) {S' : Option Addr} {c' : Nat} {s' : List Fo.Itm} (hr : Iyy k.n₁ k.g w S' s') (hn : Apart E S' s'.length) : Wsx k { x with stk := s' } m l (w.setCell ⟨k.g, 1, none⟩ (.slice S' s'.length c')) A c S' c' E ce := by
  have hk := (Kb.refl k.g w).set 1 (.slice S' s'.length c')
  exact ⟨h.bx.setS s' _, h.rm.kb hk, hr.kb hk, Evx_kb h.re (Nat.lt_succ_self _) hk, h.tk.below (hk.low.mono h.hn), h.hn, h.hn1, h.nm, hn⟩
theorem Wsx.tk2 (h : Wsx k x m l w A c SA cs E ce) : Fo.Tk w.heap.size w k.AT k.T := h.tk.mono (Nat.le_trans h.hn (Nat.le_of_lt h.bx.lt))
theorem Wsx.st (h : Wsx k x m l w A c SA cs E ce) : Wst k x m l w := ⟨_, _, _, _, _, _, h⟩
theorem Wst.after (h : Wst k x m l w) (hb : Below w.heap.size w w') : Wst k x m l w' := by
  obtain ⟨A, c, SA, cs, E, ce, h⟩ := h
  exact (h.after hb).st
theorem Wrt.of {x' : WkS} {m' : List Int} {l' : List Evn} {F : FuncId} {P : Program} {args : Array Value} (h : Calls P F args w (Wrt k x m l w)) (e1 : x = x') (e2 : m = m') (e3 : l = l') : Calls P F args w (Wrt k x' m' l' w) := by
  rw [← e1, ← e2, ← e3]; exact h
end
section
variable (k : Wc) {x : WkS} {m : List Int} {l : List Evn} {w : World}
set_option maxHeartbeats 4000000 in
theorem wgoto_any (p : Int) (h : Wst k x m l w) : Calls Tryz.prog 59 #[.pointer (some ⟨k.g, 0, none⟩), .int .i64 p] w (Wrt k (toW x p f0) m l w) := by
  obtain ⟨A, c, SA, cs, E, ce, h⟩ := h
  have H := Lib.hid h
  obtain ⟨a0, a1, a2, a3, a4, a5, a6, a7, a8, a9, a10, a11, a12, a13, a14, a15, a16, a17, a18, a19⟩ := h.bx.cells
  have fz := h.bx.free
  clear h
  obtain ⟨n₀, n₁, g, W, D, J, S, me, d, AT, T, ct⟩ := k
  simp only at a0 a1 a2 a3 a4 a5 a6 a7 a8 a9 a10 a11 a12 a13 a14 a15 a16 a17 a18 a19 fz ⊢
  go_enter Tryz.func59, Tryz.ntmps59
  go_wp2
  change bodyPost _ _ _ _ _ (pwk (w.setCell ⟨g, 0, none⟩ (.int .i64 p)) g f0)
  go_end0
  exact ⟨rfl, ((H.out.setPc p).pwk f0).st, (((Kb.refl _ _).set _ _).pwk _).kd⟩
end
end Go.Proofs.YtlpkccpijloidaaGreat
namespace Go.Proofs.YtlpkccpijloidaaGreat
set_option maxRecDepth 100000
open Go.RowKit Go.Deep
theorem Bk.ne_wk {b : Nat} {l : List Int} {w : World} {g : Nat} {x : WkS} {sv tv mv hv : Value} {W D J S me d : Int} (h : Bk w b l) (hb : Wkb w g x sv W D J S tv mv me d hv) : b ≠ g := by
  rintro rfl
  unfold Bk at h
  unfold Wkb at hb
  rw [h] at hb
  injection hb with hb
  injection hb with _ hb _
  cases hb
theorem Bk.rx_wk {b : Nat} {l : List Int} {w : World} {g : Nat} (h : Bk w b l) (hne : b ≠ g) : Rx 0 g w (some ⟨b, 0, none⟩) l := fun hp => by
  obtain ⟨ad, e, hlt, hc⟩ := h.rd hp
  injection e with e
  subst e
  exact ⟨_, rfl, Nat.zero_le _, hne, hlt, hc⟩
section
variable (k : Wc) {x : WkS} {m : List Int} {l : List Evn} {w : World}
set_option maxHeartbeats 4000000 in
theorem wgocall_any (p o v : Int) (h : Wst k x m l w) : Calls Tryz.prog 62 #[.pointer (some ⟨k.g, 0, none⟩), .int .i64 p, .int .i64 o, .int .u64 v] w (Wrt k (toW x p (fbg o k.me v)) m l w) := by
  obtain ⟨A, c, SA, cs, E, ce, h⟩ := h
  have H := Lib.hid h
  have hg := h.bx.lt
  obtain ⟨a0, a1, a2, a3, a4, a5, a6, a7, a8, a9, a10, a11, a12, a13, a14, a15, a16, a17, a18, a19⟩ := h.bx.cells
  have fz := h.bx.free
  clear h
  obtain ⟨n₀, n₁, g, W, D, J, S, me, d, AT, T, ct⟩ := k
  simp only at a0 a1 a2 a3 a4 a5 a6 a7 a8 a9 a10 a11 a12 a13 a14 a15 a16 a17 a18 a19 fz hg ⊢
  go_enter Tryz.func62, Tryz.ntmps62
  go_wp2_with fail
  refine (begin_any o me v _).mono ?_
  rintro _ w1 ⟨rfl, hb⟩
  have H1 := Lib.hid (H.out.after hb)
  have HB := Lib.hid hb
  clear a0 a1 a2 a3 a4 a5 a6 a7 a8 a9 a10 a11 a12 a13 a14 a15 a16 a17 a18 a19 fz hb
  obtain ⟨a0, a1, a2, a3, a4, a5, a6, a7, a8, a9, a10, a11, a12, a13, a14, a15, a16, a17, a18, a19⟩ := H1.out.bx.cells
  have fz := H1.out.bx.free
  simp only at a0 a1 a2 a3 a4 a5 a6 a7 a8 a9 a10 a11 a12 a13 a14 a15 a16 a17 a18 a19 fz
  go_wp2
  change bodyPost _ _ _ _ _ (pwk (w1.setCell ⟨g, 0, none⟩ (.int .i64 p)) g (fbg o me v))
  go_end0
  exact ⟨rfl, ((H1.out.setPc p).pwk _).st, ((((Kb.refl _ _).call hg HB.out).set _ _).pwk _).kd⟩
set_option maxHeartbeats 4000000 in
theorem wwake_any (b : Bool) (h : Wst k x m l w) : Calls Tryz.prog 64 #[.pointer (some ⟨k.g, 0, none⟩), .bool b] w (Wrt k (if b = true then toW x 14 (fbg 6 k.me 0) else toW x 9 f0) m l w) := by
  have H := Lib.hid h
  clear h
  cases b
  · simp only [Bool.false_eq_true, if_false]
    go_enter Tryz.func64, Tryz.ntmps64
    go_wp2_with fail
    refine (wgoto_any k 9 H.out).mono ?_
    rintro _ w1 ⟨rfl, h1, h2⟩
    go_wp2
    go_end0
    exact ⟨rfl, h1, h2⟩
  · simp only [if_true]
    go_enter Tryz.func64, Tryz.ntmps64
    go_wp2_with fail
    refine (wgocall_any k 14 6 0 H.out).mono ?_
    rintro _ w1 ⟨rfl, h1, h2⟩
    go_wp2
    go_end0
    exact ⟨rfl, h1, h2⟩
set_option maxHeartbeats 4000000 in
theorem wstop_any (h : Wst k x m l w) : Calls Tryz.prog 65 #[.pointer (some ⟨k.g, 0, none⟩)] w (Wrt k { x with pc := 8, f := { x.f with val := 0 }, look := 0 } m l w) := by
  obtain ⟨A, c, SA, cs, E, ce, h⟩ := h
  have H := Lib.hid h
  obtain ⟨a0, a1, a2, a3, a4, a5, a6, a7, a8, a9, a10, a11, a12, a13, a14, a15, a16, a17, a18, a19⟩ := h.bx.cells
  have fz := h.bx.free
  clear h
  obtain ⟨n₀, n₁, g, W, D, J, S, me, d, AT, T, ct⟩ := k
  simp only at a0 a1 a2 a3 a4 a5 a6 a7 a8 a9 a10 a11 a12 a13 a14 a15 a16 a17 a18 a19 fz ⊢
  go_enter Tryz.func65, Tryz.ntmps65
  go_wp2
  go_end0
  exact ⟨rfl, (((H.out.setPc 8).setVal 0).setLk 0).st, ((((Kb.refl _ _).set _ _).set _ _).set _ _).kd⟩
set_option maxHeartbeats 4000000 in
theorem wadd_any (i u : Int) {T' : List Int} {v : Int} (hT : put m i ((at0 m i + u) % 18446744073709551616) = T') (hv : at0 m i = v) (hs : m.length ≤ 500) (h : Wst k x m l w) : Calls Tryz.prog 61 #[.pointer (some ⟨k.g, 0, none⟩), .int .i64 i, .int .u64 u] w fun e w' => e = .returned (.int .u64 v) ∧ Wst k x T' l w' ∧ Kd k.g w w' := by
  obtain ⟨A, c, SA, cs, E, ce, h⟩ := h
  have HL := Lib.hid (show T'.length = m.length by rw [← hT, len_put])
  have HT := Lib.hid (show put m i (IntKind.u64.wrap (at0 m i + u)) = T' by rw [IntKind.wrap_u64]; exact hT)
  clear hT
  have H := Lib.hid h
  have HS := Lib.hid hs
  have hg := h.bx.lt
  obtain ⟨a0, a1, a2, a3, a4, a5, a6, a7, a8, a9, a10, a11, a12, a13, a14, a15, a16, a17, a18, a19⟩ := h.bx.cells
  have fz := h.bx.free
  clear h hs
  have HV := Lib.hid hv
  clear hv
  obtain ⟨n₀, n₁, g, W, D, J, S, me, d, AT, T, ct⟩ := k
  simp only at a0 a1 a2 a3 a4 a5 a6 a7 a8 a9 a10 a11 a12 a13 a14 a15 a16 a17 a18 a19 fz hg ⊢
  go_enter Tryz.func61, Tryz.ntmps61
  go_wp2_with fail
  refine (add_any A m.length c m i u _ H.out.rm.rd rfl HS.out).mono ?_
  rintro _ w1 ⟨b1, rfl, hr, hb⟩
  rw [HT.out] at hr
  rw [HV.out]
  have H1 := Lib.hid (H.out.after hb)
  have HB := Lib.hid hb
  have HR := Lib.hid (hr.rx_wk (hr.ne_wk H1.out.bx))
  have HN := Lib.hid (show Apart E (some ⟨b1, 0, none⟩) T'.length from apart_bk H1.out.re hr)
  clear a0 a1 a2 a3 a4 a5 a6 a7 a8 a9 a10 a11 a12 a13 a14 a15 a16 a17 a18 a19 fz hb hr
  obtain ⟨a0, a1, a2, a3, a4, a5, a6, a7, a8, a9, a10, a11, a12, a13, a14, a15, a16, a17, a18, a19⟩ := H1.out.bx.cells
  have fz := H1.out.bx.free
  simp only at a0 a1 a2 a3 a4 a5 a6 a7 a8 a9 a10 a11 a12 a13 a14 a15 a16 a17 a18 a19 fz
  go_wp2
  go_ret
  refine ⟨rfl, Wsx.st (A := some ⟨b1, 0, none⟩) (c := m.length) (SA := SA) (cs := cs) (E := E) (ce := ce) ?_, (((Kb.refl _ _).call hg HB.out).set _ _).kd⟩
  have := H1.out.setM (c' := m.length) HR.out HN.out
  rw [HL.out] at this
  exact this
end
end Go.Proofs.YtlpkccpijloidaaGreat
