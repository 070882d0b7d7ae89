/- What stays while one box alone is stored into; awake: the chapter's example. -/
import Derived.Test.YtfeccpfkpbminaaPuJ
import Derived.Test.YtfeccpfkpbminaaLayE
import Derived.Lib.SmallJoins
namespace Go.Proofs.Ytfeccpfkpbminaa
open Go.RowKit Go.Deep
/-- All blocks but block g stay. -/
structure Kb (g : Nat) (w w' : World) : Prop where
  low : Below g w w'
  others : ∀ b, b < w.heap.size → b ≠ g → w'.heap[b]? = w.heap[b]?
theorem Kb.refl (g : Nat) (w : World) : Kb g w w := ⟨Below.refl _ _, fun _ _ _ => rfl⟩
theorem Kb.size {g : Nat} {w w' : World} (h : Kb g w w') : w.heap.size ≤ w'.heap.size := h.low.size
theorem Kb.call {g : Nat} {w w1 w2 : World} (h : Kb g w w1) (hg : g < w.heap.size) (hb : Below w1.heap.size w1 w2) : Kb g w w2 :=
  ⟨h.low.trans (hb.mono (Nat.le_trans (Nat.le_of_lt hg) h.size)), fun b h1 h2 => (hb.block b (Nat.lt_of_lt_of_le h1 h.size)).trans (h.others b h1 h2)⟩
theorem Kb.set {g : Nat} {w w1 : World} (h : Kb g w w1) (k : Nat) (v : Value) : Kb g w (w1.setCell ⟨g, k, none⟩ v) :=
  ⟨h.low.setCell (Nat.le_refl _) _, fun b h1 h2 => (Below.heap_setCell w1 ⟨g, k, none⟩ v b h2).trans (h.others b h1 h2)⟩
theorem Kb.pf {g : Nat} {w w1 : World} (h : Kb g w w1) (f : Fr) : Kb g w (pf w1 g f) :=
  ((((((h.set 0 _).set 1 _).set 2 _).set 3 _).set 4 _).set 5 _).set 6 _
theorem Kb.drew {g : Nat} {w w' : World} (h : Kb g w w') : Kb g w w'.drew := ⟨h.low.drew, h.others⟩
theorem Bx.kb {g c : Nat} {w w' : World} {W D J S : Int} (h : Bx w c W D J S) (hk : Kb g w w') (hc : c ≠ g) : Bx w' c W D J S := by
  have e : w'.heap[c]? = w.heap[c]? := hk.others c h.1 hc
  exact ⟨Nat.lt_of_lt_of_le h.1 hk.size, (World.cell?_of_block e).trans h.2.1, (World.cell?_of_block e).trans h.2.2.1, (World.cell?_of_block e).trans h.2.2.2.1, (World.cell?_of_block e).trans h.2.2.2.2⟩
theorem Bf.kb {g c : Nat} {w w' : World} {f : Fr} (h : Bf w c f) (hk : Kb g w w') (hc : c ≠ g) : Bf w' c f := (hk.others c h.lt hc).trans h
theorem Rx.kb {lo g : Nat} {w w' : World} {A : Option Addr} {l : List Int} (h : Rx lo g w A l) (hk : Kb g w w') : Rx lo g w' A l := fun hp => by
  obtain ⟨ad, e, hl, hne, hlt, hc⟩ := h hp
  exact ⟨ad, e, hl, hne, Nat.lt_of_lt_of_le hlt hk.size, fun j u hu => (World.cell?_of_block (by rw [block_add]; exact hk.others _ hlt hne)).trans (hc j u hu)⟩
theorem Rd.rx {g : Nat} {w : World} {A : Option Addr} {l : List Int} (h : Rd w A l) (hg : w.heap.size ≤ g) : Rx 0 g w A l := fun hp => by
  obtain ⟨ad, e, hlt, hc⟩ := h hp
  exact ⟨ad, e, Nat.zero_le _, by omega, hlt, hc⟩
/-- A step, where the cells are as many as before. -/
theorem step_n {W D J S : Int} {A : Option Addr} {n c : Nat} {l : List Int} {f : Fr} {w : World} (h : Rd w A l) (hn : l.length = n) (hs : n ≤ 500) (hf : UF f) {l' : List Int} {f' : Fr} (e : pushS W D J S l f = (l', f')) :
    Calls Try.prog 17 #[cf W D J S, .slice A n c, fv f] w fun e w' => ∃ A' c', e = .returned (.tuple #[.slice A' n c', fv f']) ∧ Rn w.heap.size w' A' l' ∧ Below w.heap.size w w' := by
  subst hn
  have h2 := step_any W D J S A c l f w h hs hf
  have hl := pushS_len W D J S l f
  rw [e] at h2 hl
  refine h2.mono ?_
  rintro _ w' ⟨A', c', rfl, h3, h4⟩
  exact ⟨A', c', by rw [show l'.length = l.length from hl], h3, h4⟩
/-- A list, where it is known. -/
theorem list_n {W D J S x : Int} {A : Option Addr} {n c : Nat} {m : List Int} {w : World} (h : Rd w A m) (hn : m.length = n) {o : Option (List Int)} (e : lst W D J S m x = o) {k : Nat} (hk : (o.getD []).length = k) {b : Bool} (hb : o.isSome = b) :
    Calls Try.prog 13 #[cf W D J S, .slice A n c, .int .i64 x] w fun e w' => ∃ A' c', e = .returned (.tuple #[.slice A' k c', .bool b]) ∧ k ≤ c' ∧ Rd w' A' (o.getD []) ∧ Below w.heap.size w w' := by
  subst e hk hb
  exact list_any W D J S x A n c m w h hn
theorem pushN_succ (W D J S : Int) (n : Nat) (s : List Int × Fr) : pushN W D J S (n + 1) s = pushS W D J S (pushN W D J S n s).1 (pushN W D J S n s).2 := rfl
/-- The cells of the chapter's example. -/
def ex0 : List Int := List.replicate 12 0
theorem ex_len (k : Nat) (f : Fr) : (pushN 1 1 1 0 k (ex0, f)).1.length = 12 := pushN_len _ _ _ _ _ _
theorem ex4 : pushN 1 1 1 0 4 (ex0, fbg 0 0 7) = ([0, 0, 0, 0, 0, 0, 0, 0, 0, 1, 0, 7], ⟨0, 0, 0, 7, 0, 0, 1⟩) := by rfl
theorem ex6 : pushN 1 1 1 0 2 ([0, 0, 0, 0, 0, 0, 0, 0, 0, 1, 0, 7], fbg 0 0 8) = ([0, 0, 0, 0, 0, 0, 0, 0, 0, 1, 0, 7], ⟨0, 0, 0, 8, 0, 0, 2⟩) := by rfl
theorem exl : lst 1 1 1 0 [0, 0, 0, 0, 0, 0, 0, 0, 0, 1, 0, 7] 0 = some [7] := by decide +kernel
theorem exg : goes 1 1 1 0 [0, 0, 0, 0, 0, 0, 0, 0, 0, 1, 0, 7] (fbg 0 0 7) 0 4 = true := by rfl
theorem U0 : U 0 := by unfold U; omega
theorem ex_U (k : Nat) : UF (pushN 1 1 1 0 k (ex0, fbg 0 0 7)).2 := (pushN_U (s := (ex0, fbg 0 0 7)) (fun u hu => by rw [List.eq_of_mem_replicate hu]; exact U0) ⟨by unfold U fbg; simp, U0, U0⟩ k).2
theorem ex_U2 (k : Nat) : UF (pushN 1 1 1 0 k ([0, 0, 0, 0, 0, 0, 0, 0, 0, 1, 0, 7], fbg 0 0 8)).2 := (pushN_U (s := ([0, 0, 0, 0, 0, 0, 0, 0, 0, 1, 0, 7], fbg 0 0 8)) (fun u hu => by
  simp only [List.mem_cons, List.not_mem_nil, or_false] at hu
  unfold U
  omega) ⟨by unfold U fbg; simp, U0, U0⟩ k).2
end Go.Proofs.Ytfeccpfkpbminaa
