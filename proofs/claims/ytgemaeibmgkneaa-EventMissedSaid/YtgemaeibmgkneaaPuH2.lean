/- Merged: PuH, PuI, PuJ, PuK. -/
import Derived.Test.YtgemaeibmgkneaaPuG
import Derived.Test.YtgemaeibmgkneaaPuF
import Derived.Deep.CutRange
import Derived.Deep.DeepCutAuto
import Derived.IntWalk
import Derived.Test.YtgemaeibmgkneaaLaC
import Derived.Lib.SmallJoins
namespace Go.Proofs.Ytgemaeibmgkneaa
open Go.RowKit Go.Deep

end Go.Proofs.Ytgemaeibmgkneaa
namespace Go.Proofs.Ytgemaeibmgkneaa
open Go.RowKit Go.Deep
set_option maxRecDepth 100000 in
theorem ow_ok {W D J S : Int} {m : List Int} {w : Int} (h : okw W D J S m w = true) (k : Int) : ow W D J S w k = bg D J w + k := by
  obtain ⟨a, _, c, d⟩ := okw_iff.1 h
  unfold ow
  rw [a, wi_true.2 ⟨c, by omega⟩]; rfl
set_option maxRecDepth 100000 in
theorem sl_ok {W D J S : Int} {m : List Int} {w : Int} (h : okw W D J S m w = true) (x : Int) : sl W D J S w x = sI D J w x := by
  obtain ⟨a, _, c, d⟩ := okw_iff.1 h
  unfold sl sI
  rw [a, wi_true.2 ⟨c, by omega⟩]; rfl
set_option maxRecDepth 100000 in
theorem RetS.of {w : World} {l l' : List Int} {f f' : Fr} {P : Program} {F : FuncId} {args : Array Value} (h : Calls P F args w (RetS w l f)) (e : (l, f) = (l', f')) : Calls P F args w (RetS w l' f') := by
  injection e with e1 e2
  rw [← e1, ← e2]; exact h
end Go.Proofs.Ytgemaeibmgkneaa
namespace Go.Proofs.Ytgemaeibmgkneaa
open Go.RowKit Go.Deep
/-- What a call that tells a list leaves: the list, in memory that may be read, and whether there is one. -/
def RetL (w : World) (o : Option (List Int)) (e : Ending) (w' : World) : Prop :=
  ∃ A c, e = .returned (.tuple #[.slice A (o.getD []).length c, .bool o.isSome]) ∧ (o.getD []).length ≤ c ∧ Rd w' A (o.getD []) ∧ Below w.heap.size w w'
set_option maxRecDepth 100000 in
theorem Own.after {w w' : World} {base : Nat} {A : Option Addr} {n c : Nat} {l : List Int} (h : Own w base A n c l) (hb : Below w.heap.size w w') : Own w' base A n c l := by
  refine ⟨h.1, ?_⟩
  rcases h.2 with h2 | ⟨g, cap, cur, hv, hb0, hg, hr⟩
  · exact .inl h2
  · exact .inr ⟨g, cap, cur, hv, hb0, (hb.block g (Array.getElem?_eq_some_iff.1 hg).1).trans hg, hr⟩
set_option maxRecDepth 100000 in
theorem Own.nil (w : World) (base : Nat) : Own w base none 0 0 [] := World.ownsRow_nil _ _ _ _
set_option maxRecDepth 100000 in
theorem Own.cap {w : World} {base : Nat} {A : Option Addr} {n c : Nat} {l : List Int} (h : Own w base A n c l) : n ≤ c := by
  rcases h.2 with ⟨hv, hx⟩ | ⟨g, cap, cur, hv, hb, hg, hn, _⟩
  · omega
  · injection hv with _ _ hc
    rw [hc]; exact hn
/-- The first numbers of a deque, from T on. -/
def lN (D J : Int) (m : List Int) (x T : Int) (j : Nat) : List Int := (List.range j).map fun i : Nat => at0 m (sI D J x (T + i))
set_option maxRecDepth 100000 in
theorem lN_len (D J : Int) (m : List Int) (x T : Int) (j : Nat) : (lN D J m x T j).length = j := by simp [lN]
set_option maxRecDepth 100000 in
theorem lN_succ (D J : Int) (m : List Int) (x T : Int) (j : Nat) : lN D J m x T (j + 1) = lN D J m x T j ++ [at0 m (sI D J x (T + j))] := by simp [lN, List.range_succ]
set_option maxRecDepth 100000 in
theorem lst_yes {W D J S : Int} {m : List Int} {x : Int} (hk : okw W D J S m x = true) {j : Nat} (hf : far (at0 m (bg D J x + 1)) (at0 m (bg D J x)) = j) (hj : (j : Int) ≤ D) : lst W D J S m x = some (lN D J m x (at0 m (bg D J x)) j) := by
  unfold lst lN
  rw [if_pos ⟨hk, by rw [hf]; omega, by rw [hf]; exact hj⟩, hf]; rfl
set_option maxRecDepth 100000 in
theorem lst_no {W D J S : Int} {m : List Int} {x : Int} (h : okw W D J S m x = true → far (at0 m (bg D J x + 1)) (at0 m (bg D J x)) < 0 ∨ D < far (at0 m (bg D J x + 1)) (at0 m (bg D J x))) : lst W D J S m x = none := by
  unfold lst
  rw [if_neg]
  rintro ⟨h1, h2, h3⟩
  have := h h1
  omega
end Go.Proofs.Ytgemaeibmgkneaa
namespace Go.Proofs.Ytgemaeibmgkneaa
open Go.RowKit Go.Deep
/-- All blocks but block g stay. -/
structure Kb (g : Nat) (w w' : World) : Prop where
  low : Below g w w'
  others : ∀ b, b < w.heap.size → b ≠ g → w'.heap[b]? = w.heap[b]?
set_option maxRecDepth 100000 in
theorem Kb.refl (g : Nat) (w : World) : Kb g w w := ⟨Below.refl _ _, fun _ _ _ => rfl⟩
set_option maxRecDepth 100000 in
theorem Kb.size {g : Nat} {w w' : World} (h : Kb g w w') : w.heap.size ≤ w'.heap.size := h.low.size
set_option maxRecDepth 100000 in
theorem Kb.call {g : Nat} {w w1 w2 : World} (h : Kb g w w1) (hg : g < w.heap.size) (hb : Below w1.heap.size w1 w2) : Kb g w w2 :=
  ⟨h.low.trans (hb.mono (Nat.le_trans (Nat.le_of_lt hg) h.size)), fun b h1 h2 => (hb.block b (Nat.lt_of_lt_of_le h1 h.size)).trans (h.others b h1 h2)⟩
set_option maxRecDepth 100000 in
theorem Kb.set {g : Nat} {w w1 : World} (h : Kb g w w1) (k : Nat) (v : Value) : Kb g w (w1.setCell ⟨g, k, none⟩ v) :=
  ⟨h.low.setCell (Nat.le_refl _) _, fun b h1 h2 => (Below.heap_setCell w1 ⟨g, k, none⟩ v b h2).trans (h.others b h1 h2)⟩
set_option maxRecDepth 100000 in
theorem Kb.pf {g : Nat} {w w1 : World} (h : Kb g w w1) (f : Fr) : Kb g w (pf w1 g f) :=
  ((((((h.set 0 _).set 1 _).set 2 _).set 3 _).set 4 _).set 5 _).set 6 _
set_option maxRecDepth 100000 in
theorem Kb.drew {g : Nat} {w w' : World} (h : Kb g w w') : Kb g w w'.drew := ⟨h.low.drew, h.others⟩
set_option maxRecDepth 100000 in
theorem Bx.kb {g c : Nat} {w w' : World} {W D J S : Int} (h : Bx w c W D J S) (hk : Kb g w w') (hc : c ≠ g) : Bx w' c W D J S := by
  have e : w'.heap[c]? = w.heap[c]? := hk.others c h.1 hc
  exact ⟨Nat.lt_of_lt_of_le h.1 hk.size, (World.cell?_of_block e).trans h.2.1, (World.cell?_of_block e).trans h.2.2.1, (World.cell?_of_block e).trans h.2.2.2.1, (World.cell?_of_block e).trans h.2.2.2.2⟩
set_option maxRecDepth 100000 in
theorem Bf.kb {g c : Nat} {w w' : World} {f : Fr} (h : Bf w c f) (hk : Kb g w w') (hc : c ≠ g) : Bf w' c f := (hk.others c h.lt hc).trans h
set_option maxRecDepth 100000 in
theorem Rx.kb {lo g : Nat} {w w' : World} {A : Option Addr} {l : List Int} (h : Rx lo g w A l) (hk : Kb g w w') : Rx lo g w' A l := fun hp => by
  obtain ⟨ad, e, hl, hne, hlt, hc⟩ := h hp
  exact ⟨ad, e, hl, hne, Nat.lt_of_lt_of_le hlt hk.size, fun j u hu => (World.cell?_of_block (by rw [block_add]; exact hk.others _ hlt hne)).trans (hc j u hu)⟩
set_option maxRecDepth 100000 in
theorem Rd.rx {g : Nat} {w : World} {A : Option Addr} {l : List Int} (h : Rd w A l) (hg : w.heap.size ≤ g) : Rx 0 g w A l := fun hp => by
  obtain ⟨ad, e, hlt, hc⟩ := h hp
  exact ⟨ad, e, Nat.zero_le _, by omega, hlt, hc⟩
set_option maxRecDepth 100000 in
theorem pushN_succ (W D J S : Int) (n : Nat) (s : List Int × Fr) : pushN W D J S (n + 1) s = pushS W D J S (pushN W D J S n s).1 (pushN W D J S n s).2 := rfl
/-- The cells of the chapter's example. -/
def ex0 : List Int := List.replicate 12 0
set_option maxRecDepth 100000 in
theorem ex_len (k : Nat) (f : Fr) : (pushN 1 1 1 0 k (ex0, f)).1.length = 12 := pushN_len _ _ _ _ _ _
set_option maxRecDepth 100000 in
theorem ex4 : pushN 1 1 1 0 4 (ex0, fbg 0 0 7) = ([0, 0, 0, 0, 0, 0, 0, 0, 0, 1, 0, 7], ⟨0, 0, 0, 7, 0, 0, 1⟩) := by rfl
set_option maxRecDepth 100000 in
theorem ex6 : pushN 1 1 1 0 2 ([0, 0, 0, 0, 0, 0, 0, 0, 0, 1, 0, 7], fbg 0 0 8) = ([0, 0, 0, 0, 0, 0, 0, 0, 0, 1, 0, 7], ⟨0, 0, 0, 8, 0, 0, 2⟩) := by rfl
set_option maxRecDepth 100000 in
theorem exl : lst 1 1 1 0 [0, 0, 0, 0, 0, 0, 0, 0, 0, 1, 0, 7] 0 = some [7] := by decide +kernel
set_option maxRecDepth 100000 in
theorem exg : goes 1 1 1 0 [0, 0, 0, 0, 0, 0, 0, 0, 0, 1, 0, 7] (fbg 0 0 7) 0 4 = true := by rfl
set_option maxRecDepth 100000 in
theorem U0 : U 0 := by unfold U; omega
set_option maxRecDepth 100000 in
theorem ex_U (k : Nat) : UF (pushN 1 1 1 0 k (ex0, fbg 0 0 7)).2 := (pushN_U (s := (ex0, fbg 0 0 7)) (fun u hu => by rw [List.eq_of_mem_replicate hu]; exact U0) ⟨by unfold U fbg; simp, U0, U0⟩ k).2
set_option maxRecDepth 100000 in
theorem ex_U2 (k : Nat) : UF (pushN 1 1 1 0 k ([0, 0, 0, 0, 0, 0, 0, 0, 0, 1, 0, 7], fbg 0 0 8)).2 := (pushN_U (s := ([0, 0, 0, 0, 0, 0, 0, 0, 0, 1, 0, 7], fbg 0 0 8)) (fun u hu => by
  simp only [List.mem_cons, List.not_mem_nil, or_false] at hu
  unfold U
  omega) ⟨by unfold U fbg; simp, U0, U0⟩ k).2
end Go.Proofs.Ytgemaeibmgkneaa
