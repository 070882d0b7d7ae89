/- What holds between two rounds of a play: which blocks hold what. -/
import Derived.Test.YtppllanmgdhabaaIkN
import Derived.Test.YtppllanmgdhabaaIkB
import Derived.Test.YtppllanmgdhabaaIkH
import Derived.Test.YtppllanmgdhabaaIjX
namespace Go.Proofs.Ytppllanmgdhabaa
open Go.RowKit Go.Deep Go.Shelf
/-- The slice at A reads as the numbers l, in a block below ga, or from z on. -/
def Rw (ga z : Nat) (w : World) (A : Option Addr) (l : List Int) : Prop :=
  0 < l.length → ∃ ad, A = some ad ∧ (ad.block < ga ∨ z ≤ ad.block) ∧ ad.block < w.heap.size ∧ ∀ j u, l[j]? = some u → w.cell? (ad.add j) = some (.int .u64 u)
theorem Rw.rd {ga z : Nat} {w : World} {A : Option Addr} {l : List Int} (h : Rw ga z w A l) : Rd w A l := fun hp => by
  obtain ⟨ad, e, _, hlt, hc⟩ := h hp
  exact ⟨ad, e, hlt, hc⟩
theorem Rw.same {ga z : Nat} {w w' : World} {A : Option Addr} {l : List Int} (h : Rw ga z w A l) (hz : w.heap.size ≤ w'.heap.size) (hb : ∀ b o, w.heap[b]? = some o → o.isCells = true → (b < ga ∨ z ≤ b) → (∀ ad, A = some ad → ad.block = b) → w'.heap[b]? = w.heap[b]?) : Rw ga z w' A l := fun hp => by
  obtain ⟨ad, e, hg, hlt, hc⟩ := h hp
  have h0 := hc 0 l[0] (List.getElem?_eq_getElem hp)
  obtain ⟨o, ho, hoc⟩ := cells_of_cell h0
  rw [block_add] at ho
  have hs := hb ad.block o ho hoc hg (fun ad' e' => by rw [e] at e'; cases e'; rfl)
  exact ⟨ad, e, hg, Nat.lt_of_lt_of_le hlt hz, fun j u hu => (World.cell?_of_block (by rw [block_add]; exact hs)).trans (hc j u hu)⟩
theorem Os.cl {n₀ : Nat} {W W' : World} {base : Nat} {A : Option Addr} {n c : Nat} {vs : List Value} (h : Os W base A n c vs) (hc : Cl n₀ W W') : Os W' base A n c vs := h.kept fun k hk => by
  obtain ⟨o, ho, hoc⟩ := h.cells_own hk
  exact (hc.same _ _ ho hoc).trans ho.symm
theorem Ls.cl {n n₀ : Nat} {W W' : World} {vs : List Value} {ls : List (List Fr)} (h : Ls n W vs ls) (hc : Cl n₀ W W') : Ls n W' vs ls := h.same fun _ _ ⟨_, ho, hoc⟩ => (hc.same _ _ ho hoc).trans ho.symm
/-- Which blocks hold what, between two rounds of a play. -/
structure PB (w : World) (J : Int) (N bc ga bm ba gl bl bo bw bn z : Nat) (vw vn : Value) (m : List Int) (a over : List Fr) (left : List (List Fr)) (W : World) : Prop where
  cb : Bx W bc 1 1 J 0
  ab : Boxed W ba 31 (.slice (some ⟨ga, 0, none⟩) N N)
  ar : Ow W ga (some ⟨ga, 0, none⟩) N N a
  lb : ∃ Al cl, Boxed W bl 29 (.slice Al N cl) ∧ (∀ g, Al = some g → g = ⟨gl, 0, none⟩) ∧ ∃ vs, Os W gl Al N cl vs ∧ Ls w.heap.size W vs left
  mo : ∃ Am cm Ao co, Boxed W bm 25 (.slice Am m.length cm) ∧ Rw ga z W Am m ∧ Boxed W bo 31 (.slice Ao over.length co) ∧ Ow W z Ao over.length co over ∧ ∀ ad k, Am = some ad → (Value.slice Ao over.length co).ownBlock = some k → ad.block ≠ k
  tw : Boxed W bw 30 vw
  tn : Boxed W bn 3 vn
  be : Below w.heap.size w W
  zs : z ≤ W.heap.size
/-- The order in which the blocks were made. -/
structure OB (n bc ga bm ba gl bl bo bw bn z : Nat) : Prop where
  o1 : n ≤ bc
  o2 : bc < ga
  o3 : ga < bm
  o4 : bm < ba
  o5 : ba < gl
  o6 : gl < bl
  o7 : bl < bo
  o8 : bo < bw
  o9 : bw < bn
  oz : bn < z
theorem obl {Al : Option Addr} {gl N cl k : Nat} (h0 : ∀ g, Al = some g → g = ⟨gl, 0, none⟩) (hk : (Value.slice Al N cl).ownBlock = some k) : k = gl := by
  cases Al with
  | none => cases hk
  | some a =>
    have e : (Value.slice (some a) N cl).ownBlock = some a.block := rfl
    rw [e, h0 a rfl] at hk
    cases hk; rfl
section
variable {w : World} {J : Int} {N bc ga bm ba gl bl bo bw bn z : Nat} {vw vn : Value} {m : List Int} {a over : List Fr} {left : List (List Fr)} {W W' : World}
theorem PB.cl (h : PB w J N bc ga bm ba gl bl bo bw bn z vw vn m a over left W) (hc : Cl w.heap.size W W') : PB w J N bc ga bm ba gl bl bo bw bn z vw vn m a over left W' := by
  obtain ⟨Al, cl, h1, h0, vs, h2, h3⟩ := h.lb
  obtain ⟨Am, cm, Ao, co, g1, g2, g3, g4, g6⟩ := h.mo
  refine ⟨h.cb.cl hc, boxed_cl h.ab hc, h.ar.cl hc, ⟨Al, cl, boxed_cl h1 hc, h0, vs, h2.cl hc, h3.cl hc⟩, ⟨Am, cm, Ao, co, boxed_cl g1 hc, g2.same hc.size fun b o ho hoc _ _ => ?_, boxed_cl g3 hc, g4.cl hc, g6⟩, boxed_cl h.tw hc, boxed_cl h.tn hc, h.be.trans hc.low, Nat.le_trans h.zs hc.size⟩
  exact (hc.same _ _ ho hoc).trans ho.symm
theorem PB.below (h : PB w J N bc ga bm ba gl bl bo bw bn z vw vn m a over left W) (hb : Below W.heap.size W W') : PB w J N bc ga bm ba gl bl bo bw bn z vw vn m a over left W' := h.cl (Cl.of_below hb h.be.size)
theorem PB.drew (h : PB w J N bc ga bm ba gl bl bo bw bn z vw vn m a over left W) : PB w J N bc ga bm ba gl bl bo bw bn z vw vn m a over left W.drew := h.below (Below.refl _ _).drew
/-- New cells. -/
theorem PB.setM (h : PB w J N bc ga bm ba gl bl bo bw bn z vw vn m a over left W) (o : OB w.heap.size bc ga bm ba gl bl bo bw bn z) (hb : Below W.heap.size W W') {m' : List Int} {A' : Option Addr} {c' : Nat} (hr : Rn W.heap.size W' A' m') (hm : 0 < m'.length) :
    PB w J N bc ga bm ba gl bl bo bw bn z vw vn m' a over left (W'.setCell ⟨bm, 0, none⟩ (.slice A' m'.length c')) := by
  have h' := h.below hb
  obtain ⟨o1, o2, o3, o4, o5, o6, o7, o8, o9, oz⟩ := o
  obtain ⟨Al, cl, h1, h0, vs, h2, h3⟩ := h'.lb
  obtain ⟨Am, cm, Ao, co, g1, g2, g3, g4, g6⟩ := h.mo
  have g1' := (hb.block _ g1.lt).trans g1
  have g3' := (hb.block _ g3.lt).trans g3
  have g4' : Ow W' z Ao over.length co over := g4.below hb
  have hs : ∀ k, k ≠ bm → (W'.setCell ⟨bm, 0, none⟩ (.slice A' m'.length c')).heap[k]? = W'.heap[k]? := fun k hk => Below.heap_setCell W' ⟨bm, 0, none⟩ _ k hk
  have hz := h.zs
  have ob : ∀ g n c k, (Value.slice (some ⟨g, 0, none⟩) n c).ownBlock = some k → k = g := fun g n c k e => by
    have : (Value.slice (some ⟨g, 0, none⟩) n c).ownBlock = some g := rfl
    rw [this] at e; cases e; rfl
  refine ⟨h'.cb.stay (hs bc (by omega)) (by simp), (hs ba (by omega)).trans h'.ab, h'.ar.kept fun k hk => hs k (by have := ob _ _ _ _ hk; omega), ⟨Al, cl, (hs bl (by omega)).trans h1, h0, vs, h2.kept fun k hk => hs k (by have := obl h0 hk; omega), h3.same fun b hlt _ => hs b (by omega)⟩,
    ⟨A', c', Ao, co, Boxed.set _ g1', fun hp => ?_, (hs bo (by omega)).trans g3', g4'.kept fun k hk => hs k ?_, fun ad k e1 e2 => ?_⟩, (hs bw (by omega)).trans h'.tw, (hs bn (by omega)).trans h'.tn, h'.be.setCell (by simp; omega) _, by simpa using h'.zs⟩
  · obtain ⟨ad, e1, hlo, hlt, hcs⟩ := hr hp
    refine ⟨ad, e1, .inr (by omega), by simpa using hlt, fun j u hu => ?_⟩
    exact (World.cell?_of_block (by rw [block_add]; exact hs _ (by omega))).trans (hcs j u hu)
  · have := (World.ownsRow.lt g4 _ hk).1
    omega
  · obtain ⟨ad', e3, hlo, _⟩ := hr hm
    rw [e1] at e3
    cases e3
    have := (World.ownsRow.lt g4 _ e2).2
    omega
/-- A call is laid back. -/
theorem PB.setA (h : PB w J N bc ga bm ba gl bl bo bw bn z vw vn m a over left W) (o : OB w.heap.size bc ga bm ba gl bl bo bw bn z) {i : Nat} (hi : i < N) (f : Fr) : PB w J N bc ga bm ba gl bl bo bw bn z vw vn m (a.set i f) over left (pk7 W ga (i * 7) f) := by
  obtain ⟨o1, o2, o3, o4, o5, o6, o7, o8, o9, oz⟩ := o
  obtain ⟨Al, cl, h1, h0, vs, h2, h3⟩ := h.lb
  obtain ⟨Am, cm, Ao, co, g1, g2, g3, g4, g6⟩ := h.mo
  have hs : ∀ k, k ≠ ga → (pk7 W ga (i * 7) f).heap[k]? = W.heap[k]? := fun k hk => pk7_other k hk
  have hz := pk7_size W ga (i * 7) f
  have har := h.ar.set hi f
  have hbe := below_pk7 h.be (show w.heap.size ≤ ga by omega) (i * 7) f
  generalize pk7 W ga (i * 7) f = W' at hs hz har hbe ⊢
  have ob : ∀ g n c k, (Value.slice (some ⟨g, 0, none⟩) n c).ownBlock = some k → k = g := fun g n c k e => by
    have : (Value.slice (some ⟨g, 0, none⟩) n c).ownBlock = some g := rfl
    rw [this] at e; cases e; rfl
  refine ⟨h.cb.stay (hs bc (by omega)) (by omega), (hs ba (by omega)).trans h.ab, har, ⟨Al, cl, (hs bl (by omega)).trans h1, h0, vs, h2.kept fun k hk => hs k (by have := obl h0 hk; omega), h3.same fun b hlt _ => hs b (by omega)⟩,
    ⟨Am, cm, Ao, co, (hs bm (by omega)).trans g1, g2.same (by omega) fun b _ _ _ hg _ => hs b (by omega), (hs bo (by omega)).trans g3, g4.kept fun k hk => hs k ?_, g6⟩, (hs bw (by omega)).trans h.tw, (hs bn (by omega)).trans h.tn, hbe, by rw [hz]; exact h.zs⟩
  have := (World.ownsRow.lt g4 _ hk).1
  omega
/-- What one has left is laid back. -/
theorem PB.setL (h : PB w J N bc ga bm ba gl bl bo bw bn z vw vn m a over left W) (o : OB w.heap.size bc ga bm ba gl bl bo bw bn z) {i : Nat} (hi : i < N) {A : Option Addr} {l : List Fr} {c : Nat} (hc : l.length ≤ c) (hp : Pr w.heap.size W A l) :
    PB w J N bc ga bm ba gl bl bo bw bn z vw vn m a over (left.set i l) (W.setCell ⟨gl, i, none⟩ (.slice A l.length c)) := by
  obtain ⟨o1, o2, o3, o4, o5, o6, o7, o8, o9, oz⟩ := o
  obtain ⟨Al, cl, h1, h0, vs, h2, h3⟩ := h.lb
  obtain ⟨Am, cm, Ao, co, g1, g2, g3, g4, g6⟩ := h.mo
  have hs : ∀ k, k ≠ gl → (W.setCell ⟨gl, i, none⟩ (.slice A l.length c)).heap[k]? = W.heap[k]? := fun k hk => Below.heap_setCell W ⟨gl, i, none⟩ _ k hk
  have ob : ∀ g n c k, (Value.slice (some ⟨g, 0, none⟩) n c).ownBlock = some k → k = g := fun g n c k e => by
    have : (Value.slice (some ⟨g, 0, none⟩) n c).ownBlock = some g := rfl
    rw [this] at e; cases e; rfl
  obtain ⟨g0, rfl, _⟩ := h2.at (by omega)
  obtain rfl : gl = g0 := by have := h0 _ rfl; cases this; rfl
  have low : ∀ b, b < w.heap.size → (∃ o, W.heap[b]? = some o ∧ o.isCells = true) → (W.setCell ⟨gl, i, none⟩ (.slice A l.length c)).heap[b]? = W.heap[b]? := fun b hlt _ => hs b (by omega)
  refine ⟨h.cb.stay (hs bc (by omega)) (by simp), (hs ba (by omega)).trans h.ab, h.ar.kept fun k hk => hs k (by have := ob _ _ _ _ hk; omega), ⟨_, cl, (hs bl (by omega)).trans h1, h0, vs.set i (.slice A l.length c), h2.set i _, (h3.same low).set i hc (hp.same low)⟩,
    ⟨Am, cm, Ao, co, (hs bm (by omega)).trans g1, g2.same (by simp) fun b _ _ _ hg _ => hs b (by omega), (hs bo (by omega)).trans g3, g4.kept fun k hk => hs k ?_, g6⟩, (hs bw (by omega)).trans h.tw, (hs bn (by omega)).trans h.tn, h.be.setCell (by simp only; omega) _, by simpa using h.zs⟩
  have := (World.ownsRow.lt g4 _ hk).1
  omega
/-- One more is over. -/
theorem PB.setO (h : PB w J N bc ga bm ba gl bl bo bw bn z vw vn m a over left W) (o : OB w.heap.size bc ga bm ba gl bl bo bw bn z) {Am Ao Ao' : Option Addr} {cm co co' : Nat} (g1 : Boxed W bm 25 (.slice Am m.length cm)) (g2 : Rw ga z W Am m) (g3 : Boxed W bo 31 (.slice Ao over.length co)) (g6 : ∀ ad k, Am = some ad → (Value.slice Ao over.length co).ownBlock = some k → ad.block ≠ k) (hm : 0 < m.length) {W2 : World} {O : Obj} {f : Fr}
    (hown : Ow W2 z Ao' (over.length + 1) co' (over ++ [f])) (hg : (W.alloc O).grownBy W2 (Value.slice Ao over.length co).ownBlock) (hblk : (Value.slice Ao' (over.length + 1) co').ownBlock = (Value.slice Ao over.length co).ownBlock ∨ (Value.slice Ao' (over.length + 1) co').ownBlock = some (W.heap.size + 1)) (hb : Below z W W2) :
    PB w J N bc ga bm ba gl bl bo bw bn z vw vn m a (over ++ [f]) left (W2.setCell ⟨bo, 0, none⟩ (.slice Ao' (over.length + 1) co')) := by
  obtain ⟨o1, o2, o3, o4, o5, o6, o7, o8, o9, oz⟩ := o
  obtain ⟨Al, cl, h1, h0, vs, h2, h3⟩ := h.lb
  have hz := h.zs
  have hsz := hb.size
  have hl : (over ++ [f]).length = over.length + 1 := by simp
  have hst : ∀ k, k ≠ bo → (W2.setCell ⟨bo, 0, none⟩ (.slice Ao' (over.length + 1) co')).heap[k]? = W2.heap[k]? := fun k hk => Below.heap_setCell W2 ⟨bo, 0, none⟩ _ k hk
  have hlow : ∀ k, k < z → k ≠ bo → (W2.setCell ⟨bo, 0, none⟩ (.slice Ao' (over.length + 1) co')).heap[k]? = W.heap[k]? := fun k hk hne => (hst k hne).trans (hb.block k hk)
  have hs : ∀ k, k < W.heap.size → k ≠ bo → (Value.slice Ao over.length co).ownBlock ≠ some k → (W2.setCell ⟨bo, 0, none⟩ (.slice Ao' (over.length + 1) co')).heap[k]? = W.heap[k]? := fun k hk hne hno =>
    (hst k hne).trans ((hg.block k (by simp; omega) (fun e => hno e.symm)).trans (Below.heap_alloc W O k hk))
  have ob : ∀ g n c k, (Value.slice (some ⟨g, 0, none⟩) n c).ownBlock = some k → k = g := fun g n c k e => by
    have : (Value.slice (some ⟨g, 0, none⟩) n c).ownBlock = some g := rfl
    rw [this] at e; cases e; rfl
  refine ⟨h.cb.stay (hlow bc (by omega) (by omega)) (by simp; omega), (hlow ba (by omega) (by omega)).trans h.ab, h.ar.kept fun k hk => (by have := ob _ _ _ _ hk; exact hlow k (by omega) (by omega)), ⟨Al, cl, (hlow bl (by omega) (by omega)).trans h1, h0, vs, h2.kept fun k hk => (by have := obl h0 hk; exact hlow k (by omega) (by omega)), h3.same fun b hlt _ => hlow b (by omega) (by omega)⟩,
    ⟨Am, cm, Ao', co', (hlow bm (by omega) (by omega)).trans g1, g2.same (by simp; omega) fun b o ho _ hgz hbA => ?_, ?_, ?_, ?_⟩, (hlow bw (by omega) (by omega)).trans h.tw, (hlow bn (by omega) (by omega)).trans h.tn, (h.be.trans (hb.mono (by omega))).setCell (by simp; omega) _, by simp; omega⟩
  · have hbl := (Array.getElem?_eq_some_iff.1 ho).1
    refine hs b hbl (by omega) (fun e => ?_)
    obtain ⟨ad, ea, _⟩ := g2 hm
    exact g6 ad b ea e (hbA ad ea)
  · rw [hl]
    exact Boxed.set _ ((hb.block bo (by omega)).trans g3)
  · rw [hl]
    exact hown.kept fun k hk => hst k (by have := (World.ownsRow.lt hown _ hk).1; omega)
  · rw [hl]
    intro ad k e1 e2
    rcases hblk with e | e
    · exact g6 ad k e1 (e ▸ e2)
    · rw [e] at e2
      cases e2
      obtain ⟨ad', e3, _, hlt, _⟩ := g2 hm
      rw [e1] at e3; cases e3
      omega
end
section
variable {w : World} {J : Int} {N bc ga bm ba gl bl bo bw bn z : Nat} {vw vn : Value} {m : List Int} {a over : List Fr} {left : List (List Fr)} {W : World}
/-- What one has left, as it lies in memory. -/
theorem PB.leftAt (h : PB w J N bc ga bm ba gl bl bo bw bn z vw vn m a over left W) {i : Nat} (hi : i < N) (hl : left.length = N) :
    ∃ cl Ai ci, W.cell? ⟨bl, 0, none⟩ = some (.slice (some ⟨gl, 0, none⟩) N cl) ∧ W.cell? ⟨gl, i, none⟩ = some (.slice Ai (left.getD i []).length ci) ∧ (left.getD i []).length ≤ ci ∧ Pr w.heap.size W Ai (left.getD i []) ∧ gl < W.heap.size ∧ ∀ j, W.frozen? ⟨gl, j, none⟩ = false := by
  obtain ⟨Al, cl, h1, h0, vs, h2, h3⟩ := h.lb
  obtain ⟨g0, rfl, _, hlt, hc⟩ := h2.at (by omega)
  obtain rfl : gl = g0 := by have := h0 _ rfl; cases this; rfl
  have hg : left[i]? = some (left.getD i []) := by rw [List.getD_eq_getElem?_getD, List.getElem?_eq_getElem (by omega)]; rfl
  obtain ⟨Ai, ci, k1, k2, k3⟩ := h3.at_ i _ hg
  exact ⟨cl, Ai, ci, h1.cell, hc _ _ k1, k2, k3, hlt, h2.free⟩
end
theorem getD_memL {l : List (List Fr)} {i : Nat} (h : i < l.length) : l.getD i [] ∈ l := by
  rw [List.getD_eq_getElem?_getD, List.getElem?_eq_getElem h]; exact List.getElem_mem h
theorem frozen_below {n : Nat} {w w' : World} (h : Below n w w') {b j : Nat} (hb : b < n) : w'.frozen? ⟨b, j, none⟩ = w.frozen? ⟨b, j, none⟩ := by
  unfold World.frozen?
  simp only [h.block b hb]
/-- All blocks below z stay, but those of l. -/
structure Ke (l : List Nat) (z : Nat) (W x : World) : Prop where
  size : W.heap.size ≤ x.heap.size
  same : ∀ k, k < z → k ∉ l → x.heap[k]? = W.heap[k]?
theorem Ke.refl (l : List Nat) (z : Nat) (W : World) : Ke l z W W := ⟨Nat.le_refl _, fun _ _ _ => rfl⟩
section
variable {S : World → Prop} {l : List Nat} {z : Nat} {W x x' : World}
theorem ke_drew (K : ∀ x, Ke l z W x → S x) (G : ∀ x, S x → Ke l z W x) (h : S x) : S x.drew := K _ ⟨(G _ h).size, (G _ h).same⟩
theorem ke_call (K : ∀ x, Ke l z W x → S x) (G : ∀ x, S x → Ke l z W x) (hz : z ≤ W.heap.size) (hb : Below x.heap.size x x') (h : S x) : S x' :=
  K _ ⟨Nat.le_trans (G _ h).size hb.size, fun k hk hne => (hb.block k (Nat.lt_of_lt_of_le (Nat.lt_of_lt_of_le hk hz) (G _ h).size)).trans ((G _ h).same k hk hne)⟩
theorem ke_alloc (K : ∀ x, Ke l z W x → S x) (G : ∀ x, S x → Ke l z W x) (hz : z ≤ W.heap.size) (o : Obj) (h : S x) : S (x.alloc o) := ke_call K G hz (bel_alloc x o) h
theorem ke_set (K : ∀ x, Ke l z W x → S x) (G : ∀ x, S x → Ke l z W x) {b : Nat} (hb : b ∈ l) (i : Nat) (v : Value) (h : S x) : S (x.setCell ⟨b, i, none⟩ v) :=
  K _ ⟨by simpa using (G _ h).size, fun k hk hne => (Below.heap_setCell x ⟨b, i, none⟩ v k (fun e => hne (by rw [e]; exact hb))).trans ((G _ h).same k hk hne)⟩
theorem ke_pk7 (K : ∀ x, Ke l z W x → S x) (G : ∀ x, S x → Ke l z W x) {g : Nat} (hg : g ∈ l) (k : Nat) (f : Fr) (h : S x) : S (pk7 x g k f) :=
  K _ ⟨by rw [pk7_size]; exact (G _ h).size, fun j hk hne => (pk7_other j (fun e => hne (by rw [e]; exact hg))).trans ((G _ h).same j hk hne)⟩
theorem ke_low (K : ∀ x, Ke l z W x → S x) (G : ∀ x, S x → Ke l z W x) (hb : Below z x x') (h : S x) : S x' :=
  K _ ⟨Nat.le_trans (G _ h).size hb.size, fun k hk hne => (hb.block k hk).trans ((G _ h).same k hk hne)⟩
end
/-- What holds of a play's lists. -/
structure PV (J : Int) (N k : Nat) (s : PI) : Prop where
  ml : s.m.length = (sz 1 1 J 0).toNat
  al : s.a.length = N
  ll : s.left.length = N
  um : UM s.m
  uf : ∀ i, UF (s.a.getD i fno)
  ul : ∀ l ∈ s.left, ∀ f ∈ l, UF f
  l5 : ∀ l ∈ s.left, l.length ≤ 500
  ol : s.over.length ≤ k
theorem nxtI_uf {i : Int} {l : List Fr} (h : ∀ f ∈ l, UF f) : UF (nxtI i l).1 ∧ (∀ f ∈ (nxtI i l).2, UF f) ∧ (nxtI i l).2.length ≤ l.length := by
  induction l with
  | nil => exact ⟨uf_fno, by simp [nxtI], by simp [nxtI]⟩
  | cons f r ih =>
    have hr := ih (fun g hg => h g (by simp [hg]))
    have hf := h f (by simp)
    by_cases e : f.op = 3 ∨ f.op = 4
    · have e2 : nxtI i (f :: r) = (fbg f.op i f.val, r) := by show (if _ then _ else _) = _; rw [if_pos e]
      rw [e2]
      refine ⟨?_, fun g hg => h g (by simp [hg]), by simp⟩
      unfold UF U fbg at *
      simp only at *
      omega
    · have e2 : nxtI i (f :: r) = nxtI i r := by show (if _ then _ else _) = _; rw [if_neg e]
      rw [e2]
      exact ⟨hr.1, hr.2.1, by simp; omega⟩
theorem PV.beg {J : Int} {N k : Nat} {s : PI} (h : PV J N k s) (i : Nat) : PV J N k (begI s i) := by
  obtain ⟨h1, h2, h3, h4, h5, h6, h7, h8⟩ := h
  unfold begI
  split
  · have hl : ∀ f ∈ s.left.getD i [], UF f := fun f hf => by
      rw [List.getD_eq_getElem?_getD] at hf
      cases e : s.left[i]? with
      | none => rw [e] at hf; simp at hf
      | some l => rw [e] at hf; exact h6 l (List.mem_of_getElem? e) f hf
    have hl5 : (s.left.getD i []).length ≤ 500 := by
      rw [List.getD_eq_getElem?_getD]
      cases e : s.left[i]? with
      | none => simp
      | some l => exact h7 l (List.mem_of_getElem? e)
    obtain ⟨n1, n2, n3⟩ := nxtI_uf (i := (i : Int)) hl
    refine ⟨h1, by simp [h2], by simp [h3], h4, uf_set h5 n1 i, fun l hl2 => ?_, fun l hl2 => ?_, h8⟩
    · rcases List.mem_or_eq_of_mem_set hl2 with hl2 | rfl
      · exact h6 l hl2
      · exact n2
    · rcases List.mem_or_eq_of_mem_set hl2 with hl2 | rfl
      · exact h7 l hl2
      · omega
  · exact ⟨h1, h2, h3, h4, h5, h6, h7, h8⟩
theorem PV.step {J : Int} {N k : Nat} {s : PI} (h : PV J N k s) (i : Nat) : PV J N (k + 1) (stepI J s i) := by
  obtain ⟨h1, h2, h3, h4, h5, h6, h7, h8⟩ := h
  have hU := insS_U (W := 1) (D := 1) (J := J) (S := 0) h4 (h5 i)
  have hl := insS_len 1 1 J 0 s.m (s.a.getD i fno)
  unfold stepI
  split
  · exact ⟨by simp only; omega, by simp [h2], h3, hU.1, uf_set h5 hU.2 i, h6, h7, by simp only; omega⟩
  · exact ⟨by simp only; omega, by simp [h2], h3, hU.1, uf_set h5 uf_fno i, h6, h7, by simp; omega⟩
theorem PV.start {J : Int} {calls : List (List Fr)} (hu : ∀ l ∈ calls, ∀ f ∈ l, UF f) (h5 : ∀ l ∈ calls, l.length ≤ 500) : PV J calls.length 0 (startI J calls) := by
  refine ⟨by simp [startI], by simp [startI], by simp [startI], ?_, ?_, by simpa [startI] using hu, by simpa [startI] using h5, by simp [startI]⟩
  · intro u hu
    have := List.eq_of_mem_replicate hu
    subst this; unfold U; simp
  · intro i
    unfold startI
    simp only
    rw [List.getD_eq_getElem?_getD, List.getElem?_replicate]
    split <;> exact uf_fno
theorem valI_fold {J : Int} {N : Nat} : ∀ (who : List Int) (s : PI), (val (N : Int) who).foldl (playI1 J N) s = who.foldl (playI1 J N) s
  | [], _ => rfl
  | i :: r, s => by
    unfold val
    rw [List.filter_cons]
    by_cases h : 0 ≤ i ∧ i < (N : Int)
    · rw [if_pos (by simp [h])]
      exact valI_fold r _
    · rw [if_neg (by simpa using h), List.foldl_cons]
      have e : playI1 J N s i = s := by unfold playI1; rw [if_neg h]
      rw [e]
      exact valI_fold r s
end Go.Proofs.Ytppllanmgdhabaa
