/- What holds between two steps of a play of the event: which blocks hold what. -/
import Derived.Test.YtgemaeibmgkneaaEvC
import Derived.Test.YtgemaeibmgkneaaEvN
namespace Go.Proofs.Ytgemaeibmgkneaa
open Go.RowKit Go.Deep Go.Shelf
/-- The slice at A reads as the numbers l, in a block below ga, or from z on. -/
def Rw (ga z : Nat) (w : World) (A : Option Addr) (l : List Int) : Prop :=
  0 < l.length → ∃ ad, A = some ad ∧ (ad.block < ga ∨ z ≤ ad.block) ∧ ad.block < w.heap.size ∧ ∀ j u, l[j]? = some u → w.cell? (ad.add j) = some (.int .u64 u)
set_option maxRecDepth 100000 in
theorem Rw.rd {ga z : Nat} {w : World} {A : Option Addr} {l : List Int} (h : Rw ga z w A l) : Rd w A l := fun hp => by
  obtain ⟨ad, e, _, hlt, hc⟩ := h hp
  exact ⟨ad, e, hlt, hc⟩
set_option maxRecDepth 100000 in
theorem Rw.same {ga z : Nat} {w w' : World} {A : Option Addr} {l : List Int} (h : Rw ga z w A l) (hz : w.heap.size ≤ w'.heap.size) (hb : ∀ b o, w.heap[b]? = some o → o.isCells = true → (b < ga ∨ z ≤ b) → (∀ ad, A = some ad → ad.block = b) → w'.heap[b]? = w.heap[b]?) : Rw ga z w' A l := fun hp => by
  obtain ⟨ad, e, hg, hlt, hc⟩ := h hp
  have h0 := hc 0 l[0] (List.getElem?_eq_getElem hp)
  obtain ⟨o, ho, hoc⟩ := cells_of_cell h0
  rw [block_add] at ho
  have hs := hb ad.block o ho hoc hg (fun ad' e' => by rw [e] at e'; cases e'; rfl)
  exact ⟨ad, e, hg, Nat.lt_of_lt_of_le hlt hz, fun j u hu => (World.cell?_of_block (by rw [block_add]; exact hs)).trans (hc j u hu)⟩
set_option maxRecDepth 100000 in
theorem Os.cl {n₀ : Nat} {W W' : World} {base : Nat} {A : Option Addr} {n c : Nat} {vs : List Value} (h : Os W base A n c vs) (hc : Cl n₀ W W') : Os W' base A n c vs := h.kept fun k hk => by
  obtain ⟨o, ho, hoc⟩ := h.cells_own hk
  exact (hc.same _ _ ho hoc).trans ho.symm
set_option maxRecDepth 100000 in
theorem Lr.cl {n n₀ : Nat} {W W' : World} {vs : List Value} {ls : List (List Int)} (h : Lr n W vs ls) (hc : Cl n₀ W W') : Lr n W' vs ls := h.same fun _ _ ⟨_, ho, hoc⟩ => (hc.same _ _ ho hoc).trans ho.symm
/-- Which blocks hold what, between two steps of a play; gf: a block that none of these uses. -/
structure PB (w : World) (C N bc ga bm ba gl bl bb bo bw bn z : Nat) (vw vn : Value) (gf : Nat) (m : List Int) (a over : List Fr) (left : List (List Int)) (W : World) : Prop where
  cb : Bx W bc N 1 1 0
  ab : Boxed W ba 28 (.slice (some ⟨ga, 0, none⟩) N N)
  ar : Ow W ga (some ⟨ga, 0, none⟩) N N a
  lb : Boxed W bl 22 (.slice (some ⟨gl, 0, none⟩) N C)
  lr : ∃ vs, Os W gl (some ⟨gl, 0, none⟩) N C vs ∧ Lr w.heap.size W vs left
  fb : Boxed W bb 52 (.func (.func 44) #[] #[.pointer (some ⟨bl, 0, none⟩)])
  mo : ∃ Am cm Ao co, Boxed W bm 27 (.slice Am m.length cm) ∧ Rw ga z W Am m ∧ Boxed W bo 28 (.slice Ao over.length co) ∧ Ow W z Ao over.length co over ∧ (∀ ad k, Am = some ad → (Value.slice Ao over.length co).ownBlock = some k → ad.block ≠ k) ∧ (∀ ad, Am = some ad → ad.block ≠ gf) ∧ ∀ k, (Value.slice Ao over.length co).ownBlock = some k → k ≠ gf
  tw : Boxed W bw 23 vw
  tn : Boxed W bn 3 vn
  be : Below w.heap.size w W
  zs : z ≤ W.heap.size
/-- The order in which the blocks were made. -/
structure OB (n bc ga bm ba gl bl bb bo bw bn z : Nat) : Prop where
  o1 : n ≤ bc
  o2 : bc < ga
  o3 : ga < bm
  o4 : bm < ba
  o5 : ba < gl
  o6 : gl < bl
  o6b : bl < bb
  o7 : bb < bo
  o8 : bo < bw
  o9 : bw < bn
  oz : bn < z
set_option maxRecDepth 100000 in
theorem pf_sizeE (w : World) (g : Nat) (f : Fr) : (pf w g f).heap.size = w.heap.size := by
  unfold pf; simp
set_option maxRecDepth 100000 in
theorem obA {g n c k : Nat} (e : (Value.slice (some ⟨g, 0, none⟩) n c).ownBlock = some k) : k = g := by
  have : (Value.slice (some ⟨g, 0, none⟩) n c).ownBlock = some g := rfl
  rw [this] at e; cases e; rfl
section
variable {w : World} {C N bc ga bm ba gl bl bb bo bw bn z gf : Nat} {vw vn : Value} {m : List Int} {a over : List Fr} {left : List (List Int)} {W W' : World}
set_option maxRecDepth 100000 in
theorem PB.cl (h : PB w C N bc ga bm ba gl bl bb bo bw bn z vw vn gf m a over left W) (hc : Cl w.heap.size W W') : PB w C N bc ga bm ba gl bl bb bo bw bn z vw vn gf m a over left W' := by
  obtain ⟨vs, h2, h3⟩ := h.lr
  obtain ⟨Am, cm, Ao, co, g1, g2, g3, g4, g6⟩ := h.mo
  refine ⟨h.cb.cl hc, boxed_cl h.ab hc, h.ar.cl hc, boxed_cl h.lb hc, ⟨vs, h2.cl hc, h3.cl hc⟩, boxed_cl h.fb hc, ⟨Am, cm, Ao, co, boxed_cl g1 hc, g2.same hc.size fun b o ho hoc _ _ => ?_, boxed_cl g3 hc, g4.cl hc, g6⟩, boxed_cl h.tw hc, boxed_cl h.tn hc, h.be.trans hc.low, Nat.le_trans h.zs hc.size⟩
  exact (hc.same _ _ ho hoc).trans ho.symm
set_option maxRecDepth 100000 in
theorem PB.below (h : PB w C N bc ga bm ba gl bl bb bo bw bn z vw vn gf m a over left W) (hb : Below W.heap.size W W') : PB w C N bc ga bm ba gl bl bb bo bw bn z vw vn gf m a over left W' := h.cl (Cl.of_below hb h.be.size)
set_option maxRecDepth 100000 in
theorem PB.drew (h : PB w C N bc ga bm ba gl bl bb bo bw bn z vw vn gf m a over left W) : PB w C N bc ga bm ba gl bl bb bo bw bn z vw vn gf m a over left W.drew := h.below (Below.refl _ _).drew
set_option maxRecDepth 100000 in
/-- A block that is not there yet is used by none. -/
theorem PB.fresh (h : PB w C N bc ga bm ba gl bl bb bo bw bn z vw vn gf m a over left W) (hm : 0 < m.length) : PB w C N bc ga bm ba gl bl bb bo bw bn z vw vn W.heap.size m a over left W := by
  obtain ⟨Am, cm, Ao, co, g1, g2, g3, g4, g6, _⟩ := h.mo
  refine ⟨h.cb, h.ab, h.ar, h.lb, h.lr, h.fb, ⟨Am, cm, Ao, co, g1, g2, g3, g4, g6, fun ad e => ?_, fun k e => ?_⟩, h.tw, h.tn, h.be, h.zs⟩
  · obtain ⟨ad', e', _, hlt, _⟩ := g2 hm
    rw [e] at e'; cases e'; omega
  · have := (World.ownsRow.lt g4 _ e).2; omega
set_option maxRecDepth 100000 in
/-- New cells. -/
theorem PB.setM (h : PB w C N bc ga bm ba gl bl bb bo bw bn z vw vn gf m a over left W) (o : OB w.heap.size bc ga bm ba gl bl bb bo bw bn z) (hgf : gf < W.heap.size) (hb : Below W.heap.size W W') {m' : List Int} {A' : Option Addr} {c' : Nat} (hr : Rn W.heap.size W' A' m') (hm : 0 < m'.length) :
    PB w C N bc ga bm ba gl bl bb bo bw bn z vw vn gf m' a over left (W'.setCell ⟨bm, 0, none⟩ (.slice A' m'.length c')) := by
  have h' := h.below hb
  obtain ⟨o1, o2, o3, o4, o5, o6, o6b, o7, o8, o9, oz⟩ := o
  obtain ⟨vs, h2, h3⟩ := h'.lr
  obtain ⟨Am, cm, Ao, co, g1, g2, g3, g4, g6, g7, g8⟩ := h.mo
  have g1' := (hb.block _ g1.lt).trans g1
  have g3' := (hb.block _ g3.lt).trans g3
  have g4' : Ow W' z Ao over.length co over := g4.below hb
  have hs : ∀ k, k ≠ bm → (W'.setCell ⟨bm, 0, none⟩ (.slice A' m'.length c')).heap[k]? = W'.heap[k]? := fun k hk => Below.heap_setCell W' ⟨bm, 0, none⟩ _ k hk
  have hz := h.zs
  refine ⟨h'.cb.stay (hs bc (by omega)) (by simp), (hs ba (by omega)).trans h'.ab, h'.ar.kept fun k hk => hs k (by have := obA hk; omega), (hs bl (by omega)).trans h'.lb, ⟨vs, h2.kept fun k hk => hs k (by have := obA hk; omega), h3.same fun b hlt _ => hs b (by omega)⟩, (hs bb (by omega)).trans h'.fb,
    ⟨A', c', Ao, co, Boxed.set _ g1', fun hp => ?_, (hs bo (by omega)).trans g3', g4'.kept fun k hk => hs k ?_, fun ad k e1 e2 => ?_, fun ad e1 => ?_, g8⟩, (hs bw (by omega)).trans h'.tw, (hs bn (by omega)).trans h'.tn, h'.be.setCell (by simp; omega) _, by simpa using h'.zs⟩
  · obtain ⟨ad, e1, hlo, hlt, hcs⟩ := hr hp
    refine ⟨ad, e1, .inr (by omega), by simpa using hlt, fun j u hu => ?_⟩
    exact (World.cell?_of_block (by rw [block_add]; exact hs _ (by omega))).trans (hcs j u hu)
  · have := (World.ownsRow.lt g4 _ hk).1
    omega
  · obtain ⟨ad', e3, hlo, _⟩ := hr hm
    rw [e1] at e3
    cases e3
    have := (World.ownsRow.lt g4 _ e2).2
    omega
  · obtain ⟨ad', e3, hlo, _⟩ := hr hm
    rw [e1] at e3
    cases e3
    omega
set_option maxRecDepth 100000 in
/-- A call is laid back. -/
theorem PB.setA (h : PB w C N bc ga bm ba gl bl bb bo bw bn z vw vn gf m a over left W) (o : OB w.heap.size bc ga bm ba gl bl bb bo bw bn z) {i : Nat} (hi : i < N) (f : Fr) : PB w C N bc ga bm ba gl bl bb bo bw bn z vw vn gf m (a.set i f) over left (pk7 W ga (i * 7) f) := by
  obtain ⟨o1, o2, o3, o4, o5, o6, o6b, o7, o8, o9, oz⟩ := o
  obtain ⟨vs, h2, h3⟩ := h.lr
  obtain ⟨Am, cm, Ao, co, g1, g2, g3, g4, g6⟩ := h.mo
  have hs : ∀ k, k ≠ ga → (pk7 W ga (i * 7) f).heap[k]? = W.heap[k]? := fun k hk => pk7_other k hk
  have hz := pk7_size W ga (i * 7) f
  have har := h.ar.set hi f
  have hbe := below_pk7 h.be (show w.heap.size ≤ ga by omega) (i * 7) f
  have hzz := h.zs
  generalize pk7 W ga (i * 7) f = W' at hs hz har hbe ⊢
  refine ⟨h.cb.stay (hs bc (by omega)) (by omega), (hs ba (by omega)).trans h.ab, har, (hs bl (by omega)).trans h.lb, ⟨vs, h2.kept fun k hk => hs k (by have := obA hk; omega), h3.same fun b hlt _ => hs b (by omega)⟩, (hs bb (by omega)).trans h.fb,
    ⟨Am, cm, Ao, co, (hs bm (by omega)).trans g1, g2.same (by omega) fun b _ _ _ hg _ => hs b (by omega), (hs bo (by omega)).trans g3, g4.kept fun k hk => hs k ?_, g6⟩, (hs bw (by omega)).trans h.tw, (hs bn (by omega)).trans h.tn, hbe, by rw [hz]; exact h.zs⟩
  have := (World.ownsRow.lt g4 _ hk).1
  omega
set_option maxRecDepth 100000 in
/-- The round's own call is laid into its box. -/
theorem PB.setF (h : PB w C N bc ga bm ba gl bl bb bo bw bn z vw vn gf m a over left W) (o : OB w.heap.size bc ga bm ba gl bl bb bo bw bn z) (hgf : z ≤ gf) (f : Fr) : PB w C N bc ga bm ba gl bl bb bo bw bn z vw vn gf m a over left (pf W gf f) := by
  obtain ⟨o1, o2, o3, o4, o5, o6, o6b, o7, o8, o9, oz⟩ := o
  obtain ⟨vs, h2, h3⟩ := h.lr
  obtain ⟨Am, cm, Ao, co, g1, g2, g3, g4, g6, g7, g8⟩ := h.mo
  have hs : ∀ k, k ≠ gf → (pf W gf f).heap[k]? = W.heap[k]? := fun k hk => pf_other' W gf f hk
  have hz := pf_sizeE W gf f
  have hbe := below_pf h.be (show w.heap.size ≤ gf by omega) f
  have hzz := h.zs
  generalize pf W gf f = W' at hs hz hbe ⊢
  refine ⟨h.cb.stay (hs bc (by omega)) (by omega), (hs ba (by omega)).trans h.ab, h.ar.kept fun k hk => hs k (by have := obA hk; omega), (hs bl (by omega)).trans h.lb, ⟨vs, h2.kept fun k hk => hs k (by have := obA hk; omega), h3.same fun b hlt _ => hs b (by omega)⟩, (hs bb (by omega)).trans h.fb,
    ⟨Am, cm, Ao, co, (hs bm (by omega)).trans g1, fun hp => ?_, (hs bo (by omega)).trans g3, g4.kept fun k hk => hs k (g8 k hk), g6, g7, g8⟩, (hs bw (by omega)).trans h.tw, (hs bn (by omega)).trans h.tn, hbe, by rw [hz]; exact h.zs⟩
  obtain ⟨ad, e, hg, hlt, hc⟩ := g2 hp
  exact ⟨ad, e, hg, by omega, fun j u hu => (World.cell?_of_block (by rw [block_add]; exact hs _ (g7 ad e))).trans (hc j u hu)⟩
set_option maxRecDepth 100000 in
/-- A list's next call begins. -/
theorem PB.setL (h : PB w C N bc ga bm ba gl bl bb bo bw bn z vw vn gf m a over left W) (o : OB w.heap.size bc ga bm ba gl bl bb bo bw bn z) (hk : Kb gl W W') {left' : List (List Int)} (hl : ∃ vs, Os W' gl (some ⟨gl, 0, none⟩) N C vs ∧ Lr w.heap.size W' vs left') : PB w C N bc ga bm ba gl bl bb bo bw bn z vw vn gf m a over left' W' := by
  obtain ⟨o1, o2, o3, o4, o5, o6, o6b, o7, o8, o9, oz⟩ := o
  obtain ⟨Am, cm, Ao, co, g1, g2, g3, g4, g6⟩ := h.mo
  have hz := h.zs
  have hs : ∀ k, k < W.heap.size → k ≠ gl → W'.heap[k]? = W.heap[k]? := hk.others
  have l1 := h.cb.1
  refine ⟨h.cb.stay (hs bc (by omega) (by omega)) hk.size, (hs ba (by omega) (by omega)).trans h.ab, h.ar.kept fun k hk => hs k (World.ownsRow.lt h.ar _ hk).2 (by have := obA hk; omega), (hs bl (by omega) (by omega)).trans h.lb, hl, (hs bb (by omega) (by omega)).trans h.fb,
    ⟨Am, cm, Ao, co, (hs bm (by omega) (by omega)).trans g1, g2.same hk.size fun b o ho _ hg _ => hs b (Array.getElem?_eq_some_iff.1 ho).1 (by omega), (hs bo (by omega) (by omega)).trans g3, g4.kept fun k hk => hs k (World.ownsRow.lt g4 _ hk).2 ?_, g6⟩, (hs bw (by omega) (by omega)).trans h.tw, (hs bn (by omega) (by omega)).trans h.tn, h.be.trans (hk.low.mono (by omega)), Nat.le_trans hz hk.size⟩
  have := (World.ownsRow.lt g4 _ hk).1
  omega
set_option maxRecDepth 100000 in
/-- One more is over. -/
theorem PB.setO (h : PB w C N bc ga bm ba gl bl bb bo bw bn z vw vn gf m a over left W) (o : OB w.heap.size bc ga bm ba gl bl bb bo bw bn z) (hgf : gf < W.heap.size) {Am Ao Ao' : Option Addr} {cm co co' : Nat} (g1 : Boxed W bm 27 (.slice Am m.length cm)) (g2 : Rw ga z W Am m) (g3 : Boxed W bo 28 (.slice Ao over.length co)) (g6 : ∀ ad k, Am = some ad → (Value.slice Ao over.length co).ownBlock = some k → ad.block ≠ k) (g7 : ∀ ad, Am = some ad → ad.block ≠ gf) (g8 : ∀ k, (Value.slice Ao over.length co).ownBlock = some k → k ≠ gf) (hm : 0 < m.length) {W2 : World} {O : Obj} {f : Fr}
    (hown : Ow W2 z Ao' (over.length + 1) co' (over ++ [f])) (hg : (W.alloc O).grownBy W2 (Value.slice Ao over.length co).ownBlock) (hblk : (Value.slice Ao' (over.length + 1) co').ownBlock = (Value.slice Ao over.length co).ownBlock ∨ (Value.slice Ao' (over.length + 1) co').ownBlock = some (W.heap.size + 1)) (hb : Below z W W2) :
    PB w C N bc ga bm ba gl bl bb bo bw bn z vw vn gf m a (over ++ [f]) left (W2.setCell ⟨bo, 0, none⟩ (.slice Ao' (over.length + 1) co')) := by
  obtain ⟨o1, o2, o3, o4, o5, o6, o6b, o7, o8, o9, oz⟩ := o
  obtain ⟨vs, h2, h3⟩ := h.lr
  have hz := h.zs
  have hsz := hb.size
  have hl : (over ++ [f]).length = over.length + 1 := by simp
  have hst : ∀ k, k ≠ bo → (W2.setCell ⟨bo, 0, none⟩ (.slice Ao' (over.length + 1) co')).heap[k]? = W2.heap[k]? := fun k hk => Below.heap_setCell W2 ⟨bo, 0, none⟩ _ k hk
  have hlow : ∀ k, k < z → k ≠ bo → (W2.setCell ⟨bo, 0, none⟩ (.slice Ao' (over.length + 1) co')).heap[k]? = W.heap[k]? := fun k hk hne => (hst k hne).trans (hb.block k hk)
  have hs : ∀ k, k < W.heap.size → k ≠ bo → (Value.slice Ao over.length co).ownBlock ≠ some k → (W2.setCell ⟨bo, 0, none⟩ (.slice Ao' (over.length + 1) co')).heap[k]? = W.heap[k]? := fun k hk hne hno =>
    (hst k hne).trans ((hg.block k (by simp; omega) (fun e => hno e.symm)).trans (Below.heap_alloc W O k hk))
  refine ⟨h.cb.stay (hlow bc (by omega) (by omega)) (by simp; omega), (hlow ba (by omega) (by omega)).trans h.ab, h.ar.kept fun k hk => (by have := obA hk; exact hlow k (by omega) (by omega)), (hlow bl (by omega) (by omega)).trans h.lb, ⟨vs, h2.kept fun k hk => (by have := obA hk; exact hlow k (by omega) (by omega)), h3.same fun b hlt _ => hlow b (by omega) (by omega)⟩, (hlow bb (by omega) (by omega)).trans h.fb,
    ⟨Am, cm, Ao', co', (hlow bm (by omega) (by omega)).trans g1, g2.same (by simp; omega) fun b o ho _ hgz hbA => ?_, ?_, ?_, ?_, g7, ?_⟩, (hlow bw (by omega) (by omega)).trans h.tw, (hlow bn (by omega) (by omega)).trans h.tn, (h.be.trans (hb.mono (by omega))).setCell (by simp; omega) _, by simp; omega⟩
  · have hbl := (Array.getElem?_eq_some_iff.1 ho).1
    refine hs b hbl (by omega) (fun e => ?_)
    obtain ⟨ad, ea, _⟩ := g2 hm
    exact g6 ad b ea e (hbA ad ea)
  · rw [hl]
    exact Boxed.set _ ((hb.block bo (by omega)).trans g3)
  · rw [hl]
    exact hown.kept fun k hk => hst k (by have := (World.ownsRow.lt hown _ hk).1; omega)
  · rw [hl]
    intro ad k e1 e2
    rcases hblk with e | e
    · exact g6 ad k e1 (e ▸ e2)
    · rw [e] at e2
      cases e2
      obtain ⟨ad', e3, _, hlt, _⟩ := g2 hm
      rw [e1] at e3; cases e3
      omega
  · rw [hl]
    intro k e2
    rcases hblk with e | e
    · exact g8 k (e ▸ e2)
    · rw [e] at e2
      cases e2
      omega
end
set_option maxRecDepth 100000 in
theorem frozen_below {n : Nat} {w w' : World} (h : Below n w w') {b j : Nat} (hb : b < n) : w'.frozen? ⟨b, j, none⟩ = w.frozen? ⟨b, j, none⟩ := by
  unfold World.frozen?
  simp only [h.block b hb]
set_option maxRecDepth 100000 in
theorem getD_memE {l : List (List Int)} {i : Nat} (h : i < l.length) : l.getD i [] ∈ l := by
  rw [List.getD_eq_getElem?_getD, List.getElem?_eq_getElem h]; exact List.getElem_mem h
/-- What holds of a play's lists. -/
structure PV (N k : Nat) (s : PE) : Prop where
  ml : s.m.length = (sz N 1 1 0).toNat
  al : s.a.length = N
  ll : s.left.length = N
  um : UM s.m
  uf : ∀ i, UF (s.a.getD i fnE)
  l5 : ∀ l ∈ s.left, l.length ≤ 500
  ol : s.over.length ≤ k
set_option maxRecDepth 100000 in
theorem nxtE_uf {i : Int} (l : List Int) : UF (nxtE i l).1 ∧ (nxtE i l).2.length ≤ l.length := by
  induction l with
  | nil => exact ⟨uf_fnE, by simp [nxtE]⟩
  | cons o r hr =>
    cases e : isEv o
    · rw [nxtE_skip e]
      exact ⟨hr.1, by simp; omega⟩
    · rw [nxtE_take e]
      exact ⟨by unfold UF U fbg; simp, by simp⟩
set_option maxRecDepth 100000 in
theorem PV.beg {N k : Nat} {s : PE} (h : PV N k s) (i : Nat) : PV N k (begE s i) := by
  obtain ⟨h1, h2, h3, h4, h5, h7, h8⟩ := h
  unfold begE
  split
  · have hl5 : (s.left.getD i []).length ≤ 500 := by
      rw [List.getD_eq_getElem?_getD]
      cases e : s.left[i]? with
      | none => simp
      | some l => exact h7 l (List.mem_of_getElem? e)
    obtain ⟨n1, n3⟩ := nxtE_uf (i := (i : Int)) (s.left.getD i [])
    refine ⟨h1, by simp [h2], by simp [h3], h4, uf_set h5 n1 i, fun l hl2 => ?_, h8⟩
    rcases List.mem_or_eq_of_mem_set hl2 with hl2 | rfl
    · exact h7 l hl2
    · omega
  · exact ⟨h1, h2, h3, h4, h5, h7, h8⟩
set_option maxRecDepth 100000 in
theorem PV.step {N k : Nat} {s : PE} (h : PV N k s) (i : Nat) : PV N (k + 1) (stepE N s i) := by
  obtain ⟨h1, h2, h3, h4, h5, h7, h8⟩ := h
  have hU := evS_U (W := N) (D := 1) (J := 1) (S := 0) h4 (h5 i)
  have hl := evS_len N 1 1 0 s.m (s.a.getD i fnE)
  unfold stepE
  split
  · exact ⟨by simp only; omega, by simp [h2], h3, hU.1, uf_set h5 hU.2 i, h7, by simp only; omega⟩
  · exact ⟨by simp only; omega, by simp [h2], h3, hU.1, uf_set h5 uf_fnE i, h7, by simp; omega⟩
set_option maxRecDepth 100000 in
theorem PV.start {calls : List (List Int)} (h5 : ∀ l ∈ calls, l.length ≤ 500) : PV calls.length 0 (startE calls) := by
  refine ⟨by simp [startE], by simp [startE], by simp [startE], ?_, ?_, by simpa [startE] using h5, by simp [startE]⟩
  · intro u hu
    have := List.eq_of_mem_replicate hu
    subst this; unfold U; simp
  · intro i
    unfold startE
    simp only
    rw [List.getD_eq_getElem?_getD, List.getElem?_replicate]
    split <;> exact uf_fnE
set_option maxRecDepth 100000 in
theorem valE_fold {N : Nat} : ∀ (who : List Int) (s : PE), (val (N : Int) who).foldl (playE1 N) s = who.foldl (playE1 N) s
  | [], _ => rfl
  | i :: r, s => by
    unfold val
    rw [List.filter_cons]
    by_cases h : 0 ≤ i ∧ i < (N : Int)
    · rw [if_pos (by simp [h])]
      exact valE_fold r _
    · rw [if_neg (by simpa using h), List.foldl_cons]
      have e : playE1 N s i = s := by unfold playE1; rw [if_neg h]
      rw [e]
      exact valE_fold r s
end Go.Proofs.Ytgemaeibmgkneaa
