/- What holds between two rounds of a play: which blocks hold what. -/
import Derived.Test.YtpeaahihjeplmaaDeK
import Derived.Test.YtpeaahihjeplmaaDeB
namespace Go.Proofs.Ytpeaahihjeplmaa
open Go.RowKit Go.Deep Go.Shelf
/-- The slice at A reads as the numbers l, in a block that is neither q nor one from ga up to z. -/
def Rw (ga z q : Nat) (w : World) (A : Option Addr) (l : List Int) : Prop :=
  0 < l.length → ∃ ad, A = some ad ∧ (ad.block < ga ∨ z ≤ ad.block) ∧ ad.block ≠ q ∧ ad.block < w.heap.size ∧ ∀ j u, l[j]? = some u → w.cell? (ad.add j) = some (.int .u64 u)
theorem Rw.rd {ga z q : Nat} {w : World} {A : Option Addr} {l : List Int} (h : Rw ga z q w A l) : Rd w A l := fun hp => by
  obtain ⟨ad, e, _, _, hlt, hc⟩ := h hp
  exact ⟨ad, e, hlt, hc⟩
theorem Rw.same {ga z q : Nat} {w w' : World} {A : Option Addr} {l : List Int} (h : Rw ga z q w A l) (hz : w.heap.size ≤ w'.heap.size) (hb : ∀ b o, w.heap[b]? = some o → o.isCells = true → (b < ga ∨ z ≤ b) → b ≠ q → (∀ ad, A = some ad → ad.block = b) → w'.heap[b]? = w.heap[b]?) : Rw ga z q w' A l := fun hp => by
  obtain ⟨ad, e, hg, hq, hlt, hc⟩ := h hp
  have h0 := hc 0 l[0] (List.getElem?_eq_getElem hp)
  obtain ⟨o, ho, hoc⟩ := cells_of_cell h0
  rw [block_add] at ho
  have hs := hb ad.block o ho hoc hg hq (fun ad' e' => by rw [e] at e'; cases e'; rfl)
  exact ⟨ad, e, hg, hq, Nat.lt_of_lt_of_le hlt hz, fun j u hu => (World.cell?_of_block (by rw [block_add]; exact hs)).trans (hc j u hu)⟩
theorem Bx.cl {n₀ : Nat} {W W' : World} {g : Nat} {a b c d : Int} (h : Bx W g a b c d) (hc : Cl n₀ W W') : Bx W' g a b c d := by
  obtain ⟨h1, h2, h3, h4, h5⟩ := h
  obtain ⟨o, ho, hoc⟩ := cells_of_cell h2
  have e : W'.heap[g]? = W.heap[g]? := (hc.same _ _ ho hoc).trans ho.symm
  exact ⟨Nat.lt_of_lt_of_le h1 hc.size, (World.cell?_of_block e).trans h2, (World.cell?_of_block e).trans h3, (World.cell?_of_block e).trans h4, (World.cell?_of_block e).trans h5⟩
theorem Ow.cells_own {w : World} {base : Nat} {A : Option Addr} {n c : Nat} {l : List Fr} (h : Ow w base A n c l) {k : Nat} (hk : (Value.slice A n c).ownBlock = some k) : ∃ o, w.heap[k]? = some o ∧ o.isCells = true := by
  rcases h.2 with ⟨hv, _⟩ | ⟨g, cap, cur, hv, _, hg, _⟩
  · rw [hv] at hk; cases hk
  · rw [hv] at hk
    have : k = g := by
      have h2 : (Value.slice (some ⟨g, 0, none⟩) n cap).ownBlock = some g := rfl
      rw [h2] at hk; cases hk; rfl
    subst this
    exact ⟨_, hg, rfl⟩
theorem Ow.cl {n₀ : Nat} {W W' : World} {base : Nat} {A : Option Addr} {n c : Nat} {l : List Fr} (h : Ow W base A n c l) (hc : Cl n₀ W W') : Ow W' base A n c l := h.kept fun k hk => by
  obtain ⟨o, ho, hoc⟩ := h.cells_own hk
  exact (hc.same _ _ ho hoc).trans ho.symm
/-- Which blocks hold what, between two rounds of a play (and within one: q is the box of the call whose turn it is). -/
structure PB (w : World) (D : Int) (N bc ga bm ba bl bf bo z q : Nat) (m : List Int) (a over left : List Fr) (W : World) : Prop where
  cb : Bx W bc 1 D 1 0
  ab : Boxed W ba 29 (.slice (some ⟨ga, 0, none⟩) N N)
  ar : Ow W ga (some ⟨ga, 0, none⟩) N N a
  fb : Boxed W bf 60 (.func (.func 71) #[] #[.pointer (some ⟨bl, 0, none⟩)])
  lb : ∃ A c, Boxed W bl 29 (.slice A left.length c) ∧ left.length ≤ c ∧ Pr w.heap.size W A left
  mo : ∃ Am cm Ao co, Boxed W bm 25 (.slice Am m.length cm) ∧ Rw ga z q W Am m ∧ Boxed W bo 29 (.slice Ao over.length co) ∧ Ow W z Ao over.length co over ∧ (Value.slice Ao over.length co).ownBlock ≠ some q ∧ ∀ ad k, Am = some ad → (Value.slice Ao over.length co).ownBlock = some k → ad.block ≠ k
  be : Below w.heap.size w W
  zs : z ≤ W.heap.size
section
variable {w : World} {D : Int} {N bc ga bm ba bl bf bo z q : Nat} {m : List Int} {a over left : List Fr} {W W' : World}
theorem PB.cl (h : PB w D N bc ga bm ba bl bf bo z q m a over left W) (hc : Cl w.heap.size W W') : PB w D N bc ga bm ba bl bf bo z q m a over left W' := by
  obtain ⟨Al, cl, h1, h2, h3⟩ := h.lb
  obtain ⟨Am, cm, Ao, co, g1, g2, g3, g4, g5, g6⟩ := h.mo
  refine ⟨h.cb.cl hc, boxed_cl h.ab hc, h.ar.cl hc, boxed_cl h.fb hc, ⟨Al, cl, boxed_cl h1 hc, h2, h3.same fun b _ ho => ?_⟩, ⟨Am, cm, Ao, co, boxed_cl g1 hc, g2.same hc.size fun b o ho hoc _ _ _ => ?_, boxed_cl g3 hc, g4.cl hc, g5, g6⟩, h.be.trans hc.low, Nat.le_trans h.zs hc.size⟩
  · obtain ⟨o, ho, hoc⟩ := ho
    exact (hc.same _ _ ho hoc).trans ho.symm
  · exact (hc.same _ _ ho hoc).trans ho.symm
theorem PB.below (h : PB w D N bc ga bm ba bl bf bo z q m a over left W) (hb : Below W.heap.size W W') : PB w D N bc ga bm ba bl bf bo z q m a over left W' := h.cl (Cl.of_below hb h.be.size)
theorem PB.fresh (h : PB w D N bc ga bm ba bl bf bo z q m a over left W) : PB w D N bc ga bm ba bl bf bo z W.heap.size m a over left W := by
  obtain ⟨Am, cm, Ao, co, g1, g2, g3, g4, g5, g6⟩ := h.mo
  refine ⟨h.cb, h.ab, h.ar, h.fb, h.lb, ⟨Am, cm, Ao, co, g1, fun hp => ?_, g3, g4, fun e => ?_, g6⟩, h.be, h.zs⟩
  · obtain ⟨ad, e, h1, _, h3, h4⟩ := g2 hp
    exact ⟨ad, e, h1, by omega, h3, h4⟩
  · have := (World.ownsRow.lt g4 _ e).2
    omega
end
/-- The order in which the blocks were made. -/
structure OB (n bc ga bm ba bl bf bo z q : Nat) : Prop where
  o1 : n ≤ bc
  o2 : bc < ga
  o3 : ga < bm
  o4 : bm < ba
  o5 : ba < bl
  o6 : bl < bf
  o7 : bf < bo
  o8 : bo < z
  o9 : z ≤ q
section
variable {w : World} {D : Int} {N bc ga bm ba bl bf bo z q : Nat} {m : List Int} {a over left : List Fr} {W W' : World}
/-- What happens at block q does not matter. -/
theorem PB.atq (h : PB w D N bc ga bm ba bl bf bo z q m a over left W) (o : OB w.heap.size bc ga bm ba bl bf bo z q) (hq : ∀ k, k ≠ q → W'.heap[k]? = W.heap[k]?) (hz : W'.heap.size = W.heap.size) (hb : Below w.heap.size W W') : PB w D N bc ga bm ba bl bf bo z q m a over left W' := by
  obtain ⟨o1, o2, o3, o4, o5, o6, o7, o8, o9⟩ := o
  obtain ⟨Al, cl, h1, h2, h3⟩ := h.lb
  obtain ⟨Am, cm, Ao, co, g1, g2, g3, g4, g5, g6⟩ := h.mo
  have hc : ∀ k, k ≠ q → W'.heap[k]? = W.heap[k]? := hq
  have e : W'.heap[bc]? = W.heap[bc]? := hc bc (by omega)
  refine ⟨?_, (hc ba (by omega)).trans h.ab, h.ar.kept fun k hk => hc k ?_, (hc bf (by omega)).trans h.fb, ⟨Al, cl, (hc bl (by omega)).trans h1, h2, h3.same fun b hlt _ => hc b (by omega)⟩,
    ⟨Am, cm, Ao, co, (hc bm (by omega)).trans g1, g2.same (by omega) fun b _ _ _ _ hbq _ => hc b hbq, (hc bo (by omega)).trans g3, g4.kept fun k hk => hc k ?_, g5, g6⟩, h.be.trans hb, by rw [hz]; exact h.zs⟩
  · obtain ⟨e1, e2, e3, e4, e5⟩ := h.cb
    exact ⟨by rw [hz]; exact e1, (World.cell?_of_block e).trans e2, (World.cell?_of_block e).trans e3, (World.cell?_of_block e).trans e4, (World.cell?_of_block e).trans e5⟩
  · have : (Value.slice (some ⟨ga, 0, none⟩) N N).ownBlock = some ga := rfl
    rw [this] at hk; cases hk; omega
  · intro e; rw [e] at hk; exact g5 hk
/-- The call in the box. -/
theorem PB.pf (h : PB w D N bc ga bm ba bl bf bo z q m a over left W) (o : OB w.heap.size bc ga bm ba bl bf bo z q) (f : Fr) : PB w D N bc ga bm ba bl bf bo z q m a over left (Go.Proofs.Ytpeaahihjeplmaa.pf W q f) :=
  h.atq o (fun k hk => pf_other' _ _ _ hk) (by unfold Go.Proofs.Ytpeaahihjeplmaa.pf; simp) (below_pf (Below.refl _ _) (by have := o.o9; have := o.o8; have := o.o7; have := o.o6; have := o.o5; have := o.o4; have := o.o3; have := o.o2; have := o.o1; omega) _)
/-- New cells. -/
theorem PB.setM (h : PB w D N bc ga bm ba bl bf bo z q m a over left W) (o : OB w.heap.size bc ga bm ba bl bf bo z q) (hq : q < W.heap.size) (hb : Below W.heap.size W W') {m' : List Int} {A' : Option Addr} {c' : Nat} (hr : Rn W.heap.size W' A' m') (hm : 0 < m'.length) :
    PB w D N bc ga bm ba bl bf bo z q m' a over left (W'.setCell ⟨bm, 0, none⟩ (.slice A' m'.length c')) := by
  have h' := h.below hb
  obtain ⟨o1, o2, o3, o4, o5, o6, o7, o8, o9⟩ := o
  obtain ⟨Al, cl, h1, h2, h3⟩ := h'.lb
  obtain ⟨Am, cm, Ao, co, g1, g2, g3, g4, g5, g6⟩ := h.mo
  have g1' := (hb.block _ g1.lt).trans g1
  have g3' := (hb.block _ g3.lt).trans g3
  have g4' : Ow W' z Ao over.length co over := g4.below hb
  have hs : ∀ k, k ≠ bm → (W'.setCell ⟨bm, 0, none⟩ (.slice A' m'.length c')).heap[k]? = W'.heap[k]? := fun k hk => Below.heap_setCell W' ⟨bm, 0, none⟩ _ k hk
  have hz := h.zs
  have e : (W'.setCell ⟨bm, 0, none⟩ (.slice A' m'.length c')).heap[bc]? = W'.heap[bc]? := hs bc (by omega)
  refine ⟨?_, (hs ba (by omega)).trans h'.ab, h'.ar.kept fun k hk => hs k ?_, (hs bf (by omega)).trans h'.fb, ⟨Al, cl, (hs bl (by omega)).trans h1, h2, h3.same fun b hlt _ => hs b (by omega)⟩,
    ⟨A', c', Ao, co, Boxed.set _ g1', fun hp => ?_, (hs bo (by omega)).trans g3', g4'.kept fun k hk => hs k ?_, g5, fun ad k e1 e2 => ?_⟩, h'.be.setCell (by simp; omega) _, by simpa using h'.zs⟩
  · obtain ⟨e1, e2, e3, e4, e5⟩ := h'.cb
    exact ⟨by simpa using e1, (World.cell?_of_block e).trans e2, (World.cell?_of_block e).trans e3, (World.cell?_of_block e).trans e4, (World.cell?_of_block e).trans e5⟩
  · have : (Value.slice (some ⟨ga, 0, none⟩) N N).ownBlock = some ga := rfl
    rw [this] at hk; cases hk; omega
  · obtain ⟨ad, e1, hlo, hlt, hcs⟩ := hr hp
    refine ⟨ad, e1, .inr (by omega), by omega, by simpa using hlt, fun j u hu => ?_⟩
    exact (World.cell?_of_block (by rw [block_add]; exact hs _ (by omega))).trans (hcs j u hu)
  · have := (World.ownsRow.lt g4 _ hk).1
    omega
  · obtain ⟨ad', e3, hlo, _⟩ := hr hm
    rw [e1] at e3
    cases e3
    have := (World.ownsRow.lt g4 _ e2).2
    omega
/-- The call is laid back. -/
theorem PB.setA (h : PB w D N bc ga bm ba bl bf bo z q m a over left W) (o : OB w.heap.size bc ga bm ba bl bf bo z q) {i : Nat} (hi : i < N) (f : Fr) : PB w D N bc ga bm ba bl bf bo z q m (a.set i f) over left (pk7 W ga (i * 7) f) := by
  obtain ⟨o1, o2, o3, o4, o5, o6, o7, o8, o9⟩ := o
  obtain ⟨Al, cl, h1, h2, h3⟩ := h.lb
  obtain ⟨Am, cm, Ao, co, g1, g2, g3, g4, g5, g6⟩ := h.mo
  have hs : ∀ k, k ≠ ga → (pk7 W ga (i * 7) f).heap[k]? = W.heap[k]? := fun k hk => pk7_other k hk
  have hz := pk7_size W ga (i * 7) f
  have har := h.ar.set hi f
  have hbe := below_pk7 h.be (show w.heap.size ≤ ga by omega) (i * 7) f
  generalize pk7 W ga (i * 7) f = W' at hs hz har hbe ⊢
  have e : W'.heap[bc]? = W.heap[bc]? := hs bc (by omega)
  refine ⟨?_, (hs ba (by omega)).trans h.ab, har, (hs bf (by omega)).trans h.fb, ⟨Al, cl, (hs bl (by omega)).trans h1, h2, h3.same fun b hlt _ => hs b (by omega)⟩,
    ⟨Am, cm, Ao, co, (hs bm (by omega)).trans g1, g2.same (by omega) fun b _ _ _ hg _ _ => hs b (by omega), (hs bo (by omega)).trans g3, g4.kept fun k hk => hs k ?_, g5, g6⟩, hbe, by rw [hz]; exact h.zs⟩
  · obtain ⟨e1, e2, e3, e4, e5⟩ := h.cb
    exact ⟨by rw [hz]; exact e1, (World.cell?_of_block e).trans e2, (World.cell?_of_block e).trans e3, (World.cell?_of_block e).trans e4, (World.cell?_of_block e).trans e5⟩
  · have := (World.ownsRow.lt g4 _ hk).1
    omega
/-- The owner's next call has begun. -/
theorem PB.nx (h : PB w D N bc ga bm ba bl bf bo z q m a over left W) (o : OB w.heap.size bc ga bm ba bl bf bo z q) (hk : Kb bl W W') {l' : List Fr} {A' : Option Addr} {c' : Nat} (h1 : Boxed W' bl 29 (.slice A' l'.length c')) (h2 : l'.length ≤ c') (h3 : Pr w.heap.size W' A' l') :
    PB w D N bc ga bm ba bl bf bo z q m a over l' W' := by
  obtain ⟨o1, o2, o3, o4, o5, o6, o7, o8, o9⟩ := o
  obtain ⟨Am, cm, Ao, co, g1, g2, g3, g4, g5, g6⟩ := h.mo
  have hs : ∀ k, k < W.heap.size → k ≠ bl → W'.heap[k]? = W.heap[k]? := hk.others
  have hz := h.zs
  have hsz := hk.size
  have e : W'.heap[bc]? = W.heap[bc]? := hs bc (by omega) (by omega)
  refine ⟨?_, (hs ba (by omega) (by omega)).trans h.ab, h.ar.kept fun k hk => hs k ?_ ?_, (hs bf (by omega) (by omega)).trans h.fb, ⟨A', c', h1, h2, h3⟩,
    ⟨Am, cm, Ao, co, (hs bm (by omega) (by omega)).trans g1, g2.same hsz fun b o ho _ hg _ _ => hs b (Array.getElem?_eq_some_iff.1 ho).1 (by omega), (hs bo (by omega) (by omega)).trans g3, g4.kept fun k hk => hs k ?_ ?_, g5, g6⟩, h.be.trans (hk.low.mono (by omega)), Nat.le_trans hz hsz⟩
  · obtain ⟨e1, e2, e3, e4, e5⟩ := h.cb
    exact ⟨by omega, (World.cell?_of_block e).trans e2, (World.cell?_of_block e).trans e3, (World.cell?_of_block e).trans e4, (World.cell?_of_block e).trans e5⟩
  · have : (Value.slice (some ⟨ga, 0, none⟩) N N).ownBlock = some ga := rfl
    rw [this] at hk; cases hk; omega
  · have : (Value.slice (some ⟨ga, 0, none⟩) N N).ownBlock = some ga := rfl
    rw [this] at hk; cases hk; omega
  · exact (World.ownsRow.lt g4 _ hk).2
  · have := (World.ownsRow.lt g4 _ hk).1
    omega
/-- One more is over. -/
theorem PB.setO (h : PB w D N bc ga bm ba bl bf bo z q m a over left W) (o : OB w.heap.size bc ga bm ba bl bf bo z q) (hq : q < W.heap.size) {Am Ao Ao' : Option Addr} {cm co co' : Nat} (g1 : Boxed W bm 25 (.slice Am m.length cm)) (g2 : Rw ga z q W Am m) (g3 : Boxed W bo 29 (.slice Ao over.length co)) (g5 : (Value.slice Ao over.length co).ownBlock ≠ some q) (g6 : ∀ ad k, Am = some ad → (Value.slice Ao over.length co).ownBlock = some k → ad.block ≠ k) (hm : 0 < m.length) {W2 : World} {O : Obj} {f : Fr}
    (hown : Ow W2 z Ao' (over.length + 1) co' (over ++ [f])) (hg : (W.alloc O).grownBy W2 (Value.slice Ao over.length co).ownBlock) (hblk : (Value.slice Ao' (over.length + 1) co').ownBlock = (Value.slice Ao over.length co).ownBlock ∨ (Value.slice Ao' (over.length + 1) co').ownBlock = some (W.heap.size + 1)) (hb : Below z W W2) :
    PB w D N bc ga bm ba bl bf bo z q m a (over ++ [f]) left (W2.setCell ⟨bo, 0, none⟩ (.slice Ao' (over.length + 1) co')) := by
  obtain ⟨o1, o2, o3, o4, o5, o6, o7, o8, o9⟩ := o
  obtain ⟨Al, cl, h1, h2, h3⟩ := h.lb
  have hz := h.zs
  have hsz := hb.size
  have hl : (over ++ [f]).length = over.length + 1 := by simp
  have hst : ∀ k, k ≠ bo → (W2.setCell ⟨bo, 0, none⟩ (.slice Ao' (over.length + 1) co')).heap[k]? = W2.heap[k]? := fun k hk => Below.heap_setCell W2 ⟨bo, 0, none⟩ _ k hk
  have hlow : ∀ k, k < z → k ≠ bo → (W2.setCell ⟨bo, 0, none⟩ (.slice Ao' (over.length + 1) co')).heap[k]? = W.heap[k]? := fun k hk hne => (hst k hne).trans (hb.block k hk)
  have hs : ∀ k, k < W.heap.size → k ≠ bo → (Value.slice Ao over.length co).ownBlock ≠ some k → (W2.setCell ⟨bo, 0, none⟩ (.slice Ao' (over.length + 1) co')).heap[k]? = W.heap[k]? := fun k hk hne hno =>
    (hst k hne).trans ((hg.block k (by simp; omega) (fun e => hno e.symm)).trans (Below.heap_alloc W O k hk))
  have e : (W2.setCell ⟨bo, 0, none⟩ (.slice Ao' (over.length + 1) co')).heap[bc]? = W.heap[bc]? := hlow bc (by omega) (by omega)
  refine ⟨?_, (hlow ba (by omega) (by omega)).trans h.ab, h.ar.kept fun k hk => hlow k ?_ ?_, (hlow bf (by omega) (by omega)).trans h.fb, ⟨Al, cl, (hlow bl (by omega) (by omega)).trans h1, h2, h3.same fun b hlt _ => hlow b (by omega) (by omega)⟩,
    ⟨Am, cm, Ao', co', (hlow bm (by omega) (by omega)).trans g1, g2.same (by simp; omega) fun b o ho _ hgz _ hbA => ?_, ?_, ?_, ?_, ?_⟩, (h.be.trans (hb.mono (by omega))).setCell (by simp; omega) _, by simp; omega⟩
  · obtain ⟨e1, e2, e3, e4, e5⟩ := h.cb
    exact ⟨by simp; omega, (World.cell?_of_block e).trans e2, (World.cell?_of_block e).trans e3, (World.cell?_of_block e).trans e4, (World.cell?_of_block e).trans e5⟩
  · have : (Value.slice (some ⟨ga, 0, none⟩) N N).ownBlock = some ga := rfl
    rw [this] at hk; cases hk; omega
  · have : (Value.slice (some ⟨ga, 0, none⟩) N N).ownBlock = some ga := rfl
    rw [this] at hk; cases hk; omega
  · have hbl := (Array.getElem?_eq_some_iff.1 ho).1
    refine hs b hbl (by omega) (fun e => ?_)
    obtain ⟨ad, ea, _⟩ := g2 hm
    exact g6 ad b ea e (hbA ad ea)
  · rw [hl]
    exact Boxed.set _ ((hb.block bo (by omega)).trans g3)
  · rw [hl]
    exact hown.kept fun k hk => hst k (by have := (World.ownsRow.lt hown _ hk).1; omega)
  · rw [hl]
    rcases hblk with e | e
    · rw [e]; exact g5
    · rw [e]; intro e2; cases e2; omega
  · rw [hl]
    intro ad k e1 e2
    rcases hblk with e | e
    · exact g6 ad k e1 (e ▸ e2)
    · rw [e] at e2
      cases e2
      obtain ⟨ad', e3, _, _, hlt, _⟩ := g2 hm
      rw [e1] at e3; cases e3
      omega
end
/-- An append whose run is known, inside a fence. -/
theorem wpListIn_append_fr {F : Fence} {n : Nat} {P : Program} {w : World} {ops : Array Oper} {rest : List Oper} {o : Oper} {a : Act} {Q : Exit → Act → World → Prop} {t u : TypeId} {v xv v' : Value} {w' : World}
    (hrun : (Builtin.append_ #[t, t] u #[v, xv]).run P w = .ok v' w')
    (ho : ∃ s x, o.op = .call { callee := .builtin .append, args := #[s, x], argTypes := #[t, t] } ∧ a.eval s = v ∧ a.eval x = xv) (hu : o.type = u) (hg : o.guard = none)
    (h : wpListIn F n P ops Q rest (a.put o.dst v') w') : wpListIn F n P ops Q (o :: rest) a w := by
  obtain ⟨s, x, hop, hs, hx⟩ := ho
  subst hu
  refine wpListIn_plain hg fun K hK' => ?_
  unfold Oper.wpIn
  refine ⟨?_, ?_⟩
  · simp [Oper.about, hop, resolve, Target.leads, Sem.run_pure]
  · rw [Oper.semAt_plain F _ _ (by rw [hop]; intro c hc'; cases hc')]
    simp [execOp, hop, resolve, invoke, builtin, hs, hx, hrun, Result.andThen]
    exact hK' _ _ h
/-- A turn: the call f1 does its step. -/
def turn (D : Int) (s : PS) (i : Nat) (f1 : Fr) (x : Nat) : PS :=
  if (deqS 1 D 1 0 s.m f1).2.res = 0 then ⟨(deqS 1 D 1 0 s.m f1).1, s.a.set i (deqS 1 D 1 0 s.m f1).2, s.over, x⟩
  else ⟨(deqS 1 D 1 0 s.m f1).1, s.a.set i fno, s.over ++ [{ (deqS 1 D 1 0 s.m f1).2 with who := i }], x⟩
theorem turn_go {D th : Int} {own : List Fr} {s : PS} {i : Nat} (hi : (i : Int) ≤ th) (h : ¬ (s.a.getD i fno).op < 0) : play1 D th own s i = turn D s i (s.a.getD i fno) s.nx := by
  unfold play1
  rw [if_pos ⟨by omega, hi⟩, Int.toNat_natCast]
  unfold beg
  rw [if_neg h]
  rfl
theorem turn_set {D : Int} {s : PS} {i : Nat} (hl : i < s.a.length) (f1 : Fr) (x : Nat) : stepAt 1 D 1 0 ⟨s.m, s.a.set i f1, s.over, x⟩ i = turn D s i f1 x := by
  unfold stepAt turn
  simp only
  rw [getD_set_eq hl, List.set_set, List.set_set]
theorem turn_thief {D th : Int} {own : List Fr} {s : PS} {i : Nat} (hi : (i : Int) ≤ th) (hl : i < s.a.length) (h : (s.a.getD i fno).op < 0) (h0 : 0 < i) : play1 D th own s i = turn D s i (fbg 2 0 0) s.nx := by
  unfold play1
  rw [if_pos ⟨by omega, hi⟩, Int.toNat_natCast, ← turn_set hl]
  unfold beg
  rw [if_pos h, if_pos h0]
theorem turn_own {D th : Int} {own : List Fr} {s : PS} (hi : (0 : Int) ≤ th) (hl : 0 < s.a.length) (h : (s.a.getD 0 fno).op < 0) : play1 D th own s 0 = turn D s 0 (nxt (own.drop s.nx) s.nx).1 (nxt (own.drop s.nx) s.nx).2 := by
  unfold play1
  rw [if_pos ⟨by omega, hi⟩]
  change stepAt 1 D 1 0 (beg own s 0) 0 = _
  rw [← turn_set hl]
  unfold beg
  rw [if_pos h, if_neg (by omega)]
theorem Ow.c7 {w : World} {base g n c : Nat} {l : List Fr} (h : Ow w base (some ⟨g, 0, none⟩) n c l) {i : Nat} (hi : i < n) : C7 w g (i * 7) (l.getD i fno) := by
  have hl := h.len
  obtain ⟨g0, hA0, _, _, hcs⟩ := h.at (by omega)
  cases hA0
  refine C7.of fun j v hv => ?_
  have hj : j < 7 := by have := (List.getElem?_eq_some_iff.1 hv).1; simpa [pc] using this
  have hg : l[i]? = some (l.getD i fno) := by rw [List.getD_eq_getElem?_getD, List.getElem?_eq_getElem (by omega)]; rfl
  exact hcs _ _ ((flat_get l i _ hg j hj).trans hv)
theorem keeps_pf (w : World) (g : Nat) (f : Fr) : KeepsOthers w (pf w g f) :=
  ((((((KeepsOthers.setCell w _ _).trans (KeepsOthers.setCell _ _ _)).trans (KeepsOthers.setCell _ _ _)).trans (KeepsOthers.setCell _ _ _)).trans (KeepsOthers.setCell _ _ _)).trans (KeepsOthers.setCell _ _ _)).trans (KeepsOthers.setCell _ _ _)
theorem Bf.wWho {w : World} {g : Nat} {f : Fr} (h : Bf w g f) (z : Int) : Bf (w.setCell ⟨g, 2, none⟩ (.int .i64 z)) g { f with who := z } := by
  unfold Bf at h ⊢
  simp [World.setCell, Array.getElem?_modify, h]
theorem keeps_kb {W W' : World} {bl ty : Nat} {v : Value} (h : Kb bl W W') (hb : Boxed W bl ty v) : KeepsOthers W W' := ⟨h.size, fun k o hk ho => by
  have hne : k ≠ bl := fun e => by
    rw [e] at hk
    have h2 : W.heap[bl]? = _ := hb
    rw [h2] at hk
    cases hk
    cases ho
  exact (h.others k (Array.getElem?_eq_some_iff.1 hk).1 hne).trans hk⟩
theorem val_fold {D : Int} {t : Nat} {own : List Fr} : ∀ (who : List Int) (s : PS), (val ((t : Int) + 1) who).foldl (play1 D t own) s = who.foldl (play1 D t own) s
  | [], _ => rfl
  | i :: r, s => by
    unfold val
    rw [List.filter_cons]
    by_cases h : 0 ≤ i ∧ i < (t : Int) + 1
    · rw [if_pos (by simp [h])]
      exact val_fold r _
    · rw [if_neg (by simpa using h), List.foldl_cons]
      have e : play1 D t own s i = s := by unfold play1; rw [if_neg (by omega)]
      rw [e]
      exact val_fold r s
theorem rd_cl {n₀ : Nat} {w w' : World} {A : Option Addr} {l : List Int} (h : Rd w A l) (hc : Cl n₀ w w') : Rd w' A l := fun hp => by
  obtain ⟨ad, e, hlt, hh⟩ := h hp
  have h0 := hh 0 l[0] (List.getElem?_eq_getElem hp)
  obtain ⟨o, ho, hoc⟩ := cells_of_cell h0
  rw [block_add] at ho
  have hsame : w'.heap[ad.block]? = w.heap[ad.block]? := (hc.same _ _ ho hoc).trans ho.symm
  exact ⟨ad, e, Nat.lt_of_lt_of_le hlt hc.size, fun j u hu => (World.cell?_of_block (by rw [block_add]; exact hsame)).trans (hh j u hu)⟩
theorem ow_cap {w : World} {base : Nat} {A : Option Addr} {n c : Nat} {l : List Fr} (h : Ow w base A n c l) : n ≤ c := by
  rcases h.2 with ⟨hv, hx⟩ | ⟨g, cap, cur, hv, _, _, hnc, _⟩
  · omega
  · injection hv with _ _ hc
    omega
/-- What holds of a play's lists. -/
structure PV (D : Int) (t k : Nat) (s : PS) : Prop where
  ml : s.m.length = (sz 1 D 1 0).toNat
  al : s.a.length = t + 1
  um : UM s.m
  uf : ∀ i, UF (s.a.getD i fno)
  op : ∀ i, -1 ≤ (s.a.getD i fno).op
  ol : s.over.length ≤ k
theorem uf_fno : UF fno := by unfold UF U fno; simp
theorem uf_set {a : List Fr} (h : ∀ i, UF (a.getD i fno)) {f : Fr} (hf : UF f) (j : Nat) : ∀ i, UF ((a.set j f).getD i fno) := by
  intro i
  by_cases e : j = i
  · subst e
    rcases Nat.lt_or_ge j a.length with hl | hl
    · rw [getD_set_eq hl]; exact hf
    · rw [List.set_eq_of_length_le (by omega)]; exact h j
  · rw [getD_set_ne e]; exact h i
theorem op_set {a : List Fr} (h : ∀ i, -1 ≤ (a.getD i fno).op) {f : Fr} (hf : -1 ≤ f.op) (j : Nat) : ∀ i, -1 ≤ ((a.set j f).getD i fno).op := by
  intro i
  by_cases e : j = i
  · subst e
    rcases Nat.lt_or_ge j a.length with hl | hl
    · rw [getD_set_eq hl]; exact hf
    · rw [List.set_eq_of_length_le (by omega)]; exact h j
  · rw [getD_set_ne e]; exact h i
theorem PV.turn {D : Int} {t k : Nat} {s : PS} (h : PV D t k s) (i : Nat) {f1 : Fr} (hf : UF f1) (ho : -1 ≤ f1.op) (x : Nat) : PV D t (k + 1) (turn D s i f1 x) := by
  obtain ⟨h1, h2, h3, h4, h5, h6⟩ := h
  have hU := deqS_U (W := 1) (D := D) (J := 1) (S := 0) h3 hf
  have hl := deqS_len 1 D 1 0 s.m f1
  have hop := deqS_op 1 D 1 0 s.m f1
  unfold Go.Proofs.Ytpeaahihjeplmaa.turn
  split
  · exact ⟨by simp only; omega, by simp [h2], hU.1, uf_set h4 hU.2 i, op_set h5 (by rw [hop]; exact ho) i, by simp only; omega⟩
  · exact ⟨by simp only; omega, by simp [h2], hU.1, uf_set h4 uf_fno i, op_set h5 (by decide) i, by simp; omega⟩
theorem nxt_uf {own : List Fr} (h : ∀ f ∈ own, UF f) : ∀ k, UF (nxt own k).1 ∧ -1 ≤ (nxt own k).1.op := by
  induction own with
  | nil => intro k; exact ⟨uf_fno, by simp [nxt, fno]⟩
  | cons f r ih =>
    intro k
    unfold nxt
    split
    · rename_i ho
      have hu := h f (by simp)
      unfold UF U at hu ⊢
      simp only [fbg]
      exact ⟨⟨hu.1, by simp, by simp⟩, by omega⟩
    · exact ih (fun g hg => h g (by simp [hg])) _
theorem PV.start {D : Int} (t : Nat) (_hm : may 1 D 1 0 = true) : PV D t 0 (start D t) := by
  refine ⟨by simp [Go.Proofs.Ytpeaahihjeplmaa.start], by simp [Go.Proofs.Ytpeaahihjeplmaa.start], ?_, ?_, ?_, by simp [Go.Proofs.Ytpeaahihjeplmaa.start]⟩
  · intro u hu
    have := List.eq_of_mem_replicate hu
    subst this; unfold U; simp
  · intro i
    unfold Go.Proofs.Ytpeaahihjeplmaa.start
    simp only
    rw [List.getD_eq_getElem?_getD, List.getElem?_replicate]
    split <;> exact uf_fno
  · intro i
    unfold Go.Proofs.Ytpeaahihjeplmaa.start
    simp only
    rw [List.getD_eq_getElem?_getD, List.getElem?_replicate]
    split <;> (simp [fno])
end Go.Proofs.Ytpeaahihjeplmaa
