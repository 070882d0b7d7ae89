/- What holds between two steps of a rest: which blocks hold what; and who steps, on lists. -/
import Derived.Test.YtpeaahihjeplmaaDeM
import Derived.Test.YtpeaahihjeplmaaDeW
namespace Go.Proofs.Ytpeaahihjeplmaa
open Go.RowKit Go.Deep Go.Shelf
/-- One step of one who is at rest. -/
def stR (D : Int) (s : List Int × List Fr) (i : Int) : List Int × List Fr :=
  ((deqS 1 D 1 0 s.1 (s.2.getD i.toNat fno)).1, s.2.set i.toNat (deqS 1 D 1 0 s.1 (s.2.getD i.toNat fno)).2)
theorem runs_fold {D : Int} {i : Nat} : ∀ (n : Nat) (s : List Int × List Fr), i < s.2.length → (runs (stR D) Prod.snd i n s).foldl (stR D) s = ((restOne 1 D 1 0 n s.1 (s.2.getD i fno)).1, s.2.set i (restOne 1 D 1 0 n s.1 (s.2.getD i fno)).2) := by
  have same : ∀ s : List Int × List Fr, i < s.2.length → s = (s.1, s.2.set i (s.2.getD i fno)) := fun s hi => by
    have : s.2.set i (s.2.getD i fno) = s.2 := by
      apply List.ext_getElem?
      intro j
      rw [List.getElem?_set]
      split
      · rename_i e; subst e
        rw [List.getD_eq_getElem?_getD, List.getElem?_eq_getElem hi]; rfl
      · rfl
    rw [this]
  intro n
  induction n with
  | zero => intro s hi; exact same s hi
  | succ n ih =>
    intro s hi
    unfold runs restOne
    by_cases h : (s.2.getD i fno).op = -1 ∨ (s.2.getD i fno).res ≠ 0
    · rw [if_pos (by simpa [ends] using h), if_pos h]
      exact same s hi
    · rw [if_neg (by simpa [ends] using h), if_neg h, List.foldl_cons]
      have hi2 : i < (stR D s (i : Int)).2.length := by unfold stR; simpa using hi
      rw [ih _ hi2]
      have e1 : (stR D s (i : Int)).2.getD i fno = (deqS 1 D 1 0 s.1 (s.2.getD i fno)).2 := by unfold stR; simp only [Int.toNat_natCast]; exact getD_set_eq hi _ _
      rw [e1]
      unfold stR
      simp only [Int.toNat_natCast, List.set_set]
theorem runsL_fold {D : Int} : ∀ (k i : Nat) (s : List Int × List Fr), i + k = s.2.length → (runsL (stR D) Prod.snd i k s).foldl (stR D) s = ((restL 1 D 1 0 s.1 (s.2.drop i)).1, s.2.take i ++ (restL 1 D 1 0 s.1 (s.2.drop i)).2)
  | 0, i, s, h => by
    rw [List.drop_eq_nil_of_le (by omega), List.take_of_length_le (by omega)]
    simp [runsL, restL]
  | k + 1, i, s, h => by
    have hi : i < s.2.length := by omega
    unfold runsL
    rw [List.foldl_append]
    have e := runs_fold (D := D) (i := i) 20 s hi
    have hl : i + 1 + k = ((runs (stR D) Prod.snd i 20 s).foldl (stR D) s).2.length := by rw [e]; simp; omega
    rw [runsL_fold k (i + 1) _ hl, e]
    have hg : s.2[i] = s.2.getD i fno := by rw [List.getD_eq_getElem?_getD, List.getElem?_eq_getElem hi]; rfl
    rw [List.drop_eq_getElem_cons hi, hg]
    simp only [restL]
    rw [List.drop_set_of_lt (by omega)]
    congr 1
    rw [List.take_set, List.take_succ_eq_append_getElem hi, hg]
    rw [List.set_append_right _ _ (by simp; omega)]
    simp
    rw [show i - min i s.2.length = 0 by omega]
    rfl
theorem runs_mem {D : Int} {i : Nat} : ∀ (n : Nat) (s : List Int × List Fr) (x : Int), x ∈ runs (stR D) Prod.snd i n s → x = i
  | 0, _, _, h => by simp [runs] at h
  | n + 1, s, x, h => by
    unfold runs at h
    split at h
    · simp at h
    · rcases List.mem_cons.1 h with h | h
      · exact h
      · exact runs_mem n _ x h
theorem runsL_mem {D : Int} : ∀ (k i : Nat) (s : List Int × List Fr) (x : Int), x ∈ runsL (stR D) Prod.snd i k s → ∃ j : Nat, x = j ∧ j < i + k
  | 0, _, _, _, h => by simp [runsL] at h
  | k + 1, i, s, x, h => by
    unfold runsL at h
    rcases List.mem_append.1 h with h | h
    · exact ⟨i, runs_mem _ _ _ h, by omega⟩
    · obtain ⟨j, h1, h2⟩ := runsL_mem k (i + 1) _ x h
      exact ⟨j, h1, by omega⟩
/-- What holds of a rest's lists. -/
structure RV (ml al : Nat) (s : List Int × List Fr) : Prop where
  ml : s.1.length = ml
  al : s.2.length = al
  um : UM s.1
  uf : ∀ i, UF (s.2.getD i fno)
theorem RV.step {D : Int} {ml al : Nat} {s : List Int × List Fr} (h : RV ml al s) (i : Int) : RV ml al (stR D s i) := by
  obtain ⟨h1, h2, h3, h4⟩ := h
  have hU := deqS_U (W := 1) (D := D) (J := 1) (S := 0) h3 (h4 i.toNat)
  have hl := deqS_len 1 D 1 0 s.1 (s.2.getD i.toNat fno)
  unfold stR
  exact ⟨by simp only; omega, by simpa using h2, hU.1, uf_set h4 hU.2 _⟩
/-- Which blocks hold what, between two steps of a rest. -/
structure RB (w : World) (D : Int) (na bc bm ba lo : Nat) (Aa : Option Addr) (ca : Nat) (m : List Int) (a : List Fr) (W : World) : Prop where
  cb : Bx W bc 1 D 1 0
  ab : Boxed W ba 29 (.slice Aa na ca)
  ar : Ow W lo Aa na ca a
  mo : ∃ Am cm, Boxed W bm 25 (.slice Am m.length cm) ∧ (0 < m.length → ∃ ad, Am = some ad ∧ lo ≤ ad.block ∧ (Value.slice Aa na ca).ownBlock ≠ some ad.block ∧ ad.block < W.heap.size ∧ ∀ j u, m[j]? = some u → W.cell? (ad.add j) = some (.int .u64 u))
  be : Below w.heap.size w W
  ls : lo ≤ W.heap.size
section
variable {w : World} {D : Int} {na bc bm ba lo : Nat} {Aa : Option Addr} {ca : Nat} {m : List Int} {a : List Fr} {W W' : World}
theorem RB.cl (h : RB w D na bc bm ba lo Aa ca m a W) (hc : Cl w.heap.size W W') : RB w D na bc bm ba lo Aa ca m a W' := by
  obtain ⟨Am, cm, g1, g2⟩ := h.mo
  refine ⟨h.cb.cl hc, boxed_cl h.ab hc, h.ar.cl hc, ⟨Am, cm, boxed_cl g1 hc, fun hp => ?_⟩, h.be.trans hc.low, Nat.le_trans h.ls hc.size⟩
  obtain ⟨ad, e, h1, h2, h3, h4⟩ := g2 hp
  have h0 := h4 0 m[0] (List.getElem?_eq_getElem hp)
  obtain ⟨o, ho, hoc⟩ := cells_of_cell h0
  rw [block_add] at ho
  have hs : W'.heap[ad.block]? = W.heap[ad.block]? := (hc.same _ _ ho hoc).trans ho.symm
  exact ⟨ad, e, h1, h2, Nat.lt_of_lt_of_le h3 hc.size, fun j u hu => (World.cell?_of_block (by rw [block_add]; exact hs)).trans (h4 j u hu)⟩
theorem RB.rd {Am : Option Addr} (g2 : 0 < m.length → ∃ ad, Am = some ad ∧ lo ≤ ad.block ∧ (Value.slice Aa na ca).ownBlock ≠ some ad.block ∧ ad.block < W.heap.size ∧ ∀ j u, m[j]? = some u → W.cell? (ad.add j) = some (.int .u64 u)) : Rd W Am m := fun hp => by
  obtain ⟨ad, e, _, _, h3, h4⟩ := g2 hp
  exact ⟨ad, e, h3, h4⟩
/-- A step: new cells, and the call laid back. -/
theorem RB.step {g i : Nat} (h : RB w D na bc bm ba lo (some ⟨g, 0, none⟩) ca m a W) (hbc : bc < lo) (hbm : bm < lo) (hba : ba < lo) (hne : bm ≠ bc ∧ bm ≠ ba) (hw : w.heap.size ≤ bm) (hi : i < na) (hb : Below W.heap.size W W') {m' : List Int} {A' : Option Addr} {c' : Nat} (hr : Rn W.heap.size W' A' m') (f : Fr) :
    RB w D na bc bm ba lo (some ⟨g, 0, none⟩) ca m' (a.set i f) (pk7 (W'.setCell ⟨bm, 0, none⟩ (.slice A' m'.length c')) g (i * 7) f) := by
  have hgl : lo ≤ g ∧ g < W.heap.size := World.ownsRow.lt h.ar g rfl
  obtain ⟨Am, cm, g1, g2⟩ := h.mo
  have hz := hb.size
  have ls := h.ls
  have hst : ∀ k, k ≠ bm → k ≠ g → (pk7 (W'.setCell ⟨bm, 0, none⟩ (.slice A' m'.length c')) g (i * 7) f).heap[k]? = W'.heap[k]? := fun k h1 h2 =>
    (pk7_other k h2).trans (Below.heap_setCell W' ⟨bm, 0, none⟩ _ k h1)
  have hsz := pk7_size (W'.setCell ⟨bm, 0, none⟩ (.slice A' m'.length c')) g (i * 7) f
  have hsz2 : (W'.setCell ⟨bm, 0, none⟩ (.slice A' m'.length c')).heap.size = W'.heap.size := by simp
  have ar2 : Ow (W'.setCell ⟨bm, 0, none⟩ (.slice A' m'.length c')) lo (some ⟨g, 0, none⟩) na ca a := (h.ar.below hb).kept fun k hk => by
    have : (Value.slice (some ⟨g, 0, none⟩) na ca).ownBlock = some g := rfl
    rw [this] at hk; cases hk
    exact Below.heap_setCell W' ⟨bm, 0, none⟩ _ g (by simp only; omega)
  have ar3 := ar2.set hi f
  have be3 := below_pk7 ((h.be.trans (hb.mono (by omega))).setCell (p := ⟨bm, 0, none⟩) hw (.slice A' m'.length c')) (show w.heap.size ≤ g by omega) (i * 7) f
  have mb : Boxed (pk7 (W'.setCell ⟨bm, 0, none⟩ (.slice A' m'.length c')) g (i * 7) f) bm 25 (.slice A' m'.length c') := (pk7_other bm (by omega)).trans (Boxed.set _ ((hb.block bm g1.lt).trans g1))
  generalize pk7 (W'.setCell ⟨bm, 0, none⟩ (.slice A' m'.length c')) g (i * 7) f = X at hst hsz ar3 be3 mb ⊢
  have e : X.heap[bc]? = W.heap[bc]? := (hst bc (by omega) (by omega)).trans (hb.block bc (by omega))
  refine ⟨?_, (hst ba (by omega) (by omega)).trans ((hb.block ba (by omega)).trans h.ab), ar3, ⟨A', c', mb, fun hp => ?_⟩, be3, by omega⟩
  · obtain ⟨e1, e2, e3, e4, e5⟩ := h.cb
    exact ⟨by omega, (World.cell?_of_block e).trans e2, (World.cell?_of_block e).trans e3, (World.cell?_of_block e).trans e4, (World.cell?_of_block e).trans e5⟩
  · obtain ⟨ad, e1, hlo, hlt, hcs⟩ := hr hp
    refine ⟨ad, e1, by omega, ?_, by omega, fun j u hu => ?_⟩
    · have : (Value.slice (some ⟨g, 0, none⟩) na ca).ownBlock = some g := rfl
      rw [this]; intro e; cases e; omega
    · exact (World.cell?_of_block (by rw [block_add]; exact hst _ (by omega) (by omega))).trans (hcs j u hu)
end
/-- All blocks below lo but one stay. -/
structure Kq (lo bm : Nat) (W x : World) : Prop where
  size : W.heap.size ≤ x.heap.size
  same : ∀ k, k < lo → k ≠ bm → x.heap[k]? = W.heap[k]?
theorem Kq.refl (lo bm : Nat) (W : World) : Kq lo bm W W := ⟨Nat.le_refl _, fun _ _ _ => rfl⟩
theorem kq_drew {S : World → Prop} {lo bm : Nat} {W x : World} (K : ∀ x, Kq lo bm W x → S x) (G : ∀ x, S x → Kq lo bm W x) (h : S x) : S x.drew := K _ ⟨(G _ h).size, (G _ h).same⟩
theorem kq_call {S : World → Prop} {lo bm : Nat} {W x x' : World} (K : ∀ x, Kq lo bm W x → S x) (G : ∀ x, S x → Kq lo bm W x) (hl : lo ≤ W.heap.size) (hb : Below x.heap.size x x') (h : S x) : S x' :=
  K _ ⟨Nat.le_trans (G _ h).size hb.size, fun k hk hne => (hb.block k (Nat.lt_of_lt_of_le (Nat.lt_of_lt_of_le hk hl) (G _ h).size)).trans ((G _ h).same k hk hne)⟩
theorem kq_set {S : World → Prop} {lo bm : Nat} {W x : World} (K : ∀ x, Kq lo bm W x → S x) (G : ∀ x, S x → Kq lo bm W x) (v : Value) (h : S x) : S (x.setCell ⟨bm, 0, none⟩ v) :=
  K _ ⟨by simpa using (G _ h).size, fun k hk hne => (Below.heap_setCell x ⟨bm, 0, none⟩ v k hne).trans ((G _ h).same k hk hne)⟩
theorem kq_pk7 {S : World → Prop} {lo bm g k : Nat} {W x : World} {f : Fr} (K : ∀ x, Kq lo bm W x → S x) (G : ∀ x, S x → Kq lo bm W x) (hg : lo ≤ g) (h : S x) : S (pk7 x g k f) :=
  K _ ⟨by rw [pk7_size]; exact (G _ h).size, fun k hk hne => (pk7_other k (by omega)).trans ((G _ h).same k hk hne)⟩
def notDefer (o : Oper) : Bool := match o.op with
  | .defer _ => false
  | _ => true
theorem no_defer {ops : Array Oper} (h : ops.all notDefer = true) : ∀ (i : Nat) o, ops[i]? = some o → ∀ c, o.op ≠ .defer c := by
  intro i o ho c hc
  have hm := Array.all_eq_true.1 h i (Array.getElem?_eq_some_iff.1 ho).1
  rw [(Array.getElem?_eq_some_iff.1 ho).2] at hm
  unfold notDefer at hm
  rw [hc] at hm
  cases hm
end Go.Proofs.Ytpeaahihjeplmaa
