/- Contract of the closure that begins a list's next call. -/
import Derived.Test.YtgemaeibmgkneaaEvB
namespace Go.Proofs.Ytgemaeibmgkneaa
open Go.RowKit Go.Deep
set_option maxRecDepth 100000 in
theorem nxtE_skip {i o : Int} {r : List Int} (h : isEv o = false) : nxtE i (o :: r) = nxtE i r := by
  show (if _ then _ else _) = _
  rw [h, if_neg (by simp)]
set_option maxRecDepth 100000 in
theorem nxtE_take {i o : Int} {r : List Int} (h : isEv o = true) : nxtE i (o :: r) = (fbg o i 0, r) := by
  show (if _ then _ else _) = _
  rw [h, if_pos rfl]
/-- What one has left, as it lies in a row of slices. -/
structure Bgq (w : World) (n bl gl N cl i : Nat) (left : List (List Int)) (l : List Int) : Prop where
  box : Boxed w bl 22 (.slice (some ⟨gl, 0, none⟩) N cl)
  row : ∃ vs, Os w gl (some ⟨gl, 0, none⟩) N cl vs ∧ Lr n w vs (left.set i l)
def lenAt (w : World) (g i : Nat) : Nat := match w.cell? ⟨g, i, none⟩ with
  | some (.slice _ k _) => k
  | _ => 0
set_option maxRecDepth 100000 in
theorem lenAt_of {w : World} {g i k c : Nat} {A : Option Addr} (h : w.cell? ⟨g, i, none⟩ = some (.slice A k c)) : lenAt w g i = k := by
  unfold lenAt; rw [h]
section
variable {w : World} {n bl gl N cl i : Nat} {left : List (List Int)} {l : List Int}
set_option maxRecDepth 100000 in
theorem Bgq.at (h : Bgq w n bl gl N cl i left l) (hi : i < left.length) : ∃ A c, w.cell? ⟨gl, i, none⟩ = some (.slice A l.length c) ∧ l.length ≤ c ∧ Pn n w A l := by
  obtain ⟨vs, h1, h2⟩ := h.row
  obtain ⟨A, c, k1, k2, k3⟩ := h2.at_ i l (by rw [List.getElem?_set_self hi])
  have hN : vs.length = N := h1.len
  have hp : 0 < N := by have := (List.getElem?_eq_some_iff.1 k1).1; omega
  obtain ⟨g, hg, _, _, hc⟩ := h1.at hp
  cases hg
  exact ⟨A, c, hc i _ k1, k2, k3⟩
set_option maxRecDepth 100000 in
theorem Bgq.lt (h : Bgq w n bl gl N cl i left l) (hi : i < left.length) (hN : left.length = N) : gl < w.heap.size := by
  obtain ⟨vs, h1, _⟩ := h.row
  obtain ⟨g, hg, _, hlt, _⟩ := h1.at (by omega)
  cases hg; exact hlt
set_option maxRecDepth 100000 in
theorem Bgq.free (h : Bgq w n bl gl N cl i left l) (j : Nat) : w.frozen? ⟨gl, j, none⟩ = false := by
  obtain ⟨vs, h1, _⟩ := h.row
  exact h1.free j
set_option maxRecDepth 100000 in
theorem Bgq.set (h : Bgq w n bl gl N cl i left l) (hne : bl ≠ gl) (hn : n ≤ gl) {A : Option Addr} {l' : List Int} {c : Nat} (hc : l'.length ≤ c) (hp : Pn n w A l') : Bgq (w.setCell ⟨gl, i, none⟩ (.slice A l'.length c)) n bl gl N cl i left l' := by
  obtain ⟨vs, h1, h2⟩ := h.row
  have low : ∀ b, b < n → (∃ o, w.heap[b]? = some o ∧ o.isCells = true) → (w.setCell ⟨gl, i, none⟩ (.slice A l'.length c)).heap[b]? = w.heap[b]? := fun b hb _ => Below.heap_setCell w ⟨gl, i, none⟩ _ b (by simp; omega)
  refine ⟨(Below.heap_setCell w ⟨gl, i, none⟩ _ bl hne).trans h.box, vs.set i (.slice A l'.length c), h1.set i _, ?_⟩
  have := (h2.same low).set i hc (hp.same low)
  rwa [List.set_set] at this
set_option maxRecDepth 100000 in
theorem Bgq.below {w' : World} (h : Bgq w n bl gl N cl i left l) (hb : Below w.heap.size w w') (hn : n ≤ w.heap.size) : Bgq w' n bl gl N cl i left l := by
  obtain ⟨vs, h1, h2⟩ := h.row
  exact ⟨(hb.block _ h.box.lt).trans h.box, vs, h1.below hb, h2.below (hb.mono hn)⟩
set_option maxRecDepth 100000 in
theorem Bgq.pf (h : Bgq w n bl gl N cl i left l) {g : Nat} (h1 : bl ≠ g) (h2 : gl ≠ g) (hn : n ≤ g) (f : Fr) : Bgq (Go.Proofs.Ytgemaeibmgkneaa.pf w g f) n bl gl N cl i left l := by
  obtain ⟨vs, k1, k2⟩ := h.row
  refine ⟨(pf_other' w g f h1).trans h.box, vs, k1.kept fun k hk => pf_other' w g f (by have e : (Value.slice (some ⟨gl, 0, none⟩) N cl).ownBlock = some gl := rfl; rw [e] at hk; cases hk; exact h2), k2.same fun b hb _ => pf_other' w g f (by omega)⟩
end
/-- What the closure leaves. -/
def RetBg (w : World) (n bl gl N cl i : Nat) (left : List (List Int)) (x : Fr × List Int) (e : Ending) (w' : World) : Prop :=
  e = .returned (fv x.1) ∧ Bgq w' n bl gl N cl i left x.2 ∧ Kb gl w w'
set_option maxRecDepth 100000 in
theorem kb_pf {g k : Nat} {w w1 : World} (h : Kb g w w1) (hk : w.heap.size ≤ k) (hg : g ≤ k) (f : Fr) : Kb g w (pf w1 k f) :=
  ⟨below_pf h.low hg f, fun b h1 h2 => (pf_other' w1 k f (by omega)).trans (h.others b h1 h2)⟩
set_option maxHeartbeats 4000000 in
set_option maxRecDepth 100000 in
theorem begun_any (w : World) (n bl gl N cl i : Nat) (left : List (List Int)) (LL : List Int) (hB : Bgq w n bl gl N cl i left LL) (hi : i < left.length) (hN : left.length = N) (hne : bl ≠ gl) (hn : n ≤ gl) (hl : LL.length ≤ 500) :
    Calls Try.prog 44 #[.int .i64 i, .pointer (some ⟨bl, 0, none⟩)] w (RetBg w n bl gl N cl i left (nxtE i LL)) := by
  have HN := Lib.hid hN
  have HNE := Lib.hid hne
  have HLO := Lib.hid hn
  have HGL := Lib.hid (hB.lt hi hN)
  have hiN : i < N := by omega
  have HI := Lib.hid hi
  have HBW := Lib.hid hB.box.lt
  have B0 : Bf (w.alloc (.cells #[.int .i64 0, .int .i64 0, .int .i64 0, .int .u64 0, .int .u64 0, .int .u64 0, .int .i64 0] 34)) w.heap.size f0 := heap_alloc_new _ _
  have Z : Below w.heap.size w (w.alloc (.cells #[.int .i64 0, .int .i64 0, .int .i64 0, .int .u64 0, .int .u64 0, .int .u64 0, .int .i64 0] 34)) := (Below.refl _ _).alloc (Nat.le_refl _) _
  have hz : w.heap.size < (w.alloc (.cells #[.int .i64 0, .int .i64 0, .int .i64 0, .int .u64 0, .int .u64 0, .int .u64 0, .int .i64 0] 34)).heap.size := by simp
  have HQ := Lib.hid (hB.below Z (by have := HGL.out; omega))
  clear hB hi hN hne hn
  go_enter Try.func44, Try.ntmps44
  go_upto_region 1 with fail
  generalize w.alloc (.cells #[.int .i64 0, .int .i64 0, .int .i64 0, .int .u64 0, .int .u64 0, .int .u64 0, .int .i64 0] 34) = w0 at B0 Z hz HQ ⊢
  have HB0 := Lib.hid B0
  have HZ := Lib.hid (show Kb gl w w0 from ⟨Z.mono (Nat.le_of_lt HGL.out), fun b h1 _ => Z.block b h1⟩)
  clear B0 Z hz
  go_loopw [4] (fun x wr => (∃ v : Int, True) ∧ ∃ l : List Int, l.length ≤ 500 ∧ Hid (Kb gl w wr) ∧ Hid (Bf wr w.heap.size f0) ∧ Hid (Bgq wr n bl gl N cl i left l) ∧ Hid (nxtE i LL = nxtE i l)) (fun _ wz => lenAt wz gl i)
  case atStart => exact ⟨⟨0, trivial⟩, LL, hl, HZ, HB0, HQ, Lib.hid rfl⟩
  case round =>
    obtain ⟨_, l, hl5, hZ, hB, hQ, hX⟩ := hrel
    have hlt0 := hB.out.lt
    have kb := hQ.out.box.cell
    obtain ⟨A, c, kl, hc, hP⟩ := hQ.out.at HI.out
    have fl := hQ.out.free
    have hlg := hQ.out.lt HI.out HN.out
    have ML := Lib.hid (lenAt_of kl)
    rcases l with _ | ⟨o, r⟩
    · have HX := Lib.hid (show nxtE i LL = (fnE, []) from hX.out)
      clear hX hP hc ML
      simp only [List.length_nil] at kl
      go_wp2_with fail
      refine (nocall_any _).mono ?_
      rintro _ w2 ⟨rfl, z2⟩
      have BR := hB.out.below z2 hlt0
      have ZR := Lib.hid (hZ.out.call HGL.out z2)
      have QR := Lib.hid (hQ.out.below z2 (by have := HLO.out; omega))
      obtain ⟨r0, r1, r2, r3, r4, r5, r6⟩ := BR.cells
      have lr := BR.lt
      have fr := BR.free
      clear z2
      go_wp2
      change bodyPost _ _ _ _ _ (pf w2 w.heap.size fnE)
      refine bodyPost_ret (v := fv fnE) ?_ rfl ?_
      · obtain ⟨e0, e1, e2, e3, e4, e5, e6⟩ := (BR.pf fnE).cells
        simp [results, Try.results44, go_sem, e0, e1, e2, e3, e4, e5, e6]
        try rfl
      · rw [HX.out]
        have h1 := HGL.out
        exact ⟨rfl, QR.out.pf (by have := HBW.out; omega) (by omega) (by have := HLO.out; omega) _, kb_pf ZR.out (Nat.le_refl _) (Nat.le_of_lt h1) _⟩
    · obtain ⟨b, off, rfl, hb, hC⟩ := hP (by simp)
      have HP := Lib.hid hP
      have k0 := hC 0 o rfl
      rw [Nat.add_zero] at k0
      obtain ⟨m, hm⟩ : ∃ m, r.length = m := ⟨_, rfl⟩
      simp only [List.length_cons] at kl hc hl5
      rw [hm] at kl hc hl5
      have HM := Lib.hid hm
      have d1 : decide (((m + 1 : Nat) : Int) > 0) = true := decide_eq_true (by omega)
      obtain ⟨A', hA', hP'⟩ : ∃ A' : Option Addr, (if c = 1 then (some ⟨b, off, none⟩ : Option Addr) else some ⟨b, off + 1, none⟩) = A' ∧ Hid (Pn n wr A' r) := by
        refine ⟨_, rfl, Lib.hid ?_⟩
        split
        · obtain rfl : r = [] := List.eq_nil_of_length_eq_zero (by omega)
          exact Pn.nil _ _ _
        · exact HP.out.tail
      clear hm hC hP
      go_wp2
      have hc1 : (1 : Int) ≤ ((m : Int) + 1) := by omega
      have hc2 : ((m : Int) + 1) ≤ (c : Int) := by omega
      go_region
      have hgl := HGL.out
      have hbw := HBW.out
      have hlo := HLO.out
      have Q2 := hQ.out.set (A := A') (l' := r) (c := c - 1) HNE.out HLO.out (by rw [HM.out]; omega) hP'.out
      rw [HM.out] at Q2
      have Q2 := Lib.hid (Q2.below (Below.refl _ _).drew (by simp; omega))
      have Z2 := Lib.hid ((hZ.out.set i (.slice A' m (c - 1))).drew)
      have B2 := Lib.hid (show Bf (wr.setCell ⟨gl, i, none⟩ (.slice A' m (c - 1))).drew w.heap.size f0 from (hB.out.oth (i := i) (show w.heap.size ≠ gl by omega) (.slice A' m (c - 1))).drew)
      have hz2 : w.heap.size < (wr.setCell ⟨gl, i, none⟩ (.slice A' m (c - 1))).drew.heap.size := by simpa using hlt0
      all_goals
        clear fl kb kl k0 hA' hP' hc hlg hc1 hc2 d1 hb HP
        generalize (wr.setCell ⟨gl, i, none⟩ (.slice A' m (c - 1))).drew = X at Q2 Z2 B2 hz2 ⊢
        go_wp2_with fail
        refine (at_any o X).mono ?_
        rintro _ X3 ⟨rfl, z3⟩
        have Q3 := Lib.hid (Q2.out.below z3 (by omega))
        have Z3 := Lib.hid (Z2.out.call hgl z3)
        have B3 := Lib.hid (B2.out.below z3 hz2)
        have hz3 := Nat.lt_of_lt_of_le hz2 z3.size
        clear z3 Q2 Z2 B2 hz2 hQ hZ hB hlt0
        cases he : isEv o
        · have HX := Lib.hid (hX.out.trans (nxtE_skip he))
          clear he hX
          go_wp2
          go_roundw
          case rel => exact ⟨⟨0, trivial⟩, r, by rw [HM.out]; omega, Z3, B3, Q3, HX⟩
          case measure =>
            obtain ⟨A3, c3, k3, _, _⟩ := Q3.out.at HI.out
            rw [lenAt_of k3, ML.out]; simp
        · have HX := Lib.hid (hX.out.trans (nxtE_take he))
          clear he hX
          go_wp2_with fail
          refine (begin_any o i 0 X3).mono ?_
          rintro _ w2 ⟨rfl, z2⟩
          have BR := B3.out.below z2 hz3
          have ZR := Lib.hid (Z3.out.call HGL.out z2)
          have QR := Lib.hid (Q3.out.below z2 (by omega))
          obtain ⟨r0, r1, r2, r3, r4, r5, r6⟩ := BR.cells
          have lr := BR.lt
          have fr := BR.free
          clear z2
          go_wp2
          change bodyPost _ _ _ _ _ (pf w2 w.heap.size (fbg o i 0))
          refine bodyPost_ret (v := fv (fbg o i 0)) ?_ rfl ?_
          · obtain ⟨e0, e1, e2, e3, e4, e5, e6⟩ := (BR.pf (fbg o i 0)).cells
            simp [results, Try.results44, go_sem, e0, e1, e2, e3, e4, e5, e6]
            try rfl
          · rw [HX.out]
            exact ⟨rfl, QR.out.pf (by omega) (by omega) (by omega) _, kb_pf ZR.out (Nat.le_refl _) (Nat.le_of_lt hgl) _⟩
end Go.Proofs.Ytgemaeibmgkneaa
