/- Contracts of calls, and of the function that begins the owner's next one. -/
import Derived.Test.YtpeaahihjeplmaaDeT
import Derived.Test.YtpeaahihjeplmaaNxA
import Derived.Test.YtpeaahihjeplmaaDeL
namespace Go.Proofs.Ytpeaahihjeplmaa
open Go.RowKit Go.Deep Go.Shelf
attribute [local go_sem] Oper.semAt_some
theorem calls_in (n : Nat) (A : Option Addr) (k c : Nat) (w : World) :
    CallsIn Fence.wide n Try.prog 37 #[.slice A k c] w fun e w' =>
      e = .returned (.func (.func 71) #[] #[.pointer (some ⟨w.heap.size, 0, none⟩)]) ∧ w' = w.alloc (.cells #[.slice A k c] 29) := by
  refine callsIn_of_wp Try.func37 rfl trivial ?_ rfl
  simp only [Try.ntmps37, List.size_toArray, List.length_cons, List.length_nil, Nat.reduceAdd, Nat.reduceSub, Array.replicate_succ, Array.replicate_zero, List.push_toArray, List.append_toArray, List.nil_append, List.cons_append]
  gi_wp2
  go_ret
  exact ⟨rfl, rfl⟩
/-- The owner's next call, and what is left behind it. -/
def nxl : List Fr → Fr × List Fr
  | [] => (fno, [])
  | f :: r => if f.op = 0 ∨ f.op = 1 then (fbg f.op 0 f.val, r) else nxl r
theorem nxl_nxt : ∀ (l : List Fr) (k : Nat), (nxl l).1 = (nxt l k).1 ∧ (nxl l).2 = l.drop ((nxt l k).2 - k) ∧ k ≤ (nxt l k).2 ∧ (nxt l k).2 ≤ k + l.length
  | [], k => by simp [nxl, nxt]
  | f :: r, k => by
    simp only [nxl, nxt]
    split
    · simp
    · obtain ⟨h1, h2, h3, h4⟩ := nxl_nxt r (k + 1)
      refine ⟨h1, ?_, by omega, by simp; omega⟩
      rw [h2, show (nxt r (k + 1)).2 - k = ((nxt r (k + 1)).2 - (k + 1)) + 1 by omega, List.drop_succ_cons]
/-- What a call of the function that begins calls leaves: a call; the variable in block bl reads as what is left; all else stays. -/
def RetNx (n₀ bl : Nat) (w : World) (g : Fr) (l : List Fr) (e : Ending) (w' : World) : Prop :=
  e = .returned (fv g) ∧ ∃ A c, Boxed w' bl 29 (.slice A l.length c) ∧ l.length ≤ c ∧ Pr n₀ w' A l ∧ Kb bl w w'
set_option maxRecDepth 100000 in
set_option maxHeartbeats 4000000 in
theorem calls1_steal (n₀ bl : Nat) (i : Int) (hi : ¬ i = 0) (A : Option Addr) (c : Nat) (l : List Fr) (w : World) (hb : Boxed w bl 29 (.slice A l.length c)) (hc : l.length ≤ c) (hp : Pr n₀ w A l) (hn : n₀ ≤ bl) :
    Calls Try.prog 71 #[.int .i64 i, .pointer (some ⟨bl, 0, none⟩)] w (RetNx n₀ bl w (fbg 2 0 0) l) := by
  have hne : (i != 0) = true := by simp [hi]
  have hlt := hb.lt
  have HB := Lib.hid hb
  have HP := Lib.hid hp
  have B0 : Bf (w.alloc (.cells #[.int .i64 0, .int .i64 0, .int .i64 0, .int .u64 0, .int .u64 0, .int .u64 0, .int .i64 0] 28)) w.heap.size f0 := heap_alloc_new _ _
  have Z : Below w.heap.size w (w.alloc (.cells #[.int .i64 0, .int .i64 0, .int .i64 0, .int .u64 0, .int .u64 0, .int .u64 0, .int .i64 0] 28)) := (Below.refl _ _).alloc (Nat.le_refl _) _
  have hz : w.heap.size < (w.alloc (.cells #[.int .i64 0, .int .i64 0, .int .i64 0, .int .u64 0, .int .u64 0, .int .u64 0, .int .i64 0] 28)).heap.size := by simp
  clear hb hp hi
  go_enter Try.func71, Try.ntmps71
  go_upto_region 1 with fail
  generalize w.alloc (.cells #[.int .i64 0, .int .i64 0, .int .i64 0, .int .u64 0, .int .u64 0, .int .u64 0, .int .i64 0] 28) = w0 at B0 Z hz ⊢
  go_wp2_with fail
  refine (begin_any 2 0 0 _).mono ?_
  rintro _ w1 ⟨rfl, z1⟩
  have B1 := B0.below z1 hz
  have Z1 := Lib.hid (Z.trans (z1.mono (by omega)))
  obtain ⟨d0, d1, d2, d3, d4, d5, d6⟩ := B1.cells
  have lb := B1.lt
  have fz := B1.free
  clear z1
  go_wp2
  change bodyPost _ _ _ _ _ (pf w1 w.heap.size (fbg 2 0 0))
  refine bodyPost_ret (v := fv (fbg 2 0 0)) ?_ rfl ?_
  · obtain ⟨e0, e1, e2, e3, e4, e5, e6⟩ := (B1.pf (fbg 2 0 0)).cells
    simp [results, Try.results71, go_sem, e0, e1, e2, e3, e4, e5, e6]
  · have ZZ := below_pf Z1.out (Nat.le_refl _) (fbg 2 0 0)
    exact ⟨rfl, A, c, (ZZ.block _ hlt).trans HB.out, hc, HP.out.below (ZZ.mono (by omega)), ⟨ZZ.mono (by omega), fun k hk _ => ZZ.block k hk⟩⟩
theorem pf_other' (w : World) (g : Nat) (f : Fr) {j : Nat} (h : j ≠ g) : (pf w g f).heap[j]? = w.heap[j]? := by
  unfold pf
  iterate 7 rw [Below.heap_setCell _ _ _ j h]
/-- How many calls a box has. -/
def lenAt (w : World) (b : Nat) : Nat := match w.cell? ⟨b, 0, none⟩ with
  | some (.slice _ k _) => k
  | _ => 0
theorem lenAt_eq {w : World} {b : Nat} {A : Option Addr} {k c : Nat} (h : Boxed w b 29 (.slice A k c)) : lenAt w b = k := by unfold lenAt; rw [h.cell]
/-- What holds at the head of the loop over what is left. -/
structure Lp (n₀ bl : Nat) (w : World) (L l : List Fr) (A : Option Addr) (c : Nat) (wr : World) : Prop where
  bx : Boxed wr bl 29 (.slice A l.length c)
  cap : l.length ≤ c
  pr : Pr n₀ wr A l
  b0 : Bf wr w.heap.size f0
  kb : Kb bl w wr
  nx : nxl L = nxl l
theorem Lp.take {n₀ bl : Nat} {w : World} {L : List Fr} {x : Fr} {r : List Fr} {A A' : Option Addr} {c c' : Nat} {wr : World} (h : Lp n₀ bl w L (x :: r) A c wr) (hbl : bl < w.heap.size) (hn : n₀ ≤ bl) (hp : Pr n₀ wr A' r) (o : Obj) :
    Boxed ((wr.setCell ⟨bl, 0, none⟩ (.slice A' r.length c')).alloc o) bl 29 (.slice A' r.length c') ∧ Pr n₀ ((wr.setCell ⟨bl, 0, none⟩ (.slice A' r.length c')).alloc o) A' r ∧ Bf ((wr.setCell ⟨bl, 0, none⟩ (.slice A' r.length c')).alloc o) w.heap.size f0 ∧ Kb bl w ((wr.setCell ⟨bl, 0, none⟩ (.slice A' r.length c')).alloc o) := by
  have hz := h.kb.size
  have hb2 : Below bl wr ((wr.setCell ⟨bl, 0, none⟩ (.slice A' r.length c')).alloc o) := ((Below.refl bl wr).setCell (p := ⟨bl, 0, none⟩) (Nat.le_refl _) _).alloc (by simp; omega) _
  refine ⟨(h.bx.set _).alloc _, hp.below (hb2.mono hn), ?_, ?_⟩
  · refine (Below.heap_alloc _ _ _ (by simp; exact h.b0.lt)).trans ((Below.heap_setCell _ _ _ _ (by simp; omega)).trans h.b0)
  · refine ⟨h.kb.low.trans hb2, fun k hk hne => ?_⟩
    exact (Below.heap_alloc _ _ _ (by simp; omega)).trans ((Below.heap_setCell _ _ _ _ hne).trans (h.kb.others k hk hne))
set_option maxRecDepth 100000 in
set_option maxHeartbeats 4000000 in
theorem calls1_own (n₀ bl : Nat) (i : Int) (hi : i = 0) (A : Option Addr) (c : Nat) (L : List Fr) (w : World) (hb : Boxed w bl 29 (.slice A L.length c)) (hc : L.length ≤ c) (hp : Pr n₀ w A L) (hn : n₀ ≤ bl) :
    Calls Try.prog 71 #[.int .i64 i, .pointer (some ⟨bl, 0, none⟩)] w (RetNx n₀ bl w (nxl L).1 (nxl L).2) := by
  subst hi
  have hlt := hb.lt
  have B0 : Bf (w.alloc (.cells #[.int .i64 0, .int .i64 0, .int .i64 0, .int .u64 0, .int .u64 0, .int .u64 0, .int .i64 0] 28)) w.heap.size f0 := heap_alloc_new _ _
  have Z : Below w.heap.size w (w.alloc (.cells #[.int .i64 0, .int .i64 0, .int .i64 0, .int .u64 0, .int .u64 0, .int .u64 0, .int .i64 0] 28)) := (Below.refl _ _).alloc (Nat.le_refl _) _
  have HLP : Lp n₀ bl w L L A c (w.alloc (.cells #[.int .i64 0, .int .i64 0, .int .i64 0, .int .u64 0, .int .u64 0, .int .u64 0, .int .i64 0] 28)) :=
    ⟨(Z.block _ hlt).trans hb, hc, hp.below (Z.mono (by omega)), B0, ⟨Z.mono (by omega), fun k hk _ => Z.block k hk⟩, rfl⟩
  have H := Lib.hid HLP
  clear hb hp hc B0 Z HLP
  go_enter Try.func71, Try.ntmps71
  go_upto_region 1 with fail
  generalize w.alloc (.cells #[.int .i64 0, .int .i64 0, .int .i64 0, .int .u64 0, .int .u64 0, .int .u64 0, .int .i64 0] 28) = w0 at H ⊢
  go_wp2
  go_loopw [8] (fun _ wr => ∃ (l : List Fr) (A : Option Addr) (c : Nat), Lp n₀ bl w L l A c wr) (fun _ wr => lenAt wr bl)
  case atStart => exact ⟨L, A, c, H.out⟩
  case round =>
    clear H
    obtain ⟨l, A, c, hp⟩ := hrel
    have HP := Lib.hid hp
    have k1 := hp.bx.cell
    have k2 := hp.bx.frozen
    have lw := hp.kb.size
    have lz := hp.b0.lt
    have lb : bl < wr.heap.size := by omega
    cases l with
    | nil =>
      have hx := hp.nx
      clear hp
      go_wp2_with fail
      refine (nocall_any _).mono ?_
      rintro _ w1 ⟨rfl, z1⟩
      have B1 := HP.out.b0.below z1 lz
      have Z1 := Lib.hid z1
      obtain ⟨d0, d1, d2, d3, d4, d5, d6⟩ := B1.cells
      have lb1 := B1.lt
      have fz := B1.free
      clear z1 k1 k2
      go_wp2
      change bodyPost _ _ _ _ _ (pf w1 w.heap.size fno)
      refine bodyPost_ret (v := fv fno) ?_ rfl ?_
      · obtain ⟨e0, e1, e2, e3, e4, e5, e6⟩ := (B1.pf fno).cells
        simp [results, Try.results71, go_sem, e0, e1, e2, e3, e4, e5, e6]
      · rw [hx]
        have hk : Kb bl w (pf w1 w.heap.size fno) := by
          have h1 := HP.out.kb.call hlt Z1.out
          exact ⟨below_pf h1.low (by omega) _, fun k hk hne => (pf_other' _ _ _ (by omega)).trans (h1.others k hk hne)⟩
        refine ⟨rfl, A, c, ?_, Nat.zero_le _, Pr.nil _ _ _, hk⟩
        exact (pf_other' _ _ _ (by omega)).trans ((Z1.out.block _ lb).trans HP.out.bx)
    | cons x r =>
      have hx := hp.nx
      have hcap := hp.cap
      obtain ⟨b, off, rfl, hbn, hcs⟩ := hp.pr (by simp)
      obtain ⟨a0, a1, a2, a3, a4, a5, a6⟩ := hcs 0 x rfl
      have htail := hp.pr.tail
      clear hp hcs
      simp only [List.length_cons] at k1 hcap
      simp only [Nat.zero_mul, Nat.add_zero] at a0 a1 a2 a3 a4 a5 a6
      obtain ⟨o, p, q, v, xx, y, s⟩ := x
      simp only at a0 a1 a2 a3 a4 a5 a6
      have hbw : b < wr.heap.size := by omega
      have hbne : b ≠ bl := by omega
      by_cases hcc : c = 1
      · subst hcc
        obtain rfl : r = [] := List.eq_nil_of_length_eq_zero (by omega)
        replace htail : Pr n₀ wr (some ⟨b, off, none⟩) [] := Pr.nil _ _ _
        simp only [List.length_nil] at k1 hcap
        by_cases ho : o = 0
        · subst ho
          go_wp2_with fail
          generalize hW : (wr.setCell ⟨bl, 0, none⟩ (.slice (some ⟨b, off, none⟩) 0 0)).alloc (.cells #[.int .i64 0, .int .i64 p, .int .i64 q, .int .u64 v, .int .u64 xx, .int .u64 y, .int .i64 s] 28) = W2
          obtain ⟨t1, t2, t3, t4⟩ := HP.out.take (c' := 0) hlt hn htail (.cells #[.int .i64 0, .int .i64 p, .int .i64 q, .int .u64 v, .int .u64 xx, .int .u64 y, .int .i64 s] 28)
          simp only [List.length_nil] at t1 t2 t3 t4
          rw [hW] at t1 t2 t3 t4
          clear hW HP a0 a1 a2 a3 a4 a5 a6 k1 k2
          refine (begin_any 0 0 v _).mono ?_
          rintro _ w1 ⟨rfl, z1⟩
          have B1 := t3.below z1 t3.lt
          have Z1 := Lib.hid z1
          obtain ⟨d0, d1, d2, d3, d4, d5, d6⟩ := B1.cells
          have lb1 := B1.lt
          have fz := B1.free
          clear z1
          go_wp2
          change bodyPost _ _ _ _ _ (pf w1 w.heap.size (fbg 0 0 v))
          refine bodyPost_ret (v := fv (fbg 0 0 v)) ?_ rfl ?_
          · obtain ⟨e0, e1, e2, e3, e4, e5, e6⟩ := (B1.pf (fbg 0 0 v)).cells
            simp [results, Try.results71, go_sem, e0, e1, e2, e3, e4, e5, e6]
          · have hx2 : nxl L = (fbg 0 0 v, []) := by rw [hx]; rfl
            rw [hx2]
            have hk : Kb bl w (pf w1 w.heap.size (fbg 0 0 v)) := by
              have h1 := t4.call hlt Z1.out
              exact ⟨below_pf h1.low (by omega) _, fun k hk hne => (pf_other' _ _ _ (by omega)).trans (h1.others k hk hne)⟩
            refine ⟨rfl, (some ⟨b, off, none⟩), 0, ?_, Nat.le_refl _, ?_, hk⟩
            · exact (pf_other' _ _ _ (by omega)).trans ((Z1.out.block _ t1.lt).trans t1)
            · exact (t2.below (Z1.out.mono (by have := t1.lt; omega))).below (below_pf (Below.refl n₀ w1) (by omega) _)
        · by_cases ho1 : o = 1
          · subst ho1
            go_wp2_with fail
            generalize hW : (wr.setCell ⟨bl, 0, none⟩ (.slice (some ⟨b, off, none⟩) 0 0)).alloc (.cells #[.int .i64 1, .int .i64 p, .int .i64 q, .int .u64 v, .int .u64 xx, .int .u64 y, .int .i64 s] 28) = W2
            obtain ⟨t1, t2, t3, t4⟩ := HP.out.take (c' := 0) hlt hn htail (.cells #[.int .i64 1, .int .i64 p, .int .i64 q, .int .u64 v, .int .u64 xx, .int .u64 y, .int .i64 s] 28)
            simp only [List.length_nil] at t1 t2 t3 t4
            rw [hW] at t1 t2 t3 t4
            clear hW HP a0 a1 a2 a3 a4 a5 a6 k1 k2
            refine (begin_any 1 0 v _).mono ?_
            rintro _ w1 ⟨rfl, z1⟩
            have B1 := t3.below z1 t3.lt
            have Z1 := Lib.hid z1
            obtain ⟨d0, d1, d2, d3, d4, d5, d6⟩ := B1.cells
            have lb1 := B1.lt
            have fz := B1.free
            clear z1
            go_wp2
            change bodyPost _ _ _ _ _ (pf w1 w.heap.size (fbg 1 0 v))
            refine bodyPost_ret (v := fv (fbg 1 0 v)) ?_ rfl ?_
            · obtain ⟨e0, e1, e2, e3, e4, e5, e6⟩ := (B1.pf (fbg 1 0 v)).cells
              simp [results, Try.results71, go_sem, e0, e1, e2, e3, e4, e5, e6]
            · have hx2 : nxl L = (fbg 1 0 v, []) := by rw [hx]; rfl
              rw [hx2]
              have hk : Kb bl w (pf w1 w.heap.size (fbg 1 0 v)) := by
                have h1 := t4.call hlt Z1.out
                exact ⟨below_pf h1.low (by omega) _, fun k hk hne => (pf_other' _ _ _ (by omega)).trans (h1.others k hk hne)⟩
              refine ⟨rfl, (some ⟨b, off, none⟩), 0, ?_, Nat.le_refl _, ?_, hk⟩
              · exact (pf_other' _ _ _ (by omega)).trans ((Z1.out.block _ t1.lt).trans t1)
              · exact (t2.below (Z1.out.mono (by have := t1.lt; omega))).below (below_pf (Below.refl n₀ w1) (by omega) _)
          · have hx2 : nxl L = nxl [] := by rw [hx]; exact if_neg (by simp only; omega)
            clear hx
            have e1 : (o == 0) = false := by simpa using ho
            have e2 : (o == 1) = false := by simpa using ho1
            go_wp2
            obtain ⟨t1, t2, t3, t4⟩ := HP.out.take (c' := 0) hlt hn htail (.cells #[.int .i64 o, .int .i64 p, .int .i64 q, .int .u64 v, .int .u64 xx, .int .u64 y, .int .i64 s] 28)
            have hl1 := lenAt_eq t1
            have hl0 := lenAt_eq HP.out.bx
            have T := Lib.hid (show Lp n₀ bl w L [] (some ⟨b, off, none⟩) 0 _ from ⟨t1, Nat.le_refl _, t2, t3, t4, hx2⟩)
            have HL := Lib.hid (And.intro hl0 hl1)
            clear t1 t2 t3 t4 hl1 hl0
            go_roundw
            case rel => exact ⟨[], (some ⟨b, off, none⟩), 0, T.out⟩
            case measure =>
              obtain ⟨h0, h1⟩ := HL.out
              simp only [List.length_cons, List.length_nil] at h0 h1
              rw [h0, h1]; omega
      · have hc2 : 2 ≤ c := by omega
        have hc3 : ¬ c - 1 = 0 := by omega
        by_cases ho : o = 0
        · subst ho
          go_wp2_with fail
          generalize hW : (wr.setCell ⟨bl, 0, none⟩ (.slice (some ⟨b, off + 7, none⟩) r.length (c - 1))).alloc (.cells #[.int .i64 0, .int .i64 p, .int .i64 q, .int .u64 v, .int .u64 xx, .int .u64 y, .int .i64 s] 28) = W2
          obtain ⟨t1, t2, t3, t4⟩ := HP.out.take (c' := (c - 1)) hlt hn htail (.cells #[.int .i64 0, .int .i64 p, .int .i64 q, .int .u64 v, .int .u64 xx, .int .u64 y, .int .i64 s] 28)
          rw [hW] at t1 t2 t3 t4
          clear hW HP a0 a1 a2 a3 a4 a5 a6 k1 k2
          refine (begin_any 0 0 v _).mono ?_
          rintro _ w1 ⟨rfl, z1⟩
          have B1 := t3.below z1 t3.lt
          have Z1 := Lib.hid z1
          obtain ⟨d0, d1, d2, d3, d4, d5, d6⟩ := B1.cells
          have lb1 := B1.lt
          have fz := B1.free
          clear z1
          go_wp2
          change bodyPost _ _ _ _ _ (pf w1 w.heap.size (fbg 0 0 v))
          refine bodyPost_ret (v := fv (fbg 0 0 v)) ?_ rfl ?_
          · obtain ⟨e0, e1, e2, e3, e4, e5, e6⟩ := (B1.pf (fbg 0 0 v)).cells
            simp [results, Try.results71, go_sem, e0, e1, e2, e3, e4, e5, e6]
          · have hx2 : nxl L = (fbg 0 0 v, r) := by rw [hx]; rfl
            rw [hx2]
            have hk : Kb bl w (pf w1 w.heap.size (fbg 0 0 v)) := by
              have h1 := t4.call hlt Z1.out
              exact ⟨below_pf h1.low (by omega) _, fun k hk hne => (pf_other' _ _ _ (by omega)).trans (h1.others k hk hne)⟩
            refine ⟨rfl, (some ⟨b, off + 7, none⟩), (c - 1), ?_, (show r.length ≤ c - 1 by omega), ?_, hk⟩
            · exact (pf_other' _ _ _ (by omega)).trans ((Z1.out.block _ t1.lt).trans t1)
            · exact (t2.below (Z1.out.mono (by have := t1.lt; omega))).below (below_pf (Below.refl n₀ w1) (by omega) _)
        · by_cases ho1 : o = 1
          · subst ho1
            go_wp2_with fail
            generalize hW : (wr.setCell ⟨bl, 0, none⟩ (.slice (some ⟨b, off + 7, none⟩) r.length (c - 1))).alloc (.cells #[.int .i64 1, .int .i64 p, .int .i64 q, .int .u64 v, .int .u64 xx, .int .u64 y, .int .i64 s] 28) = W2
            obtain ⟨t1, t2, t3, t4⟩ := HP.out.take (c' := (c - 1)) hlt hn htail (.cells #[.int .i64 1, .int .i64 p, .int .i64 q, .int .u64 v, .int .u64 xx, .int .u64 y, .int .i64 s] 28)
            rw [hW] at t1 t2 t3 t4
            clear hW HP a0 a1 a2 a3 a4 a5 a6 k1 k2
            refine (begin_any 1 0 v _).mono ?_
            rintro _ w1 ⟨rfl, z1⟩
            have B1 := t3.below z1 t3.lt
            have Z1 := Lib.hid z1
            obtain ⟨d0, d1, d2, d3, d4, d5, d6⟩ := B1.cells
            have lb1 := B1.lt
            have fz := B1.free
            clear z1
            go_wp2
            change bodyPost _ _ _ _ _ (pf w1 w.heap.size (fbg 1 0 v))
            refine bodyPost_ret (v := fv (fbg 1 0 v)) ?_ rfl ?_
            · obtain ⟨e0, e1, e2, e3, e4, e5, e6⟩ := (B1.pf (fbg 1 0 v)).cells
              simp [results, Try.results71, go_sem, e0, e1, e2, e3, e4, e5, e6]
            · have hx2 : nxl L = (fbg 1 0 v, r) := by rw [hx]; rfl
              rw [hx2]
              have hk : Kb bl w (pf w1 w.heap.size (fbg 1 0 v)) := by
                have h1 := t4.call hlt Z1.out
                exact ⟨below_pf h1.low (by omega) _, fun k hk hne => (pf_other' _ _ _ (by omega)).trans (h1.others k hk hne)⟩
              refine ⟨rfl, (some ⟨b, off + 7, none⟩), (c - 1), ?_, (show r.length ≤ c - 1 by omega), ?_, hk⟩
              · exact (pf_other' _ _ _ (by omega)).trans ((Z1.out.block _ t1.lt).trans t1)
              · exact (t2.below (Z1.out.mono (by have := t1.lt; omega))).below (below_pf (Below.refl n₀ w1) (by omega) _)
          · have hx2 : nxl L = nxl r := by rw [hx]; exact if_neg (by simp only; omega)
            clear hx
            have e1 : (o == 0) = false := by simpa using ho
            have e2 : (o == 1) = false := by simpa using ho1
            go_wp2
            obtain ⟨t1, t2, t3, t4⟩ := HP.out.take (c' := (c - 1)) hlt hn htail (.cells #[.int .i64 o, .int .i64 p, .int .i64 q, .int .u64 v, .int .u64 xx, .int .u64 y, .int .i64 s] 28)
            have hl1 := lenAt_eq t1
            have hl0 := lenAt_eq HP.out.bx
            have T := Lib.hid (show Lp n₀ bl w L r (some ⟨b, off + 7, none⟩) (c - 1) _ from ⟨t1, (by omega), t2, t3, t4, hx2⟩)
            have HL := Lib.hid (And.intro hl0 hl1)
            clear t1 t2 t3 t4 hl1 hl0
            go_roundw
            case rel => exact ⟨r, (some ⟨b, off + 7, none⟩), (c - 1), T.out⟩
            case measure =>
              obtain ⟨h0, h1⟩ := HL.out
              simp only [List.length_cons] at h0 h1
              rw [h0, h1]; omega
end Go.Proofs.Ytpeaahihjeplmaa
