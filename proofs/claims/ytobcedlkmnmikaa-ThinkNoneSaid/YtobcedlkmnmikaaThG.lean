/- Contract of think.Do. -/
import Derived.Test.YtobcedlkmnmikaaThF
namespace Go.Proofs.Ytobcedlkmnmikaa.Fo
open Go.RowKit Go.Deep
set_option maxRecDepth 100000 in
theorem kind_at {T : List Tsk} {x : Itm} : (actI T x).1 = 1 ∨ (actI T x).1 = 2 ∨ (actI T x).1 = 3 := by
  unfold actI
  split
  · exact .inl rfl
  split
  · exact .inr (.inl rfl)
  · exact .inr (.inr rfl)
set_option maxRecDepth 100000 in
theorem field_kind (a b : Int) (w : World) : (Instr.field 31 (.agg #[.int .i64 a, .int .i64 b]) 0).run Try.prog w = .ok (.int .i64 a) w := by kernel_rfl
attribute [local go_sem] field_kind
/-- What Do has at hand behind its first two lines. -/
structure DoZ (W : World) (n₀ g n : Nat) (A : Option Addr) (c : Nat) (s : List Itm) (w : World) : Prop where
  own : Iow w n₀ A n c s
  b0 : w.heap[g]? = some (.cells #[.slice A n c] 23 (0, 0))
  b1 : w.heap[g + 1]? = some (.cells #[.int .i64 ((n : Int) - 1)] 3 (0, 0))
  low : Below W.heap.size W w
  gt : n₀ ≤ g
  ap : ∀ k, (Value.slice A n c).ownBlock = some k → k < g
set_option maxRecDepth 100000 in
theorem DoZ.below {W w w' : World} {n₀ g n c : Nat} {A : Option Addr} {s : List Itm} (h : DoZ W n₀ g n A c s w) (hb : Below w.heap.size w w') : DoZ W n₀ g n A c s w' :=
  ⟨h.own.below hb, (hb.block g (Array.getElem?_eq_some_iff.1 h.b0).1).trans h.b0, (hb.block (g + 1) (Array.getElem?_eq_some_iff.1 h.b1).1).trans h.b1, h.low.trans (hb.mono h.low.size), h.gt, h.ap⟩
set_option maxRecDepth 100000 in
theorem DoZ.new {W w : World} {n c : Nat} {A : Option Addr} {s : List Itm} (ho : Iow w W.heap.size A n c s) (hb : Below W.heap.size W w) : DoZ W W.heap.size w.heap.size n A c s ((w.alloc (.cells #[.slice A n c] 23)).alloc (.cells #[.int .i64 ((n : Int) - 1)] 3)) := by
  refine ⟨(ho.alloc _).alloc _, ?_, ?_, (hb.alloc hb.size _).alloc (by have := hb.size; simp; omega) _, hb.size, fun k hk => (World.ownsRow.lt ho k hk).2⟩
  · rw [Below.heap_alloc _ _ _ (by simp)]; exact heap_alloc_new _ _
  · have := heap_alloc_new (w.alloc (.cells #[.slice A n c] 23)) (.cells #[.int .i64 ((n : Int) - 1)] 3)
    simpa using this
set_option maxRecDepth 100000 in
theorem DoZ.w {W w : World} {n₀ g gs m c : Nat} {s : List Itm} (h : DoZ W n₀ g (m + 1) (some ⟨gs, 0, none⟩) c s w) : DoW w g gs m c := by
  have h0 := h.b0
  have h1 := h.b1
  refine ⟨by simp [World.cell?, h0], ?_, by simp [World.frozen?, h0]⟩
  simp [World.cell?, h1]
set_option maxRecDepth 100000 in
theorem DoZ.cell {W w : World} {n₀ g n c : Nat} {A : Option Addr} {s : List Itm} (h : DoZ W n₀ g n A c s w) : w.cell? ⟨g, 0, none⟩ = some (.slice A n c) := by
  have h0 := h.b0
  simp [World.cell?, h0]
set_option maxHeartbeats 1600000 in
set_option maxRecDepth 100000 in
theorem tdo_any (A S : Option Addr) (c cs n₀ : Nat) (T : List Tsk) (s : List Itm) (w : World) (hT : Tk n₀ w A T) (hS : Ir n₀ w S s) (hn₀ : n₀ ≤ w.heap.size) (hs : Sm T) (hl : s.length ≤ 1000) : Calls Try.prog 12 #[.slice A T.length c, .slice S s.length cs] w (RetS w (doS T s)) := by
  have KK0 := Lib.hid (iclone_any S s.length cs n₀ s w hS hn₀ rfl hl)
  have KK1 := Lib.hid (fun w1 (hb : Below w.heap.size w w1) => tnext_any A S c cs n₀ T s w1 (hT.below (hb.mono hn₀)) (hS.below (hb.mono hn₀)) (Nat.le_trans hn₀ hb.size) hs hl)
  have HM := Lib.hid hs
  clear hT hS hs
  go_enter Try.func12, Try.ntmps12
  go_wp2_with fail
  refine KK0.out.mono ?_
  rintro _ w1 ⟨A', c', rfl, ho, z1⟩
  have DZ := Lib.hid (DoZ.new ho z1)
  clear ho z1
  go_upto_region 2 with fail
  generalize (w1.alloc (.cells #[.slice A' s.length c'] 23)).alloc (.cells #[.int .i64 ((s.length : Int) - 1)] 3) = w2 at *
  generalize w1.heap.size = g at *
  have h0 := @run_makeMap Try.prog
  have h1 := drun_ins1 w2 g
  have h2 := drun_ins2 w2 g
  have h3 := drun_ins3 w2 g
  have DM := Lib.hid (show Dmp (w2.alloc (.map (dm3 g) 3)) w2.heap.size g from heap_alloc_new _ _)
  have DZ2 := Lib.hid (DZ.out.below (bel_new w2 (.map (dm3 g) 3)))
  go_wp2_with fail
  generalize w2.alloc (.map (dm3 g) 3) = w3 at *
  generalize w2.heap.size = gm at *
  refine (KK1.out w3 DZ2.out.low).mono ?_
  rintro _ w4 ⟨rfl, z4⟩
  have DM4 := Lib.hid (show Dmp w4 gm g from (z4.block gm (Array.getElem?_eq_some_iff.1 DM.out).1).trans DM.out)
  have DZ4 := Lib.hid (DZ2.out.below z4)
  clear z4 h0 h1 h2 h3 DM DZ2 DZ
  rcases Classical.em (nextS T s = (0, 0)) with e | e
  · have hlook := drun_look_no DM4.out
    have hc := DZ4.out.cell
    have E := Lib.hid (show doS T s = s by
      rcases Classical.em (s = []) with rfl | e2
      · exact doS_nil
      · cases hm : mayS T s
        · exact doS_no hm
        · obtain ⟨p, x, rfl⟩ := snoc_of e2
          rw [nextS_snoc hm] at e
          have := kind_at (T := T) (x := x)
          rw [e] at this
          simp at this)
    rw [e, show av ((0 : Int), (0 : Int)) = Value.agg #[.int .i64 0, .int .i64 0] from rfl]
    clear e KK0 KK1
    go_wp2
    go_ret
    rw [E.out]
    exact ⟨_, _, rfl, DZ4.out.own, DZ4.out.low⟩
  · obtain ⟨p, x, rfl⟩ : ∃ p x, s = p ++ [x] := by
      rcases Classical.em (s = []) with rfl | e2
      · exact absurd nextS_nil e
      · exact snoc_of e2
    have hm : mayS T (p ++ [x]) = true := by
      cases hm : mayS T (p ++ [x])
      · exact absurd (nextS_no hm) e
      · rfl
    rw [nextS_snoc hm]
    have ED := Lib.hid (doS_snoc hm)
    obtain ⟨n, e0, hn, hd0, hd1, hk0, hk1⟩ := item_at hm
    have hw := (wk_at (may_parts (mayS_all hm).1).2.1 hn).2
    have hkl := HM.out.at hn
    have elen : (p ++ [x]).length = p.length + 1 := by simp
    rw [elen] at DZ4
    obtain ⟨gs, rfl⟩ : ∃ gs, A' = some ⟨gs, 0, none⟩ := by
      obtain ⟨gs, e, _⟩ := Iow.at DZ4.out.own (by omega)
      exact ⟨gs, e⟩
    obtain ⟨l1, l2, lz, lb, ll, lc⟩ := DZ4.out.own.last rfl
    have hgs := DZ4.out.ap gs rfl
    have hdw := DZ4.out.w
    have hm1 : p.length < 1000 := by omega
    have lz1 := lz (p.length * 3 + 1)
    have lz2 := lz (p.length * 3 + 2)
    have LOW := Lib.hid DZ4.out.low
    have hcell := DZ4.out.cell
    have ebump : bumpI T x = if (actI T x).1 = 1 then [(x.1, x.2.1 + 1, x.2.2)] else if (actI T x).1 = 2 then [(x.1, x.2.1, x.2.2 + 1)] else [] := by
      unfold bumpI actI
      split
      · simp
      split
      · simp
      · simp
    rcases kind_at (T := T) (x := x) with hk | hk | hk
    · have EB := Lib.hid (show doS T (p ++ [x]) = p ++ [(x.1, x.2.1 + 1, x.2.2)] by rw [ED.out, ebump, if_pos hk])
      have hlook := drun_look (k := 1) (i := 0) (v := .func (.func 25) #[] #[.pointer (some ⟨g, 0, none⟩), .pointer (some ⟨g + 1, 0, none⟩)]) DM4.out rfl
      have KC := Lib.hid (do1_any g gs p.length c' x.2.1 w4 hdw l1 lz1 hd0 (by omega) hm1)
      have OW := Lib.hid (DZ4.out.own.set1 rfl (x.2.1 + 1))
      have hne : g ≠ gs := by omega
      have hcell' : (w4.setCell ⟨gs, p.length * 3 + 1, none⟩ (.int .i64 (x.2.1 + 1))).cell? ⟨g, 0, none⟩ = some (.slice (some ⟨gs, 0, none⟩) (p.length + 1) c') := by rw [← hcell]; exact World.cell?_of_block (a := ⟨g, 0, none⟩) (Below.heap_setCell w4 _ _ g (by simpa using hne))
      have LOW2 := Lib.hid (LOW.out.setCell (p := ⟨gs, p.length * 3 + 1, none⟩) lb (.int .i64 (x.2.1 + 1)))
      generalize actI T x = q at *
      obtain ⟨q1, q2⟩ := q
      simp only at hk
      subst hk
      clear l1 l2 lz lz1 lz2 hdw hcell ebump KK0 KK1 ED
      rw [show av ((1 : Int), q2) = Value.agg #[.int .i64 1, .int .i64 q2] from rfl]
      go_wp2_with fail
      refine KC.out.mono ?_
      rintro _ w5 ⟨rfl, e5⟩
      subst e5
      generalize w4.setCell ⟨gs, p.length * 3 + 1, none⟩ (.int .i64 (x.2.1 + 1)) = w5 at *
      go_wp2
      go_ret
      rw [EB.out]
      have el : (p ++ [(x.1, x.2.1 + 1, x.2.2)]).length = p.length + 1 := by simp
      exact ⟨_, _, by rw [el]; rfl, by rw [el]; exact OW.out, LOW2.out⟩
    · have EB := Lib.hid (show doS T (p ++ [x]) = p ++ [(x.1, x.2.1, x.2.2 + 1)] by rw [ED.out, ebump, if_neg (by rw [hk]; decide), if_pos hk])
      have hlook := drun_look (k := 2) (i := 1) (v := .func (.func 26) #[] #[.pointer (some ⟨g, 0, none⟩), .pointer (some ⟨g + 1, 0, none⟩)]) DM4.out rfl
      have KC := Lib.hid (do2_any g gs p.length c' x.2.2 w4 hdw l2 lz2 hk0 (by omega) hm1)
      have OW := Lib.hid (DZ4.out.own.set2 rfl (x.2.2 + 1))
      have hne : g ≠ gs := by omega
      have hcell' : (w4.setCell ⟨gs, p.length * 3 + 2, none⟩ (.int .i64 (x.2.2 + 1))).cell? ⟨g, 0, none⟩ = some (.slice (some ⟨gs, 0, none⟩) (p.length + 1) c') := by rw [← hcell]; exact World.cell?_of_block (a := ⟨g, 0, none⟩) (Below.heap_setCell w4 _ _ g (by simpa using hne))
      have LOW2 := Lib.hid (LOW.out.setCell (p := ⟨gs, p.length * 3 + 2, none⟩) lb (.int .i64 (x.2.2 + 1)))
      generalize actI T x = q at *
      obtain ⟨q1, q2⟩ := q
      simp only at hk
      subst hk
      clear l1 l2 lz lz1 lz2 hdw hcell ebump KK0 KK1 ED
      rw [show av ((2 : Int), q2) = Value.agg #[.int .i64 2, .int .i64 q2] from rfl]
      go_wp2_with fail
      refine KC.out.mono ?_
      rintro _ w5 ⟨rfl, e5⟩
      subst e5
      generalize w4.setCell ⟨gs, p.length * 3 + 2, none⟩ (.int .i64 (x.2.2 + 1)) = w5 at *
      go_wp2
      go_ret
      rw [EB.out]
      have el : (p ++ [(x.1, x.2.1, x.2.2 + 1)]).length = p.length + 1 := by simp
      exact ⟨_, _, by rw [el]; rfl, by rw [el]; exact OW.out, LOW2.out⟩
    · have EB := Lib.hid (show doS T (p ++ [x]) = p by rw [ED.out, ebump, if_neg (by rw [hk]; decide), if_neg (by rw [hk]; decide), List.append_nil])
      have hlook := drun_look (k := 3) (i := 2) (v := .func (.func 27) #[] #[.pointer (some ⟨g, 0, none⟩), .pointer (some ⟨g + 1, 0, none⟩)]) DM4.out rfl
      have KC := Lib.hid (do3_any g gs p.length c' w4 hdw hm1 lc)
      have hne : gs ≠ g := by omega
      have OW := Lib.hid (Iow.kept (w' := w4.setCell ⟨g, 0, none⟩ (.slice (some ⟨gs, 0, none⟩) p.length c')) (DZ4.out.own.cut rfl) (fun k hk => by cases hk; exact Below.heap_setCell w4 _ _ gs (by simpa using hne)))
      have hlg := block_lt_of_cell hcell
      have hcell' : (w4.setCell ⟨g, 0, none⟩ (.slice (some ⟨gs, 0, none⟩) p.length c')).cell? ⟨g, 0, none⟩ = some (.slice (some ⟨gs, 0, none⟩) p.length c') := by
        have := DZ4.out.b0
        simp [World.cell?, World.setCell, Array.getElem?_modify, this]
      have LOW2 := Lib.hid (LOW.out.setCell (p := ⟨g, 0, none⟩) DZ4.out.gt (.slice (some ⟨gs, 0, none⟩) p.length c'))
      generalize actI T x = q at *
      obtain ⟨q1, q2⟩ := q
      simp only at hk
      subst hk
      clear l1 l2 lz lz1 lz2 hdw hcell ebump KK0 KK1 ED
      rw [show av ((3 : Int), q2) = Value.agg #[.int .i64 3, .int .i64 q2] from rfl]
      go_wp2_with fail
      refine KC.out.mono ?_
      rintro _ w5 ⟨rfl, e5⟩
      subst e5
      generalize w4.setCell ⟨g, 0, none⟩ (.slice (some ⟨gs, 0, none⟩) p.length c') = w5 at *
      go_wp2
      go_ret
      rw [EB.out]
      exact ⟨_, _, rfl, OW.out, LOW2.out⟩
end Go.Proofs.Ytobcedlkmnmikaa.Fo
